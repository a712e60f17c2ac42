/-
  PageLines, walked.
-/
import Derived.Test.YtjimkfniahndhaaLines
import Derived.Test.YtjimkfniahndhaaAwake
import Derived.Test.YtjimkfniahndhaaBlanks
import Derived.Test.YtjimkfniahndhaaMathD
import Derived.WalkLawsBesides
namespace Go.Proofs.Ytjimkfniahndhaa
open Go.RowKit Go.Shelf

theorem boxed_below' {W W' : World} {b B : Nat} {t : TypeId} {v : Value} (h : Boxed W b t v) (hB : Below B W W') (hb : b < B) : Boxed W' b t v := (hB.block b hb).trans h

/-- The boxes of the law: the text at q, and n, m, ok, at behind one another from r on, and Lines' own text behind them. -/
def LS (s : ByteArray) (w0 : World) (q r : Nat) (M : Int) (p : Int) (ok : Bool) (A : Int) (W : World) : Prop :=
  Boxed W q 9 (.string s) ∧ Boxed W r 3 (.int .i64 p) ∧ Boxed W (r + 1) 3 (.int .i64 M) ∧ Boxed W (r + 1 + 1) 4 (.bool ok) ∧ Boxed W (r + 1 + 1 + 1) 3 (.int .i64 A) ∧ Boxed W (r + 1 + 1 + 1 + 1) 9 (.string s) ∧ Below w0.heap.size w0 W

theorem LS.setN {s : ByteArray} {w0 : World} {q r : Nat} {M p : Int} {ok : Bool} {A : Int} {W : World} (h : LS s w0 q r M p ok A W) (hq : w0.heap.size ≤ q) (hr : q < r) (p' : Int) : LS s w0 q r M p' ok A (W.setCell ⟨r, 0, none⟩ (.int .i64 p')) :=
  ⟨h.1.other (by omega) _, h.2.1.set _, h.2.2.1.other (by omega) _, h.2.2.2.1.other (by omega) _, h.2.2.2.2.1.other (by omega) _, h.2.2.2.2.2.1.other (by omega) _, h.2.2.2.2.2.2.setCell (p := ⟨r, 0, none⟩) (by simp; omega) _⟩
theorem LS.setOk {s : ByteArray} {w0 : World} {q r : Nat} {M p : Int} {ok : Bool} {A : Int} {W : World} (h : LS s w0 q r M p ok A W) (hq : w0.heap.size ≤ q) (hr : q < r) (b : Bool) : LS s w0 q r M p b A (W.setCell ⟨r + 1 + 1, 0, none⟩ (.bool b)) :=
  ⟨h.1.other (by omega) _, h.2.1.other (by omega) _, h.2.2.1.other (by omega) _, h.2.2.2.1.set _, h.2.2.2.2.1.other (by omega) _, h.2.2.2.2.2.1.other (by omega) _, h.2.2.2.2.2.2.setCell (p := ⟨r + 1 + 1, 0, none⟩) (by simp; omega) _⟩
theorem LS.setAt {s : ByteArray} {w0 : World} {q r : Nat} {M p : Int} {ok : Bool} {A : Int} {W : World} (h : LS s w0 q r M p ok A W) (hq : w0.heap.size ≤ q) (hr : q < r) (A' : Int) : LS s w0 q r M p ok A' (W.setCell ⟨r + 1 + 1 + 1, 0, none⟩ (.int .i64 A')) :=
  ⟨h.1.other (by omega) _, h.2.1.other (by omega) _, h.2.2.1.other (by omega) _, h.2.2.2.1.other (by omega) _, h.2.2.2.2.1.set _, h.2.2.2.2.2.1.other (by omega) _, h.2.2.2.2.2.2.setCell (p := ⟨r + 1 + 1 + 1, 0, none⟩) (by simp; omega) _⟩
theorem Above.setCell {B : Nat} {X Y : World} (h : Above B X Y) {b : Nat} (hb : b < B) (v : Value) : Above B X (Y.setCell ⟨b, 0, none⟩ v) :=
  ⟨by simpa using h.size, fun k hk hl => (Below.heap_setCell Y ⟨b, 0, none⟩ v k (by simp; omega)).trans (h.same k hk hl)⟩

set_option maxRecDepth 100000 in
set_option maxHeartbeats 1000000 in
/-- The law's own function, at the line that it waits for. -/
theorem ll_yes (s : ByteArray) (hs : s.size ≤ 1000) (x : Lm s.data.toList) (w0 : World) (q r B : Nat) (hq : w0.heap.size ≤ q) (hr : q < r) (hB : r + 1 + 1 + 1 + 1 < B) (M : Int) (p : Nat) (hp : p ≤ 1001) (W : World) (hL : LS s w0 q r M p true x.1.2.1 W) (hx : x.1.1 = p + 1) :
    Calls Try.prog 16 #[.int .i64 (x.1.1 : Int), .string (s.extract x.1.2.1 x.1.2.2), .pointer (some ⟨r, 0, none⟩), .pointer (some ⟨r + 1 + 1, 0, none⟩), .pointer (some ⟨r + 1 + 1 + 1, 0, none⟩), .pointer (some ⟨q, 0, none⟩), .pointer (some ⟨r + 1, 0, none⟩)] W fun e W' =>
      e = .returned (.bool (decide ((p : Int) + 1 < M))) ∧ LS s w0 q r M (p + 1) true (x.1.2.2 + 1) W' ∧ Above B W W' := by
  have hxm := spans_mem _ _ x.2
  have hxb := spans_bytes _ _ x.2
  have e1 : s.data.toList.length = s.size := by simp
  have hx1 : x.1.2.1 ≤ x.1.2.2 := hxm.2.2.1
  have hx2 : x.1.2.2 ≤ s.size := by omega
  have HB := Lib.hid hxb
  clear hxm hxb e1
  obtain ⟨⟨ln, fr, to⟩, hxx⟩ := x
  dsimp only at hx1 hx2 hx HB hL ⊢
  subst hx
  have hez : (s.extract fr to).size = to - fr := by simp; omega
  have HL := Lib.hid hL
  obtain ⟨b1, b2, b3, b4, b5, b6, b7⟩ := hL
  have c1 := b1.cell
  have c2 := b2.cell
  have c3 := b3.cell
  have c4 := b4.cell
  have c5 := b5.cell
  have f2 := b2.frozen
  have f4 := b4.frozen
  have f5 := b5.frozen
  have hsum : (fr : Int) + ((to - fr : Nat) : Int) = to := by omega
  have hn1 : ¬ q = r := by omega
  have hn2 : ¬ q = r + 1 + 1 := by omega
  have hn3 : ¬ q = r + 1 + 1 + 1 := by omega
  by_cases hte : to = s.size
  · have ht1 : ((to : Int) == (s.size : Int)) = true := by simp [hte]
    have HTE := Lib.hid hte
    clear hte
    go_enter Try.func16, Try.ntmps16
    go_wp2
    have HLS : Hid (LS s w0 q r M ((p : Int) + 1) true fr ((W.setCell ⟨r, 0, none⟩ (.int .i64 ((p : Int) + 1))).setCell ⟨r + 1 + 1, 0, none⟩ (.bool true)) ∧ Above B W ((W.setCell ⟨r, 0, none⟩ (.int .i64 ((p : Int) + 1))).setCell ⟨r + 1 + 1, 0, none⟩ (.bool true))) :=
      ⟨(HL.out.setN hq hr _).setOk hq hr true, ((Above.refl B W).setCell (by omega) _).setCell (by omega) _⟩
    clear c1 c2 c3 c4 c5 f2 f4 f5 b1 b2 b3 b4 b5 b6 b7
    go_loopw [59] (fun i wr => ∃ (k : Nat), k ≤ to - fr ∧ i = .int .i64 k ∧ LS s w0 q r M ((p : Int) + 1) true fr wr ∧ Above B W wr) (fun i _ => to - fr - (intOf i).toNat)
    case atStart => exact ⟨0, Nat.zero_le _, rfl, HLS.out.1, HLS.out.2⟩
    case round =>
      obtain ⟨k, hk, rfl, hL, hA⟩ := hrel
      have HL2 := Lib.hid hL
      obtain ⟨b1, b2, b3, b4, b5, b6, b7⟩ := hL
      have c2 := b2.cell
      have c3 := b3.cell
      have c4 := b4.cell
      have c5 := b5.cell
      have f4 := b4.frozen
      have f5 := b5.frozen
      clear b1 b2 b3 b4 b5 b6 b7
      by_cases hlt : k < to - fr
      · have hkz : k < (s.extract fr to).size := by rw [hez]; exact hlt
        have hcb : (((s.extract fr to)[k].toNat : Int) != 10) = true := by
          rw [bne_iff_ne]
          intro h
          apply HB.out.2 (fr + k) (by omega) (by omega)
          have e1 : (s.extract fr to)[k] = s[fr + k]'(by omega) := by rw [ByteArray.getElem_extract]
          rw [e1] at h
          have e2 : s[fr + k]'(by omega) = 10 := UInt8.toNat_inj.1 (by simp; omega)
          rw [List.getElem?_eq_getElem (by simp; omega)]
          have e3 : s.data.toList[fr + k]'(by simp; omega) = s[fr + k]'(by omega) := rfl
          rw [e3, e2]
        go_wp2
        go_roundw
        case rel => exact ⟨k + 1, by omega, by go_num, HL2.out.setOk hq hr true, hA.setCell (by omega) _⟩
        case measure => simp [intOf]; omega
      · obtain rfl : k = to - fr := by omega
        have hsum2 : (fr : Int) + (((to - fr : Nat) : Int) + 1) = (to : Int) + 1 := by omega
        have HE : Hid (LS s w0 q r M ((p : Int) + 1) true ((to : Int) + 1) (wr.setCell ⟨r + 1 + 1 + 1, 0, none⟩ (.int .i64 ((to : Int) + 1))) ∧ Above B W (wr.setCell ⟨r + 1 + 1 + 1, 0, none⟩ (.int .i64 ((to : Int) + 1)))) := ⟨HL2.out.setAt hq hr _, hA.setCell (by omega) _⟩
        by_cases hpm : (p : Int) + 1 < M
        · have hpd : decide ((p : Int) + 1 < M) = true := by simp [hpm]
          go_wp2
          go_ret
          exact ⟨by first | rfl | (rw [hpd]; rfl), HE.out.1, HE.out.2⟩
        · have hpd : decide ((p : Int) + 1 < M) = false := by simp [hpm]
          go_wp2
          go_ret
          exact ⟨by first | rfl | (rw [hpd]; rfl), HE.out.1, HE.out.2⟩
  · have ht1 : ((to : Int) == (s.size : Int)) = false := by rw [beq_eq_false_iff_ne]; omega
    have htl : to < s.size := by omega
    have ht2 : ((s[to].toNat : Int) == 10) = true := by
      rcases HB.out.1 with h | h
      · exfalso; apply hte; simpa using h
      · rw [List.getElem?_eq_getElem (by simpa using htl)] at h
        have e3 : s.data.toList[to]'(by simpa using htl) = s[to] := rfl
        rw [e3] at h
        rw [Option.some.inj h]
        rfl
    clear hte
    go_enter Try.func16, Try.ntmps16
    go_wp2
    have HLS : Hid (LS s w0 q r M ((p : Int) + 1) true fr ((W.setCell ⟨r, 0, none⟩ (.int .i64 ((p : Int) + 1))).setCell ⟨r + 1 + 1, 0, none⟩ (.bool true)) ∧ Above B W ((W.setCell ⟨r, 0, none⟩ (.int .i64 ((p : Int) + 1))).setCell ⟨r + 1 + 1, 0, none⟩ (.bool true))) :=
      ⟨(HL.out.setN hq hr _).setOk hq hr true, ((Above.refl B W).setCell (by omega) _).setCell (by omega) _⟩
    clear c1 c2 c3 c4 c5 f2 f4 f5 b1 b2 b3 b4 b5 b6 b7
    go_loopw [59] (fun i wr => ∃ (k : Nat), k ≤ to - fr ∧ i = .int .i64 k ∧ LS s w0 q r M ((p : Int) + 1) true fr wr ∧ Above B W wr) (fun i _ => to - fr - (intOf i).toNat)
    case atStart => exact ⟨0, Nat.zero_le _, rfl, HLS.out.1, HLS.out.2⟩
    case round =>
      obtain ⟨k, hk, rfl, hL, hA⟩ := hrel
      have HL2 := Lib.hid hL
      obtain ⟨b1, b2, b3, b4, b5, b6, b7⟩ := hL
      have c2 := b2.cell
      have c3 := b3.cell
      have c4 := b4.cell
      have c5 := b5.cell
      have f4 := b4.frozen
      have f5 := b5.frozen
      clear b1 b2 b3 b4 b5 b6 b7
      by_cases hlt : k < to - fr
      · have hkz : k < (s.extract fr to).size := by rw [hez]; exact hlt
        have hcb : (((s.extract fr to)[k].toNat : Int) != 10) = true := by
          rw [bne_iff_ne]
          intro h
          apply HB.out.2 (fr + k) (by omega) (by omega)
          have e1 : (s.extract fr to)[k] = s[fr + k]'(by omega) := by rw [ByteArray.getElem_extract]
          rw [e1] at h
          have e2 : s[fr + k]'(by omega) = 10 := UInt8.toNat_inj.1 (by simp; omega)
          rw [List.getElem?_eq_getElem (by simp; omega)]
          have e3 : s.data.toList[fr + k]'(by simp; omega) = s[fr + k]'(by omega) := rfl
          rw [e3, e2]
        go_wp2
        go_roundw
        case rel => exact ⟨k + 1, by omega, by go_num, HL2.out.setOk hq hr true, hA.setCell (by omega) _⟩
        case measure => simp [intOf]; omega
      · obtain rfl : k = to - fr := by omega
        have hsum2 : (fr : Int) + (((to - fr : Nat) : Int) + 1) = (to : Int) + 1 := by omega
        have HE : Hid (LS s w0 q r M ((p : Int) + 1) true ((to : Int) + 1) (wr.setCell ⟨r + 1 + 1 + 1, 0, none⟩ (.int .i64 ((to : Int) + 1))) ∧ Above B W (wr.setCell ⟨r + 1 + 1 + 1, 0, none⟩ (.int .i64 ((to : Int) + 1)))) := ⟨HL2.out.setAt hq hr _, hA.setCell (by omega) _⟩
        by_cases hpm : (p : Int) + 1 < M
        · have hpd : decide ((p : Int) + 1 < M) = true := by simp [hpm]
          go_wp2
          go_ret
          exact ⟨by first | rfl | (rw [hpd]; rfl), HE.out.1, HE.out.2⟩
        · have hpd : decide ((p : Int) + 1 < M) = false := by simp [hpm]
          go_wp2
          go_ret
          exact ⟨by first | rfl | (rw [hpd]; rfl), HE.out.1, HE.out.2⟩

set_option maxRecDepth 100000 in
set_option maxHeartbeats 1000000 in
/-- The law's own function, at another line. -/
theorem ll_no (s : ByteArray) (hs : s.size ≤ 1000) (x : Lm s.data.toList) (w0 : World) (q r B : Nat) (hq : w0.heap.size ≤ q) (hr : q < r) (hB : r + 1 + 1 + 1 + 1 < B) (M : Int) (p : Nat) (hp : p ≤ 1001) (A : Nat) (hA0 : A ≤ 1001) (W : World) (hL : LS s w0 q r M p true A W) (hx : ¬ x.1.1 = p + 1) :
    Calls Try.prog 16 #[.int .i64 (x.1.1 : Int), .string (s.extract x.1.2.1 x.1.2.2), .pointer (some ⟨r, 0, none⟩), .pointer (some ⟨r + 1 + 1, 0, none⟩), .pointer (some ⟨r + 1 + 1 + 1, 0, none⟩), .pointer (some ⟨q, 0, none⟩), .pointer (some ⟨r + 1, 0, none⟩)] W fun e W' =>
      e = .returned (.bool false) ∧ (∃ A', LS s w0 q r M (p + 1) false A' W') ∧ Above B W W' := by
  have hxm := spans_mem _ _ x.2
  have e1 : s.data.toList.length = s.size := by simp
  have hx1 : x.1.2.1 ≤ x.1.2.2 := hxm.2.2.1
  have hx2 : x.1.2.2 ≤ s.size := by omega
  clear hxm e1
  obtain ⟨⟨ln, fr, to⟩, hxx⟩ := x
  dsimp only at hx1 hx2 hx hL ⊢
  have hez : (s.extract fr to).size = to - fr := by simp; omega
  have hxb : ((ln : Int) == (p : Int) + 1) = false := by rw [beq_eq_false_iff_ne]; omega
  have HL := Lib.hid hL
  obtain ⟨b1, b2, b3, b4, b5, b6, b7⟩ := hL
  have c1 := b1.cell
  have c2 := b2.cell
  have c3 := b3.cell
  have c4 := b4.cell
  have c5 := b5.cell
  have f2 := b2.frozen
  have f4 := b4.frozen
  have f5 := b5.frozen
  have hn1 : ¬ q = r := by omega
  have hn2 : ¬ q = r + 1 + 1 := by omega
  have hn3 : ¬ q = r + 1 + 1 + 1 := by omega
  clear hx
  go_enter Try.func16, Try.ntmps16
  go_wp2
  have HLS : Hid (LS s w0 q r M ((p : Int) + 1) false A ((W.setCell ⟨r, 0, none⟩ (.int .i64 ((p : Int) + 1))).setCell ⟨r + 1 + 1, 0, none⟩ (.bool false)) ∧ Above B W ((W.setCell ⟨r, 0, none⟩ (.int .i64 ((p : Int) + 1))).setCell ⟨r + 1 + 1, 0, none⟩ (.bool false))) :=
    ⟨(HL.out.setN hq hr _).setOk hq hr false, ((Above.refl B W).setCell (by omega) _).setCell (by omega) _⟩
  clear c1 c2 c3 c4 c5 f2 f4 f5 b1 b2 b3 b4 b5 b6 b7
  go_loopw [59] (fun i wr => ∃ (k : Nat), k ≤ to - fr ∧ i = .int .i64 k ∧ LS s w0 q r M ((p : Int) + 1) false A wr ∧ Above B W wr) (fun i _ => to - fr - (intOf i).toNat)
  case atStart => exact ⟨0, Nat.zero_le _, rfl, HLS.out.1, HLS.out.2⟩
  case round =>
    obtain ⟨k, hk, rfl, hL, hA⟩ := hrel
    have HL2 := Lib.hid hL
    obtain ⟨b1, b2, b3, b4, b5, b6, b7⟩ := hL
    have c2 := b2.cell
    have c3 := b3.cell
    have c4 := b4.cell
    have c5 := b5.cell
    have f4 := b4.frozen
    have f5 := b5.frozen
    clear b1 b2 b3 b4 b5 b6 b7
    by_cases hlt : k < to - fr
    · go_wp2
      go_roundw
      case rel => exact ⟨k + 1, by omega, by go_num, HL2.out.setOk hq hr false, hA.setCell (by omega) _⟩
      case measure => simp [intOf]; omega
    · obtain rfl : k = to - fr := by omega
      have HE : Hid (LS s w0 q r M ((p : Int) + 1) false ((A : Int) + (((to - fr : Nat) : Int) + 1)) (wr.setCell ⟨r + 1 + 1 + 1, 0, none⟩ (.int .i64 ((A : Int) + (((to - fr : Nat) : Int) + 1)))) ∧ Above B W (wr.setCell ⟨r + 1 + 1 + 1, 0, none⟩ (.int .i64 ((A : Int) + (((to - fr : Nat) : Int) + 1))))) := ⟨HL2.out.setAt hq hr _, hA.setCell (by omega) _⟩
      go_wp2
      go_ret
      exact ⟨rfl, ⟨_, HE.out.1⟩, HE.out.2⟩

def LlJ (s : ByteArray) (w0 : World) (q r : Nat) (M : Int) (pre : List (Lm s.data.toList)) (W : World) : Prop :=
  ∃ A : Nat, A ≤ s.size + 1 ∧ LS s w0 q r M pre.length true A W ∧ (∀ y ∈ spans s.data.toList, y.1 = pre.length + 1 → A = y.2.1) ∧ ((pre.length : Int) < M ∨ pre = [])
def LlX (s : ByteArray) (w0 : World) (q r : Nat) (M : Int) (pre : List (Lm s.data.toList)) (W : World) : Prop :=
  ∃ (ok : Bool) (A : Int) (p0 : List (Lm s.data.toList)) (x : Lm s.data.toList), LS s w0 q r M pre.length ok A W ∧ pre = p0 ++ [x] ∧ (x.1.1 = pre.length → ok = true ∧ ¬ (pre.length : Int) < M) ∧ ((p0.length : Int) < M ∨ p0 = [])

theorem ls_own {s : ByteArray} {w0 : World} {q r : Nat} {M p A : Int} {ok : Bool} (B : Nat) (hB : w0.heap.size ≤ B) : OwnFrom B (fun (_ : Unit) W => LS s w0 q r M p ok A W) :=
  OwnFrom.and ((boxed_own _ _ _).from _) (OwnFrom.and ((boxed_own _ _ _).from _) (OwnFrom.and ((boxed_own _ _ _).from _) (OwnFrom.and ((boxed_own _ _ _).from _) (OwnFrom.and ((boxed_own _ _ _).from _) (OwnFrom.and ((boxed_own _ _ _).from _) (ownFrom_below (Nat.le_refl _) hB))))))
theorem llJ_own {s : ByteArray} {w0 : World} {q r : Nat} {M : Int} (B : Nat) (hB : w0.heap.size ≤ B) : OwnFrom B (LlJ s w0 q r M) := by
  rintro pre X Y row ⟨A, h1, h2, h3, h4⟩ hg hr
  exact ⟨A, h1, ls_own B hB () X Y row h2 hg hr, h3, h4⟩
theorem llX_own {s : ByteArray} {w0 : World} {q r : Nat} {M : Int} (B : Nat) (hB : w0.heap.size ≤ B) : OwnFrom B (LlX s w0 q r M) := by
  rintro pre X Y row ⟨ok, A, p0, x, h1, h2⟩ hg hr
  exact ⟨ok, A, p0, x, ls_own B hB () X Y row h1 hg hr, h2⟩

theorem ll_takes (s : ByteArray) (hs : s.size ≤ 1000) (w0 : World) (q r B : Nat) (hq : w0.heap.size ≤ q) (hr : q < r) (hB : r + 1 + 1 + 1 + 1 < B) (M : Int) :
    Takes s B 16 #[.pointer (some ⟨r, 0, none⟩), .pointer (some ⟨r + 1 + 1, 0, none⟩), .pointer (some ⟨r + 1 + 1 + 1, 0, none⟩), .pointer (some ⟨q, 0, none⟩), .pointer (some ⟨r + 1, 0, none⟩)] (LlJ s w0 q r M) (LlX s w0 q r M) := by
  intro pre x W hj hlen
  obtain ⟨A, hA, hL, hnx, hlt⟩ := hj
  have hcast : (((pre ++ [x]).length : Nat) : Int) = (pre.length : Int) + 1 := by simp
  by_cases hx : x.1.1 = pre.length + 1
  · obtain rfl := hnx x.1 x.2 hx
    refine (ll_yes s hs x w0 q r B hq hr hB M pre.length (by omega) W hL hx).mono ?_
    rintro e W' ⟨rfl, hL', hab⟩
    refine ⟨hab, _, rfl, fun hb => ?_, fun hb => ?_⟩
    · have hb' : (pre.length : Int) + 1 < M := by simpa using hb
      have hxm := spans_mem _ _ x.2
      refine ⟨x.1.2.2 + 1, by have := hxm.2.2.2; simp at this; omega, by rw [hcast]; simpa using hL', fun y hy hye => ?_, .inl (by rw [hcast]; exact hb')⟩
      have := spans_next _ x.1 y x.2 hy (by simp at hye; omega)
      omega
    · have hb' : ¬ (pre.length : Int) + 1 < M := by simpa using hb
      exact ⟨true, _, pre, x, by rw [hcast]; exact hL', rfl, fun _ => ⟨rfl, by rw [hcast]; exact hb'⟩, hlt⟩
  · refine (ll_no s hs x w0 q r B hq hr hB M pre.length (by omega) A (by omega) W hL hx).mono ?_
    rintro e W' ⟨rfl, ⟨A', hL'⟩, hab⟩
    exact ⟨hab, false, rfl, (fun h => by cases h), fun _ => ⟨false, A', pre, x, by rw [hcast]; exact hL', rfl, fun h => absurd (by simpa using h) hx, hlt⟩⟩

set_option maxRecDepth 100000 in
set_option maxHeartbeats 1000000 in
theorem ll_walk (s : ByteArray) (hs : s.size ≤ 300) (m : Nat) (hm : m ≤ 255) (w : World) :
    Calls Try.prog 5 #[.string s, .int .u8 m] w fun e w' => e = .returned (.bool true) ∧ Below w.heap.size w w' := by
  have hsd : decide ((300 : Int) < (s.size : Int)) = false := by simp; omega
  go_enter Try.func5, Try.ntmps5
  go_wp2_with fail
  refine (awake_calls _).mono ?_
  rintro e w1 ⟨rfl, hB1⟩
  have bl1 : Boxed w1 w.heap.size 9 (.string s) := boxed_below' (Boxed.new w 9 (.string s)) hB1 (by simp)
  have ct1 := bl1.cell
  have hl1 := bl1.lt
  have hBa : Below w.heap.size w w1 := ((Below.refl _ w).alloc (Nat.le_refl _) _).trans (hB1.mono (by simp))
  have hrp := Lib.hid (fun W => refPlace_calls s (by omega) (s.size : Int) (by omega) (by omega) W)
  clear hB1
  go_wp2_with fail
  refine (hrp.out _).mono ?_
  rintro e w2 ⟨rfl, rfl⟩
  rw [Int.toNat_natCast]
  have hcount := spans_count s.data.toList
  rw [show s.data.toList.length = s.size by simp] at hcount
  rw [← hcount]
  have HC := Lib.hid hcount
  clear hcount hrp
  generalize (placeOf s.data.toList s.size).2 = cz
  have bl5 := (((bl1.alloc (.cells #[.int .i64 0] 3)).alloc (.cells #[.int .i64 m] 3)).alloc (.cells #[.bool true] 4)).alloc (.cells #[.int .i64 0] 3)
  have ct5 := bl5.cell
  have hln := Lib.hid (fun W => lines_calls s W)
  go_wp2_with fail
  refine (hln.out _).mono ?_
  rintro e w3 ⟨rfl, rfl⟩
  obtain ⟨W5, hW5⟩ : ∃ W5, ((((w1.alloc (.cells #[.int .i64 0] 3)).alloc (.cells #[.int .i64 m] 3)).alloc (.cells #[.bool true] 4)).alloc (.cells #[.int .i64 0] 3)).alloc (.cells #[.string s] 9) = W5 := ⟨_, rfl⟩
  have hz5 : W5.heap.size = w1.heap.size + 1 + 1 + 1 + 1 + 1 := by rw [← hW5]; simp
  have hb1 := hBa.size
  have hLS0 : LS s w w.heap.size w1.heap.size m ((([] : List (Lm s.data.toList)).length : Nat) : Int) true ((0 : Nat) : Int) W5 := by
    rw [← hW5]
    refine ⟨bl5.alloc _, ?_, ?_, ?_, ?_, ?_, ?_⟩
    · exact ((((Boxed.new w1 3 (.int .i64 0)).alloc _).alloc _).alloc _).alloc _
    · have := Boxed.new (w1.alloc (.cells #[.int .i64 0] 3)) 3 (.int .i64 m); simp only [World.size_alloc] at this; exact ((this.alloc _).alloc _).alloc _
    · have := Boxed.new ((w1.alloc (.cells #[.int .i64 0] 3)).alloc (.cells #[.int .i64 m] 3)) 4 (.bool true); simp only [World.size_alloc] at this; exact (this.alloc _).alloc _
    · have := Boxed.new (((w1.alloc (.cells #[.int .i64 0] 3)).alloc (.cells #[.int .i64 m] 3)).alloc (.cells #[.bool true] 4)) 3 (.int .i64 0); simp only [World.size_alloc] at this; exact this.alloc _
    · have := Boxed.new ((((w1.alloc (.cells #[.int .i64 0] 3)).alloc (.cells #[.int .i64 m] 3)).alloc (.cells #[.bool true] 4)).alloc (.cells #[.int .i64 0] 3)) 9 (.string s); simp only [World.size_alloc] at this; exact this
    · exact ((((hBa.alloc (by omega) _).alloc (by simp; omega) _).alloc (by simp; omega) _).alloc (by simp; omega) _).alloc (by simp; omega) _
  have hL := Lib.hid (lines1_calls s (by omega) 16 #[.pointer (some ⟨w1.heap.size, 0, none⟩), .pointer (some ⟨w1.heap.size + 1 + 1, 0, none⟩), .pointer (some ⟨w1.heap.size + 1 + 1 + 1, 0, none⟩), .pointer (some ⟨w.heap.size, 0, none⟩), .pointer (some ⟨w1.heap.size + 1, 0, none⟩)] W5 (w1.heap.size + 1 + 1 + 1 + 1)
    (LlJ s w w.heap.size w1.heap.size m) (LlX s w w.heap.size w1.heap.size m) (enters_of Try.func16 (by kernel_rfl) rfl) (llJ_own _ (by omega)) (llX_own _ (by omega)) (fun _ _ h => by obtain ⟨_, _, h, _⟩ := h; exact h.2.2.2.2.2.1.cell)
    (ll_takes s (by omega) w w.heap.size w1.heap.size _ (Nat.le_refl _) hl1 (by omega) m)
    ⟨0, by omega, hLS0, fun y hy hye => (spans_first _ y hy (by simpa using hye)).symm, .inr rfl⟩)
  rw [← hW5] at hL
  clear hW5 hz5 hLS0 bl5 ct5 bl1 ct1 hln
  go_wp2_with fail
  refine hL.out.mono ?_
  clear hL
  rintro e w3 ⟨rfl, hres⟩
  have hfin : ∃ n : Nat, (∃ A, LS s w w.heap.size w1.heap.size m n true A w3) ∧ (n : Int) = min ((spans s.data.toList).length : Int) (max (m : Int) 1) := by
    have hne : 0 < (spans s.data.toList).length := List.length_pos_iff.2 (spansFrom_ne _ _ _ _)
    rcases hres with ⟨xs, hxs, A, _, hLS, _, hlt⟩ | ⟨pre, hpre, ok, A, p0, x, hLS, rfl, hx, hlt⟩
    · have hxl : xs.length = (spans s.data.toList).length := by rw [← hxs]; simp
      refine ⟨xs.length, ⟨_, hLS⟩, ?_⟩
      rcases hlt with h | h
      · omega
      · rw [h] at hxl; simp at hxl; omega
    · have hl2 := hpre.length_le
      simp at hl2
      have hxn : x.1.1 = (p0 ++ [x]).length := by
        obtain ⟨qq, hqq⟩ := hpre
        have h1 := spans_num s.data.toList p0.length (by omega)
        have h2 : (List.map (·.1) (p0 ++ [x]) ++ qq)[p0.length]? = some x.1 := by simp
        rw [hqq] at h2
        rw [List.getElem?_eq_getElem (by omega)] at h2
        rw [Option.some.inj h2] at h1
        simpa using h1
      obtain ⟨rfl, hnm⟩ := hx hxn
      refine ⟨(p0 ++ [x]).length, ⟨_, hLS⟩, ?_⟩
      have hc : (((p0 ++ [x]).length : Nat) : Int) = (p0.length : Int) + 1 := by simp
      rw [hc] at hnm ⊢
      rcases hlt with h | h
      · omega
      · subst h; simp at hnm ⊢; omega
  clear hres
  obtain ⟨n, ⟨A, hLS⟩, hn⟩ := hfin
  have HN := Lib.hid hn
  obtain ⟨b1, b2, b3, b4, b5, b6, b7⟩ := hLS
  have c2 := b2.cell
  have c3 := b3.cell
  have c4 := b4.cell
  clear b1 b2 b3 b4 b5 b6 hn HC
  generalize (spans s.data.toList).length = K at *
  have hq : ((n : Int) == min (K : Int) (max (m : Int) 1)) = true := by rw [HN.out]; simp
  go_wp2
  go_ret
  exact ⟨rfl, b7⟩

end Go.Proofs.Ytjimkfniahndhaa
