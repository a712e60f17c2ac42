/-
  strings.IndexAny at a blank and a tab, for every text: also where bytes of 128 or more stand (there the library's own contract says nothing).
-/
import Derived.Test.YtdknejmhlfpdfaaGreatDoorOrV
import Derived.Test.YtdknejmhlfpdfaaGreatDoorOrX
import Derived.Test.YtdknejmhlfpdfaaGreatDoorOrB
import Derived.Lib.OthersKept
import Derived.Deep.LoopGhost
import Derived.BigQuiet
import Derived.Laws.Runes
import Derived.WalkMore
namespace Go.Proofs.YtdknejmhlfpdfaaGreatDoor
open Go.RowKit

theorem ofn (n : Nat) (h : 128 ≤ n) (h2 : n < 256) : 128 ≤ (UInt8.ofNat n).toNat := by
  rw [UInt8.toNat_ofNat']; omega
theorem enc2B (a b : UInt8) (ha : 128 ≤ a.toNat) (hb : 128 ≤ b.toNat) : ∀ (i : Nat) (hi : i < (⟨#[a, b]⟩ : ByteArray).size), 128 ≤ ((⟨#[a, b]⟩ : ByteArray)[i]'hi).toNat := by
  intro i hi
  match i, hi with
  | 0, _ => exact ha
  | 1, _ => exact hb
theorem enc3B (a b c : UInt8) (ha : 128 ≤ a.toNat) (hb : 128 ≤ b.toNat) (hc : 128 ≤ c.toNat) : ∀ (i : Nat) (hi : i < (⟨#[a, b, c]⟩ : ByteArray).size), 128 ≤ ((⟨#[a, b, c]⟩ : ByteArray)[i]'hi).toNat := by
  intro i hi
  match i, hi with
  | 0, _ => exact ha
  | 1, _ => exact hb
  | 2, _ => exact hc
theorem enc4B (a b c d : UInt8) (ha : 128 ≤ a.toNat) (hb : 128 ≤ b.toNat) (hc : 128 ≤ c.toNat) (hd : 128 ≤ d.toNat) : ∀ (i : Nat) (hi : i < (⟨#[a, b, c, d]⟩ : ByteArray).size), 128 ≤ ((⟨#[a, b, c, d]⟩ : ByteArray)[i]'hi).toNat := by
  intro i hi
  match i, hi with
  | 0, _ => exact ha
  | 1, _ => exact hb
  | 2, _ => exact hc
  | 3, _ => exact hd
def HighB (x : ByteArray) : Prop := 2 ≤ x.size ∧ x.size ≤ 4 ∧ ∀ (i : Nat) (hi : i < x.size), 128 ≤ (x[i]'hi).toNat
theorem high2 (a b : Nat) (ha : 128 ≤ a ∧ a < 256) (hb : 128 ≤ b ∧ b < 256) : HighB ⟨#[UInt8.ofNat a, UInt8.ofNat b]⟩ :=
  ⟨Nat.le_refl 2, (by show 2 ≤ 4; omega), enc2B _ _ (ofn a ha.1 ha.2) (ofn b hb.1 hb.2)⟩
theorem high3 (a b c : Nat) (ha : 128 ≤ a ∧ a < 256) (hb : 128 ≤ b ∧ b < 256) (hc : 128 ≤ c ∧ c < 256) : HighB ⟨#[UInt8.ofNat a, UInt8.ofNat b, UInt8.ofNat c]⟩ :=
  ⟨(by show 2 ≤ 3; omega), (by show 3 ≤ 4; omega), enc3B _ _ _ (ofn a ha.1 ha.2) (ofn b hb.1 hb.2) (ofn c hc.1 hc.2)⟩
theorem high4 (a b c d : Nat) (ha : 128 ≤ a ∧ a < 256) (hb : 128 ≤ b ∧ b < 256) (hc : 128 ≤ c ∧ c < 256) (hd : 128 ≤ d ∧ d < 256) : HighB ⟨#[UInt8.ofNat a, UInt8.ofNat b, UInt8.ofNat c, UInt8.ofNat d]⟩ :=
  ⟨(by show 2 ≤ 4; omega), (by show 4 ≤ 4; omega), enc4B _ _ _ _ (ofn a ha.1 ha.2) (ofn b hb.1 hb.2) (ofn c hc.1 hc.2) (ofn d hd.1 hd.2)⟩
theorem high_of (c : Nat) (h : 128 ≤ c) (hm : c ≤ 1114111) : HighB (if c < 0x80 then (⟨#[UInt8.ofNat c]⟩ : ByteArray) else if c < 0x800 then ⟨#[UInt8.ofNat (0xC0 + c / 64), UInt8.ofNat (0x80 + c % 64)]⟩ else if c < 0x10000 then ⟨#[UInt8.ofNat (0xE0 + c / 4096), UInt8.ofNat (0x80 + c / 64 % 64), UInt8.ofNat (0x80 + c % 64)]⟩ else ⟨#[UInt8.ofNat (0xF0 + c / 262144), UInt8.ofNat (0x80 + c / 4096 % 64), UInt8.ofNat (0x80 + c / 64 % 64), UInt8.ofNat (0x80 + c % 64)]⟩) := by
  rw [if_neg (by omega)]
  split
  · exact high2 _ _ (by omega) (by omega)
  · split
    · exact high3 _ _ _ (by omega) (by omega) (by omega)
    · exact high4 _ _ _ _ (by omega) (by omega) (by omega) (by omega)
theorem enc_high {r : Nat} (h : 128 ≤ r) : HighB (Utf8.encode (r : Int)) := by
  by_cases hv : Utf8.valid (r : Int) = true
  · have hm : r ≤ 1114111 := by
      have := hv
      simp only [Utf8.valid, Bool.and_eq_true, Bool.or_eq_true, decide_eq_true_eq] at this
      omega
    have := high_of r h hm
    unfold Utf8.encode
    simp only [if_pos hv, Int.toNat_natCast]
    exact this
  · have := high_of 65533 (by omega) (by omega)
    unfold Utf8.encode
    simp only [if_neg hv]
    exact this
/-- The two blanks. -/
abbrev twoB : ByteArray := ⟨#[32, 9]⟩
set_option maxRecDepth 100000 in
set_option maxHeartbeats 4000000 in
theorem rune_err (w : World) :
    Calls Tryz.prog 33 #[.string twoB, .int .i32 65533] w fun e w' => e = .returned (.int .i64 (-1)) ∧ Below w.heap.size w w' := by
  go_enter Tryz.func33, Tryz.ntmps33
  go_wp2_with fail
  go_loopg [5, 6] 2 (fun g _ _ wx => ∃ i : Nat, i + g = 2 ∧ wx = w.iter twoB i)
  case atStart => exact ⟨0, by omega, rfl⟩
  case round =>
    obtain ⟨i, hig, rfl⟩ := hrel
    cases gk with
    | zero =>
      obtain rfl : i = 2 := by omega
      have hnx := fun ty => run_next_end (P := Tryz.prog) w twoB 2 ty (by decide)
      go_wp2_with fail
      go_ret
      exact ⟨rfl, (Below.refl _ w).alloc (Nat.le_refl _) _⟩
    | succ g =>
      have hi : i = 0 ∨ i = 1 := by omega
      rcases hi with rfl | rfl
      · have hnx := fun ty => run_next_ascii (P := Tryz.prog) w twoB 0 ty (by decide) (by decide)
        rw [show ((twoB[0]'(by decide)).toNat : Nat) = 32 from rfl] at hnx
        go_wp2_with fail
        go_roundg g
        case measure => omega
        case rel => exact ⟨1, by omega, rfl⟩
      · have hnx := fun ty => run_next_ascii (P := Tryz.prog) w twoB 1 ty (by decide) (by decide)
        rw [show ((twoB[1]'(by decide)).toNat : Nat) = 9 from rfl] at hnx
        go_wp2_with fail
        go_roundg g
        case measure => omega
        case rel => exact ⟨2, by omega, rfl⟩

set_option maxRecDepth 100000 in
set_option maxHeartbeats 4000000 in
theorem rune_high0 (s : ByteArray) (hs : s.size = 2) (h9 : ∀ hi : 1 < s.size, (s[1]'hi).toNat < 128) (r : Nat) (h : 128 ≤ r) (hn : r ≠ 65533) (w : World) :
    Calls Tryz.prog 33 #[.string s, .int .i32 (r : Int)] w fun e w' => e = .returned (.int .i64 (-1)) ∧ Below w.heap.size w w' := by
  have h0 : decide ((0 : Int) ≤ (r : Int)) = true := decide_eq_true (by omega)
  have h1 : decide ((r : Int) < 128) = false := decide_eq_false (by omega)
  have h2 : ((r : Int) == 65533) = false := beq_eq_false_iff_ne.2 (by omega)
  cases hv : Lib.validRune (r : Int)
  · have HC : Hid (∀ w, Calls Tryz.prog 46 #[.int .i32 (r : Int)] w fun e w' => e = .returned (.bool false) ∧ w' = w) := Lib.hid fun w => by have := Tryz.validW (r : Int) w; rw [hv] at this; exact this
    clear hv
    go_enter Tryz.func33, Tryz.ntmps33
    go_wp2_with (go_at_call 46; refine (HC.out _).mono ?_; rintro e w' ⟨rfl, rfl⟩)
    go_ret
    exact ⟨rfl, Below.refl _ _⟩
  · have HC : Hid (∀ w, Calls Tryz.prog 46 #[.int .i32 (r : Int)] w fun e w' => e = .returned (.bool true) ∧ w' = w) := Lib.hid fun w => by have := Tryz.validW (r : Int) w; rw [hv] at this; exact this
    clear hv
    obtain ⟨e2, e4, eb⟩ := enc_high h
    obtain ⟨x, hx⟩ : ∃ x, Utf8.encode (r : Int) = x := ⟨_, rfl⟩
    rw [hx] at e2 e4
    have eb : ∀ hi : 1 < x.size, 128 ≤ (x[1]'hi).toNat := by subst hx; exact eb 1
    by_cases h3 : x.size = 2
    · have hne : ∀ (p : 1 < s.size) (q : 1 < x.size), (((s[1]'p).toNat : Int) != ((x[1]'q).toNat : Int)) = true := fun p q => bne_iff_ne.2 (by have := h9 p; have := eb q; omega)
      have HI : Hid (∀ (q : 1 < x.size) w, Calls Tryz.prog 45 #[.string ByteArray.empty, .int .u8 (((x[1]'q).toNat : Nat) : Int)] w fun e w' => e = .returned (.int .i64 (-1)) ∧ w' = w) := Lib.hid fun q w => by
        exact Tryz.byteW ByteArray.empty (((x[1]'q).toNat : Nat) : Int) w
      have hp : 1 < s.size := by omega
      have hw2 : IntKind.i64.wrap 2 = 2 := rfl
      have hq : 1 < x.size := by omega
      clear e2 e4 eb h9
      go_enter Tryz.func33, Tryz.ntmps33
      go_wp2_with (go_at_call 46; refine (HC.out _).mono ?_; rintro e w' ⟨rfl, rfl⟩)
      go_step3
      go_wp2_with fail
      go_loop [9, 10, 11, 12] (fun a _ _ _ => a = .int .i64 1) (fun _ _ _ _ => 0)
      case atStart => rfl
      case round =>
        subst hrel
        go_wp2
        go_step3
        go_wp2
        go_quiet (fail)
        go_wp2
        go_quiet ((go_at_call 45; exact (HI.out _ _).mono fun e w' h => ⟨h.1, _, h.2⟩))
        go_wp2_with fail
        dsimp +zetaDelta only [Exit.inBlock, Exit.then, Exit.noGoto]
        go_ret
        exact ⟨rfl, below_drewC (Below.refl _ _) _⟩
    · have h4 : decide ((x.size : Int) - 1 < 2) = false := decide_eq_false (by omega)
      go_enter Tryz.func33, Tryz.ntmps33
      go_wp2_with (go_at_call 46; refine (HC.out _).mono ?_; rintro e w' ⟨rfl, rfl⟩)
      go_step3
      go_wp2_with fail
      go_loop [9, 10, 11, 12] (fun a _ _ _ => a = .int .i64 ((x.size : Int) - 1)) (fun _ _ _ _ => 0)
      case atStart => rfl
      case round =>
        subst hrel
        go_wp2_with fail
        go_ret
        exact ⟨rfl, Below.refl _ _⟩
theorem rune_high (r : Nat) (h : 128 ≤ r) (hn : r ≠ 65533) (w : World) :
    Calls Tryz.prog 33 #[.string twoB, .int .i32 (r : Int)] w fun e w' => e = .returned (.int .i64 (-1)) ∧ Below w.heap.size w w' :=
  rune_high0 twoB rfl (fun hi => (show (9 : UInt8).toNat < 128 by decide)) r h hn w

/-- IndexRune at any rune that isn't one of the two blanks' own, or is. -/
theorem rune_calls (r : Nat) (w : World) :
    Calls Tryz.prog 33 #[.string twoB, .int .i32 (r : Int)] w fun e w' => (∃ v : Int, e = .returned (.int .i64 v) ∧ (0 ≤ v ↔ r = 32 ∨ r = 9)) ∧ Below w.heap.size w w' := by
  by_cases hr : r < 128
  · refine (Tryz.runeW twoB (r : Int) w (by omega) (by omega)).mono ?_
    rintro e w' ⟨rfl, rfl⟩
    refine ⟨⟨_, rfl, ?_⟩, Below.refl _ _⟩
    have key : ∀ n : Fin 128, (0 ≤ Lib.indexByte [32, 9] ((n.1 : Int)).toNat.toUInt8 ↔ n.1 = 32 ∨ n.1 = 9) := by decide
    exact key ⟨r, hr⟩
  · by_cases hn : r = 65533
    · subst hn
      refine (rune_err w).mono ?_
      rintro e w' ⟨rfl, hb⟩
      exact ⟨⟨_, rfl, by omega⟩, hb⟩
    · refine (rune_high r (by omega) hn w).mono ?_
      rintro e w' ⟨rfl, hb⟩
      exact ⟨⟨_, rfl, by omega⟩, hb⟩
theorem twoB_has {x : UInt8} : [(32 : UInt8), 9].contains x = true ↔ x.toNat = 32 ∨ x.toNat = 9 := by
  have e1 : x = 32 ↔ x.toNat = 32 := ⟨fun h => by subst h; rfl, fun h => UInt8.toNat_inj.1 h⟩
  have e2 : x = 9 ↔ x.toNat = 9 := ⟨fun h => by subst h; rfl, fun h => UInt8.toNat_inj.1 h⟩
  simp [e1, e2]
set_option maxRecDepth 100000 in
set_option maxHeartbeats 4000000 in
theorem any_short (s : ByteArray) (h8 : s.size ≤ 8) (w : World) :
    Calls Tryz.prog 22 #[.string s, .string twoB] w fun e w' => e = .returned (.int .i64 (Lib.indexAny s.data.toList [32, 9])) ∧ Below w.heap.size w w' := by
  have h8z : decide ((8 : Int) < (s.size : Int)) = false := decide_eq_false (by omega)
  go_enter Tryz.func22, Tryz.ntmps22
  go_wp2_with (go_at_call 34; refine (Tryz.useW _ _).mono ?_; rintro e w' ⟨rfl, hw⟩; rw [hw, h8z])
  go_loopg [9, 10] s.size (fun g _ _ wx => ∃ i : Nat, s.size ≤ i + g ∧ i ≤ s.size ∧ wx.heap[w.heap.size]? = some (.stringIter s i) ∧ Below w.heap.size w wx ∧ Lib.NoAny s.data.toList [32, 9] i)
  case atStart => exact ⟨0, by omega, by omega, World.iter_heap w s 0, (Below.refl _ w).alloc (Nat.le_refl _) _, Lib.NoAny.zero _ _⟩
  case round =>
    obtain ⟨i, hig, his, hit, hbw, hno⟩ := hrel
    have HN := Lib.hid hno
    clear hno
    have hsz : w.heap.size < wr.heap.size := (Array.getElem?_eq_some_iff.1 hit).1
    by_cases hi : i < s.size
    · obtain ⟨g, rfl⟩ : ∃ g, gk = g + 1 := ⟨gk - 1, by omega⟩
      have hnx : ∀ ty, (Instr.next (.pointer (some ⟨w.heap.size, 0, none⟩)) true ty).run Tryz.prog wr = _ := fun ty => Lib.run_next_any_at wr w.heap.size s i ty hit hi
      obtain ⟨x, hx⟩ : ∃ x : UInt8, s[i]'hi = x := ⟨_, rfl⟩
      have hxl : s.data.toList[i]? = some x := by rw [← hx]; exact Lib.data_getElem? s i hi
      have HP := Lib.hid (decode_pass s i hi)
      have HX := Lib.hid hxl
      have hD : ((Utf8.decode s i).1 = x.toNat ∧ (Utf8.decode s i).2 = 1 ∧ x.toNat < 128) ∨ (128 ≤ (Utf8.decode s i).1 ∧ 1 ≤ (Utf8.decode s i).2 ∧ 128 ≤ x.toNat) := by
        by_cases h128 : x.toNat < 128
        · have := decode_ascii s i hi (by rw [hx]; exact h128)
          rw [hx] at this
          exact .inl ⟨by rw [this], by rw [this], h128⟩
        · have := decode_high s i hi (by rw [hx]; omega)
          exact .inr ⟨this.1, this.2, by omega⟩
      obtain ⟨R, hR⟩ : ∃ R, (Utf8.decode s i).1 = R := ⟨_, rfl⟩
      obtain ⟨K, hK⟩ : ∃ K, (Utf8.decode s i).2 = K := ⟨_, rfl⟩
      rw [hR, hK] at hnx hD
      rw [hK] at HP
      have hit2 := Lib.iterAt_heap wr w.heap.size s i (i + K) hit
      have hbw2 := Lib.below_iterAt hbw (k := w.heap.size) (Nat.le_refl _) s (i + K)
      obtain ⟨W, hWd⟩ : ∃ W, wr.iterAt w.heap.size s (i + K) = W := ⟨_, rfl⟩
      rw [hWd] at hnx hit2 hbw2
      have HB2 := Lib.hid hbw2
      have hWs : w.heap.size < W.heap.size := (Array.getElem?_eq_some_iff.1 hit2).1
      have HT2 := Lib.hid hit2
      have HD := Lib.hid hD
      clear hxl hx hit2 hbw2 hD hit hbw hWd
      have HC := Lib.hid (rune_calls R W)
      by_cases hr : R = 32 ∨ R = 9
      · have HE : Hid ([(32 : UInt8), 9].contains x = true) := Lib.hid (twoB_has.2 (by have := HD.out; omega))
        have HC' : Hid (Calls Tryz.prog 33 #[.string twoB, .int .i32 (R : Int)] W fun e w' => (∃ v : Int, e = .returned (.int .i64 v) ∧ decide (0 ≤ v) = true) ∧ Below W.heap.size W w') := Lib.hid (HC.out.mono fun e w' ⟨⟨v, h1, h2⟩, h3⟩ => ⟨⟨v, h1, decide_eq_true (h2.2 hr)⟩, h3⟩)
        clear HC hr
        go_wp2_with (go_at_call 33; refine HC'.out.mono ?_; rintro e w' ⟨⟨v, rfl, hv⟩, hb⟩)
        go_ret
        exact ⟨by rw [Lib.indexAny_hit HN.out HX.out HE.out]; rfl, HB2.out.trans (hb.mono (by omega))⟩
      · have HE : Hid ([(32 : UInt8), 9].contains x = false) := Lib.hid (by
          cases hc : [(32 : UInt8), 9].contains x with
          | false => rfl
          | true => have := twoB_has.1 hc; have := HD.out; omega)
        have HC' : Hid (Calls Tryz.prog 33 #[.string twoB, .int .i32 (R : Int)] W fun e w' => (∃ v : Int, e = .returned (.int .i64 v) ∧ decide (0 ≤ v) = false) ∧ Below W.heap.size W w') := Lib.hid (HC.out.mono fun e w' ⟨⟨v, h1, h2⟩, h3⟩ => ⟨⟨v, h1, decide_eq_false (fun h => hr (h2.1 h))⟩, h3⟩)
        clear HC hr
        go_wp2_with (go_at_call 33; refine HC'.out.mono ?_; rintro e w' ⟨⟨v, rfl, hv⟩, hb⟩)
        go_roundg g
        case measure => omega
        case rel =>
          refine ⟨i + K, by have := HD.out; omega, HP.out.1, (hb.block _ hWs).trans HT2.out, HB2.out.trans (hb.mono (by omega)), fun j b hj hb2 => ?_⟩
          by_cases hji : j ≤ i
          · by_cases hje : j = i
            · subst hje
              rw [HX.out] at hb2
              injection hb2 with hb2
              rw [← hb2]
              exact HE.out
            · exact HN.out j b (by omega) hb2
          · have hjs : j < s.size := by
              have := HP.out.1
              omega
            rw [Lib.data_getElem? s j hjs] at hb2
            injection hb2 with hb2
            have h128 := HP.out.2 j (by omega) hj hjs
            rw [hb2] at h128
            cases hc : [(32 : UInt8), 9].contains b with
            | false => rfl
            | true => have := twoB_has.1 hc; omega
    · obtain rfl : i = s.size := by omega
      have hnx : ∀ ty, (Instr.next (.pointer (some ⟨w.heap.size, 0, none⟩)) true ty).run Tryz.prog wr = _ := fun ty => Lib.run_next_end_at wr w.heap.size s s.size ty hit hi
      go_wp2
      go_ret
      exact ⟨by rw [Lib.indexAny_none (by rw [← Lib.size_eq]; exact HN.out)]; rfl, hbw⟩
/-- strings.IndexAny at a blank and a tab. -/
theorem any_calls (s : ByteArray) (hs : s.size ≤ 1000000) (w : World) :
    Calls Tryz.prog 22 #[.string s, .string twoB] w fun e w' => e = .returned (.int .i64 (Lib.indexAny s.data.toList [32, 9])) ∧ Below w.heap.size w w' := by
  by_cases h : s.size ≤ 8
  · exact any_short s h w
  · exact Tryz.anyLongW s w (by omega) (by omega)

end Go.Proofs.YtdknejmhlfpdfaaGreatDoor
