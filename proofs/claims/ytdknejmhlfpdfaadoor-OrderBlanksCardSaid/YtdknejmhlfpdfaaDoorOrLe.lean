/-
  The statement OrderBlanks, walked.
-/
import Derived.Test.YtdknejmhlfpdfaaDoorOrLb
namespace Go.Proofs.YtdknejmhlfpdfaaDoor
open Go.RowKit

theorem moreB_snoc (b : List UInt8) (c : UInt8) : ∀ x : List UInt8, moreB b (x ++ [c]) = moreB b x ++ (if c = 32 ∨ c = 9 then c :: b else [c])
  | [] => by simp [moreB]
  | d :: x => by
    rw [List.cons_append, moreB, moreB, moreB_snoc b c x]
    by_cases h : d = 32 ∨ d = 9
    · rw [if_pos h, if_pos h]; simp
    · rw [if_neg h, if_neg h]; simp
theorem moreB_len (b : List UInt8) (m : Nat) (hb : b.length ≤ m) : ∀ x : List UInt8, (moreB b x).length ≤ (m + 1) * x.length ∧ x.length ≤ (moreB b x).length
  | [] => by simp [moreB]
  | d :: x => by
    obtain ⟨h1, h2⟩ := moreB_len b m hb x
    rw [moreB, List.length_cons, Nat.mul_add, Nat.mul_one]
    split
    · simp only [List.length_cons, List.length_append]; omega
    · simp only [List.length_cons]; omega
theorem ord_blanks (b t : List UInt8) (hb : ∀ c ∈ b, c = 32 ∨ c = 9) (hl : ¬ 200 < (b ++ moreB b t ++ b).length) : ordM (b ++ moreB b t ++ b) = ordM t := by
  have h2 := (moreB_len b b.length (Nat.le_refl _) t).2
  have h3 : ¬ 200 < t.length := by rw [List.length_append, List.length_append] at hl; omega
  unfold ordM
  rw [if_neg hl, if_neg h3, ws_moreAll b hb]
def blV : Array Value := #[.string ⟨#[32]⟩, .string ⟨#[9]⟩, .string ⟨#[32, 32]⟩, .string ⟨#[32, 9, 32]⟩]
theorem bl_index (w : World) (i : Nat) (hi : i < 4) (v : Value) (hv : blV[i]? = some v) : Sem.run Tryd.prog (Instr.index 31 (.agg #[.string ⟨#[32]⟩, .string ⟨#[9]⟩, .string ⟨#[32, 32]⟩, .string ⟨#[32, 9, 32]⟩]) (.int .u8 (i : Int))) w = .ok v w := by
  have : i = 0 ∨ i = 1 ∨ i = 2 ∨ i = 3 := by omega
  rcases this with rfl | rfl | rfl | rfl <;> (cases hv; simp [Instr.index, go_sem]; rfl)
set_option maxRecDepth 100000 in
set_option maxHeartbeats 8000000 in
theorem orderBlanks_law {X : World → Prop} (HP : PaC X) (HK : KeC X) (a : ByteArray) (n : Nat) (hn : n ≤ 255) (w : World) (hX : X w) :
    Calls Tryd.prog 4 #[.string a, .int .u8 n] w fun e w' => e = .returned (.bool true) ∧ Below w.heap.size w w' := by
  have hK := Lib.hid (fun W (hb : Below w.heap.size w W) => HK w W _ hX hb (Nat.le_refl _))
  have HAW := Lib.hid (fun W (hb : Below w.heap.size w W) => ordAwake_calls HP W (hK.out W hb))
  obtain ⟨t, rfl⟩ : ∃ t, a = bs t := ⟨a.data.toList, by apply WideShapes.bytes_inj; rw [bs_toList]⟩
  have hsz : (bs t).size = t.length := bs_size t
  have hn0 : (0 : Int) ≤ (n : Int) := by omega
  have hn1 : (n : Int) ≤ 255 := by omega
  by_cases hl : 150 < t.length
  · have d1 : decide ((150 : Int) < (t.length : Int)) = true := decide_eq_true (by omega)
    generalize bs t = S at *
    go_enter Tryd.func4, Tryd.ntmps4
    go_wp2_with fail
    refine (HAW.out _ (Below.refl _ _)).mono ?_
    rintro e w1 ⟨rfl, hB1⟩
    have HB1 := Lib.hid hB1
    clear hB1
    go_wp2_with fail
    refine (HAW.out _ HB1.out).mono ?_
    rintro e w2 ⟨rfl, hB2⟩
    have HB2 := Lib.hid (HB1.out.trans (hB2.mono HB1.out.size))
    clear hB2
    go_wp2
    go_ret
    exact ⟨rfl, HB2.out⟩
  · have d1 : decide ((150 : Int) < (t.length : Int)) = false := decide_eq_false (by omega)
    have hnc : ((n : Int).tmod 4 = 0 ∨ (n : Int).tmod 4 = 1) ∨ ((n : Int).tmod 4 = 2 ∨ (n : Int).tmod 4 = 3) := by
      rw [Int.tmod_eq_emod_of_nonneg hn0]; omega
    have HG : Hid (∀ (k : Nat) (h : k < (bs t).size) (h' : k < t.length), (bs t)[k]'h = t[k]) := Lib.hid (fun k h h' => rfl)
    have HEX : Hid (∀ k (h : k < t.length), (bs t).extract k (k + 1) = bs [t[k]]) := Lib.hid (fun k h => by
      rw [extC, show k + 1 - k = 1 by omega, List.drop_eq_getElem_cons h]
      rfl)
    have HPT := Lib.hid (fun W (hb : Below w.heap.size w W) => HP t (by omega) W (hK.out W hb))
    have HPU := Lib.hid (fun u (hu : u.length ≤ 1000) W (hb : Below w.heap.size w W) => HP u (by omega) W (hK.out W hb))
    generalize hS : bs t = S at *
    clear hS
    go_enter Tryd.func4, Tryd.ntmps4
    go_wp2_with fail
    refine (HAW.out _ (Below.refl _ _)).mono ?_
    rintro e w1 ⟨rfl, hB1⟩
    have HB1 := Lib.hid hB1
    clear hB1
    rcases hnc with (er | er) | (er | er)
    · have HBL : Hid ((⟨#[32]⟩ : ByteArray) = bs [32]) := Lib.hid rfl
      have hbb : ∀ c ∈ ([32] : List UInt8), c = 32 ∨ c = 9 := by decide
      have HOB := Lib.hid (ord_blanks [32] t hbb)
      have HML := Lib.hid (fun x => moreB_len [32] 1 (by decide) x)
      have HM0 : Hid ((⟨#[32]⟩ : ByteArray) = bs ([32] ++ moreB [32] (t.take 0))) := Lib.hid (by simp [moreB]; rfl)
      have hlz : (⟨#[32]⟩ : ByteArray).size = 1 := rfl
      have hix : Sem.run Tryd.prog (Instr.index 31 (.agg #[.string ⟨#[32]⟩, .string ⟨#[9]⟩, .string ⟨#[32, 32]⟩, .string ⟨#[32, 9, 32]⟩]) (.int .u8 0)) w1 = .ok (.string (⟨#[32]⟩ : ByteArray)) w1 := bl_index w1 0 (by omega) (.string (⟨#[32]⟩ : ByteArray)) rfl
      clear hbb
      go_wp2
      clear hix
      go_loopw [6, 7, 27] (fun s _ i wr => ∃ (j : Nat) (D : ByteArray), j ≤ t.length ∧ i = .int .i64 j ∧ s = .string D ∧ Hid (D = bs ([32] ++ moreB [32] (t.take j))) ∧ wr = w1) (fun _ _ i _ => t.length - (intOf i).toNat)
      case atStart => exact ⟨0, _, by omega, rfl, rfl, HM0, rfl⟩
      case round =>
        obtain ⟨j, D, hj, rfl, rfl, HD, rfl⟩ := hrel
        have hDz : D.size ≤ 1000 := by
          have := (HML.out (t.take j)).1
          rw [List.length_take] at this
          rw [HD.out, bs_size, List.length_append]
          simp only [List.length_cons, List.length_nil]
          omega
        by_cases hlt : j < t.length
        · have hks : j < S.size := by omega
          have hx := HG.out j hks hlt
          have HTK : Hid (moreB [32] (t.take (j + 1)) = moreB [32] (t.take j) ++ (if t[j] = 32 ∨ t[j] = 9 then t[j] :: [32] else [t[j]])) := Lib.hid (by rw [List.take_succ_eq_append_getElem hlt, moreB_snoc])
          have hE := HEX.out j hlt
          generalize t[j] = ch at *
          have z1 : (bs [ch]).size = 1 := by rw [bs_size]; rfl
          obtain ⟨Q, hQ⟩ : ∃ Q, Q = bs [ch] := ⟨_, rfl⟩
          have HQ := Lib.hid hQ
          rw [← hQ] at hE z1
          clear hQ
          have g1 : (9223372036854775807 < D.size + Q.size) = False := eq_false (by omega)
          have g2 : (9223372036854775807 < D.size + Q.size + 1) = False := eq_false (by omega)
          have g3 : (9223372036854775807 < D.size + 1) = False := eq_false (by omega)
          have g4 : (9223372036854775807 < D.size + 1 + 1) = False := eq_false (by omega)
          have k0 : (0 : Int) ≤ (j : Int) := by omega
          have k1 : (j : Int) < (t.length : Int) := by omega
          have k2 : (j : Int) + 1 ≤ (t.length : Int) := by omega
          have k3 : j + 1 ≤ S.size := by omega
          by_cases hb : ch = 32 ∨ ch = 9
          · have hcase : (((S[j]'hks).toNat : Int) == 32) = true ∨ ((((S[j]'hks).toNat : Int) == 32) = false ∧ (((S[j]'hks).toNat : Int) == 9) = true) := by
              rw [hx]
              rcases hb with rfl | rfl
              · exact .inl rfl
              · exact .inr ⟨rfl, rfl⟩
            have HD2 : Hid (D ++ Q ++ (⟨#[32]⟩ : ByteArray) = bs ([32] ++ moreB [32] (t.take (j + 1)))) := Lib.hid (by
              rw [HD.out, HQ.out, HBL.out, bs_app, bs_app, HTK.out, if_pos hb]
              simp)
            clear hx hb hDz
            rcases hcase with e1 | ⟨e1, e2⟩
            all_goals
              go_wp2
              go_roundw
              case rel => exact ⟨j + 1, _, by omega, by go_num, rfl, HD2, trivial⟩
              case measure => simp [intOf]; omega
          · have e1 : (((S[j]'hks).toNat : Int) == 32) = false := by
              rw [hx]
              exact u8_ne (fun h => hb (.inl (UInt8.toNat_inj.1 (by simpa using h))))
            have e2 : (((S[j]'hks).toNat : Int) == 9) = false := by
              rw [hx]
              exact u8_ne (fun h => hb (.inr (UInt8.toNat_inj.1 (by simpa using h))))
            have HD2 : Hid (D ++ Q = bs ([32] ++ moreB [32] (t.take (j + 1)))) := Lib.hid (by
              rw [HD.out, HQ.out, bs_app, HTK.out, if_neg hb]
              simp)
            clear hx hb hDz
            go_wp2
            go_roundw
            case rel => exact ⟨j + 1, _, by omega, by go_num, rfl, HD2, trivial⟩
            case measure => simp [intOf]; omega
        · obtain rfl : j = t.length := by omega
          have HU : Hid (D ++ (⟨#[32]⟩ : ByteArray) = bs ([32] ++ moreB [32] t ++ [32])) := Lib.hid (by
            have := HD.out
            rw [List.take_length] at this
            rw [this, HBL.out, bs_app])
          have g2 : (9223372036854775807 < D.size + 1) = False := eq_false (by omega)
          have hul : D.size + 1 = ([32] ++ moreB [32] t ++ [32]).length := by
            have := congrArg ByteArray.size HU.out
            rw [bs_size, ByteArray.size_append] at this
            exact this
          have HPU2 := Lib.hid (fun h => HPU.out ([32] ++ moreB [32] t ++ [32]) h)
          rw [← HU.out] at HPU2
          rw [← hul] at HOB HPU2
          by_cases hq : 200 < D.size + 1
          · have d2 : decide ((200 : Int) < ((D.size : Int) + 1)) = true := decide_eq_true (by omega)
            have d3 : decide (200 < D.size + 1) = true := decide_eq_true hq
            clear hDz hul
            go_wp2
            go_ret
            exact ⟨rfl, HB1.out⟩
          · have d2 : decide ((200 : Int) < ((D.size : Int) + 1)) = false := decide_eq_false (by omega)
            have d3 : decide (200 < D.size + 1) = false := decide_eq_false hq
            have HPV := Lib.hid (HPU2.out (by omega))
            rw [HOB.out hq] at HPV
            clear HOB hul HPU HPU2 HU
            generalize ordM t = r at *
            obtain ⟨⟨k1, m1, u1⟩, c1⟩ := r
            unfold ordV at HPT HPV
            dsimp only at HPT HPV
            generalize bs m1 = N1 at *
            have hself := str_self N1
            go_wp2_with fail
            refine (HPT.out _ HB1.out).mono ?_
            rintro e w2 ⟨rfl, hB2⟩
            have HB2 := Lib.hid (HB1.out.trans (hB2.mono HB1.out.size))
            clear hB2
            have HX2 := Lib.hid (heapOne w2 #[.int .i64 k1, .string N1, .int .i64 u1] 26)
            have HB2a := Lib.hid (HB2.out.alloc HB2.out.size (.cells #[.int .i64 k1, .string N1, .int .i64 u1] 26))
            go_wp2_with fail
            generalize w2.alloc (.cells #[.int .i64 k1, .string N1, .int .i64 u1] 26) = w3 at *
            generalize hg2 : w2.heap.size = g at *
            clear hg2
            refine (HPV.out _ HB2a.out).mono ?_
            rintro e w4 ⟨rfl, hB4⟩
            have HB4 := Lib.hid (HB2a.out.trans (hB4.mono HB2a.out.size))
            have HX4 := Lib.hid (box3 hB4 (blkLt HX2.out) HX2.out)
            clear hB4
            have HY4 := Lib.hid (heapOne w4 #[.int .i64 k1, .string N1, .int .i64 u1] 26)
            have HBa := Lib.hid ((Below.refl w4.heap.size w4).alloc (Nat.le_refl _) (.cells #[.int .i64 k1, .string N1, .int .i64 u1] 26))
            have HX5 := Lib.hid (box3 HBa.out (blkLt HX4.out) HX4.out)
            have HB5 := Lib.hid (HB4.out.trans (HBa.out.mono HB4.out.size))
            obtain ⟨x0, x1, x2⟩ := box3c HX5.out
            obtain ⟨y0, y1, y2⟩ := box3c HY4.out
            go_wp2
            go_ret
            exact ⟨rfl, HB5.out⟩
    · have HBL : Hid ((⟨#[9]⟩ : ByteArray) = bs [9]) := Lib.hid rfl
      have hbb : ∀ c ∈ ([9] : List UInt8), c = 32 ∨ c = 9 := by decide
      have HOB := Lib.hid (ord_blanks [9] t hbb)
      have HML := Lib.hid (fun x => moreB_len [9] 1 (by decide) x)
      have HM0 : Hid ((⟨#[9]⟩ : ByteArray) = bs ([9] ++ moreB [9] (t.take 0))) := Lib.hid (by simp [moreB]; rfl)
      have hlz : (⟨#[9]⟩ : ByteArray).size = 1 := rfl
      have hix : Sem.run Tryd.prog (Instr.index 31 (.agg #[.string ⟨#[32]⟩, .string ⟨#[9]⟩, .string ⟨#[32, 32]⟩, .string ⟨#[32, 9, 32]⟩]) (.int .u8 1)) w1 = .ok (.string (⟨#[9]⟩ : ByteArray)) w1 := bl_index w1 1 (by omega) (.string (⟨#[9]⟩ : ByteArray)) rfl
      clear hbb
      go_wp2
      clear hix
      go_loopw [6, 7, 27] (fun s _ i wr => ∃ (j : Nat) (D : ByteArray), j ≤ t.length ∧ i = .int .i64 j ∧ s = .string D ∧ Hid (D = bs ([9] ++ moreB [9] (t.take j))) ∧ wr = w1) (fun _ _ i _ => t.length - (intOf i).toNat)
      case atStart => exact ⟨0, _, by omega, rfl, rfl, HM0, rfl⟩
      case round =>
        obtain ⟨j, D, hj, rfl, rfl, HD, rfl⟩ := hrel
        have hDz : D.size ≤ 1000 := by
          have := (HML.out (t.take j)).1
          rw [List.length_take] at this
          rw [HD.out, bs_size, List.length_append]
          simp only [List.length_cons, List.length_nil]
          omega
        by_cases hlt : j < t.length
        · have hks : j < S.size := by omega
          have hx := HG.out j hks hlt
          have HTK : Hid (moreB [9] (t.take (j + 1)) = moreB [9] (t.take j) ++ (if t[j] = 32 ∨ t[j] = 9 then t[j] :: [9] else [t[j]])) := Lib.hid (by rw [List.take_succ_eq_append_getElem hlt, moreB_snoc])
          have hE := HEX.out j hlt
          generalize t[j] = ch at *
          have z1 : (bs [ch]).size = 1 := by rw [bs_size]; rfl
          obtain ⟨Q, hQ⟩ : ∃ Q, Q = bs [ch] := ⟨_, rfl⟩
          have HQ := Lib.hid hQ
          rw [← hQ] at hE z1
          clear hQ
          have g1 : (9223372036854775807 < D.size + Q.size) = False := eq_false (by omega)
          have g2 : (9223372036854775807 < D.size + Q.size + 1) = False := eq_false (by omega)
          have g3 : (9223372036854775807 < D.size + 1) = False := eq_false (by omega)
          have g4 : (9223372036854775807 < D.size + 1 + 1) = False := eq_false (by omega)
          have k0 : (0 : Int) ≤ (j : Int) := by omega
          have k1 : (j : Int) < (t.length : Int) := by omega
          have k2 : (j : Int) + 1 ≤ (t.length : Int) := by omega
          have k3 : j + 1 ≤ S.size := by omega
          by_cases hb : ch = 32 ∨ ch = 9
          · have hcase : (((S[j]'hks).toNat : Int) == 32) = true ∨ ((((S[j]'hks).toNat : Int) == 32) = false ∧ (((S[j]'hks).toNat : Int) == 9) = true) := by
              rw [hx]
              rcases hb with rfl | rfl
              · exact .inl rfl
              · exact .inr ⟨rfl, rfl⟩
            have HD2 : Hid (D ++ Q ++ (⟨#[9]⟩ : ByteArray) = bs ([9] ++ moreB [9] (t.take (j + 1)))) := Lib.hid (by
              rw [HD.out, HQ.out, HBL.out, bs_app, bs_app, HTK.out, if_pos hb]
              simp)
            clear hx hb hDz
            rcases hcase with e1 | ⟨e1, e2⟩
            all_goals
              go_wp2
              go_roundw
              case rel => exact ⟨j + 1, _, by omega, by go_num, rfl, HD2, trivial⟩
              case measure => simp [intOf]; omega
          · have e1 : (((S[j]'hks).toNat : Int) == 32) = false := by
              rw [hx]
              exact u8_ne (fun h => hb (.inl (UInt8.toNat_inj.1 (by simpa using h))))
            have e2 : (((S[j]'hks).toNat : Int) == 9) = false := by
              rw [hx]
              exact u8_ne (fun h => hb (.inr (UInt8.toNat_inj.1 (by simpa using h))))
            have HD2 : Hid (D ++ Q = bs ([9] ++ moreB [9] (t.take (j + 1)))) := Lib.hid (by
              rw [HD.out, HQ.out, bs_app, HTK.out, if_neg hb]
              simp)
            clear hx hb hDz
            go_wp2
            go_roundw
            case rel => exact ⟨j + 1, _, by omega, by go_num, rfl, HD2, trivial⟩
            case measure => simp [intOf]; omega
        · obtain rfl : j = t.length := by omega
          have HU : Hid (D ++ (⟨#[9]⟩ : ByteArray) = bs ([9] ++ moreB [9] t ++ [9])) := Lib.hid (by
            have := HD.out
            rw [List.take_length] at this
            rw [this, HBL.out, bs_app])
          have g2 : (9223372036854775807 < D.size + 1) = False := eq_false (by omega)
          have hul : D.size + 1 = ([9] ++ moreB [9] t ++ [9]).length := by
            have := congrArg ByteArray.size HU.out
            rw [bs_size, ByteArray.size_append] at this
            exact this
          have HPU2 := Lib.hid (fun h => HPU.out ([9] ++ moreB [9] t ++ [9]) h)
          rw [← HU.out] at HPU2
          rw [← hul] at HOB HPU2
          by_cases hq : 200 < D.size + 1
          · have d2 : decide ((200 : Int) < ((D.size : Int) + 1)) = true := decide_eq_true (by omega)
            have d3 : decide (200 < D.size + 1) = true := decide_eq_true hq
            clear hDz hul
            go_wp2
            go_ret
            exact ⟨rfl, HB1.out⟩
          · have d2 : decide ((200 : Int) < ((D.size : Int) + 1)) = false := decide_eq_false (by omega)
            have d3 : decide (200 < D.size + 1) = false := decide_eq_false hq
            have HPV := Lib.hid (HPU2.out (by omega))
            rw [HOB.out hq] at HPV
            clear HOB hul HPU HPU2 HU
            generalize ordM t = r at *
            obtain ⟨⟨k1, m1, u1⟩, c1⟩ := r
            unfold ordV at HPT HPV
            dsimp only at HPT HPV
            generalize bs m1 = N1 at *
            have hself := str_self N1
            go_wp2_with fail
            refine (HPT.out _ HB1.out).mono ?_
            rintro e w2 ⟨rfl, hB2⟩
            have HB2 := Lib.hid (HB1.out.trans (hB2.mono HB1.out.size))
            clear hB2
            have HX2 := Lib.hid (heapOne w2 #[.int .i64 k1, .string N1, .int .i64 u1] 26)
            have HB2a := Lib.hid (HB2.out.alloc HB2.out.size (.cells #[.int .i64 k1, .string N1, .int .i64 u1] 26))
            go_wp2_with fail
            generalize w2.alloc (.cells #[.int .i64 k1, .string N1, .int .i64 u1] 26) = w3 at *
            generalize hg2 : w2.heap.size = g at *
            clear hg2
            refine (HPV.out _ HB2a.out).mono ?_
            rintro e w4 ⟨rfl, hB4⟩
            have HB4 := Lib.hid (HB2a.out.trans (hB4.mono HB2a.out.size))
            have HX4 := Lib.hid (box3 hB4 (blkLt HX2.out) HX2.out)
            clear hB4
            have HY4 := Lib.hid (heapOne w4 #[.int .i64 k1, .string N1, .int .i64 u1] 26)
            have HBa := Lib.hid ((Below.refl w4.heap.size w4).alloc (Nat.le_refl _) (.cells #[.int .i64 k1, .string N1, .int .i64 u1] 26))
            have HX5 := Lib.hid (box3 HBa.out (blkLt HX4.out) HX4.out)
            have HB5 := Lib.hid (HB4.out.trans (HBa.out.mono HB4.out.size))
            obtain ⟨x0, x1, x2⟩ := box3c HX5.out
            obtain ⟨y0, y1, y2⟩ := box3c HY4.out
            go_wp2
            go_ret
            exact ⟨rfl, HB5.out⟩
    · have HBL : Hid ((⟨#[32, 32]⟩ : ByteArray) = bs [32, 32]) := Lib.hid rfl
      have hbb : ∀ c ∈ ([32, 32] : List UInt8), c = 32 ∨ c = 9 := by decide
      have HOB := Lib.hid (ord_blanks [32, 32] t hbb)
      have HML := Lib.hid (fun x => moreB_len [32, 32] 2 (by decide) x)
      have HM0 : Hid ((⟨#[32, 32]⟩ : ByteArray) = bs ([32, 32] ++ moreB [32, 32] (t.take 0))) := Lib.hid (by simp [moreB]; rfl)
      have hlz : (⟨#[32, 32]⟩ : ByteArray).size = 2 := rfl
      have hix : Sem.run Tryd.prog (Instr.index 31 (.agg #[.string ⟨#[32]⟩, .string ⟨#[9]⟩, .string ⟨#[32, 32]⟩, .string ⟨#[32, 9, 32]⟩]) (.int .u8 2)) w1 = .ok (.string (⟨#[32, 32]⟩ : ByteArray)) w1 := bl_index w1 2 (by omega) (.string (⟨#[32, 32]⟩ : ByteArray)) rfl
      clear hbb
      go_wp2
      clear hix
      go_loopw [6, 7, 27] (fun s _ i wr => ∃ (j : Nat) (D : ByteArray), j ≤ t.length ∧ i = .int .i64 j ∧ s = .string D ∧ Hid (D = bs ([32, 32] ++ moreB [32, 32] (t.take j))) ∧ wr = w1) (fun _ _ i _ => t.length - (intOf i).toNat)
      case atStart => exact ⟨0, _, by omega, rfl, rfl, HM0, rfl⟩
      case round =>
        obtain ⟨j, D, hj, rfl, rfl, HD, rfl⟩ := hrel
        have hDz : D.size ≤ 1000 := by
          have := (HML.out (t.take j)).1
          rw [List.length_take] at this
          rw [HD.out, bs_size, List.length_append]
          simp only [List.length_cons, List.length_nil]
          omega
        by_cases hlt : j < t.length
        · have hks : j < S.size := by omega
          have hx := HG.out j hks hlt
          have HTK : Hid (moreB [32, 32] (t.take (j + 1)) = moreB [32, 32] (t.take j) ++ (if t[j] = 32 ∨ t[j] = 9 then t[j] :: [32, 32] else [t[j]])) := Lib.hid (by rw [List.take_succ_eq_append_getElem hlt, moreB_snoc])
          have hE := HEX.out j hlt
          generalize t[j] = ch at *
          have z1 : (bs [ch]).size = 1 := by rw [bs_size]; rfl
          obtain ⟨Q, hQ⟩ : ∃ Q, Q = bs [ch] := ⟨_, rfl⟩
          have HQ := Lib.hid hQ
          rw [← hQ] at hE z1
          clear hQ
          have g1 : (9223372036854775807 < D.size + Q.size) = False := eq_false (by omega)
          have g2 : (9223372036854775807 < D.size + Q.size + 2) = False := eq_false (by omega)
          have g3 : (9223372036854775807 < D.size + 1) = False := eq_false (by omega)
          have g4 : (9223372036854775807 < D.size + 1 + 2) = False := eq_false (by omega)
          have k0 : (0 : Int) ≤ (j : Int) := by omega
          have k1 : (j : Int) < (t.length : Int) := by omega
          have k2 : (j : Int) + 1 ≤ (t.length : Int) := by omega
          have k3 : j + 1 ≤ S.size := by omega
          by_cases hb : ch = 32 ∨ ch = 9
          · have hcase : (((S[j]'hks).toNat : Int) == 32) = true ∨ ((((S[j]'hks).toNat : Int) == 32) = false ∧ (((S[j]'hks).toNat : Int) == 9) = true) := by
              rw [hx]
              rcases hb with rfl | rfl
              · exact .inl rfl
              · exact .inr ⟨rfl, rfl⟩
            have HD2 : Hid (D ++ Q ++ (⟨#[32, 32]⟩ : ByteArray) = bs ([32, 32] ++ moreB [32, 32] (t.take (j + 1)))) := Lib.hid (by
              rw [HD.out, HQ.out, HBL.out, bs_app, bs_app, HTK.out, if_pos hb]
              simp)
            clear hx hb hDz
            rcases hcase with e1 | ⟨e1, e2⟩
            all_goals
              go_wp2
              go_roundw
              case rel => exact ⟨j + 1, _, by omega, by go_num, rfl, HD2, trivial⟩
              case measure => simp [intOf]; omega
          · have e1 : (((S[j]'hks).toNat : Int) == 32) = false := by
              rw [hx]
              exact u8_ne (fun h => hb (.inl (UInt8.toNat_inj.1 (by simpa using h))))
            have e2 : (((S[j]'hks).toNat : Int) == 9) = false := by
              rw [hx]
              exact u8_ne (fun h => hb (.inr (UInt8.toNat_inj.1 (by simpa using h))))
            have HD2 : Hid (D ++ Q = bs ([32, 32] ++ moreB [32, 32] (t.take (j + 1)))) := Lib.hid (by
              rw [HD.out, HQ.out, bs_app, HTK.out, if_neg hb]
              simp)
            clear hx hb hDz
            go_wp2
            go_roundw
            case rel => exact ⟨j + 1, _, by omega, by go_num, rfl, HD2, trivial⟩
            case measure => simp [intOf]; omega
        · obtain rfl : j = t.length := by omega
          have HU : Hid (D ++ (⟨#[32, 32]⟩ : ByteArray) = bs ([32, 32] ++ moreB [32, 32] t ++ [32, 32])) := Lib.hid (by
            have := HD.out
            rw [List.take_length] at this
            rw [this, HBL.out, bs_app])
          have g2 : (9223372036854775807 < D.size + 2) = False := eq_false (by omega)
          have hul : D.size + 2 = ([32, 32] ++ moreB [32, 32] t ++ [32, 32]).length := by
            have := congrArg ByteArray.size HU.out
            rw [bs_size, ByteArray.size_append] at this
            exact this
          have HPU2 := Lib.hid (fun h => HPU.out ([32, 32] ++ moreB [32, 32] t ++ [32, 32]) h)
          rw [← HU.out] at HPU2
          rw [← hul] at HOB HPU2
          by_cases hq : 200 < D.size + 2
          · have d2 : decide ((200 : Int) < ((D.size : Int) + 2)) = true := decide_eq_true (by omega)
            have d3 : decide (200 < D.size + 2) = true := decide_eq_true hq
            clear hDz hul
            go_wp2
            go_ret
            exact ⟨rfl, HB1.out⟩
          · have d2 : decide ((200 : Int) < ((D.size : Int) + 2)) = false := decide_eq_false (by omega)
            have d3 : decide (200 < D.size + 2) = false := decide_eq_false hq
            have HPV := Lib.hid (HPU2.out (by omega))
            rw [HOB.out hq] at HPV
            clear HOB hul HPU HPU2 HU
            generalize ordM t = r at *
            obtain ⟨⟨k1, m1, u1⟩, c1⟩ := r
            unfold ordV at HPT HPV
            dsimp only at HPT HPV
            generalize bs m1 = N1 at *
            have hself := str_self N1
            go_wp2_with fail
            refine (HPT.out _ HB1.out).mono ?_
            rintro e w2 ⟨rfl, hB2⟩
            have HB2 := Lib.hid (HB1.out.trans (hB2.mono HB1.out.size))
            clear hB2
            have HX2 := Lib.hid (heapOne w2 #[.int .i64 k1, .string N1, .int .i64 u1] 26)
            have HB2a := Lib.hid (HB2.out.alloc HB2.out.size (.cells #[.int .i64 k1, .string N1, .int .i64 u1] 26))
            go_wp2_with fail
            generalize w2.alloc (.cells #[.int .i64 k1, .string N1, .int .i64 u1] 26) = w3 at *
            generalize hg2 : w2.heap.size = g at *
            clear hg2
            refine (HPV.out _ HB2a.out).mono ?_
            rintro e w4 ⟨rfl, hB4⟩
            have HB4 := Lib.hid (HB2a.out.trans (hB4.mono HB2a.out.size))
            have HX4 := Lib.hid (box3 hB4 (blkLt HX2.out) HX2.out)
            clear hB4
            have HY4 := Lib.hid (heapOne w4 #[.int .i64 k1, .string N1, .int .i64 u1] 26)
            have HBa := Lib.hid ((Below.refl w4.heap.size w4).alloc (Nat.le_refl _) (.cells #[.int .i64 k1, .string N1, .int .i64 u1] 26))
            have HX5 := Lib.hid (box3 HBa.out (blkLt HX4.out) HX4.out)
            have HB5 := Lib.hid (HB4.out.trans (HBa.out.mono HB4.out.size))
            obtain ⟨x0, x1, x2⟩ := box3c HX5.out
            obtain ⟨y0, y1, y2⟩ := box3c HY4.out
            go_wp2
            go_ret
            exact ⟨rfl, HB5.out⟩
    · have HBL : Hid ((⟨#[32, 9, 32]⟩ : ByteArray) = bs [32, 9, 32]) := Lib.hid rfl
      have hbb : ∀ c ∈ ([32, 9, 32] : List UInt8), c = 32 ∨ c = 9 := by decide
      have HOB := Lib.hid (ord_blanks [32, 9, 32] t hbb)
      have HML := Lib.hid (fun x => moreB_len [32, 9, 32] 3 (by decide) x)
      have HM0 : Hid ((⟨#[32, 9, 32]⟩ : ByteArray) = bs ([32, 9, 32] ++ moreB [32, 9, 32] (t.take 0))) := Lib.hid (by simp [moreB]; rfl)
      have hlz : (⟨#[32, 9, 32]⟩ : ByteArray).size = 3 := rfl
      have hix : Sem.run Tryd.prog (Instr.index 31 (.agg #[.string ⟨#[32]⟩, .string ⟨#[9]⟩, .string ⟨#[32, 32]⟩, .string ⟨#[32, 9, 32]⟩]) (.int .u8 3)) w1 = .ok (.string (⟨#[32, 9, 32]⟩ : ByteArray)) w1 := bl_index w1 3 (by omega) (.string (⟨#[32, 9, 32]⟩ : ByteArray)) rfl
      clear hbb
      go_wp2
      clear hix
      go_loopw [6, 7, 27] (fun s _ i wr => ∃ (j : Nat) (D : ByteArray), j ≤ t.length ∧ i = .int .i64 j ∧ s = .string D ∧ Hid (D = bs ([32, 9, 32] ++ moreB [32, 9, 32] (t.take j))) ∧ wr = w1) (fun _ _ i _ => t.length - (intOf i).toNat)
      case atStart => exact ⟨0, _, by omega, rfl, rfl, HM0, rfl⟩
      case round =>
        obtain ⟨j, D, hj, rfl, rfl, HD, rfl⟩ := hrel
        have hDz : D.size ≤ 1000 := by
          have := (HML.out (t.take j)).1
          rw [List.length_take] at this
          rw [HD.out, bs_size, List.length_append]
          simp only [List.length_cons, List.length_nil]
          omega
        by_cases hlt : j < t.length
        · have hks : j < S.size := by omega
          have hx := HG.out j hks hlt
          have HTK : Hid (moreB [32, 9, 32] (t.take (j + 1)) = moreB [32, 9, 32] (t.take j) ++ (if t[j] = 32 ∨ t[j] = 9 then t[j] :: [32, 9, 32] else [t[j]])) := Lib.hid (by rw [List.take_succ_eq_append_getElem hlt, moreB_snoc])
          have hE := HEX.out j hlt
          generalize t[j] = ch at *
          have z1 : (bs [ch]).size = 1 := by rw [bs_size]; rfl
          obtain ⟨Q, hQ⟩ : ∃ Q, Q = bs [ch] := ⟨_, rfl⟩
          have HQ := Lib.hid hQ
          rw [← hQ] at hE z1
          clear hQ
          have g1 : (9223372036854775807 < D.size + Q.size) = False := eq_false (by omega)
          have g2 : (9223372036854775807 < D.size + Q.size + 3) = False := eq_false (by omega)
          have g3 : (9223372036854775807 < D.size + 1) = False := eq_false (by omega)
          have g4 : (9223372036854775807 < D.size + 1 + 3) = False := eq_false (by omega)
          have k0 : (0 : Int) ≤ (j : Int) := by omega
          have k1 : (j : Int) < (t.length : Int) := by omega
          have k2 : (j : Int) + 1 ≤ (t.length : Int) := by omega
          have k3 : j + 1 ≤ S.size := by omega
          by_cases hb : ch = 32 ∨ ch = 9
          · have hcase : (((S[j]'hks).toNat : Int) == 32) = true ∨ ((((S[j]'hks).toNat : Int) == 32) = false ∧ (((S[j]'hks).toNat : Int) == 9) = true) := by
              rw [hx]
              rcases hb with rfl | rfl
              · exact .inl rfl
              · exact .inr ⟨rfl, rfl⟩
            have HD2 : Hid (D ++ Q ++ (⟨#[32, 9, 32]⟩ : ByteArray) = bs ([32, 9, 32] ++ moreB [32, 9, 32] (t.take (j + 1)))) := Lib.hid (by
              rw [HD.out, HQ.out, HBL.out, bs_app, bs_app, HTK.out, if_pos hb]
              simp)
            clear hx hb hDz
            rcases hcase with e1 | ⟨e1, e2⟩
            all_goals
              go_wp2
              go_roundw
              case rel => exact ⟨j + 1, _, by omega, by go_num, rfl, HD2, trivial⟩
              case measure => simp [intOf]; omega
          · have e1 : (((S[j]'hks).toNat : Int) == 32) = false := by
              rw [hx]
              exact u8_ne (fun h => hb (.inl (UInt8.toNat_inj.1 (by simpa using h))))
            have e2 : (((S[j]'hks).toNat : Int) == 9) = false := by
              rw [hx]
              exact u8_ne (fun h => hb (.inr (UInt8.toNat_inj.1 (by simpa using h))))
            have HD2 : Hid (D ++ Q = bs ([32, 9, 32] ++ moreB [32, 9, 32] (t.take (j + 1)))) := Lib.hid (by
              rw [HD.out, HQ.out, bs_app, HTK.out, if_neg hb]
              simp)
            clear hx hb hDz
            go_wp2
            go_roundw
            case rel => exact ⟨j + 1, _, by omega, by go_num, rfl, HD2, trivial⟩
            case measure => simp [intOf]; omega
        · obtain rfl : j = t.length := by omega
          have HU : Hid (D ++ (⟨#[32, 9, 32]⟩ : ByteArray) = bs ([32, 9, 32] ++ moreB [32, 9, 32] t ++ [32, 9, 32])) := Lib.hid (by
            have := HD.out
            rw [List.take_length] at this
            rw [this, HBL.out, bs_app])
          have g2 : (9223372036854775807 < D.size + 3) = False := eq_false (by omega)
          have hul : D.size + 3 = ([32, 9, 32] ++ moreB [32, 9, 32] t ++ [32, 9, 32]).length := by
            have := congrArg ByteArray.size HU.out
            rw [bs_size, ByteArray.size_append] at this
            exact this
          have HPU2 := Lib.hid (fun h => HPU.out ([32, 9, 32] ++ moreB [32, 9, 32] t ++ [32, 9, 32]) h)
          rw [← HU.out] at HPU2
          rw [← hul] at HOB HPU2
          by_cases hq : 200 < D.size + 3
          · have d2 : decide ((200 : Int) < ((D.size : Int) + 3)) = true := decide_eq_true (by omega)
            have d3 : decide (200 < D.size + 3) = true := decide_eq_true hq
            clear hDz hul
            go_wp2
            go_ret
            exact ⟨rfl, HB1.out⟩
          · have d2 : decide ((200 : Int) < ((D.size : Int) + 3)) = false := decide_eq_false (by omega)
            have d3 : decide (200 < D.size + 3) = false := decide_eq_false hq
            have HPV := Lib.hid (HPU2.out (by omega))
            rw [HOB.out hq] at HPV
            clear HOB hul HPU HPU2 HU
            generalize ordM t = r at *
            obtain ⟨⟨k1, m1, u1⟩, c1⟩ := r
            unfold ordV at HPT HPV
            dsimp only at HPT HPV
            generalize bs m1 = N1 at *
            have hself := str_self N1
            go_wp2_with fail
            refine (HPT.out _ HB1.out).mono ?_
            rintro e w2 ⟨rfl, hB2⟩
            have HB2 := Lib.hid (HB1.out.trans (hB2.mono HB1.out.size))
            clear hB2
            have HX2 := Lib.hid (heapOne w2 #[.int .i64 k1, .string N1, .int .i64 u1] 26)
            have HB2a := Lib.hid (HB2.out.alloc HB2.out.size (.cells #[.int .i64 k1, .string N1, .int .i64 u1] 26))
            go_wp2_with fail
            generalize w2.alloc (.cells #[.int .i64 k1, .string N1, .int .i64 u1] 26) = w3 at *
            generalize hg2 : w2.heap.size = g at *
            clear hg2
            refine (HPV.out _ HB2a.out).mono ?_
            rintro e w4 ⟨rfl, hB4⟩
            have HB4 := Lib.hid (HB2a.out.trans (hB4.mono HB2a.out.size))
            have HX4 := Lib.hid (box3 hB4 (blkLt HX2.out) HX2.out)
            clear hB4
            have HY4 := Lib.hid (heapOne w4 #[.int .i64 k1, .string N1, .int .i64 u1] 26)
            have HBa := Lib.hid ((Below.refl w4.heap.size w4).alloc (Nat.le_refl _) (.cells #[.int .i64 k1, .string N1, .int .i64 u1] 26))
            have HX5 := Lib.hid (box3 HBa.out (blkLt HX4.out) HX4.out)
            have HB5 := Lib.hid (HB4.out.trans (HBa.out.mono HB4.out.size))
            obtain ⟨x0, x1, x2⟩ := box3c HX5.out
            obtain ⟨y0, y1, y2⟩ := box3c HY4.out
            go_wp2
            go_ret
            exact ⟨rfl, HB5.out⟩
end Go.Proofs.YtdknejmhlfpdfaaDoor
