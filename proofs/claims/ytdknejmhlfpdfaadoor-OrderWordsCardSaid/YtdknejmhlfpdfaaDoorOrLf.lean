/-
  The statement OrderWords, walked.
-/
import Derived.Test.YtdknejmhlfpdfaaDoorOrLb
namespace Go.Proofs.YtdknejmhlfpdfaaDoor
open Go.RowKit

def WoC (X : World → Prop) : Prop := ∀ w, X w → Calls Tryd.prog 8 #[] w fun e w' => (∃ g c, e = .returned (.slice (some ⟨g, 0, none⟩) 20 c) ∧ RowS w' g (kw.drop 1)) ∧ Below w.heap.size w w'
theorem kwd_get : ∀ i : Fin 20, (kw.drop 1)[i.1]? = some (kwB (i.1 + 1)) := by
  intro ⟨i, hi⟩
  have : i = 0 ∨ i = 1 ∨ i = 2 ∨ i = 3 ∨ i = 4 ∨ i = 5 ∨ i = 6 ∨ i = 7 ∨ i = 8 ∨ i = 9 ∨ i = 10 ∨ i = 11 ∨ i = 12 ∨ i = 13 ∨ i = 14 ∨ i = 15 ∨ i = 16 ∨ i = 17 ∨ i = 18 ∨ i = 19 := by omega
  rcases this with rfl | rfl | rfl | rfl | rfl | rfl | rfl | rfl | rfl | rfl | rfl | rfl | rfl | rfl | rfl | rfl | rfl | rfl | rfl | rfl <;> rfl
theorem rowS_kw {W : World} {g : Nat} (h : RowS W g (kw.drop 1)) (i : Nat) (hi : i < 20) : W.cell? ⟨g, i, none⟩ = some (.string (bs (kwB (i + 1)))) := by
  have hl : i < (kw.drop 1).length := hi
  rw [h.2 i hl]
  have := kwd_get ⟨i, hi⟩
  simp only at this
  rw [List.getElem?_eq_getElem hl] at this
  rw [Option.some.inj this]
/-- A word alone, between blanks. -/
theorem ord_alone (k : Nat) (hk : k < 20) : ordM ([32] ++ kwB (k + 1) ++ [9]) = if k + 1 < 9 ∨ 15 < k + 1 then (⟨((k + 1 : Nat) : Int), [], 0⟩, 0) else (zO, 3) := by
  obtain ⟨w1, w2, w3⟩ := kw_word ⟨k + 1, by omega⟩
  simp only at w1 w2 w3
  unfold ordM
  rw [if_neg (by simp only [List.length_append, List.length_cons, List.length_nil]; omega), ws_around [32] _ [9] (by decide) (by decide), ws_one (w3 (by omega)) w1]
  unfold ordL
  simp only [List.headD_cons, List.length_cons, List.length_nil, kindM_of (show k + 1 ≤ 20 by omega)]
  rw [if_neg (by omega)]
  split
  · rw [if_pos trivial]
  · rw [if_pos (by decide)]
theorem ws_first (a : List UInt8) : ∀ (t : List UInt8) (l : List (List UInt8)) (q : Bool), (l ≠ [] ∨ q = false) → ∃ r, (t.foldl wstep (a :: l, q)).1 = a :: r
  | [], l, q, _ => ⟨l, rfl⟩
  | c :: t, l, q, h => by
    rw [List.foldl_cons]
    by_cases hc : c = 32 ∨ c = 9
    · rw [ws_blank _ hc]
      exact ws_first a t l false (.inr rfl)
    · cases q with
      | true =>
        have hl : l ≠ [] := h.resolve_right (by simp)
        obtain ⟨b, r, rfl⟩ : ∃ b r, l = b :: r := by cases l with | nil => exact absurd rfl hl | cons b r => exact ⟨b, r, rfl⟩
        have e : wstep (a :: b :: r, true) c = (a :: ((b :: r).dropLast ++ [(b :: r).getLastD [] ++ [c]]), true) := by unfold wstep; rw [if_neg hc, if_pos rfl]; rfl
        rw [e]
        exact ws_first a t _ true (.inl (by simp))
      | false =>
        rw [wstep_word0 hc, List.cons_append]
        exact ws_first a t _ true (.inl (by simp))
theorem ws_grow : ∀ (t a : List UInt8), ∃ p r, (t.foldl wstep ([a], true)).1 = (a ++ p) :: r ∧ p <+: t
  | [], a => ⟨[], [], by simp, List.prefix_refl _⟩
  | c :: t, a => by
    rw [List.foldl_cons]
    by_cases hc : c = 32 ∨ c = 9
    · rw [ws_blank _ hc]
      obtain ⟨r, hr⟩ := ws_first a t [] false (.inr rfl)
      exact ⟨[], r, by rw [List.append_nil]; exact hr, List.nil_prefix⟩
    · obtain ⟨p, r, h1, h2⟩ := ws_grow t (a ++ [c])
      have e : wstep ([a], true) c = ([a ++ [c]], true) := wstep_word1 (l := []) hc
      refine ⟨c :: p, r, ?_, List.cons_prefix_cons.2 ⟨rfl, h2⟩⟩
      rw [e, h1]
      simp
/-- A word with an x more is none, unless a longer one stands there. -/
theorem ord_more (k : Nat) (hk : k < 20) (m : List UInt8) (hm : m.length ≤ 100)
    (h : ∀ j, j < 20 → ¬ ((kwB (j + 1)).length ≤ (kwB (k + 1) ++ 120 :: m).length ∧ (kwB (k + 1) ++ 120 :: m).take (kwB (j + 1)).length = kwB (j + 1) ∧ (kwB (k + 1)).length < (kwB (j + 1)).length)) :
    ordM (kwB (k + 1) ++ 120 :: m) = (zO, 16) := by
  obtain ⟨w1, w2, w3⟩ := kw_word ⟨k + 1, by omega⟩
  simp only at w1 w2 w3
  have hws : ∃ p r, wsM (kwB (k + 1) ++ 120 :: m) = (kwB (k + 1) ++ 120 :: p) :: r ∧ p <+: m := by
    unfold wsM
    rw [wsS_append]
    unfold wsS
    rw [ws_word0 _ (w3 (by omega)) w1, List.foldl_cons, List.nil_append]
    have e : wstep ([kwB (k + 1)], true) 120 = ([kwB (k + 1) ++ [120]], true) := by unfold wstep; rw [if_neg (by decide)]; rfl
    rw [e]
    obtain ⟨p, r, h1, h2⟩ := ws_grow m (kwB (k + 1) ++ [120])
    exact ⟨p, r, by rw [h1]; simp, h2⟩
  obtain ⟨p, r, h1, h2⟩ := hws
  unfold ordM
  rw [if_neg (by simp only [List.length_append, List.length_cons]; omega), h1]
  unfold ordL
  rw [if_pos]
  rw [List.headD_cons]
  apply Classical.byContradiction
  intro hne
  have hw := kindM_word hne
  have hle := kindM_le (kwB (k + 1) ++ 120 :: p)
  generalize kindM (kwB (k + 1) ++ 120 :: p) = j at *
  obtain ⟨i, rfl⟩ : ∃ i, j = i + 1 := ⟨j - 1, by omega⟩
  refine h i (by omega) ⟨?_, ?_, ?_⟩
  · rw [← hw]
    have := h2.length_le
    simp only [List.length_append, List.length_cons]; omega
  · rw [← hw]
    have hpre : (kwB (k + 1) ++ 120 :: p) <+: (kwB (k + 1) ++ 120 :: m) := by
      obtain ⟨z, rfl⟩ := h2
      exact ⟨z, by simp⟩
    exact (List.prefix_iff_eq_take.1 hpre).symm
  · rw [← hw]; simp
set_option maxRecDepth 100000 in
set_option maxHeartbeats 8000000 in
theorem orderWords_law {X : World → Prop} (HP : PaC X) (HW : WoC X) (HK : KeC X) (n : Nat) (hn : n ≤ 255) (a : ByteArray) (w : World) (hX : X w) :
    Calls Tryd.prog 3 #[.int .u8 n, .string a] w fun e w' => e = .returned (.bool true) ∧ Below w.heap.size w w' := by
  have hK := Lib.hid (fun W (hb : Below w.heap.size w W) => HK w W _ hX hb (Nat.le_refl _))
  have HAW := Lib.hid (fun W (hb : Below w.heap.size w W) => ordAwake_calls HP W (hK.out W hb))
  obtain ⟨m, rfl⟩ : ∃ t, a = bs t := ⟨a.data.toList, by apply WideShapes.bytes_inj; rw [bs_toList]⟩
  have hsz : (bs m).size = m.length := bs_size m
  have hn0 : (0 : Int) ≤ (n : Int) := by omega
  have hn1 : (n : Int) ≤ 255 := by omega
  by_cases hl : 50 < m.length
  · have d1 : decide ((50 : Int) < (m.length : Int)) = true := decide_eq_true (by omega)
    generalize bs m = S at *
    go_enter Tryd.func3, Tryd.ntmps3
    go_wp2_with fail
    refine (HAW.out _ (Below.refl _ _)).mono ?_
    rintro e w1 ⟨rfl, hB1⟩
    have HB1 := Lib.hid hB1
    clear hB1
    go_wp2_with fail
    refine (HAW.out _ HB1.out).mono ?_
    rintro e w2 ⟨rfl, hB2⟩
    have HB2 := Lib.hid (HB1.out.trans (hB2.mono HB1.out.size))
    clear hB2
    go_wp2
    go_ret
    exact ⟨rfl, HB2.out⟩
  · have d1 : decide ((50 : Int) < (m.length : Int)) = false := decide_eq_false (by omega)
    obtain ⟨k, hk⟩ : ∃ k, k = n % 20 := ⟨_, rfl⟩
    have hk20 : k < 20 := by omega
    have er : (n : Int).tmod 20 = (k : Int) := by rw [Int.tmod_eq_emod_of_nonneg hn0]; omega
    have HWC := Lib.hid (fun W (hb : Below w.heap.size w W) => HW W (hK.out W hb))
    have hkl := (kw_word ⟨k + 1, by omega⟩).2.1
    simp only at hkl
    have hA0 : (bs (kwB (k + 1))).size = (kwB (k + 1)).length := bs_size _
    have HPA := Lib.hid (fun W (hb : Below w.heap.size w W) => HP ([32] ++ kwB (k + 1) ++ [9]) (by simp only [List.length_append, List.length_cons, List.length_nil]; omega) W (hK.out W hb))
    have HPU := Lib.hid (fun W (hb : Below w.heap.size w W) => HP (kwB (k + 1) ++ 120 :: m) (by simp only [List.length_append, List.length_cons]; omega) W (hK.out W hb))
    have hAL := ord_alone k hk20
    have HMO := Lib.hid (fun h => ord_more k hk20 m (by omega) h)
    have HE1 : Hid ((⟨#[32]⟩ : ByteArray) ++ bs (kwB (k + 1)) ++ ⟨#[9]⟩ = bs ([32] ++ kwB (k + 1) ++ [9])) := Lib.hid (by
      rw [show (⟨#[32]⟩ : ByteArray) = bs [32] from rfl, show (⟨#[9]⟩ : ByteArray) = bs [9] from rfl, bs_app, bs_app])
    have HE2 : Hid (bs (kwB (k + 1)) ++ (⟨#[120]⟩ : ByteArray) ++ bs m = bs (kwB (k + 1) ++ 120 :: m)) := Lib.hid (by
      rw [show (⟨#[120]⟩ : ByteArray) = bs [120] from rfl, bs_app, bs_app]; simp)
    obtain ⟨A, hA⟩ : ∃ A, A = bs (kwB (k + 1)) := ⟨_, rfl⟩
    have HA := Lib.hid hA
    obtain ⟨u, hu⟩ : ∃ u, u = kwB (k + 1) ++ 120 :: m := ⟨_, rfl⟩
    have hul : u.length = (kwB (k + 1)).length + 1 + m.length := by rw [hu]; simp only [List.length_append, List.length_cons]; omega
    rw [← hA] at HE1 HE2 hA0
    rw [← hu] at HPU HMO HE2
    generalize [32] ++ kwB (k + 1) ++ [9] = u1 at *
    clear hA hu hk
    generalize hS : bs m = S at *
    clear hS
    have HLK : Hid ((kwB (k + 1)).length = A.size) := Lib.hid hA0.symm
    rw [HLK.out] at HMO hul
    have hAz : A.size ≤ 7 := by omega
    have g1 : (9223372036854775807 < 1 + A.size) = False := eq_false (by omega)
    have g2 : (9223372036854775807 < 1 + A.size + 1) = False := eq_false (by omega)
    have g3 : (9223372036854775807 < A.size + 1) = False := eq_false (by omega)
    have g4 : (9223372036854775807 < A.size + 1 + S.size) = False := eq_false (by omega)
    have g5 : (9223372036854775807 < A.size + 1 + m.length) = False := eq_false (by omega)
    have hk0 : (0 : Int) ≤ (k : Int) := by omega
    have hk1 : (k : Int) < 20 := by omega
    clear hA0 hkl
    go_enter Tryd.func3, Tryd.ntmps3
    go_wp2_with fail
    refine (HAW.out _ (Below.refl _ _)).mono ?_
    rintro e w1 ⟨rfl, hB1⟩
    have HB1 := Lib.hid hB1
    clear hB1
    go_wp2_with fail
    refine (HWC.out _ HB1.out).mono ?_
    rintro e w2 ⟨⟨g, c, rfl, hrow⟩, hB2⟩
    have HB2 := Lib.hid (HB1.out.trans (hB2.mono HB1.out.size))
    have HR := Lib.hid hrow
    have HC := Lib.hid (show ∀ W, Below w2.heap.size w2 W → ∀ i, i < 20 → W.cell? ⟨g, i, none⟩ = some (.string (bs (kwB (i + 1)))) from fun W hW i hi => rowS_kw (HR.out.below hW HR.out.1) i hi)
    clear hB2 hrow
    have xk := HC.out w2 (Below.refl _ _) k hk20
    rw [← HA.out] at xk
    have hcs : ∃ (kk : Int) (cc : Nat), ordM u1 = (⟨kk, [], 0⟩, cc) ∧ ((decide ((k : Int) + 1 < 9) = true ∧ kk = (k : Int) + 1 ∧ cc = 0) ∨ (decide ((k : Int) + 1 < 9) = false ∧ decide ((15 : Int) < (k : Int) + 1) = true ∧ kk = (k : Int) + 1 ∧ cc = 0) ∨ (decide ((k : Int) + 1 < 9) = false ∧ decide ((15 : Int) < (k : Int) + 1) = false ∧ kk = 0 ∧ cc = 3)) := by
      rw [hAL]
      by_cases h9 : k + 1 < 9
      · exact ⟨((k + 1 : Nat) : Int), 0, by rw [if_pos (.inl h9)], .inl ⟨decide_eq_true (by omega), by omega, rfl⟩⟩
      · by_cases h15 : 15 < k + 1
        · exact ⟨((k + 1 : Nat) : Int), 0, by rw [if_pos (.inr h15)], .inr (.inl ⟨decide_eq_false (by omega), decide_eq_true (by omega), by omega, rfl⟩)⟩
        · exact ⟨0, 3, by rw [if_neg (fun h => h.elim h9 h15)]; rfl, .inr (.inr ⟨decide_eq_false (by omega), decide_eq_false (by omega), rfl, rfl⟩)⟩
    obtain ⟨kk, cc, hor, hcs⟩ := hcs
    rw [hor, ← HE1.out] at HPA
    rw [← HE2.out] at HPU
    unfold ordV at HPA
    dsimp only at HPA
    rw [show bs [] = ⟨#[]⟩ from rfl] at HPA
    have HRU : Hid (ordM u = ordM u) := Lib.hid rfl
    generalize hrr : ordM u = r at HPU HMO HRU
    obtain ⟨⟨k2, m2, u2⟩, c2⟩ := r
    unfold ordV at HPU
    dsimp only at HPU
    generalize bs m2 = N2 at *
    clear hAL hor hrr HRU HE1
    go_wp2_with fail
    refine (HPA.out _ HB2.out).mono ?_
    rintro e w3 ⟨rfl, hB3⟩
    have HB3 := Lib.hid (HB2.out.trans (hB3.mono HB2.out.size))
    have HK3 := Lib.hid hB3
    clear hB3 xk
    have HX3 := Lib.hid (heapOne w3 #[.int .i64 kk, .string ⟨#[]⟩, .int .i64 0] 26)
    have HB3a := Lib.hid (HB3.out.alloc HB3.out.size (.cells #[.int .i64 kk, .string ⟨#[]⟩, .int .i64 0] 26))
    have HK3a := Lib.hid (HK3.out.alloc HK3.out.size (.cells #[.int .i64 kk, .string ⟨#[]⟩, .int .i64 0] 26))
    have xk := HC.out _ HK3a.out k hk20
    rw [← HA.out] at xk
    obtain ⟨x0, x1, x2⟩ := box3c HX3.out
    rcases hcs with ⟨f1, rfl, rfl⟩ | ⟨f1, f2, rfl, rfl⟩ | ⟨f1, f2, rfl, rfl⟩
    all_goals
      go_wp2_with fail
      generalize w3.alloc (.cells #[_, .string ⟨#[]⟩, .int .i64 0] 26) = w4 at *
      refine (HPU.out _ HB3a.out).mono ?_
      rintro e w5 ⟨rfl, hB5⟩
      have HB5 := Lib.hid (HB3a.out.trans (hB5.mono HB3a.out.size))
      have HK5 := Lib.hid (HK3a.out.trans (hB5.mono HK3a.out.size))
      clear hB5 xk x0 x1 x2
      have HB6 := Lib.hid (HB5.out.alloc HB5.out.size (.cells #[.int .i64 k2, .string N2, .int .i64 u2] 26))
      have HK6 := Lib.hid (HK5.out.alloc HK5.out.size (.cells #[.int .i64 k2, .string N2, .int .i64 u2] 26))
      go_wp2
      generalize w5.alloc (.cells #[.int .i64 k2, .string N2, .int .i64 u2] 26) = w6 at *
      go_loopw [13, 80] (fun _ i wr => ∃ j : Nat, j ≤ 20 ∧ i = .int .i64 j ∧ wr = w6 ∧ Hid (∀ x, x < j → ¬ ((kwB (x + 1)).length ≤ u.length ∧ u.take (kwB (x + 1)).length = kwB (x + 1) ∧ A.size < (kwB (x + 1)).length))) (fun _ i _ => 20 - (intOf i).toNat)
      case atStart => exact ⟨0, by omega, rfl, rfl, Lib.hid (fun x hx => by omega)⟩
      case round =>
        obtain ⟨j, hj, rfl, rfl, HJ⟩ := hrel
        by_cases hlt : j < 20
        · have xk := HC.out _ HK6.out k hk20
          rw [← HA.out] at xk
          have xj := HC.out _ HK6.out j hlt
          have hjl := (kw_word ⟨j + 1, by omega⟩).2.1
          simp only at hjl
          have HJ2 := Lib.hid (fun (h : ¬ ((kwB (j + 1)).length ≤ u.length ∧ u.take (kwB (j + 1)).length = kwB (j + 1) ∧ A.size < (kwB (j + 1)).length)) x (hx : x < j + 1) => show ¬ ((kwB (x + 1)).length ≤ u.length ∧ u.take (kwB (x + 1)).length = kwB (x + 1) ∧ A.size < (kwB (x + 1)).length) from by
            by_cases hxj : x = j
            · subst hxj; exact h
            · exact HJ.out x (by omega))
          have hbz : (bs (kwB (j + 1))).size = (kwB (j + 1)).length := bs_size _
          have HXT : Hid ((A ++ (⟨#[120]⟩ : ByteArray) ++ S).extract 0 (kwB (j + 1)).length = bs (u.take (kwB (j + 1)).length)) := Lib.hid (by rw [HE2.out, extC]; simp)
          have HQE := Lib.hid (fun (h : u.take (kwB (j + 1)).length ≠ kwB (j + 1)) => str_neL h)
          have HQI := Lib.hid (fun (h : u.take (kwB (j + 1)).length = kwB (j + 1)) => show ((bs (u.take (kwB (j + 1)).length)).toList == (bs (kwB (j + 1))).toList) = true from by rw [h]; exact beq_self_eq_true _)
          obtain ⟨W, hW⟩ : ∃ W, W = bs (kwB (j + 1)) := ⟨_, rfl⟩
          rw [← hW] at xj hbz HQE HQI
          generalize kwB (j + 1) = kj at *
          clear hW
          generalize hkl : kj.length = lj at *
          have hx0 := HXT.out
          have hl0 : (0 : Int) ≤ (lj : Int) := by omega
          by_cases c1 : lj ≤ u.length
          · have q1 : decide ((lj : Int) ≤ ((A.size : Int) + 1 + (m.length : Int))) = true := decide_eq_true (by omega)
            have q1' : lj ≤ A.size + 1 + m.length := by omega
            have q1'' : (lj : Int) ≤ (A.size : Int) + 1 + (m.length : Int) := by omega
            by_cases c2' : u.take lj = kj
            · have q2 := HQI.out c2'
              by_cases c3 : A.size < lj
              · have q3 : decide ((A.size : Int) < (lj : Int)) = true := decide_eq_true (by omega)
                clear HQI HQE HJ2 HXT
                generalize bs (u.take lj) = T at *
                go_wp2
                go_ret
                exact ⟨rfl, HB6.out⟩
              · have q3 : decide ((A.size : Int) < (lj : Int)) = false := decide_eq_false (by omega)
                have q3' : decide (A.size < lj) = false := decide_eq_false c3
                have HJ3 := Lib.hid (HJ2.out (fun h => c3 h.2.2))
                clear HQI HQE HJ2 HXT c3
                generalize bs (u.take lj) = T at *
                go_wp2
                go_roundw
                case rel => exact ⟨j + 1, by omega, by go_num, trivial, HJ3⟩
                case measure => simp [intOf]; omega
            · have q2 := HQE.out c2'
              have HJ3 := Lib.hid (HJ2.out (fun h => c2' h.2.1))
              clear HQI HQE HJ2 HXT
              generalize bs (u.take lj) = T at *
              go_wp2
              go_roundw
              case rel => exact ⟨j + 1, by omega, by go_num, trivial, HJ3⟩
              case measure => simp [intOf]; omega
          · have q1 : decide ((lj : Int) ≤ ((A.size : Int) + 1 + (m.length : Int))) = false := decide_eq_false (by omega)
            have q1' : decide (lj ≤ A.size + 1 + m.length) = false := decide_eq_false (by omega)
            have HJ3 := Lib.hid (HJ2.out (fun h => c1 h.1))
            clear HQI HQE HJ2 HXT
            go_wp2
            go_roundw
            case rel => exact ⟨j + 1, by omega, by go_num, trivial, HJ3⟩
            case measure => simp [intOf]; omega
        · obtain rfl : j = 20 := by omega
          have hc := HMO.out HJ.out
          injection hc with _ hc
          subst hc
          go_wp2
          go_ret
          exact ⟨rfl, HB6.out⟩
end Go.Proofs.YtdknejmhlfpdfaaDoor
