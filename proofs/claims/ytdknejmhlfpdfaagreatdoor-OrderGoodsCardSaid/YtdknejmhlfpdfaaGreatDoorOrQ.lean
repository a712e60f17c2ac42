/-
  rewindref18.Parse: what a line says.
-/
import Derived.Test.YtdknejmhlfpdfaaGreatDoorOrP
import Derived.Deep.RegionWith
import Derived.BigQuiet
namespace Go.Proofs.YtdknejmhlfpdfaaGreatDoor
open Go.RowKit

def ansO (p : OrdM × Nat) : Ending := .returned (.tuple #[.int .i64 p.1.kind, .string (bs p.1.name), .int .i64 p.1.num, .int .i64 (p.2 : Int)])
/-- What a line of these words says, its first word's kind being K. -/
def ordK (K : Nat) (l : List (List UInt8)) : OrdM × Nat :=
  if K = 0 then (zO, 16)
  else if K < 9 ∨ 15 < K then (if l.length = 1 then (⟨K, [], 0⟩, 0) else (zO, 3))
  else if l.length ≠ 2 then (zO, 3)
  else if K < 12 then (match numO (l.getD 1 []) with | some n => (⟨K, [], n⟩, 0) | none => (zO, 3))
  else (match plM (l.getD 1 []) with | some p => (⟨K, p.1, p.2⟩, 0) | none => (zO, 3))
theorem ordL_eq (l : List (List UInt8)) : ordL l = ordK (kindM (l.headD [])) l := rfl
theorem takeTo_eq {b : List UInt8} {i : Nat} (hi : i ≤ b.length) (h : ∀ j (h : j < b.length), j < i → b[j] ≠ 91) (he : ∀ h : i < b.length, b[i] = 91) : i = (b.takeWhile (· != 91)).length := by
  induction b generalizing i with
  | nil => simp at hi; subst hi; rfl
  | cons c r ih =>
    rw [List.takeWhile_cons]
    cases i with
    | zero =>
      have := he (by simp)
      simp only [List.getElem_cons_zero] at this
      subst this
      rfl
    | succ k =>
      have hc := h 0 (by simp) (by omega)
      simp only [List.getElem_cons_zero] at hc
      rw [if_pos (by simpa using hc)]
      have := ih (i := k) (by simpa using hi) (fun j hj hjk => h (j + 1) (by simp; omega) (by omega)) (fun hk => he (by simp; omega))
      rw [List.length_cons, ← this]
theorem plM_cases (b : List UInt8) : (isNm (b.takeWhile (· != 91)) = false → plM b = none) ∧
    (isNm (b.takeWhile (· != 91)) = true → (b.takeWhile (· != 91)).length = b.length → plM b = some (b, -1) ∧ b.takeWhile (· != 91) = b) ∧
    (isNm (b.takeWhile (· != 91)) = true → (b.takeWhile (· != 91)).length < b.length → (∀ e (h : e < b.length), e + 1 = b.length → (b.takeWhile (· != 91)).length < e → b[e] = 93 →
      plM b = (numO ((b.drop ((b.takeWhile (· != 91)).length + 1)).take (e - ((b.takeWhile (· != 91)).length + 1)))).map fun n => (b.takeWhile (· != 91), n)) ∧
      (∀ e (h : e < b.length), e + 1 = b.length → (e ≤ (b.takeWhile (· != 91)).length ∨ b[e] ≠ 93) → plM b = none)) := by
  generalize hm : b.takeWhile (· != 91) = m
  have hu : plM b = if isNm m = true then (if m.length = b.length then some (b, -1) else if (b.drop (m.length + 1)).getLast? = some 93 then (numO (b.drop (m.length + 1)).dropLast).map fun n => (m, n) else none) else none := by
    unfold plM; rw [hm]
  refine ⟨fun h => by rw [hu, if_neg (by rw [h]; simp)], fun h hl => ⟨by rw [hu, if_pos h, if_pos hl], ?_⟩, fun h hl => ⟨fun e he h1 h2 h3 => ?_, fun e he h1 h2 => ?_⟩⟩
  · subst hm; exact (List.takeWhile_prefix _).eq_of_length hl
  · have hlast : (b.drop (m.length + 1)).getLast? = some 93 := by
      rw [List.getLast?_eq_getElem?, List.getElem?_drop, List.length_drop, show m.length + 1 + (b.length - (m.length + 1) - 1) = e by omega, List.getElem?_eq_getElem he, h3]
    rw [hu, if_pos h, if_neg (by omega), if_pos hlast, List.dropLast_eq_take, List.length_drop, show b.length - (m.length + 1) - 1 = e - (m.length + 1) by omega]
  · have hlast : (b.drop (m.length + 1)).getLast? ≠ some 93 := by
      rw [List.getLast?_eq_getElem?, List.getElem?_drop, List.length_drop]
      by_cases hle : e ≤ m.length
      · rw [List.getElem?_eq_none (by omega)]; simp
      · rw [show m.length + 1 + (b.length - (m.length + 1) - 1) = e by omega, List.getElem?_eq_getElem he]
        intro hc
        exact (h2.resolve_left hle) (Option.some.inj hc)
    rw [hu, if_pos h, if_neg (by omega), if_neg hlast]
theorem kindUp_nil : ∀ k : Fin 21, kindUp [] k.1 = 0 := by decide
theorem ordL_nil : ordL [] = (zO, 16) := by unfold ordL; rw [if_pos (by decide)]
theorem kindUp_succ (w : List UInt8) (k : Nat) : kindUp w (k + 1) = if w = kwB (k + 1) then k + 1 else kindUp w k := rfl
/-- Where a row of texts lies, behind calls that make memory alone. -/
def RowS (W : World) (g : Nat) (L : List (List UInt8)) : Prop := g < W.heap.size ∧ ∀ i (h : i < L.length), W.cell? ⟨g, i, none⟩ = some (.string (bs L[i]))
theorem RowS.below {W W' : World} {B g : Nat} {L : List (List UInt8)} (h : RowS W g L) (hb : Below B W W') (hg : g < B) : RowS W' g L :=
  ⟨Nat.lt_of_lt_of_le h.1 hb.size, fun i hi => (hb.cell (p := ⟨g, i, none⟩) hg).trans (h.2 i hi)⟩
theorem row_of {w : World} {base n : Nat} {v : Value} {L : List (List UInt8)} (h : w.ownsRow base 9 1 v n (strsP L)) (hn : L.length = n) (h0 : 0 < n) : ∃ g c, v = .slice (some ⟨g, 0, none⟩) n c ∧ RowS w g L := by
  obtain ⟨g, cap, hv, hg1, hg2, hc1, hc2, hcl⟩ := own_cellC h h0
  subst hv
  refine ⟨g, cap, rfl, (own_ltC h g rfl).2, fun i hi => ?_⟩
  rw [hcl i (by omega)]
  simp [strsP, hi]
set_option maxRecDepth 100000 in
set_option maxHeartbeats 4000000 in
theorem ordParse_calls (t : List UInt8) (ht : t.length ≤ 100000) (w : World) : Calls Tryz.prog 7 #[.string (bs t)] w fun e w' => e = ansO (ordM t) ∧ Below w.heap.size w w' := by
  have hsz : (bs t).size = t.length := bs_size t
  by_cases hl : 200 < t.length
  · have HR : Hid (ordM t = (zO, 1)) := Lib.hid (by unfold ordM; rw [if_pos hl])
    have d1 : decide ((200 : Int) < (t.length : Int)) = true := decide_eq_true (by omega)
    generalize bs t = S at *
    go_enter Tryz.func7, Tryz.ntmps7
    go_wp2
    exact bodyPost_ret (v := .tuple #[.int .i64 0, .string ⟨#[]⟩, .int .i64 0, .int .i64 1]) (by simp [results, Tryz.f7, go_sem]) rfl ⟨by rw [HR.out]; rfl, Below.refl _ _⟩
  · have HO : Hid (ordM t = ordL (wsM t)) := Lib.hid (by unfold ordM; rw [if_neg hl])
    have d1 : decide ((200 : Int) < (t.length : Int)) = false := decide_eq_false (by omega)
    have HS := Lib.hid (ordSplit_calls t ht w)
    have HL := Lib.hid (ws_len t)
    have HM := Lib.hid (wsS_len t t.length)
    rw [List.take_length] at HM
    have HM2 : Hid (∀ l ∈ wsM t, l.length ≤ 200) := Lib.hid (fun l hl => by have := HM.out.2 l hl; omega)
    clear HM
    generalize hS : bs t = S at *
    clear hS
    go_enter Tryz.func7, Tryz.ntmps7
    go_wp2_with fail
    refine HS.out.mono ?_
    rintro e w1 ⟨hB, v, rfl, hown⟩
    have HB := Lib.hid hB
    clear hB HS
    have hLL := HL.out
    generalize wsM t = L at *
    by_cases hn : L = []
    · have HR : Hid (ordL L = (zO, 16)) := Lib.hid (by subst hn; exact ordL_nil)
      subst hn
      obtain ⟨A, c, hv⟩ := own_sliceC hown
      subst hv
      clear hown hLL
      go_wp2
      go_loopw [7, 8] (fun q k wr => ∃ m : Nat, 1 ≤ m ∧ m ≤ 21 ∧ k = .int .i64 m ∧ q = .int .i64 0 ∧ Hid (Below w.heap.size w wr)) (fun _ k _ => 21 - (intOf k).toNat)
      case atStart => exact ⟨1, by omega, by omega, rfl, rfl, HB⟩
      case round =>
        obtain ⟨m, hm0, hm, rfl, rfl, HB2⟩ := hrel
        by_cases hlt : m < 21
        · have e1 : decide ((m : Int) ≤ 20) = true := decide_eq_true (by omega)
          have e2 : decide ((0 : Int) < ((([] : List (List UInt8)).length : Nat) : Int)) = false := by decide
          go_wp2_with fail
          go_quiet (fail)
          go_wp2
          go_roundw
          case rel => exact ⟨m + 1, by omega, by omega, by go_num, rfl, Lib.hid (below_drewC HB2.out _)⟩
          case measure => simp [intOf]; omega
        · obtain rfl : m = 21 := by omega
          go_wp2
          exact bodyPost_ret (v := .tuple #[.int .i64 0, .string ⟨#[]⟩, .int .i64 0, .int .i64 16]) (by simp [results, Tryz.f7, go_sem]) rfl ⟨by rw [HO.out, HR.out]; rfl, HB2.out⟩
    · have hpos : 0 < L.length := List.length_pos_iff.2 hn
      obtain ⟨g, c, hv, hrow⟩ := row_of hown rfl hpos
      subst hv
      obtain ⟨a, ha⟩ : ∃ a, a = L[0] := ⟨_, rfl⟩
      have HA : Hid (L.headD [] = a) := Lib.hid (by rw [ha]; cases L with | nil => exact absurd rfl hn | cons _ _ => rfl)
      have H0 : Hid (∀ W, Below w1.heap.size w1 W → W.cell? ⟨g, 0, none⟩ = some (.string (bs a))) := Lib.hid (fun W hW => by rw [ha]; exact (hrow.below hW hrow.1).2 0 hpos)
      have HROW := Lib.hid hrow
      have e0 : decide ((0 : Int) < (L.length : Int)) = true := decide_eq_true (by omega)
      clear hown hrow hn ha
      obtain ⟨nn, hnn⟩ : ∃ nn, nn = L.length := ⟨_, rfl⟩
      rw [← hnn] at e0 hpos hLL ⊢
      have HNN := Lib.hid hnn
      clear hnn
      go_wp2
      go_loopw [7, 8] (fun q k wr => ∃ m : Nat, 1 ≤ m ∧ m ≤ 21 ∧ k = .int .i64 m ∧ q = .int .i64 (kindUp a (m - 1) : Nat) ∧ Hid (Below w1.heap.size w1 wr)) (fun _ k _ => 21 - (intOf k).toNat)
      case atStart => exact ⟨1, by omega, by omega, rfl, rfl, Lib.hid (Below.refl _ _)⟩
      case round =>
        obtain ⟨m, hm0, hm, rfl, rfl, HB2⟩ := hrel
        by_cases hlt : m < 21
        · have e1 : decide ((m : Int) ≤ 20) = true := decide_eq_true (by omega)
          have HK := Lib.hid (kindUp_succ a (m - 1))
          rw [show m - 1 + 1 = m by omega] at HK
          have xc0 := H0.out wr HB2.out
          have xc1 := newC xc0 (.cells kwV 9)
          have xk := kwV_cell wr m hlt
          have hq0 := str_eqC (a := a) (b := kwB m)
          have HB3 := Lib.hid (HB2.out.alloc HB2.out.size (.cells kwV 9))
          generalize hkw : kwB m = kwm at *
          clear hkw
          by_cases he : a = kwm
          · have hq : ((bs a).toList == (bs kwm).toList) = true := by rw [hq0]; exact decide_eq_true he
            have HKK : Hid (kindUp a m = m) := Lib.hid (by rw [HK.out, if_pos he])
            clear hq0 he HK
            generalize bs a = ba at *
            generalize bs kwm = bk at *
            go_wp2_with fail
            go_region_with (go_at_call 15; refine (ordWords_calls _).mono ?_; rintro e w' ⟨rfl, rfl⟩)
            all_goals
              go_wp2
              go_roundw
              case rel => exact ⟨m + 1, by omega, by omega, by go_num, by rw [show m + 1 - 1 = m by omega, HKK.out], Lib.hid (below_drewC HB3.out _)⟩
              case measure => simp [intOf]; omega
          · have hq : ((bs a).toList == (bs kwm).toList) = false := by rw [hq0]; exact decide_eq_false he
            have HKK : Hid (kindUp a m = kindUp a (m - 1)) := Lib.hid (by rw [HK.out, if_neg he])
            clear hq0 he HK
            generalize bs a = ba at *
            generalize bs kwm = bk at *
            generalize kindUp a (m - 1) = kq at *
            go_wp2_with fail
            go_region_with (go_at_call 15; refine (ordWords_calls _).mono ?_; rintro e w' ⟨rfl, rfl⟩)
            all_goals
              go_wp2
              go_roundw
              case rel => exact ⟨m + 1, by omega, by omega, by go_num, by rw [show m + 1 - 1 = m by omega, HKK.out], Lib.hid (below_drewC HB3.out _)⟩
              case measure => simp [intOf]; omega
        · obtain rfl : m = 21 := by omega
          have HBW := Lib.hid (HB.out.trans (HB2.out.mono HB.out.size))
          have HKM : Hid (ordL L = ordK (kindUp a 20) L) := Lib.hid (by rw [ordL_eq, HA.out]; rfl)
          have hK20 : kindUp a 20 ≤ 20 := kind_le a 20
          rw [show 21 - 1 = 20 from rfl]
          generalize kindUp a 20 = K at *
          clear HA H0 hlt hm hm0
          by_cases hK0 : K = 0
          · subst hK0
            have HR : Hid (ordL L = (zO, 16)) := Lib.hid (by rw [HKM.out]; rfl)
            clear HKM
            go_wp2
            exact bodyPost_ret (v := .tuple #[.int .i64 0, .string ⟨#[]⟩, .int .i64 0, .int .i64 16]) (by simp [results, Tryz.f7, go_sem]) rfl ⟨by rw [HO.out, HR.out]; rfl, HBW.out⟩
          · have f0 : ((K : Int) == 0) = false := beq_eq_false_iff_ne.2 (by omega)
            have f0' : (K == 0) = false := beq_eq_false_iff_ne.2 hK0
            by_cases hb : K < 9 ∨ 15 < K
            · have hcase : decide ((K : Int) < 9) = true ∨ (decide ((K : Int) < 9) = false ∧ decide ((15 : Int) < (K : Int)) = true) := by
                by_cases h9 : K < 9
                · exact .inl (decide_eq_true (by omega))
                · exact .inr ⟨decide_eq_false (by omega), decide_eq_true (by omega)⟩
              by_cases h1 : nn = 1
              · have HR : Hid (ordL L = (⟨K, [], 0⟩, 0)) := Lib.hid (by rw [HKM.out]; unfold ordK; rw [if_neg hK0, if_pos hb, if_pos (by rw [← HNN.out]; exact h1)])
                subst h1
                clear HKM hb HNN hLL hpos e0
                rcases hcase with f1 | ⟨f1, f2⟩
                all_goals
                  go_wp2
                  exact bodyPost_ret (v := .tuple #[.int .i64 K, .string ⟨#[]⟩, .int .i64 0, .int .i64 0]) (by simp [results, Tryz.f7, go_sem]) rfl ⟨by rw [HO.out, HR.out]; rfl, HBW.out⟩
              · have HR : Hid (ordL L = (zO, 3)) := Lib.hid (by rw [HKM.out]; unfold ordK; rw [if_neg hK0, if_pos hb, if_neg (by rw [← HNN.out]; exact h1)])
                have f3 : ((nn : Int) == 1) = false := beq_eq_false_iff_ne.2 (by omega)
                have f3' : (nn == 1) = false := beq_eq_false_iff_ne.2 h1
                clear HKM hb HNN hLL hpos e0 h1
                rcases hcase with f1 | ⟨f1, f2⟩
                all_goals
                  go_wp2
                  exact bodyPost_ret (v := .tuple #[.int .i64 0, .string ⟨#[]⟩, .int .i64 0, .int .i64 3]) (by simp [results, Tryz.f7, go_sem]) rfl ⟨by rw [HO.out, HR.out]; rfl, HBW.out⟩
            · have f1 : decide ((K : Int) < 9) = false := decide_eq_false (by omega)
              have f2 : decide ((15 : Int) < (K : Int)) = false := decide_eq_false (by omega)
              by_cases h2 : nn = 2
              · have hlen : L.length = 2 := by rw [← HNN.out]; exact h2
                subst h2
                obtain ⟨a2, b, rfl⟩ : ∃ a2 b, L = [a2, b] := by
                  match L, hlen with
                  | [x, y], _ => exact ⟨x, y, rfl⟩
                have H1 : Hid (∀ W, Below w1.heap.size w1 W → W.cell? ⟨g, 1, none⟩ = some (.string (bs b))) := Lib.hid (fun W hW => (HROW.out.below hW HROW.out.1).2 1 (by simp))
                have hbl : b.length ≤ 200 := HM2.out b (by simp)
                by_cases h12 : K < 12
                · have f3 : decide ((K : Int) < 12) = true := decide_eq_true (by omega)
                  have HKN : Hid (ordL [a2, b] = match numO b with | some n => (⟨K, [], n⟩, 0) | none => (zO, 3)) := Lib.hid (by rw [HKM.out]; unfold ordK; rw [if_neg hK0, if_neg hb, if_neg (by simp), if_pos h12]; rfl)
                  have HNC := Lib.hid (fun W => ordNumber_calls b (by omega) W)
                  have xc := H1.out wr HB2.out
                  clear HKM hb HNN hLL hpos e0 h12 hlen H1 HROW hbl
                  generalize bs b = bb at *
                  go_wp2_with fail
                  refine (HNC.out _).mono ?_
                  rintro e w2 ⟨hB3, hR⟩
                  have HB3 := Lib.hid (HBW.out.trans (hB3.mono HBW.out.size))
                  clear hB3 xc
                  rcases hR with ⟨n, hn, rfl⟩ | ⟨hn, n, rfl⟩
                  · have HR : Hid (ordL [a2, b] = (⟨K, [], n⟩, 0)) := Lib.hid (by rw [HKN.out, hn])
                    clear hn HKN
                    go_wp2
                    exact bodyPost_ret (v := .tuple #[.int .i64 K, .string ⟨#[]⟩, .int .i64 n, .int .i64 0]) (by simp [results, Tryz.f7, go_sem]) rfl ⟨by rw [HO.out, HR.out]; rfl, HB3.out⟩
                  · have HR : Hid (ordL [a2, b] = (zO, 3)) := Lib.hid (by rw [HKN.out, hn])
                    clear hn HKN
                    go_wp2
                    exact bodyPost_ret (v := .tuple #[.int .i64 0, .string ⟨#[]⟩, .int .i64 0, .int .i64 3]) (by simp [results, Tryz.f7, go_sem]) rfl ⟨by rw [HO.out, HR.out]; rfl, HB3.out⟩
                · have f3 : decide ((K : Int) < 12) = false := decide_eq_false (by omega)
                  have HKN : Hid (ordL [a2, b] = match plM b with | some p => (⟨K, p.1, p.2⟩, 0) | none => (zO, 3)) := Lib.hid (by rw [HKM.out]; unfold ordK; rw [if_neg hK0, if_neg hb, if_neg (by simp), if_neg h12]; rfl)
                  have xc := H1.out wr HB2.out
                  have hbz : (bs b).size = b.length := bs_size b
                  have HGG : Hid (∀ (k : Nat) (h : k < (bs b).size) (h' : k < b.length), (bs b)[k]'h = b[k]) := Lib.hid (fun k h h' => rfl)
                  have HXT : Hid (∀ x y, (bs b).extract x y = bs ((b.drop x).take (y - x))) := Lib.hid (fun x y => extC b x y)
                  clear HKM hb HNN hLL hpos e0 h12 hlen H1 HROW
                  generalize hbb : bs b = bb at *
                  clear hbb
                  go_wp2
                  go_loopw [11] (fun q wq => ∃ i : Nat, i ≤ b.length ∧ q = .int .i64 i ∧ wq = wr ∧ Hid (∀ j (h : j < b.length), j < i → b[j] ≠ 91)) (fun q _ => b.length - (intOf q).toNat)
                  case atStart => exact ⟨0, by omega, rfl, rfl, Lib.hid (fun j _ hj => by omega)⟩
                  case round =>
                    obtain ⟨i, hi, rfl, rfl, HJ⟩ := hrel
                    by_cases hgo : i < b.length ∧ ∃ h : i < b.length, b[i] ≠ 91
                    · obtain ⟨hi1, hi2, h91⟩ := hgo
                      have his : i < bb.size := by omega
                      have hx := HGG.out i his hi1
                      have g0 : (0 : Int) ≤ (i : Int) := by omega
                      have g1 : decide ((i : Int) < (b.length : Int)) = true := decide_eq_true (by omega)
                      have g2 : (((bb[i]'his).toNat : Int) == 91) = false := by rw [hx]; exact u8_ne (fun h => h91 (UInt8.toNat_inj.1 (by simpa using h)))
                      have HJ2 : Hid (∀ j (h : j < b.length), j < i + 1 → b[j] ≠ 91) := Lib.hid (fun j h hj => by
                        by_cases e : j = i
                        · subst e; exact h91
                        · exact HJ.out j h (by omega))
                      clear hx h91
                      go_wp2
                      go_roundw
                      case rel => exact ⟨i + 1, by omega, by go_num, trivial, HJ2⟩
                      case measure => simp [intOf]; omega
                    · have HTI : Hid (i = (b.takeWhile (· != 91)).length) := Lib.hid (takeTo_eq hi HJ.out (fun h => by
                        by_cases e : b[i] = 91
                        · exact e
                        · exact absurd ⟨h, h, e⟩ hgo))
                      have hstop : (decide ((i : Int) < (b.length : Int)) = false ∧ decide (i < b.length) = false) ∨ (decide ((i : Int) < (b.length : Int)) = true ∧ ∃ h : i < bb.size, (((bb[i]'h).toNat : Int) == 91) = true) := by
                        by_cases h : i < b.length
                        · refine .inr ⟨decide_eq_true (by omega), by omega, ?_⟩
                          by_cases e : b[i] = 91
                          · rw [HGG.out i (by omega) h, e]; rfl
                          · exact absurd ⟨h, h, e⟩ hgo
                        · exact .inl ⟨decide_eq_false (by omega), decide_eq_false h⟩
                      clear hgo HJ
                      have hi2 : i ≤ 200 := by omega
                      have hnm : b.take i = b.takeWhile (· != 91) := by rw [HTI.out]; exact (List.prefix_iff_eq_take.1 (List.takeWhile_prefix _)).symm
                      have hnl : (b.takeWhile (· != 91)).length = i := HTI.out.symm
                      have hx0 : bb.extract 0 i = bs (b.takeWhile (· != 91)) := by rw [HXT.out, ← hnm]; simp
                      have HPL := plM_cases b
                      have HXT2 := Lib.hid hx0
                      generalize b.takeWhile (· != 91) = nm at *
                      have HNC := Lib.hid (fun W => refIsName_calls nm (by omega) W)
                      have i0 : (0 : Int) ≤ (i : Int) := by omega
                      have i1 : (i : Int) ≤ (b.length : Int) := by omega
                      have HNL := Lib.hid hnl
                      have HNM := Lib.hid hnm
                      clear hnm hnl
                      generalize hr : isNm nm = r at *
                      generalize hbn : bs nm = bn at *
                      have HBN := Lib.hid hbn
                      clear hbn
                      rcases hstop with ⟨q1, q0⟩ | ⟨q1, q2, q3⟩
                      all_goals
                        go_wp2_with fail
                        refine (HNC.out _).mono ?_
                        rintro e w2 ⟨rfl, hB3⟩
                        have HB3 := Lib.hid (HBW.out.trans (hB3.mono HBW.out.size))
                        have xd := (keepC hB3 xc (ltC xc))
                        clear hB3
                        cases r
                        case false =>
                          have HR : Hid (ordL [a2, b] = (zO, 3)) := Lib.hid (by rw [HKN.out, (HPL.1 rfl)])
                          clear HPL HKN
                          go_wp2
                          exact bodyPost_ret (v := .tuple #[.int .i64 0, .string ⟨#[]⟩, .int .i64 0, .int .i64 3]) (by simp [results, Tryz.f7, go_sem]) rfl ⟨by rw [HO.out, HR.out]; rfl, HB3.out⟩
                        case true =>
                          have hp2 := HPL.2.1 rfl
                          have hp3 := HPL.2.2 rfl
                          clear HPL
                          by_cases hfull : i = b.length
                          · obtain ⟨hpa, hpb⟩ := hp2 (by rw [HNL.out]; exact hfull)
                            have HR : Hid (ordL [a2, b] = (⟨K, b, -1⟩, 0)) := Lib.hid (by rw [HKN.out, hpa])
                            have HBB : Hid (bn = bs b) := Lib.hid (by rw [← HBN.out, hpb])
                            clear hp3 hpa hpb HKN hp2
                            have f6 : ((i : Int) == (b.length : Int)) = true := beq_iff_eq.2 (by omega)
                            have f6' : (i == b.length) = true := beq_iff_eq.2 hfull
                            clear hfull
                            go_wp2
                            exact bodyPost_ret (v := .tuple #[.int .i64 K, .string bn, .int .i64 (-1), .int .i64 0]) (by simp [results, Tryz.f7, go_sem]) rfl ⟨by rw [HO.out, HR.out, HBB.out]; rfl, HB3.out⟩
                          · have hlt2 : i < b.length := by omega
                            obtain ⟨n1, n2⟩ := hp3 (by rw [HNL.out]; exact hlt2)
                            clear hp3 hp2
                            obtain ⟨e, he⟩ : ∃ e, e + 1 = b.length := ⟨b.length - 1, by omega⟩
                            have heb : e < b.length := by omega
                            have hes : e < bb.size := by omega
                            have hge := HGG.out e hes heb
                            have n1 := Lib.hid (n1 e heb he)
                            have n2 := Lib.hid (n2 e heb he)
                            rw [HNL.out] at n1 n2
                            have f6 : ((i : Int) == (b.length : Int)) = false := beq_eq_false_iff_ne.2 (by omega)
                            have f6' : (i == b.length) = false := beq_eq_false_iff_ne.2 hfull
                            have f7 : wrap64 ((b.length : Int) - 1) = (e : Int) := by rw [IntWalk.wrap64_in _ (by omega)]; omega
                            have f8 : (b.length : Int) - 1 = (e : Int) := by omega
                            have hi3 : i + 1 ≤ b.length := by omega
                            have he0 : (0 : Int) ≤ (e : Int) := by omega
                            have he1 : (e : Int) < (b.length : Int) := by omega
                            by_cases hle : e ≤ i
                            · have HR : Hid (ordL [a2, b] = (zO, 3)) := Lib.hid (by rw [HKN.out, n2.out (.inl hle)])
                              have f9 : decide ((e : Int) ≤ (i : Int)) = true := decide_eq_true (by omega)
                              have f9' : decide (e ≤ i) = true := decide_eq_true hle
                              clear n1 n2 HKN hfull hle
                              go_wp2
                              exact bodyPost_ret (v := .tuple #[.int .i64 0, .string ⟨#[]⟩, .int .i64 0, .int .i64 3]) (by simp [results, Tryz.f7, go_sem]) rfl ⟨by rw [HO.out, HR.out]; rfl, HB3.out⟩
                            · have f9 : decide ((e : Int) ≤ (i : Int)) = false := decide_eq_false (by omega)
                              have f9' : decide (e ≤ i) = false := decide_eq_false hle
                              by_cases h93 : b[e] = 93
                              · have g9 : (((bb[e]'hes).toNat : Int) == 93) = true := by rw [hge, h93]; rfl
                                have HPN := Lib.hid (n1.out (by omega) h93)
                                have hx2 : bb.extract (i + 1) e = bs ((b.drop (i + 1)).take (e - (i + 1))) := HXT.out _ _
                                have hie : (i : Int) + 1 ≤ (e : Int) := by omega
                                have hie' : i + 1 ≤ e := by omega
                                generalize hdd : (b.drop (i + 1)).take (e - (i + 1)) = d at *
                                have hdl : d.length ≤ 200 := by rw [← hdd, List.length_take, List.length_drop]; omega
                                have HN2 := Lib.hid (fun W => ordNumber_calls d (by omega) W)
                                generalize bs d = bd at *
                                clear n1 n2 hfull hle h93 hge hdl hdd
                                go_wp2_with fail
                                refine (HN2.out _).mono ?_
                                rintro e w3 ⟨hB4, hR⟩
                                have HB4 := Lib.hid (HB3.out.trans (hB4.mono HB3.out.size))
                                clear hB4
                                rcases hR with ⟨n, hn, rfl⟩ | ⟨hn, n, rfl⟩
                                · have HR : Hid (ordL [a2, b] = (⟨K, nm, n⟩, 0)) := Lib.hid (by rw [HKN.out, HPN.out, hn]; rfl)
                                  clear hn HKN HPN
                                  go_wp2
                                  exact bodyPost_ret (v := .tuple #[.int .i64 K, .string bn, .int .i64 n, .int .i64 0]) (by simp [results, Tryz.f7, go_sem]) rfl ⟨by rw [HO.out, HR.out, ← HBN.out]; rfl, HB4.out⟩
                                · have HR : Hid (ordL [a2, b] = (zO, 3)) := Lib.hid (by rw [HKN.out, HPN.out, hn]; rfl)
                                  clear hn HKN HPN
                                  go_wp2
                                  exact bodyPost_ret (v := .tuple #[.int .i64 0, .string ⟨#[]⟩, .int .i64 0, .int .i64 3]) (by simp [results, Tryz.f7, go_sem]) rfl ⟨by rw [HO.out, HR.out]; rfl, HB4.out⟩
                              · have g9 : (((bb[e]'hes).toNat : Int) == 93) = false := by rw [hge]; exact u8_ne (fun h => h93 (UInt8.toNat_inj.1 (by simpa using h)))
                                have HR : Hid (ordL [a2, b] = (zO, 3)) := Lib.hid (by rw [HKN.out, n2.out (.inr h93)])
                                clear n1 n2 hfull hle h93 hge HKN
                                go_wp2
                                exact bodyPost_ret (v := .tuple #[.int .i64 0, .string ⟨#[]⟩, .int .i64 0, .int .i64 3]) (by simp [results, Tryz.f7, go_sem]) rfl ⟨by rw [HO.out, HR.out]; rfl, HB3.out⟩
              · have HR : Hid (ordL L = (zO, 3)) := Lib.hid (by rw [HKM.out]; unfold ordK; rw [if_neg hK0, if_neg hb, if_pos (by rw [← HNN.out]; exact h2)])
                have f3 : ((nn : Int) == 2) = false := beq_eq_false_iff_ne.2 (by omega)
                have f3' : (nn == 2) = false := beq_eq_false_iff_ne.2 h2
                clear HKM hb HNN hLL hpos e0 h2
                go_wp2
                exact bodyPost_ret (v := .tuple #[.int .i64 0, .string ⟨#[]⟩, .int .i64 0, .int .i64 3]) (by simp [results, Tryz.f7, go_sem]) rfl ⟨by rw [HO.out, HR.out]; rfl, HBW.out⟩
end Go.Proofs.YtdknejmhlfpdfaaGreatDoor
