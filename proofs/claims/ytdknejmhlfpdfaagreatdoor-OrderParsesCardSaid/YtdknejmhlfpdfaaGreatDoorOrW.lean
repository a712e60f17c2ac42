/-
  What layer 18's calls ask of the world: its tables; numbers, ends and halves of texts.
-/
import Derived.Test.YtdknejmhlfpdfaaGreatDoorOrB
import Derived.Test.YtdknejmhlfpdfaaGreatDoorOrI
import Derived.Test.YtdknejmhlfpdfaaGreatDoorOrS
import Derived.Test.YtdknejmhlfpdfaaGreatDoorNext
import Derived.Lib.SlTrimSet
import Derived.BigRegion
namespace Go.Proofs.YtdknejmhlfpdfaaGreatDoor
open Go.RowKit

theorem Tryz.gPow : Tryz.prog.globalNamed "internal/strconv.uint64pow10" = some 6 := by kernel_rfl
theorem tabIs_keep {w w' : World} {B : Nat} (h : Lib.TabIs Tryz.prog w "internal/strconv.uint64pow10" .u64 Lib.pow10Tab) (hb : Below B w w') (hB : w.heap.size ≤ B) : Lib.TabIs Tryz.prog w' "internal/strconv.uint64pow10" .u64 Lib.pow10Tab := by
  unfold Lib.TabIs World.var? at h ⊢
  rw [Tryz.gPow] at h ⊢
  simp only [Option.bind_some] at h ⊢
  have hlt : 6 < w.heap.size := by
    rcases Nat.lt_or_ge 6 w.heap.size with h' | h'
    · exact h'
    · rw [Array.getElem?_eq_none h'] at h; simp at h
  rw [hb.block _ (by omega)]
  exact h
/-- What the library's own variables hold. -/
structure TX (w : World) : Prop where
  pow : Lib.TabIs Tryz.prog w "internal/strconv.uint64pow10" .u64 Lib.pow10Tab
  syn : ∃ te pe, w.cell? ⟨4, 0, none⟩ = some (.iface te pe)
  rng : ∃ te pe, w.cell? ⟨5, 0, none⟩ = some (.iface te pe)
theorem TX.below {w w' : World} {B : Nat} (h : TX w) (hb : Below B w w') (hB : w.heap.size ≤ B) : TX w' :=
  ⟨tabIs_keep h.pow hb hB, h.syn.imp fun _ => Exists.imp fun _ hc => keepC hb hc (by have := ltC hc; omega), h.rng.imp fun _ => Exists.imp fun _ hc => keepC hb hc (by have := ltC hc; omega)⟩
theorem itoa_calls (n : Int) (hn : i64 n) (w : World) (hT : TX w) : Calls Tryz.prog 27 #[.int .i64 n] w fun e w' => e = .returned (.string (bs (Lib.itoa n))) ∧ Below w.heap.size w w' := by
  refine (Tryz.itoaW n hn.1 hn.2 w hT.pow).mono ?_
  rintro e w' ⟨rfl, k, os, rfl⟩
  exact ⟨rfl, rfl, rfl, rfl, by show w.heap.size ≤ (w.heap ++ os).size; rw [Array.size_append]; omega, fun j hj => by show (w.heap ++ os)[j]? = _; rw [Array.getElem?_append_left hj]⟩
/-- What Atoi answers. -/
def AtoP (t : List UInt8) (w : World) (e : Ending) (w' : World) : Prop :=
  Below w.heap.size w w' ∧ ((∃ v, Lib.atoiAll t = .ok v ∧ e = .returned (.tuple #[.int .i64 v, .nilIface])) ∨ ((∀ v, Lib.atoiAll t ≠ .ok v) ∧ ∃ v N, e = .returned (.tuple #[.int .i64 v, .iface 95 (.pointer (some ⟨N, 0, none⟩))])))
theorem below_bytes (w : World) (e : TypeId) (t : ByteArray) : Below w.heap.size w (Lib.bytesWorld w e t) := by
  unfold Lib.bytesWorld
  refine ⟨rfl, rfl, rfl, ?_, fun k hk => ?_⟩
  · simp [World.freeze]
  · simp only [World.freeze]
    rw [if_neg (by decide)]
    dsimp only
    rw [Array.getElem?_modify, if_neg (by omega)]
    exact Below.heap_alloc w.drew _ k hk
theorem atoi_calls (t : List UInt8) (ht : t.length ≤ 1000000) (w : World) (hT : TX w) : Calls Tryz.prog 36 #[.string (bs t)] w (AtoP t w) := by
  have hs : (bs t).size = t.length := bs_size t
  rcases h : Lib.atoiAll t with v | _ | _
  · refine (Tryz.atoiOk (bs t) (by omega) v (by rw [bs_toList]; exact h) w).mono ?_
    rintro e w' ⟨rfl, hw⟩
    refine ⟨?_, .inl ⟨v, h, rfl⟩⟩
    rcases hw with rfl | ⟨u, rfl⟩
    · exact Below.refl _ _
    · exact below_bytes _ _ _
  · obtain ⟨te, pe, hv⟩ := hT.syn
    refine (Tryz.atoiSyn (bs t) (by omega) (by rw [bs_toList]; exact ⟨fun v hv => (by rw [h] at hv; cases hv), fun hv => (by rw [h] at hv; cases hv)⟩) _ w hv (.inr ⟨te, pe, rfl⟩)).mono ?_
    rintro e w' ⟨N, rfl, _, _, hb⟩
    exact ⟨hb, .inr ⟨fun v hv => (by rw [h] at hv; cases hv), 0, N, rfl⟩⟩
  · obtain ⟨te, pe, hv⟩ := hT.rng
    refine (Tryz.atoiRng (bs t) (by omega) (by rw [bs_toList]; exact h) _ w hv (.inr ⟨te, pe, rfl⟩)).mono ?_
    rintro e w' ⟨N, rfl, _, _, hb⟩
    exact ⟨hb, .inr ⟨fun v hv => (by rw [h] at hv; cases hv), _, N, rfl⟩⟩

/-- What stands behind a kind's word: nothing, a number, a place. -/
def bhK (k : Nat) : Nat := if k < 9 ∨ 15 < k then 0 else if k < 12 then 1 else 2
def shapesV : Array Value := #[Value.string (bs (kwB 1)), .int .i64 0, .string (bs (kwB 2)), .int .i64 0, .string (bs (kwB 3)), .int .i64 0, .string (bs (kwB 4)), .int .i64 0, .string (bs (kwB 5)), .int .i64 0, .string (bs (kwB 6)), .int .i64 0, .string (bs (kwB 7)), .int .i64 0, .string (bs (kwB 8)), .int .i64 0, .string (bs (kwB 9)), .int .i64 1, .string (bs (kwB 10)), .int .i64 1, .string (bs (kwB 11)), .int .i64 1, .string (bs (kwB 12)), .int .i64 2, .string (bs (kwB 13)), .int .i64 2, .string (bs (kwB 14)), .int .i64 2, .string (bs (kwB 15)), .int .i64 2, .string (bs (kwB 16)), .int .i64 0, .string (bs (kwB 17)), .int .i64 0, .string (bs (kwB 18)), .int .i64 0, .string (bs (kwB 19)), .int .i64 0, .string (bs (kwB 20)), .int .i64 0]
theorem shapesV_get (i : Nat) (hi : i < 20) : shapesV[i * 2]? = some (.string (bs (kwB (i + 1)))) ∧ shapesV[i * 2 + 1]? = some (.int .i64 (bhK (i + 1) : Nat)) := by
  have : i = 0 ∨ i = 1 ∨ i = 2 ∨ i = 3 ∨ i = 4 ∨ i = 5 ∨ i = 6 ∨ i = 7 ∨ i = 8 ∨ i = 9 ∨ i = 10 ∨ i = 11 ∨ i = 12 ∨ i = 13 ∨ i = 14 ∨ i = 15 ∨ i = 16 ∨ i = 17 ∨ i = 18 ∨ i = 19 := by omega
  rcases this with rfl | rfl | rfl | rfl | rfl | rfl | rfl | rfl | rfl | rfl | rfl | rfl | rfl | rfl | rfl | rfl | rfl | rfl | rfl | rfl <;> exact ⟨rfl, rfl⟩
theorem shapesV_ext (i : Nat) (hi : i < 20) : shapesV.extract (i * 2) (i * 2 + 2) = #[.string (bs (kwB (i + 1))), .int .i64 (bhK (i + 1) : Nat)] := by
  have : i = 0 ∨ i = 1 ∨ i = 2 ∨ i = 3 ∨ i = 4 ∨ i = 5 ∨ i = 6 ∨ i = 7 ∨ i = 8 ∨ i = 9 ∨ i = 10 ∨ i = 11 ∨ i = 12 ∨ i = 13 ∨ i = 14 ∨ i = 15 ∨ i = 16 ∨ i = 17 ∨ i = 18 ∨ i = 19 := by omega
  rcases this with rfl | rfl | rfl | rfl | rfl | rfl | rfl | rfl | rfl | rfl | rfl | rfl | rfl | rfl | rfl | rfl | rfl | rfl | rfl | rfl <;> rfl
/-- What Parse, Good, Text and Words ask of the world. -/
structure XO (w : World) : Prop where
  tab : Tabs w
  tx : TX w
  sh : ∀ i, i < 20 → w.cell? ⟨0, i * 2, none⟩ = some (.string (bs (kwB (i + 1)))) ∧ w.cell? ⟨0, i * 2 + 1, none⟩ = some (.int .i64 (bhK (i + 1) : Nat))
theorem XO.below {w w' : World} {B : Nat} (h : XO w) (hb : Below B w w') (hB : w.heap.size ≤ B) : XO w' :=
  ⟨h.tab.below hb (Nat.le_trans h.tab.2.2 hB), h.tx.below hb hB, fun i hi => ⟨keepC hb (h.sh i hi).1 (Nat.lt_of_lt_of_le (ltC (h.sh i hi).1) hB), keepC hb (h.sh i hi).2 (Nat.lt_of_lt_of_le (ltC (h.sh i hi).2) hB)⟩⟩
/-- .. by the table alone. -/
theorem XO.row {w : World} (h : XO w) : w.rangeAt 0 0 shapesV.toList := fun j v hv => by
  have hj : j < 40 := (List.getElem?_eq_some_iff.1 hv).1
  rw [Array.getElem?_toList] at hv
  rw [Nat.zero_add]
  obtain ⟨h1, h2⟩ := shapesV_get (j / 2) (by omega)
  obtain ⟨k1, k2⟩ := h.sh (j / 2) (by omega)
  by_cases h0 : j % 2 = 0
  · have e : j / 2 * 2 = j := by omega
    rw [e] at h1 k1
    rw [k1, ← h1, hv]
  · have e : j / 2 * 2 + 1 = j := by omega
    rw [e] at h2 k2
    rw [k2, ← h2, hv]
theorem Tryz.info_shapes : (Tryz.prog.info? 47).map (·.size) = some shapesV.toList.length := by kernel_rfl
theorem shapes_index (w : World) (i : Nat) (hi : i < 20) : Sem.run Tryz.prog (Instr.index 47 (.agg shapesV) (.int .i64 (i : Int))) w = .ok (.agg #[.string (bs (kwB (i + 1))), .int .i64 (bhK (i + 1) : Nat)]) w := by
  have h := shapesV_ext i hi
  simp [Instr.index, go_sem, h]
  intro h; omega
/-- The kind of a word: the first of the table that it is. -/
theorem kind_first (x : List UInt8) (i : Nat) (hi : i < 20) (hn : ∀ j, j < i → x ≠ kwB (j + 1)) (h : x = kwB (i + 1)) : kindM x = i + 1 := by
  have key : ∀ k, i + 1 ≤ k → k ≤ 20 → kindUp x k = i + 1 ∨ ∃ m, i + 1 < m ∧ m ≤ k ∧ x = kwB m := by
    intro k
    induction k with
    | zero => intro h; omega
    | succ k ih =>
      intro h1 h2
      unfold kindUp
      by_cases hx : x = kwB (k + 1)
      · rw [if_pos hx]
        by_cases he : k = i
        · subst he; exact .inl rfl
        · exact .inr ⟨k + 1, by omega, by omega, hx⟩
      · rw [if_neg hx]
        by_cases he : i + 1 ≤ k
        · rcases ih he (by omega) with h3 | ⟨m, h3, h4, h5⟩
          · exact .inl h3
          · exact .inr ⟨m, h3, by omega, h5⟩
        · obtain rfl : i = k := by omega
          exact absurd h hx
  rcases key 20 (by omega) (by omega) with h1 | ⟨m, h1, h2, h3⟩
  · exact h1
  · have e1 := kindM_of (k := m) h2
    have e2 := kindM_of (k := i + 1) (by omega)
    rw [← h3, h] at e1
    omega
theorem kind_none (x : List UInt8) (hn : ∀ j, j < 20 → x ≠ kwB (j + 1)) : kindM x = 0 := by
  have key : ∀ k, k ≤ 20 → kindUp x k = 0 := by
    intro k
    induction k with
    | zero => intro _; rfl
    | succ k ih =>
      intro h
      unfold kindUp
      rw [if_neg (hn k (by omega)), ih (by omega)]
  exact key 20 (by omega)
theorem str_neC {a b : List UInt8} (h : a ≠ b) : ((bs a).toList == (bs b).toList) = false := by
  rw [str_eqC]
  exact decide_eq_false h
set_option maxRecDepth 100000 in
set_option maxHeartbeats 1000000 in
theorem kindOf_calls (x : List UInt8) (w : World) (hX : XO w) : Calls Tryz.prog 12 #[.string (bs x)] w fun e w' => e = .returned (.int .i64 (kindM x : Nat)) ∧ Below w.heap.size w w' := by
  have hr := Lib.hid hX.row
  clear hX
  go_enter Tryz.func12, Tryz.ntmps12
  go_wp2_with (with_reducible refine wpList_load_mid rfl 47 (.global 0) rfl 0 0 rfl shapesV.toList _ hr.out Tryz.underlying47 rfl Tryz.info_shapes ?_)
  go_loopw [6] (fun a wr => ∃ i : Nat, i ≤ 20 ∧ a = .int .i64 i ∧ Hid (∀ j, j < i → x ≠ kwB (j + 1)) ∧ Hid (Below w.heap.size w wr)) (fun a _ => 20 - (intOf a).toNat)
  case atStart => exact ⟨0, by omega, rfl, Lib.hid (fun j hj => by omega), Lib.hid (Below.refl _ _)⟩
  case round =>
    obtain ⟨i, hi, rfl, HN, HB⟩ := hrel
    by_cases hlt : i < 20
    · have hix := shapes_index wr i hlt
      by_cases hx : x = kwB (i + 1)
      · have HK := Lib.hid (kind_first x i hlt HN.out hx)
        have he : ((bs (kwB (i + 1))).toList == (bs x).toList) = true := by rw [← hx]; exact beq_self_eq_true _
        clear hx
        generalize kwB (i + 1) = y at *
        go_wp2_with fail
        go_ret
        exact ⟨by rw [HK.out]; rfl, HB.out.alloc HB.out.size _⟩
      · have HN2 : Hid (∀ j, j < i + 1 → x ≠ kwB (j + 1)) := Lib.hid (fun j hj => by
          by_cases h : j = i
          · subst h; exact hx
          · exact HN.out j (by omega))
        have he : ((bs (kwB (i + 1))).toList == (bs x).toList) = false := str_neC (fun h => hx h.symm)
        clear hx
        generalize kwB (i + 1) = y at he hix
        go_wp2_with fail
        go_roundw
        case rel => exact ⟨i + 1, by omega, by go_num, HN2, Lib.hid (HB.out.alloc HB.out.size _)⟩
        case measure => simp [intOf]; omega
    · obtain rfl : i = 20 := by omega
      have HK := Lib.hid (kind_none x HN.out)
      go_wp2_with fail
      go_ret
      exact ⟨by rw [HK.out]; rfl, HB.out⟩

/-- The bytes ahead of the first '[', those behind it, and whether there is one. -/
def ahA (t : List UInt8) : List UInt8 := t.takeWhile (· != 91)
def bhA (t : List UInt8) : List UInt8 := t.drop ((ahA t).length + 1)
theorem index91 (t : List UInt8) : Lib.indexByte t 91 = if (ahA t).length = t.length then -1 else ((ahA t).length : Int) := by
  induction t with
  | nil => rfl
  | cons c r ih =>
    unfold Lib.indexByte ahA
    by_cases h : c = 91
    · subst h
      simp
    · have h2 : (c != 91) = true := by simpa using h
      rw [List.takeWhile_cons, if_pos h2]
      simp only [List.length_cons]
      unfold ahA at ih
      rw [ih, if_neg (by simpa using h)]
      generalize (r.takeWhile (· != 91)).length = n
      by_cases hl : n = r.length
      · rw [if_pos hl, if_pos (by decide), if_pos (by omega)]
      · rw [if_neg hl, if_neg (by simp), if_neg (by omega)]
        rfl
theorem ah_le (t : List UInt8) : (ahA t).length ≤ t.length := (List.takeWhile_sublist _).length_le
theorem cut_ext (t : List UInt8) : (bs t).extract 0 (ahA t).length = bs (ahA t) ∧ (bs t).extract ((ahA t).length + 1) t.length = bs (bhA t) := by
  refine ⟨?_, ?_⟩
  · rw [extC]
    congr 1
    obtain ⟨r, hr⟩ := List.takeWhile_prefix (p := (· != 91)) (l := t)
    unfold ahA
    conv => lhs; arg 2; rw [← hr]
    simp
  · rw [extC]
    congr 1
    unfold bhA
    rw [List.take_of_length_le (by rw [List.length_drop]; omega)]
set_option maxRecDepth 100000 in
set_option maxHeartbeats 1000000 in
theorem cut0_calls (t : List UInt8) (ht : t.length ≤ 100000) (w : World) : Calls Tryz.prog 51 #[.string (bs t), .string ⟨#[91]⟩] w fun e w' =>
    (((ahA t).length = t.length ∧ e = .returned (.tuple #[.string (bs t), .string ⟨#[]⟩, .bool false])) ∨ ((ahA t).length ≠ t.length ∧ e = .returned (.tuple #[.string (bs (ahA t)), .string (bs (bhA t)), .bool true]))) ∧ Below w.heap.size w w' := by
  have HI : Hid (∀ w, Calls Tryz.prog 68 #[.string (bs t), .string ⟨#[91]⟩] w fun e w' => e = .returned (.int .i64 (if (ahA t).length = t.length then -1 else ((ahA t).length : Int))) ∧ w' = w) := Lib.hid fun w => by
    have := Tryz.indexW (bs t) 91 w
    rw [bs_toList, index91] at this
    exact this
  have hle := ah_le t
  have hsz : (bs t).size = t.length := bs_size t
  have HX := Lib.hid (cut_ext t)
  by_cases h : (ahA t).length = t.length
  · rw [if_pos h] at HI
    generalize bs t = s at *
    go_enter Tryz.func51, Tryz.ntmps51
    go_wp2_with (go_at_call 68; refine (HI.out _).mono ?_; rintro e w' ⟨rfl, rfl⟩)
    exact bodyPost_ret (v := .tuple #[.string s, .string ⟨#[]⟩, .bool false]) (by simp [results, Tryz.f51, go_sem]) rfl ⟨.inl ⟨h, rfl⟩, Below.refl _ _⟩
  · rw [if_neg h] at HI
    generalize hn : (ahA t).length = n at *
    generalize bs t = s at *
    have hn1 : n < s.size := by omega
    have g1 : decide ((0 : Int) ≤ (n : Int)) = true := decide_eq_true (by omega)
    have HH := Lib.hid h
    go_enter Tryz.func51, Tryz.ntmps51
    go_wp2_with (go_at_call 68; refine (HI.out _).mono ?_; rintro e w' ⟨rfl, rfl⟩)
    go_quiet (fail)
    go_wp2
    refine bodyPost_ret (v := .tuple #[.string (s.extract 0 n), .string (s.extract (n + 1) t.length), .bool true]) (by simp [results, Tryz.f51, go_sem]) rfl ⟨.inr ⟨HH.out, ?_⟩, below_drewC (Below.refl _ _) _⟩
    rw [HX.out.1, HX.out.2]
set_option maxRecDepth 100000 in
theorem cut_calls (t : List UInt8) (ht : t.length ≤ 100000) (w : World) : Calls Tryz.prog 37 #[.string (bs t), .string ⟨#[91]⟩] w fun e w' =>
    (((ahA t).length = t.length ∧ e = .returned (.tuple #[.string (bs t), .string ⟨#[]⟩, .bool false])) ∨ ((ahA t).length ≠ t.length ∧ e = .returned (.tuple #[.string (bs (ahA t)), .string (bs (bhA t)), .bool true]))) ∧ Below w.heap.size w w' := by
  have HC := Lib.hid (cut0_calls t ht w)
  generalize bs t = s at *
  generalize bs (ahA t) = s1 at *
  generalize bs (bhA t) = s2 at *
  go_enter Tryz.func37, Tryz.ntmps37
  go_wp2_with fail
  refine HC.out.mono ?_
  rintro e w1 ⟨h, hB⟩
  rcases h with ⟨h, rfl⟩ | ⟨h, rfl⟩
  · go_wp2
    exact bodyPost_ret (v := .tuple #[.string s, .string ⟨#[]⟩, .bool false]) (by simp [results, Tryz.f37, go_sem]) rfl ⟨.inl ⟨h, rfl⟩, hB⟩
  · go_wp2
    exact bodyPost_ret (v := .tuple #[.string s1, .string s2, .bool true]) (by simp [results, Tryz.f37, go_sem]) rfl ⟨.inr ⟨h, rfl⟩, hB⟩
/-- strings.CutSuffix at ']'. -/
theorem sufB_calls (t : List UInt8) (ht : t.length ≤ 100000) (w : World) : Calls Tryz.prog 40 #[.string (bs t), .string ⟨#[93]⟩] w fun e w' =>
    ((t.getLast? = some 93 ∧ e = .returned (.tuple #[.string (bs t.dropLast), .bool true])) ∨ (t.getLast? ≠ some 93 ∧ ∃ r, r.length ≤ 100000 ∧ e = .returned (.tuple #[.string (bs r), .bool false]))) ∧ Below w.heap.size w w' := by
  refine (Tryz.cutSufW (bs t) ⟨#[93]⟩ w (by rw [bs_size]; omega)).mono ?_
  rintro e w' ⟨rfl, rfl⟩
  refine ⟨?_, Below.refl _ _⟩
  rw [bs_toList]
  have hh : Lib.hasSuffix t [93] = decide (t.getLast? = some 93) := by
    unfold Lib.hasSuffix
    rw [Bool.eq_iff_iff, List.isSuffixOf_iff_suffix, decide_eq_true_eq]
    constructor
    · rintro ⟨a, rfl⟩
      simp
    · intro h
      obtain ⟨a, ha⟩ := List.getLast?_eq_some_iff.1 h
      exact ⟨a, ha.symm⟩
  have h93 : (⟨#[93]⟩ : ByteArray).data.toList = [93] := rfl
  rw [h93]
  unfold Lib.trimSuffix
  rw [hh]
  by_cases h : t.getLast? = some 93
  · refine .inl ⟨h, ?_⟩
    rw [decide_eq_true h, if_pos rfl]
    have : t.take (t.length - [(93 : UInt8)].length) = t.dropLast := by rw [List.dropLast_eq_take]; rfl
    rw [this]
    rfl
  · refine .inr ⟨h, t, ht, ?_⟩
    rw [decide_eq_false h, if_neg (by simp)]
    rfl

end Go.Proofs.YtdknejmhlfpdfaaGreatDoor
