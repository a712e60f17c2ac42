/-
  call: the pieces of a call.
-/
import Derived.Test.YtdeflloidhbpmaaGreatDoorK31
namespace Go.Proofs.YtdeflloidhbpmaaGreatDoor
open Go.RowKit

theorem bs_app (a b : List UInt8) : bs a ++ bs b = bs (a ++ b) := by
  apply ByteArray.ext
  simp [bs]
theorem bs_back (s : ByteArray) : bs s.data.toList = s := by
  apply ByteArray.ext
  simp [bs]
theorem ptextB (s : ByteArray) (w : World) : Calls Tryz.prog 40 #[.string s] w fun e w' => e = .returned (.agg #[.bool false, .string s, .int .i64 0]) ∧ Below w.heap.size w w' := by
  have h := ptextV s.data.toList w
  rw [bs_back] at h
  exact h
theorem pnews (W : World) (a b c : Value) (t : TypeId) : ∀ j u, [a, b, c][j]? = some u → (W.alloc (.cells #[a, b, c] t)).cell? ((⟨W.heap.size, 0, none⟩ : Addr).add j) = some u := by
  intro j u hu
  have hj : j < 3 := (List.getElem?_eq_some_iff.1 hu).1
  rw [Addr.add_lit, Nat.zero_add]
  have hb : (W.alloc (.cells #[a, b, c] t)).heap[W.heap.size]? = some (.cells #[a, b, c] t) := heap_one W _ _
  rw [cellK hb j]
  simpa using hu
theorem cjT_snoc (a : Nat) : ∀ l : List Nat, cjT (l ++ [a]) = cjT l ++ [.tx [44, 32], .pt a]
  | [] => rfl
  | b :: r => by
    show .tx [44, 32] :: .pt b :: cjT (r ++ [a]) = .tx [44, 32] :: .pt b :: cjT r ++ _
    rw [cjT_snoc a r]
    rfl
theorem cj_snoc (a : Nat) (l : List Nat) (h : l ≠ []) : cj (l ++ [a]) = cj l ++ [.tx [44, 32], .pt a] := by
  cases l with
  | nil => exact absurd rfl h
  | cons b r =>
    show .pt b :: cjT (r ++ [a]) = .pt b :: cjT r ++ _
    rw [cjT_snoc a r]
    rfl
theorem cjT_length : ∀ l : List Nat, (cjT l).length = 2 * l.length
  | [] => rfl
  | a :: r => by
    show (Pc.tx [44, 32] :: .pt a :: cjT r).length = _
    simp only [List.length_cons, cjT_length r]; omega
theorem cj_length (l : List Nat) : (cj l).length ≤ 2 * l.length := by
  cases l with
  | nil => exact Nat.le_refl _
  | cons a r =>
    show (Pc.pt a :: cjT r).length ≤ _
    simp only [List.length_cons, cjT_length r]; omega
theorem pcsV_app (l m : List Pc) : pcsV (l ++ m) = pcsV l ++ pcsV m := List.flatMap_append
set_option maxRecDepth 100000 in
set_option maxHeartbeats 2000000 in
theorem wcall_calls (x : Ex) (l : Value) (w : World) (hnm : x.name.length ≤ 1000000) (hn : x.list.length ≤ 10000) (hR : RwAt w (fun _ => True) l (intsV x.list)) :
    Calls Tryz.prog 63 #[.agg #[.int .i64 (x.kind : Int), .int .i64 (x.lo : Int), .int .i64 (x.hi : Int), .int .i64 (x.num : Int), .string (bs x.name), .string (bs x.op), .int .i64 (x.a : Int), .int .i64 (x.b : Int), l]] w
      (PcsPost (.tx (x.name ++ [40]) :: (cj x.list ++ [.tx [41]])) w) := by
  obtain ⟨i0, hi0, hz0, hz1, hz2⟩ := info_parts Tryz.infoPc
  obtain ⟨A, c, rfl, hlt, hcs⟩ := hR
  generalize (intsV x.list).length + c = c at hlt hcs ⊢
  rw [intsV_len] at hlt hcs ⊢
  have HC : Hid (∀ i (h : i < x.list.length), ∃ g, A = some ⟨g, 0, none⟩ ∧ ∀ W, Below w.heap.size w W → W.cell? ⟨g, i, none⟩ = some (.int .i64 (x.list[i] : Int))) := Lib.hid fun i h => by
    obtain ⟨g, rfl, h3⟩ := hcs (by omega)
    have hg := (hlt g rfl).2
    exact ⟨g, rfl, fun W hB => (hB.cell (p := ⟨g, i, none⟩) hg).trans (h3 i _ (by simp [intsV, h]))⟩
  clear hlt hcs
  have hT : Hid (∀ s w1, Calls Tryz.prog 40 #[.string s] w1 fun e w' => e = .returned (.agg #[.bool false, .string s, .int .i64 0]) ∧ Below w1.heap.size w1 w') := Lib.hid ptextB
  have hP : Hid (∀ a w1, Calls Tryz.prog 19 #[.int .i64 a] w1 fun e w' => e = .returned (.agg #[.bool true, .string ⟨#[]⟩, .int .i64 a]) ∧ Below w1.heap.size w1 w') := Lib.hid ppartV
  have hsum : (9223372036854775807 < (bs x.name).size + (⟨#[40]⟩ : ByteArray).size) = False := by rw [bs_size]; simp [ByteArray.size]; omega
  have hsum1 : (9223372036854775807 < (bs x.name).size + 1) = False := by rw [bs_size]; simp; omega
  have hS40 : Hid (bs x.name ++ ⟨#[40]⟩ = bs (x.name ++ [40])) := Lib.hid (bs_app x.name [40])
  have HN := Lib.hid hn
  have HB0 : Hid (Below w.heap.size w (w.alloc (.cells #[.int .i64 (x.kind : Int), .int .i64 (x.lo : Int), .int .i64 (x.hi : Int), .int .i64 (x.num : Int), .string (bs x.name), .string (bs x.op), .int .i64 (x.a : Int), .int .i64 (x.b : Int), .slice A x.list.length c] 63))) := Lib.hid ((Below.refl _ w).alloc (Nat.le_refl _) _)
  have hbx : (w.alloc (.cells #[.int .i64 (x.kind : Int), .int .i64 (x.lo : Int), .int .i64 (x.hi : Int), .int .i64 (x.num : Int), .string (bs x.name), .string (bs x.op), .int .i64 (x.a : Int), .int .i64 (x.b : Int), .slice A x.list.length c] 63)).heap[w.heap.size]? = some (.cells #[.int .i64 (x.kind : Int), .int .i64 (x.lo : Int), .int .i64 (x.hi : Int), .int .i64 (x.num : Int), .string (bs x.name), .string (bs x.op), .int .i64 (x.a : Int), .int .i64 (x.b : Int), .slice A x.list.length c] 63) := heap_one w _ _
  have HBX := Lib.hid hbx
  clear hbx hnm hn
  go_enter Tryz.func63, Tryz.ntmps63
  go_wp2_with (go_at_call 40; refine (hT.out _ _).mono ?_)
  rintro e w2 ⟨rfl, hB2⟩
  have hwl : w.heap.size < (w.alloc (.cells #[.int .i64 (x.kind : Int), .int .i64 (x.lo : Int), .int .i64 (x.hi : Int), .int .i64 (x.num : Int), .string (bs x.name), .string (bs x.op), .int .i64 (x.a : Int), .int .i64 (x.b : Int), .slice A x.list.length c] 63)).heap.size := by simp
  have hb2 := (hB2.block w.heap.size hwl).trans HBX.out
  have HB2 := Lib.hid (HB0.out.trans (hB2.mono HB0.out.size))
  have d8 : ∀ o, (w2.alloc o).cell? ⟨w.heap.size, 8, none⟩ = some (.slice A x.list.length c) := fun o => cell_new (cellK hb2 8) o
  have hown0 := own_pcs w2 w.heap.size [.tx (x.name ++ [40])] 1 rfl HB2.out.size (by decide) #[.bool false, .string (bs x.name ++ ⟨#[40]⟩), .int .i64 0] (by rw [hS40.out]; rfl)
  have hBa := HB2.out.alloc HB2.out.size (.cells #[.bool false, .string (bs x.name ++ ⟨#[40]⟩), .int .i64 0] 59)
  have HO0 := Lib.hid hown0
  have HBa := Lib.hid hBa
  clear hown0 hBa hb2 hwl hB2 HBX HB2
  go_wp2
  go_loopw [3, 14] (fun v a wr => ∃ i : Nat, i ≤ x.list.length ∧ a = .int .i64 i ∧ wr.ownsRow w.heap.size 59 3 v (Pc.tx (x.name ++ [40]) :: cj (x.list.take i)).length (pcsV (Pc.tx (x.name ++ [40]) :: cj (x.list.take i))) ∧ Below w.heap.size w wr) (fun _ a _ => x.list.length - (intOf a).toNat)
  case atStart => exact ⟨0, Nat.zero_le _, rfl, HO0.out, HBa.out⟩
  case round =>
    obtain ⟨i, hi, rfl, hown, hB⟩ := hrel
    have hbs := hB.size
    have hn := HN.out
    have hcl : (Pc.tx (x.name ++ [40]) :: cj (x.list.take i)).length ≤ 2 * x.list.length + 1 := by
      have := cj_length (x.list.take i)
      rw [List.length_take] at this
      rw [List.length_cons]; omega
    by_cases hlt : i < x.list.length
    · obtain ⟨g, rfl, hcell⟩ := HC.out i hlt
      have hcw := hcell wr hB
      have h3 : (i : Int) < (x.list.length : Int) := by omega
      have h0 : 0 ≤ (i : Int) := by omega
      have htk : x.list.take (i + 1) = x.list.take i ++ [x.list[i]] := List.take_succ_eq_append_getElem hlt
      generalize hxa : x.list[i] = xa at hcw htk
      clear hxa hcell
      by_cases hp : i = 0
      · subst hp
        have HTK : Hid (Pc.tx (x.name ++ [40]) :: cj (x.list.take (0 + 1)) = (Pc.tx (x.name ++ [40]) :: cj (x.list.take 0)) ++ [.pt (xa : Int)]) := Lib.hid (by rw [htk]; rfl)
        clear htk
        generalize (Pc.tx (x.name ++ [40]) :: cj (x.list.take 0)) = L at *
        have HON := Lib.hid hown
        have HBB := Lib.hid hB
        clear hown hB
        go_wp2_with (go_at_call 19; refine (hP.out _ _).mono ?_)
        rintro e w5 ⟨rfl, hB5⟩
        have HB5 := Lib.hid (HBB.out.trans (hB5.mono HBB.out.size))
        have HO5 := Lib.hid (own_below HON.out hB5)
        have hbs5 := HB5.out.size
        clear hB5
        go_wp2_with (at_builtin; refine wpList_append_own _ rfl _ _ 97 rfl w.heap.size 59 i0 (.agg #[.bool false, .string ⟨#[]⟩, .int .i64 0]) 3 32 Tryz.underlying97 hi0 hz0 hz1 hz2 rfl (by decide) _ _ _ rfl (HO5.out.alloc _) ⟨w5.heap.size, 0, none⟩ 1 1 [.bool true, .string ⟨#[]⟩, .int .i64 (xa : Int)] rfl rfl (pnews _ _ _ _ _) (fun u hu => by simp at hu; rcases hu with rfl | rfl | rfl <;> rfl) (by unfold maxLen; omega) (by omega) (by simp; omega) ?_; intro v' w3 hown' hgrow _; have HG := Lib.hid hgrow; have HO3 := Lib.hid hown'; clear hgrow hown')
        have hB4 := Lib.hid (below_append (HB5.out.alloc hbs5 _) (Nat.le_refl _) (HO5.out.alloc _) HG.out)
        go_roundw
        case rel =>
          refine ⟨0 + 1, by omega, by go_num, ?_, hB4.out⟩
          rw [HTK.out, List.length_append, pcsV_app]
          exact HO3.out
        case measure => simp [intOf]; omega
      · have hpos : (0 : Int) < (i : Int) := by omega
        have hp0 : 0 < i := by omega
        have HTK : Hid (Pc.tx (x.name ++ [40]) :: cj (x.list.take (i + 1)) = (Pc.tx (x.name ++ [40]) :: cj (x.list.take i)) ++ [.tx [44, 32]] ++ [.pt (xa : Int)]) := Lib.hid (by
          rw [htk, cj_snoc _ _ (fun h => by
            have := congrArg List.length h
            rw [List.length_take, List.length_nil] at this; omega)]
          simp)
        clear htk
        generalize (Pc.tx (x.name ++ [40]) :: cj (x.list.take i)) = L at *
        have HON := Lib.hid hown
        have HBB := Lib.hid hB
        clear hown hB
        go_wp2_with (go_at_call 40; refine (hT.out _ _).mono ?_)
        rintro e w5 ⟨rfl, hB5⟩
        have HB5 := Lib.hid (HBB.out.trans (hB5.mono HBB.out.size))
        have HO5 := Lib.hid (own_below HON.out hB5)
        have hbs5 := HB5.out.size
        clear hB5
        go_wp2_with (at_builtin; refine wpList_append_own _ rfl _ _ 97 rfl w.heap.size 59 i0 (.agg #[.bool false, .string ⟨#[]⟩, .int .i64 0]) 3 32 Tryz.underlying97 hi0 hz0 hz1 hz2 rfl (by decide) _ _ _ rfl (HO5.out.alloc _) ⟨w5.heap.size, 0, none⟩ 1 1 [.bool false, .string ⟨#[44, 32]⟩, .int .i64 0] rfl rfl (pnews _ _ _ _ _) (fun u hu => by simp at hu; rcases hu with rfl | rfl | rfl <;> rfl) (by unfold maxLen; omega) (by omega) (by simp; omega) ?_; intro v6 w6 hown' hgrow _; have HG6 := Lib.hid hgrow; have HO6 := Lib.hid hown'; clear hgrow hown')
        have HB6 := Lib.hid (below_append (HB5.out.alloc hbs5 _) (Nat.le_refl _) (HO5.out.alloc _) HG6.out)
        go_wp2_with (go_at_call 19; refine (hP.out _ _).mono ?_)
        rintro e w7 ⟨rfl, hB7⟩
        have HB7 := Lib.hid (HB6.out.trans (hB7.mono HB6.out.size))
        have HO7 := Lib.hid (own_below HO6.out hB7)
        have hbs7 := HB7.out.size
        clear hB7
        go_wp2_with (at_builtin; refine wpList_append_own _ rfl _ _ 97 rfl w.heap.size 59 i0 (.agg #[.bool false, .string ⟨#[]⟩, .int .i64 0]) 3 32 Tryz.underlying97 hi0 hz0 hz1 hz2 rfl (by decide) v6 _ _ rfl (HO7.out.alloc _) ⟨w7.heap.size, 0, none⟩ 1 1 [.bool true, .string ⟨#[]⟩, .int .i64 (xa : Int)] rfl rfl (pnews _ _ _ _ _) (fun u hu => by simp at hu; rcases hu with rfl | rfl | rfl <;> rfl) (by unfold maxLen; omega) (by omega) (by simp; omega) ?_; intro v' w3 hown' hgrow _; have HG := Lib.hid hgrow; have HO3 := Lib.hid hown'; clear hgrow hown')
        have hB4 := Lib.hid (below_append (HB7.out.alloc hbs7 _) (Nat.le_refl _) (HO7.out.alloc _) HG.out)
        go_roundw
        case rel =>
          refine ⟨i + 1, by omega, by go_num, ?_, hB4.out⟩
          rw [HTK.out, List.length_append, List.length_append, pcsV_app, pcsV_app]
          exact HO3.out
        case measure => simp [intOf]; omega
    · obtain rfl : i = x.list.length := by omega
      rw [List.take_length] at hown hcl
      have HL : Hid (Pc.tx (x.name ++ [40]) :: (cj x.list ++ [.tx [41]]) = (Pc.tx (x.name ++ [40]) :: cj x.list) ++ [.tx [41]]) := Lib.hid rfl
      have HFIN : Hid (∀ v w3, w3.ownsRow w.heap.size 59 3 v ((Pc.tx (x.name ++ [40]) :: cj x.list).length + 1) (pcsV (Pc.tx (x.name ++ [40]) :: cj x.list) ++ [.bool false, .string ⟨#[41]⟩, .int .i64 0]) → Below w.heap.size w w3 → PcsPost (Pc.tx (x.name ++ [40]) :: (cj x.list ++ [.tx [41]])) w (.returned v) w3) := Lib.hid fun v w3 ho hb => by
        refine ⟨v, rfl, ?_, hb⟩
        rw [HL.out, List.length_append, pcsV_app]
        exact ho
      generalize (Pc.tx (x.name ++ [40]) :: cj x.list) = L at hown hcl HFIN
      have HON := Lib.hid hown
      have HBB := Lib.hid hB
      clear hown hB
      go_wp2_with (go_at_call 40; refine (hT.out _ _).mono ?_)
      rintro e w5 ⟨rfl, hB5⟩
      have HB5 := Lib.hid (HBB.out.trans (hB5.mono HBB.out.size))
      have HO5 := Lib.hid (own_below HON.out hB5)
      have hbs5 := HB5.out.size
      clear hB5
      go_wp2_with (at_builtin; refine wpList_append_own _ rfl _ _ 97 rfl w.heap.size 59 i0 (.agg #[.bool false, .string ⟨#[]⟩, .int .i64 0]) 3 32 Tryz.underlying97 hi0 hz0 hz1 hz2 rfl (by decide) _ _ _ rfl (HO5.out.alloc _) ⟨w5.heap.size, 0, none⟩ 1 1 [.bool false, .string ⟨#[41]⟩, .int .i64 0] rfl rfl (pnews _ _ _ _ _) (fun u hu => by simp at hu; rcases hu with rfl | rfl | rfl <;> rfl) (by unfold maxLen; omega) (by omega) (by simp; omega) ?_; intro v' w3 hown' hgrow _; have HG := Lib.hid hgrow; have HO3 := Lib.hid hown'; clear hgrow hown')
      have HB4 := Lib.hid (below_append (HB5.out.alloc hbs5 _) (Nat.le_refl _) (HO5.out.alloc _) HG.out)
      obtain ⟨A6, c6, rfl⟩ := own_sl HO3.out
      go_wp2
      go_ret
      exact HFIN.out _ _ HO3.out HB4.out
end Go.Proofs.YtdeflloidhbpmaaGreatDoor
