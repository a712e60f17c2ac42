/-
  rewindref18.split: a line's words.
-/
import Derived.Test.YtdknejmhlfpdfaaGreatDoorOrM
import Derived.Test.YtdknejmhlfpdfaaGreatDoorOrB
import Derived.BigRegion
import Derived.StillTailTactics
namespace Go.Proofs.YtdknejmhlfpdfaaGreatDoor
open Go.RowKit

theorem wgt_mem {l : List (List UInt8)} {a : List UInt8} (h : a ∈ l) : a.length + 1 ≤ wgt l := by
  induction l with
  | nil => cases h
  | cons x r ih =>
    simp only [wgt]
    rcases List.mem_cons.1 h with rfl | h
    · omega
    · have := ih h; omega
theorem wsS_len (t : List UInt8) (k : Nat) : (wsS (t.take k)).1.length ≤ k ∧ ∀ l ∈ (wsS (t.take k)).1, l.length ≤ k := by
  have h1 := ws_len (t.take k)
  have h2 := wgt_ws (t.take k)
  unfold wsM at h1 h2
  rw [List.length_take] at h1 h2
  exact ⟨by omega, fun l hl => by have := wgt_mem hl; omega⟩
/-- What split answers. -/
def SplP (l : List (List UInt8)) (w : World) (e : Ending) (w' : World) : Prop :=
  Below w.heap.size w w' ∧ ∃ v, e = .returned v ∧ w'.ownsRow w.heap.size 9 1 v l.length (strsP l)
theorem wstep_word0 {l : List (List UInt8)} {c : UInt8} (h : ¬ (c = 32 ∨ c = 9)) : wstep (l, false) c = (l ++ [[c]], true) := by
  unfold wstep
  rw [if_neg h]; simp
theorem wstep_word1 {l : List (List UInt8)} {a : List UInt8} {c : UInt8} (h : ¬ (c = 32 ∨ c = 9)) : wstep (l ++ [a], true) c = (l ++ [a ++ [c]], true) := by
  unfold wstep
  rw [if_neg h]; simp
theorem u8_ne {c : UInt8} {n : Nat} (h : c.toNat ≠ n) : ((c.toNat : Int) == (n : Int)) = false := beq_eq_false_iff_ne.2 (by omega)
set_option maxRecDepth 100000 in
set_option maxHeartbeats 4000000 in
theorem ordSplit_calls (t : List UInt8) (ht : t.length ≤ 100000) (w : World) : Calls Tryz.prog 14 #[.string (bs t)] w (SplP (wsM t) w) := by
  obtain ⟨i0, hi0, hz0, hz1, hz2⟩ := info_parts Tryz.infoStr
  have hsz : (bs t).size = t.length := bs_size t
  have HG : Hid (∀ (k : Nat) (h : k < (bs t).size) (h' : k < t.length), (bs t)[k]'h = t[k]) := Lib.hid (fun k h h' => rfl)
  have HEX : Hid (∀ k (h : k < t.length), (bs t).extract k (k + 1) = bs [t[k]]) := Lib.hid (fun k h => by
    rw [extC, show k + 1 - k = 1 by omega, List.drop_eq_getElem_cons h]
    rfl)
  generalize hS : bs t = S at *
  clear hS
  have HST0 : Hid (wsS (t.take 0) = ([], false)) := Lib.hid rfl
  go_enter Tryz.func14, Tryz.ntmps14
  go_wp2
  go_loopw [3, 4, 5] (fun v b i wr => ∃ (k : Nat) (L : List (List UInt8)) (q : Bool), k ≤ t.length ∧ i = .int .i64 k ∧ b = .bool q ∧ Hid (wsS (t.take k) = (L, q)) ∧ Hid (wr.ownsRow w.heap.size 9 1 v L.length (strsP L)) ∧ Hid (Below w.heap.size w wr)) (fun _ _ i _ => t.length - (intOf i).toNat)
  case atStart => exact ⟨0, [], false, by omega, rfl, rfl, HST0, Lib.hid ⟨rfl, .inl ⟨rfl, rfl⟩⟩, Lib.hid (Below.refl _ _)⟩
  case round =>
    obtain ⟨k, L, q, hk, rfl, rfl, HQ, HV, HB⟩ := hrel
    obtain ⟨A4, c4, hv⟩ := own_sliceC HV.out
    subst hv
    have hsw : w.heap.size ≤ wr.heap.size := HB.out.size
    have hpl0 := wsS_len t k
    rw [HQ.out] at hpl0
    have hpl : L.length ≤ k := hpl0.1
    have hpm : Hid (∀ l ∈ L, l.length ≤ k) := Lib.hid hpl0.2
    clear hpl0
    by_cases hlt : k < t.length
    · have hks : k < S.size := by omega
      have hx := HG.out k hks hlt
      have HTK : Hid (wsS (t.take (k + 1)) = wstep (L, q) t[k]) := Lib.hid (by rw [List.take_succ_eq_append_getElem hlt, wsS_snoc, HQ.out])
      have hE := HEX.out k hlt
      generalize t[k] = ch at *
      by_cases hb : ch = 32
      · have e1 : (((S[k]'hks).toNat : Int) == 32) = true := by rw [hx, hb]; rfl
        have HST : Hid (wsS (t.take (k + 1)) = (L, false)) := Lib.hid (by rw [HTK.out, ws_blank _ (.inl hb)])
        clear hx hb hE
        go_wp2
        go_roundw
        case rel => exact ⟨k + 1, L, false, by omega, by go_num, rfl, HST, HV, HB⟩
        case measure => simp [intOf]; omega
      · have e1 : (((S[k]'hks).toNat : Int) == 32) = false := by
          rw [hx]
          exact u8_ne (fun h => hb (UInt8.toNat_inj.1 (by simpa using h)))
        by_cases hb9 : ch = 9
        · have e2 : (((S[k]'hks).toNat : Int) == 9) = true := by rw [hx, hb9]; rfl
          have HST : Hid (wsS (t.take (k + 1)) = (L, false)) := Lib.hid (by rw [HTK.out, ws_blank _ (.inr hb9)])
          clear hx hb hb9 hE
          go_wp2
          go_roundw
          case rel => exact ⟨k + 1, L, false, by omega, by go_num, rfl, HST, HV, HB⟩
          case measure => simp [intOf]; omega
        · have e2 : (((S[k]'hks).toNat : Int) == 9) = false := by
            rw [hx]
            exact u8_ne (fun h => hb9 (UInt8.toNat_inj.1 (by simpa using h)))
          have hnb : ¬ (ch = 32 ∨ ch = 9) := fun h => h.elim hb hb9
          have k0 : (0 : Int) ≤ (k : Int) := by omega
          have k1 : (k : Int) < (t.length : Int) := by omega
          have k2 : (k : Int) + 1 ≤ (t.length : Int) := by omega
          have k3 : k + 1 ≤ S.size := by omega
          obtain ⟨X, hX⟩ : ∃ X, X = bs [ch] := ⟨_, rfl⟩
          have z1 : (bs [ch]).size = 1 := by rw [bs_size]; rfl
          clear hx hb hb9
          cases q with
          | false =>
            have HST : Hid (wsS (t.take (k + 1)) = (L ++ [[ch]], true)) := Lib.hid (by rw [HTK.out, wstep_word0 hnb])
            have HXE := Lib.hid hX
            rw [← hX] at hE z1
            clear hX hnb
            go_wp2_with (at_builtin; refine wpList_append_own _ rfl _ _ 38 rfl w.heap.size 9 i0 (.string ⟨#[]⟩) 1 16 Tryz.underlying38 hi0 hz0 hz1 hz2 rfl (by decide) (.slice A4 L.length c4) L.length (strsP L) rfl (HV.out.alloc _) ⟨wr.heap.size, 0, none⟩ 1 1 [.string ⟨#[]⟩] (by rfl) rfl (newsI wr (.string ⟨#[]⟩) 9 wr.heap.size rfl) (oneStr _) (by unfold maxLen; omega) (by omega) (by simp; omega) ?_; intro v' w6 hown6 hgrow hnil; clear hnil; have HG6 := Lib.hid hgrow; have H6 := Lib.hid hown6; clear hgrow hown6)
            have HB6 := Lib.hid (below_appC (HB.out.alloc hsw _) (Nat.le_refl _) (HV.out.alloc _) HG6.out)
            have hv2 : w6.ownsRow w.heap.size 9 1 v' (L.length + 1) (strsP (L ++ [[]])) := by rw [strsP_snoc]; exact H6.out
            obtain ⟨g, cap, hv, hg1, hg2, hc1, hc2, hcl⟩ := own_cellC hv2 (by omega)
            subst hv
            have xc : w6.cell? ⟨g, L.length, none⟩ = some (.string ⟨#[]⟩) := by rw [hcl _ (by omega)]; simp [strsP]; rfl
            obtain ⟨cur, hcur⟩ := own_cells2 hv2 g rfl
            have xf : w6.frozen? ⟨g, L.length, none⟩ = false := by simp [World.frozen?, hcur]
            have HSET := Lib.hid (fun u => own_setC (j := L.length) (u := u) hv2 (by omega))
            have HSX := Lib.hid (fun x y (h : x = bs y) => strsP_set L [] x y h)
            have HCT : Hid ((⟨#[]⟩ : ByteArray) ++ X = bs [ch]) := Lib.hid (by rw [HXE.out]; exact WideShapes.bytes_inj (by rw [ByteArray.data_append, Array.toList_append]; rfl))
            have g1 : (9223372036854775807 < (⟨#[]⟩ : ByteArray).size + X.size) = False := eq_false (by rw [z1]; decide)
            have p0 : (0 : Int) ≤ (L.length : Int) := by omega
            unfold maxLen at hc2
            generalize hnp : L.length = np at *
            have HNP := Lib.hid hnp
            clear hnp
            clear hcl hv2 hcur H6 HG6
            go_wp2
            go_region
            all_goals
              have hown := (HSET.out (.string ((⟨#[]⟩ : ByteArray) ++ X))).drew
              rw [HSX.out ((⟨#[]⟩ : ByteArray) ++ X) [ch] HCT.out] at hown
              have HO := Lib.hid hown
              have HBZ := Lib.hid (below_drewC (HB6.out.setCell (p := ⟨g, np, none⟩) hg1 (.string ((⟨#[]⟩ : ByteArray) ++ X))) 1)
              clear hown xc xf
              go_wp2
              go_roundw
              case rel => exact ⟨k + 1, _, true, by omega, by go_num, rfl, HST, Lib.hid (by rw [List.length_append, List.length_singleton, HNP.out]; exact HO.out), HBZ⟩
              case measure => simp [intOf]; omega
          | true =>
            have hne := wsS_in (t.take k)
            rw [HQ.out] at hne
            have hsp := last_split (hne rfl)
            generalize L.dropLast = P at hsp
            generalize L.getLastD [] = l at hsp
            subst hsp
            clear hne
            have HST : Hid (wsS (t.take (k + 1)) = (P ++ [l ++ [ch]], true)) := Lib.hid (by rw [HTK.out, wstep_word1 hnb])
            have hll := hpm.out l (by simp)
            have hv2 := HV.out
            rw [List.length_append, List.length_singleton] at hv2
            simp only [List.length_append, List.length_singleton] at hpl
            rw [List.length_append, List.length_singleton]
            obtain ⟨g, cap, hv, hg1, hg2, hc1, hc2, hcl⟩ := own_cellC hv2 (by omega)
            injection hv with e1' _ e3
            subst e1' e3
            have xc : wr.cell? ⟨g, P.length, none⟩ = some (.string (bs l)) := by rw [hcl _ (by omega)]; simp [strsP]
            obtain ⟨cur, hcur⟩ := own_cells2 hv2 g rfl
            have xf : wr.frozen? ⟨g, P.length, none⟩ = false := by simp [World.frozen?, hcur]
            have HSET := Lib.hid (fun u => own_setC (j := P.length) (u := u) hv2 (by omega))
            have HSX := Lib.hid (fun x y (h : x = bs y) => strsP_set P l x y h)
            have HCT : Hid (bs l ++ bs [ch] = bs (l ++ [ch])) := Lib.hid (WideShapes.bytes_inj (by rw [ByteArray.data_append, Array.toList_append, bs_toList, bs_toList, bs_toList]))
            have z0 : (bs l).size ≤ 100000 := by rw [bs_size]; omega
            obtain ⟨Y, hY⟩ : ∃ Y, Y = bs l := ⟨_, rfl⟩
            rw [← hY] at xc z0 HCT
            rw [← hX] at hE z1 HCT
            have g1 : (9223372036854775807 < Y.size + X.size) = False := eq_false (by omega)
            have g2 : (9223372036854775807 < Y.size + 1) = False := eq_false (by omega)
            have p0 : (0 : Int) ≤ (P.length : Int) := by omega
            unfold maxLen at hc2
            generalize hnp : P.length = np at *
            have HNP := Lib.hid hnp
            clear hnp
            clear hcl hv2 hcur hX hY hll hnb HV HQ HTK hpm
            go_wp2
            go_region
            all_goals
              have hown := (HSET.out (.string (Y ++ X))).drew
              rw [HSX.out (Y ++ X) (l ++ [ch]) HCT.out] at hown
              have HO := Lib.hid hown
              have HBZ := Lib.hid (below_drewC (HB.out.setCell (p := ⟨g, np, none⟩) hg1 (.string (Y ++ X))) 1)
              clear hown xc xf
              go_wp2
              go_roundw
              case rel => exact ⟨k + 1, _, true, by omega, by go_num, rfl, HST, Lib.hid (by rw [List.length_append, List.length_singleton, HNP.out]; exact HO.out), HBZ⟩
              case measure => simp [intOf]; omega
    · obtain rfl : k = t.length := by omega
      have hq := HQ.out
      rw [List.take_length] at hq
      have HR : Hid (wsM t = L) := Lib.hid (by unfold wsM; rw [hq])
      clear hlt hk hpl hq
      go_wp2
      go_ret
      exact ⟨HB.out, _, rfl, by rw [HR.out]; exact HV.out⟩
end Go.Proofs.YtdknejmhlfpdfaaGreatDoor
