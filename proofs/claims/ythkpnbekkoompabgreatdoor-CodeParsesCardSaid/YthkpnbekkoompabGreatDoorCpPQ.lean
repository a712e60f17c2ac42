/-
  code: a procedure's, and an instruction's line.
-/
import Derived.Test.YthkpnbekkoompabGreatDoorCpT
import Derived.Test.YthkpnbekkoompabGreatDoorCpCQ
import Derived.StillTailTactics
import Derived.Deep.RegionHeld3
namespace Go.Proofs.YthkpnbekkoompabGreatDoor
open Go.RowKit

theorem Tryz.infoStr : (Tryz.prog.info? 9).map (fun i => (i.zero, i.size, i.bytes)) = some (some (.string ⟨#[]⟩), 1, 16) := by kernel_rfl
def strsP (ps : List (List UInt8)) : List Value := ps.map fun p => Value.string (bs p)
theorem strsP_snoc (ps : List (List UInt8)) (p : List UInt8) : strsP (ps ++ [p]) = strsP ps ++ [.string (bs p)] := by simp [strsP]
theorem oneStr (p : ByteArray) : ∀ u ∈ [Value.string p], u.oneCell' = true := by
  intro u hu; simp at hu; subst hu; rfl
/-- A row that isn't empty, and its cells. -/
theorem own_cellC {w : World} {base n : Nat} {e : TypeId} {v : Value} {xs : List Value} (h : w.ownsRow base e 1 v n xs) (hn : 0 < n) :
    ∃ g cap, v = .slice (some ⟨g, 0, none⟩) n cap ∧ base ≤ g ∧ g < w.heap.size ∧ n ≤ cap ∧ cap ≤ maxLen ∧ ∀ j, j < n → w.cell? ⟨g, j, none⟩ = xs[j]? := by
  rcases h.2 with ⟨_, h0⟩ | ⟨g, cap, cur, rfl, hb, hg, h1, h2, h3, h4⟩
  · omega
  · refine ⟨g, cap, rfl, hb, blkLt hg, h1, h2, fun j hj => ?_⟩
    rw [cellC hg j, ← h4, List.getElem?_take, if_pos (by omega), Array.getElem?_toList]
theorem ret_str {a b : ByteArray} (h : a = b) : Ending.returned (.string a) = .returned (.string b) := by rw [h]

set_option maxRecDepth 100000 in
set_option maxHeartbeats 2000000 in
theorem lineOf_calls (base : Nat) (w0 : World) (A B : Option Addr) (c d : Nat) (ps : List (List UInt8)) (ns : List Int) (w : World) (hX : TX w0) (h0 : w0.heap.size ≤ base) (hB0 : Below base w0 w) (hbs : base ≤ w.heap.size)
    (hps : 0 < ps.length) (hpl : ps.length ≤ 1000) (hnl : ns.length ≤ 1000) (hown : w.ownsRow base 9 1 (.slice A ps.length c) ps.length (strsP ps)) (hns : w.ownsRow base 3 1 (.slice B ns.length d) ns.length (intsL ns)) (hf : ∀ n ∈ ns, i64 n)
    (hlen : (lineM (ps ++ ns.map Lib.itoa)).length ≤ 1000000) :
    Calls Tryz.prog 34 #[.slice A ps.length c, .slice B ns.length d] w fun e w' => e = .returned (.string (bs (lineM (ps ++ ns.map Lib.itoa)))) ∧ Below base w w' := by
  obtain ⟨i0, hi0, hz0, hz1, hz2⟩ := info_parts Tryz.infoStr
  have HX := Lib.hid (fun W (hW : Below base w W) => hX.below (hB0.trans hW) h0)
  have HO := Lib.hid hown
  have HN := Lib.hid hns
  have HF := Lib.hid hf
  have HLEN := Lib.hid hlen
  have HP := Lib.hid hps
  obtain ⟨L, hL⟩ : ∃ L, L = lineM (ps ++ ns.map Lib.itoa) := ⟨_, rfl⟩
  rw [← hL]
  have HLD := Lib.hid hL
  clear hL
  clear hX hown hns hf hB0 h0 hlen hps
  go_enter Tryz.func34, Tryz.ntmps34
  go_wp2
  go_loopw [0, 9] (fun v i wr => ∃ (k : Nat), k ≤ ns.length ∧ i = .int .i64 k ∧ Hid (wr.ownsRow base 9 1 v (ps.length + k) (strsP (ps ++ (ns.take k).map Lib.itoa))) ∧ Hid (wr.ownsRow base 3 1 (.slice B ns.length d) ns.length (intsL ns)) ∧ Hid (Below base w wr)) (fun _ i _ => ns.length - (intOf i).toNat)
  case atStart => exact ⟨0, by omega, rfl, Lib.hid (by simpa using HO.out), HN, Lib.hid (Below.refl _ _)⟩
  case round =>
    obtain ⟨k, hk, rfl, HV, HNR, HB⟩ := hrel
    have hv := HV.out
    obtain ⟨A4, c4, rfl⟩ := own_sliceC hv
    clear hv
    have hsz := HB.out.size
    by_cases hlt : k < ns.length
    · obtain ⟨g, cap, hvg, hgb, hgl, _, _, hcl⟩ := own_cellC HNR.out (by omega)
      injection hvg with e1 _ e3
      subst e1 e3
      have hx : wr.cell? ⟨g, 0 + k, none⟩ = some (.int .i64 ns[k]) := by
        rw [Nat.zero_add, hcl k hlt]; simp [intsL, hlt]
      have hx' : wr.cell? ⟨g, k, none⟩ = some (.int .i64 ns[k]) := by
        rw [hcl k hlt]; simp [intsL, hlt]
      have HTK : Hid ((ns.take (k + 1)).map Lib.itoa = (ns.take k).map Lib.itoa ++ [Lib.itoa ns[k]]) := Lib.hid (by rw [List.take_succ_eq_append_getElem hlt, List.map_append]; rfl)
      have hnf := HF.out _ (List.getElem_mem hlt)
      generalize ns[k] = n at *
      have HIT := Lib.hid (itoa_calls n hnf wr (HX.out _ HB.out))
      generalize Lib.itoa n = t at *
      have hk0 : (0 : Int) ≤ (k : Int) := by omega
      have hk1 : (k : Int) < (ns.length : Int) := by omega
      clear hcl hnf hgb hgl
      go_wp2_with fail
      refine HIT.out.mono ?_
      rintro e w1 ⟨rfl, hB1⟩
      have HB1 := Lib.hid (HB.out.trans (hB1.mono (by omega)))
      have HV1 := Lib.hid (own_keepC HV.out fun g hg => hB1.block g (own_ltC HV.out g hg).2)
      have HN1 := Lib.hid (own_keepC HNR.out fun g hg => hB1.block g (own_ltC HNR.out g hg).2)
      have hz1' : base ≤ w1.heap.size := Nat.le_trans hbs HB1.out.size
      clear hB1 HIT hx hx'
      go_wp2_with (at_builtin; refine wpList_append_own _ rfl _ _ 46 rfl base 9 i0 (.string ⟨#[]⟩) 1 16 Tryz.underlying46 hi0 hz0 hz1 hz2 rfl (by decide) (.slice A4 (ps.length + k) c4) (ps.length + k) (strsP (ps ++ (ns.take k).map Lib.itoa)) rfl (HV1.out.alloc _) ⟨w1.heap.size, 0, none⟩ 1 1 [.string (bs t)] (by rfl) rfl (newsI w1 (.string (bs t)) 9 w1.heap.size rfl) (oneStr _) (by unfold maxLen; omega) (by omega) (by simp; omega) ?_; intro v' w3 hown3 hgrow hnil; clear hnil; have HG := Lib.hid hgrow; have H3 := Lib.hid hown3; clear hgrow hown3)
      have HN3 : Hid (w3.ownsRow base 3 1 (.slice (some ⟨g, 0, none⟩) ns.length d) ns.length (intsL ns)) := Lib.hid (own_keepC (HN1.out.alloc (.cells #[.string (bs t)] 9)) fun q hq => HG.out.block q (own_ltC (HN1.out.alloc (.cells #[.string (bs t)] 9)) q hq).2 (fun e => own_apart (by decide) HN1.out HV1.out q hq e.symm))
      go_roundw
      case rel => exact ⟨k + 1, by omega, by go_num, Lib.hid (by rw [HTK.out, ← List.append_assoc, strsP_snoc]; exact H3.out), HN3, Lib.hid (below_appC (HB1.out.alloc hz1' _) hbs (HV1.out.alloc _) HG.out)⟩
      case measure => simp [intOf]; omega
    · obtain rfl : k = ns.length := by omega
      rw [List.take_length] at HV
      have hlp := HP.out
      obtain ⟨g, cap, hvg, hgb, hgl, hcap, hcm, hcl⟩ := own_cellC HV.out (by omega)
      injection hvg with e1 _ e3
      subst e1 e3
      obtain ⟨xs, hxs⟩ : ∃ xs, xs = ps ++ ns.map Lib.itoa := ⟨_, rfl⟩
      have hxl : (xs.map bs).length = ps.length + ns.length := by rw [hxs]; simp
      have hmm : (xs.map bs).map (fun (x : ByteArray) => x.data.toList) = xs := by
        rw [List.map_map]
        have : ((fun (x : ByteArray) => x.data.toList) ∘ bs) = id := by funext l; exact bs_toList l
        rw [this, List.map_id]
      have hjl : (Lib.join xs [32]).length + 1 = (lineM xs).length := by simp [lineM]
      rw [← hxs] at HLEN hcl
      have hln := HLEN.out
      have HJ := Lib.hid (Tryz.joinW g 0 c4 (xs.map bs) ⟨#[32]⟩ wr (by
        intro j x hj
        have hjlt : j < xs.length := by
          rcases Nat.lt_or_ge j xs.length with h | h
          · exact h
          · rw [List.getElem?_eq_none (by simpa using h)] at hj; cases hj
        have := hcl j (by rw [hxs] at hjlt; simp at hjlt; omega)
        rw [Nat.zero_add, this]
        simp [strsP, hjlt] at hj ⊢
        exact hj) hgl (by rw [hxl]; omega) (by rw [hxl]; exact hcap) (by rw [hmm]; show (Lib.join xs [32]).length ≤ _; omega))
      rw [hxl, hmm] at HJ
      have HE : Hid ((⟨(Lib.join xs [32]).toArray⟩ : ByteArray) ++ (⟨#[10]⟩ : ByteArray) = bs L) := Lib.hid (WideShapes.bytes_inj (by
        rw [HLD.out, ← hxs, bs_toList]; simp [lineM]))
      have hs0 : (⟨(Lib.join xs [32]).toArray⟩ : ByteArray).size = (Lib.join xs [32]).length := by show (Lib.join xs [32]).toArray.size = _; simp
      have hj2 : ([32] : List UInt8) = (⟨#[32]⟩ : ByteArray).data.toList := rfl
      rw [← hj2] at HJ
      have hsA : (⟨#[10]⟩ : ByteArray).size = 1 := rfl
      generalize (⟨(Lib.join xs [32]).toArray⟩ : ByteArray) = J at *
      have s1 : (9223372036854775807 < J.size + 1) = False := eq_false (by omega)
      have s2 : (9223372036854775807 < J.size + (⟨#[10]⟩ : ByteArray).size) = False := eq_false (by omega)
      clear hcl hxs hmm hxl hlt hk hln hjl hs0 hj2 hsA HLEN hlp
      go_wp2_with fail
      refine HJ.out.mono ?_
      rintro e w1 ⟨rfl, hB1⟩
      have HB1 := Lib.hid (HB.out.trans (hB1.mono (by omega)))
      clear hB1 HJ
      go_wp2
      go_ret
      exact ⟨ret_str HE.out, HB1.out⟩

theorem own_block {W : World} {base g n m : Nat} {e : TypeId} {cur : Array Value} (h : W.heap[g]? = some (.cells cur e (0, 0))) (hb : base ≤ g) (hn : cur.size = n) (hm : m ≤ n) (hx : n ≤ maxLen) : W.ownsRow base e 1 (.slice (some ⟨g, 0, none⟩) m n) m (cur.toList.take m) :=
  ⟨by rw [List.length_take, Array.length_toList]; omega, .inr ⟨g, n, cur, rfl, hb, h, hm, hx, by omega, by rw [Nat.mul_one]⟩⟩
theorem alloc3 (w : World) (a b c : Array Value) (s t u : TypeId) : (((w.alloc (.cells a s)).alloc (.cells b t)).alloc (.cells c u)).heap[w.heap.size + 1]? = some (.cells b t (0, 0)) ∧ (((w.alloc (.cells a s)).alloc (.cells b t)).alloc (.cells c u)).heap[w.heap.size + 1 + 1]? = some (.cells c u (0, 0)) ∧
    Below w.heap.size w (((w.alloc (.cells a s)).alloc (.cells b t)).alloc (.cells c u)) ∧ (((w.alloc (.cells a s)).alloc (.cells b t)).alloc (.cells c u)).heap.size = w.heap.size + 3 := by
  have e1 : (w.alloc (.cells a s)).heap.size = w.heap.size + 1 := by simp
  have e2 : ((w.alloc (.cells a s)).alloc (.cells b t)).heap.size = w.heap.size + 1 + 1 := by simp
  refine ⟨?_, ?_, ((((Below.refl w.heap.size w).alloc (Nat.le_refl _) _).alloc (by omega) _).alloc (by omega) _), by simp⟩
  · rw [Below.heap_alloc _ _ _ (by omega)]
    have := heapOne (w.alloc (.cells a s)) b t
    rwa [e1] at this
  · have := heapOne ((w.alloc (.cells a s)).alloc (.cells b t)) c u
    rwa [e2] at this

set_option maxRecDepth 100000 in
set_option maxHeartbeats 2000000 in
theorem procLine_calls (p : PrM) (w : World) (hX : TX w) (hf : p.fit) (hn : p.name.length ≤ 100000) :
    Calls Tryz.prog 17 #[prV p] w fun e w' => e = .returned (.string (bs (lineM (partsP p)))) ∧ Below w.heap.size w w' := by
  have hlen : (lineM (partsP p)).length ≤ 1000000 := by
    have := line_len (partsP p) 100000 (fun a ha => by
      simp only [partsP, List.mem_cons, List.not_mem_nil, or_false] at ha
      rcases ha with rfl | rfl | rfl | rfl | rfl
      · decide
      · exact hn
      · have := itoa_len hf.2.2.1; omega
      · have := itoa_len hf.2.2.2.1; omega
      · have := itoa_len hf.2.2.2.2; omega)
    have h2 : (partsP p).length = 5 := rfl
    rw [h2] at this
    omega
  obtain ⟨a1, a2, a3, a4⟩ := alloc3 w #[.string (bs p.name), .int .i64 p.frm, .int .i64 p.to, .int .i64 p.par, .int .i64 p.slo, .int .i64 p.typ] #[.string ⟨#[112, 114, 111, 99]⟩, .string (bs p.name)] #[.int .i64 p.par, .int .i64 p.slo, .int .i64 p.typ] 56 9 3
  have HL := Lib.hid (lineOf_calls (w.heap.size) w (some ⟨w.heap.size + 1, 0, none⟩) (some ⟨w.heap.size + 1 + 1, 0, none⟩) 2 3 [procB, p.name] [p.par, p.slo, p.typ] _ hX (Nat.le_refl _) a3 a3.size (by simp) (by simp) (by simp)
    (own_block a1 (by omega) rfl (by simp) (by decide)) (own_block a2 (by omega) rfl (by simp) (by decide)) (by intro n hn; simp at hn; rcases hn with rfl | rfl | rfl; exact hf.2.2.1; exact hf.2.2.2.1; exact hf.2.2.2.2) hlen)
  have HB := Lib.hid a3
  rw [show [procB, p.name] ++ [p.par, p.slo, p.typ].map Lib.itoa = partsP p from rfl, show ([procB, p.name] : List (List UInt8)).length = 2 from rfl, show ([p.par, p.slo, p.typ] : List Int).length = 3 from rfl] at HL
  unfold prV
  generalize lineM (partsP p) = L at *
  clear a1 a2 a3 a4 hX hf hn hlen
  go_enter Tryz.func17, Tryz.ntmps17
  go_wp2_with fail
  refine HL.out.mono ?_
  rintro e w1 ⟨rfl, hB1⟩
  have HB1 := Lib.hid (HB.out.trans hB1)
  clear hB1 HL
  go_wp2
  go_ret
  exact ⟨rfl, HB1.out⟩
end Go.Proofs.YthkpnbekkoompabGreatDoor
