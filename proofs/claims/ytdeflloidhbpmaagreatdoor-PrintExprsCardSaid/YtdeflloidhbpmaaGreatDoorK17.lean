/-
  A program: functions, to the end.
-/
import Derived.Test.YtdeflloidhbpmaaGreatDoorK15
import Derived.Test.YtdeflloidhbpmaaGreatDoorK16
namespace Go.Proofs.YtdeflloidhbpmaaGreatDoor
open Go.RowKit

/-- A program in memory, in blocks of L. -/
def TrIn (L : Nat → Prop) (w : World) (v : Value) (s : Sg) : Prop :=
  ∃ ve vs vf ce cs cf, v = .agg #[ve, vs, vf] ∧ (ArrAt w 9 ve s.ex.length ce ∧ ∀ g, ve.ownBlock = some g → L g) ∧ (ArrAt w 9 vs s.st.length cs ∧ ∀ g, vs.ownBlock = some g → L g) ∧ (ArrAt w 6 vf s.fn.length cf ∧ ∀ g, vf.ownBlock = some g → L g) ∧
    RowsOf (ExC w fun g => g < w.heap.size ∧ L g) s.ex ce ∧ RowsOf (SmC w fun g => g < w.heap.size ∧ L g) s.st cs ∧ RowsOf (FuC w fun g => g < w.heap.size ∧ L g) s.fn cf
def TrAt (w : World) (v : Value) (s : Sg) : Prop := TrIn (fun _ => True) w v s
theorem ArrAt.keep {L : Nat → Prop} {w w' : World} {sz : Nat} {v : Value} {n : Nat} {cs : List Value} (h : ArrAt w sz v n cs ∧ ∀ g, v.ownBlock = some g → L g) (hs : w.heap.size ≤ w'.heap.size) (hb : ∀ k, k < w.heap.size → L k → w'.heap[k]? = w.heap[k]?) : ArrAt w' sz v n cs := by
  obtain ⟨⟨A, c, rfl, h1, h2⟩, hl⟩ := h
  refine ⟨A, c, rfl, h1, fun h0 => ?_⟩
  obtain ⟨g, rfl, h3, h4⟩ := h2 h0
  exact ⟨g, rfl, Nat.lt_of_lt_of_le h3 hs, fun j u hu => (World.cell?_of_block (a := ⟨g, j, none⟩) (hb g h3 (hl g rfl))).trans (h4 j u hu)⟩
theorem TrIn.keep {L L' : Nat → Prop} {w w' : World} {v : Value} {s : Sg} (h : TrIn L w v s) (hs : w.heap.size ≤ w'.heap.size) (hb : ∀ k, k < w.heap.size → L k → w'.heap[k]? = w.heap[k]?) (hL : ∀ k, L k → L' k) : TrIn L' w' v s := by
  obtain ⟨ve, vs, vf, ce, cs, cf, e, h1, h2, h3, h4, h5, h6⟩ := h
  have hk : KeptOn (fun g => g < w.heap.size ∧ L g) (fun g => g < w'.heap.size ∧ L' g) w w' := ⟨hs, fun g hg hl => ⟨⟨Nat.lt_of_lt_of_le hl hs, hL g hg.2⟩, hb g hl hg.2⟩⟩
  exact ⟨ve, vs, vf, ce, cs, cf, e, ⟨ArrAt.keep h1 hs hb, fun g hg => hL g (h1.2 g hg)⟩, ⟨ArrAt.keep h2 hs hb, fun g hg => hL g (h2.2 g hg)⟩, ⟨ArrAt.keep h3 hs hb, fun g hg => hL g (h3.2 g hg)⟩, h4.mono (ExC.keep hk), h5.mono (SmC.keep hk), h6.mono (FuC.keep hk)⟩
theorem TrAt.below {w w' : World} {v : Value} {s : Sg} (h : TrAt w v s) (hB : Below w.heap.size w w') : TrAt w' v s := TrIn.keep h hB.size (fun k hk _ => hB.block k hk) fun _ h => h
theorem TrIn.form {L : Nat → Prop} {w : World} {v : Value} {s : Sg} (h : TrIn L w v s) : ∃ A1 c1 A2 c2 A3 c3, v = .agg #[.slice A1 s.ex.length c1, .slice A2 s.st.length c2, .slice A3 s.fn.length c3] := by
  obtain ⟨ve, vs, vf, ce, cs, cf, rfl, ⟨⟨A1, c1, rfl, _⟩, _⟩, ⟨⟨A2, c2, rfl, _⟩, _⟩, ⟨⟨A3, c3, rfl, _⟩, _⟩, _⟩ := h
  exact ⟨A1, c1, A2, c2, A3, c3, rfl⟩
/-- What a program's call answers. -/
def ProgPost (C : Cx) (S : Nat → Prop) (r : Rs Unit) (w : World) (e : Ending) (w' : World) : Prop :=
  match r with
  | .ok _ s' => ∃ v, e = .returned v ∧ TrIn (fun g => ¬ S g ∧ C.q < g) w' v s' ∧ Below C.q w w' ∧ ∀ b, S b → w'.heap[b]? = w.heap[b]?
  | .no c i => Bad C S c i w e w'
theorem ArrAt.only {w w' : World} {sz : Nat} {v : Value} {n : Nat} {cs : List Value} {B : Nat} (h : ArrAt w sz v n cs) (ho : Only B w w') (hn : ∀ g, v.ownBlock = some g → g ≠ B) : ArrAt w' sz v n cs := by
  obtain ⟨A, c, rfl, h1, h2⟩ := h
  refine ⟨A, c, rfl, h1, fun h0 => ?_⟩
  obtain ⟨g, rfl, h3, h4⟩ := h2 h0
  exact ⟨g, rfl, by rw [ho.size]; exact h3, fun j u hu => (World.cell?_of_block (a := ⟨g, j, none⟩) (ho.block g (hn g rfl))).trans (h4 j u hu)⟩
theorem arr_form {w : World} {sz : Nat} {v : Value} {n : Nat} {cs : List Value} (h : ArrAt w sz v n cs) : ∃ A c, v = .slice A n c := by
  obtain ⟨A, c, e, _⟩ := h
  exact ⟨A, _, e⟩
theorem Tryz.sizeTr : (Tryz.prog.info? 27).map (·.size) = some 3 := by kernel_rfl
theorem PIn.belowI {C : Cx} {S : Nat → Prop} {s : Sg} {w w' : World} {ve vs vf : Value} {ce cs cf : List Value} (h : PIn C S s w ve vs vf ce cs cf) (hB : Below w.heap.size w w') : PIn C S s w' ve vs vf ce cs cf :=
  h.move hB.size (fun k hk _ => hB.block k hk) fun b hb => ⟨Nat.lt_of_lt_of_le (h.sLt b hb).2 hB.size, .inl hb⟩
/-- What was put lies in new memory. -/
theorem prog_fin {C : Cx} {S : Nat → Prop} {s : Sg} {w w3 w6 w' : World} {ve vs vf v1 v2 v3 : Value} {ce cs cf : List Value} {B : Nat} (h : PIn C (Also S B) s w3 ve vs vf ce cs cf) (hB : Below w3.heap.size w3 w6)
    (h1 : ArrAt w6 9 v1 s.ex.length ce) (h2 : ArrAt w6 9 v2 s.st.length cs) (h3 : ArrAt w6 6 v3 s.fn.length cf) (f1 : ∀ g, v1.ownBlock = some g → w3.heap.size ≤ g) (f2 : ∀ g, v2.ownBlock = some g → w3.heap.size ≤ g) (f3 : ∀ g, v3.ownBlock = some g → w3.heap.size ≤ g) (ho : Only B w6 w') (hK : Keep C S w w3) (hBS : ¬ S B) :
    ProgPost C S (.ok () s) w (.returned (.agg #[v1, v2, v3])) w' := by
  have hb := h.sLt B (.inr rfl)
  have hk : KeptOn (Lst (Also S B) C.q ve vs vf) (fun g => g < w'.heap.size ∧ ¬ S g ∧ C.q < g) w3 w' := ⟨by rw [ho.size]; exact hB.size, fun g hg hl => ⟨⟨by rw [ho.size]; exact Nat.lt_of_lt_of_le hl hB.size, fun e => hg.2.1 (.inl e), hg.1⟩, (ho.block g fun e => hg.2.1 (.inr e)).trans (hB.block g hl)⟩⟩
  have hne : ∀ {v : Value}, (∀ g, v.ownBlock = some g → w3.heap.size ≤ g) → ∀ g, v.ownBlock = some g → g ≠ B := fun hf g hg => by have := hf g hg; omega
  have hq := h.qlt
  have hnS : ∀ {v : Value}, (∀ g, v.ownBlock = some g → w3.heap.size ≤ g) → ∀ g, v.ownBlock = some g → ¬ S g ∧ C.q < g := fun hf g hg => ⟨fun e => by have := hf g hg; have := (h.sLt g (.inl e)).2; omega, by have := hf g hg; omega⟩
  refine ⟨_, rfl, ⟨v1, v2, v3, ce, cs, cf, rfl, ⟨h1.only ho (hne f1), hnS f1⟩, ⟨h2.only ho (hne f2), hnS f2⟩, ⟨h3.only ho (hne f3), hnS f3⟩, h.re.mono (ExC.keep hk), h.rs.mono (SmC.keep hk), h.rf.mono (FuC.keep hk)⟩, ?_, fun b hb' => ?_⟩
  · exact (hK.below.trans (hB.mono (Nat.le_of_lt hq))).trans ⟨ho.os, ho.tape, ho.output, by rw [ho.size]; exact Nat.le_refl _, fun k hk => ho.block k (by omega)⟩
  · exact (ho.block b fun e => hBS (e ▸ hb')).trans ((hB.block b (h.sLt b (.inl hb')).2).trans (hK.kept b hb'))

set_option maxRecDepth 100000 in
set_option maxHeartbeats 4000000 in
theorem program_calls (C : Cx) (S : Nat → Prop) (s : Sg) (w : World) (h : PAt C S 0 s w) :
    Calls Tryz.prog 49 #[.pointer (some ⟨C.q, 0, none⟩)] w (ProgPost C S (programM C.T s) w) := by
  have hbk : BlockC C 1 (blockM C.T 64) := block_part C h.tk 64 (Nat.le_refl _)
  have HB := Lib.hid hbk
  have HTK := Lib.hid h.tk
  obtain ⟨R, hR⟩ : ∃ R, programM C.T s = R := ⟨_, rfl⟩
  rw [hR]
  have HR := Lib.hid hR
  unfold programM at HR
  have H := Lib.hid h
  have P0 := Lib.hid (h.allocA (.cells #[.slice none 0 0, .slice none 0 0, .slice none 0 0] 27))
  have K0 := Lib.hid (Keep.alloc h (.cells #[.slice none 0 0, .slice none 0 0, .slice none 0 0] 27))
  have bA0 := Lib.hid (heap_one w #[.slice none 0 0, .slice none 0 0, .slice none 0 0] 27)
  clear h hR hbk
  go_enter Tryz.func49, Tryz.ntmps49
  go_wp2_with fail
  refine (function_calls C (Also S w.heap.size) 0 s HB.out _ P0.out).mono ?_
  intro e w1 h1
  generalize hr : functionM C.T s = r at h1
  cases r with
  | no c i =>
    obtain rfl : R = .no c i := HR.out.symm.trans (bd_no hr)
    clear hr
    obtain rfl := h1.1
    go_wp2
    exact ⟨rfl, bad_of h1 K0.out fun _ h => .inl h⟩
  | ok o s1 =>
    have HR1 := Lib.hid ((bd_ok hr).symm.trans HR.out)
    clear hr HR
    obtain ⟨rfl, hp, hk⟩ := h1
    have P1 := Lib.hid hp
    have K1 := Lib.hid (K0.out.trans (hk.sub (fun _ h => .inl h)))
    have bA1 := Lib.hid ((hk.kept _ (.inr rfl)).trans bA0.out)
    clear hp hk
    unfold unitV
    go_wp2
    go_loopw [] (fun wr => ∃ (n : Nat) (s' : Sg), PAt C (Also S w.heap.size) 0 s' wr ∧ Keep C S w wr ∧ wr.heap[w.heap.size]? = some (.cells #[.slice none 0 0, .slice none 0 0, .slice none 0 0] 27 (0, 0)) ∧ programL C.T n s' = R ∧ C.T.length ≤ n + s'.at_) (fun wr => C.T.length - atOf C.q wr)
    case atStart => exact ⟨C.T.length + 1, s1, P1.out, K1.out, bA1.out, HR1.out, by omega⟩
    case round =>
      obtain ⟨n, s2, h1, h2, h3, h4, h5⟩ := hrel
      have hlt := h1.lt
      have P2 := Lib.hid h1
      have K2 := Lib.hid h2
      have bA2 := Lib.hid h3
      have HR2 := Lib.hid h4
      have hat := Lib.hid h1.atOf
      clear h1 h2 h3 h4 HR1
      obtain ⟨n, rfl⟩ : ∃ j, n = j + 1 := ⟨n - 1, by omega⟩
      unfold programL at HR2
      have his := Lib.hid (isA_calls C (Also S w.heap.size) 0 s2 0 wr P2.out)
      cases hb : isK C.T 0 s2
      · rw [hb] at his
        have HR3 := Lib.hid ((ifF hb).symm.trans HR2.out)
        clear hb HR2
        go_wp2_with fail
        refine his.out.mono ?_
        rintro e w3 ⟨rfl, hB⟩
        have P3 := Lib.hid (P2.out.below hB)
        have K3 := Lib.hid (K2.out.trans ((P2.out.belowK hB).sub fun _ h => .inl h))
        have bA3 := Lib.hid ((hB.block _ (blk_lt bA2.out)).trans bA2.out)
        clear hB
        go_wp2_with fail
        refine (function_calls C (Also S w.heap.size) 0 s2 HB.out _ P3.out).mono ?_
        intro e w4 h4'
        have HF := Lib.hid (fine_function HTK.out s2 hlt)
        generalize hr : functionM C.T s2 = r at h4'
        cases r with
        | no c i =>
          obtain rfl : R = .no c i := HR3.out.symm.trans (bd_no hr)
          clear hr
          obtain rfl := h4'.1
          go_wp2
          exact ⟨rfl, bad_of h4' K3.out fun _ h => .inl h⟩
        | ok o2 s3 =>
          have HR4 := Lib.hid ((bd_ok hr).symm.trans HR3.out)
          have hadv : s2.at_ + 1 ≤ s3.at_ := by have := HF.out; rw [hr] at this; exact this.1
          clear hr HR3 HF
          obtain ⟨rfl, hp, hk⟩ := h4'
          have hat4 := Lib.hid hp.atOf
          have P4 := Lib.hid hp
          have K4 := Lib.hid (K3.out.trans (hk.sub fun _ h => .inl h))
          have bA4 := Lib.hid ((hk.kept _ (.inr rfl)).trans bA3.out)
          clear hp hk
          unfold unitV
          go_wp2
          go_roundw
          case rel => exact ⟨n, s3, P4.out, K4.out, bA4.out, HR4.out, by omega⟩
          case measure =>
            rw [hat4.out, hat.out]
            omega
      · rw [hb] at his
        have HR3 := Lib.hid ((ifT hb).symm.trans HR2.out)
        clear hb HR2
        go_wp2_with fail
        refine his.out.mono ?_
        rintro e w3 ⟨rfl, hB⟩
        have P3 := Lib.hid (P2.out.below hB)
        have K3 := Lib.hid (K2.out.trans ((P2.out.belowK hB).sub fun _ h => .inl h))
        have bA3 := Lib.hid ((hB.block _ (blk_lt bA2.out)).trans bA2.out)
        clear hB
        obtain rfl : R = .ok () s2 := HR3.out.symm
        obtain ⟨h0, ve, vs, vf, ce, cs, cf, hI⟩ := P3.out
        have HI := Lib.hid hI
        have hTl := hI.len
        have HE := Lib.hid (fun W (hB : Below w3.heap.size w3 W) => allE_calls C _ 0 s2 ve vs vf ce cs cf W (hI.belowI hB) (by omega))
        have HSt := Lib.hid (fun W (hB : Below w3.heap.size w3 W) => allS_calls C _ 0 s2 ve vs vf ce cs cf W (hI.belowI hB) (by omega))
        have HFu := Lib.hid (fun W (hB : Below w3.heap.size w3 W) => allF_calls C _ 0 s2 ve vs vf ce cs cf W (hI.belowI hB) (by omega))
        have HBR := Lib.hid (Below.refl w3.heap.size w3).drew
        have hsz := Lib.hid (blk_lt bA3.out)
        clear hI
        go_wp2
        go_region_with (first
          | (go_at_call 76; refine (HE.out _ HBR.out).mono ?_; rintro e w4 ⟨v1, rfl, ha1, hb1, hf1⟩; obtain ⟨A1, c1, rfl⟩ := (arr_form ha1); have HA1 := Lib.hid ha1; have HB1 := Lib.hid (HBR.out.trans (hb1.mono HBR.out.size)); have HC1 := Lib.hid hb1; have HF1 := Lib.hid hf1; clear ha1 hb1 hf1)
          | (go_at_call 77; refine (HSt.out _ HB1.out).mono ?_; rintro e w5 ⟨v2, rfl, ha2, hb2, hf2⟩; obtain ⟨A2, c2, rfl⟩ := (arr_form ha2); have HA2 := Lib.hid ha2; have HB2 := Lib.hid (HB1.out.trans (hb2.mono HB1.out.size)); have HC2 := Lib.hid hb2; have HF2 := Lib.hid hf2; clear ha2 hb2 hf2)
          | (go_at_call 78; refine (HFu.out _ HB2.out).mono ?_; rintro e w6 ⟨v3, rfl, ha3, hb3, hf3⟩; obtain ⟨A3, c3, rfl⟩ := (arr_form ha3); have HA3 := Lib.hid ha3; have HB3 := Lib.hid (HB2.out.trans (hb3.mono HB2.out.size)); have HC3 := Lib.hid hb3; have HF3 := Lib.hid hf3; have bA6 := Lib.hid ((HB3.out.block _ hsz.out).trans bA3.out); have tf0 : w6.frozen? ⟨w.heap.size, 0, none⟩ = false := (by simp [World.frozen?, bA6.out]); have tc0 : w6.cell? ⟨w.heap.size, 0, none⟩ = some (.slice none 0 0) := (by simp [World.cell?, bA6.out]); have tf1 : w6.frozen? ⟨w.heap.size, 1, none⟩ = false := (by simp [World.frozen?, bA6.out]); have tc1 : w6.cell? ⟨w.heap.size, 1, none⟩ = some (.slice none 0 0) := (by simp [World.cell?, bA6.out]); have tf2 : w6.frozen? ⟨w.heap.size, 2, none⟩ = false := (by simp [World.frozen?, bA6.out]); have tc2 : w6.cell? ⟨w.heap.size, 2, none⟩ = some (.slice none 0 0) := (by simp [World.cell?, bA6.out]); clear ha3 hb3 hf3))
        all_goals
          go_wp2
          refine bodyPost_ret (v := .agg #[.slice A1 s2.ex.length c1, .slice A2 s2.st.length c2, .slice A3 s2.fn.length c3]) (by simp [results, Tryz.results49, go_sem, tc0, tc1, tc2]) rfl ?_
          exact prog_fin HI.out HB3.out ((HA1.out.below HC2.out).below HC3.out) (HA2.out.below HC3.out) HA3.out HF1.out (fun g hg => Nat.le_trans HB1.out.size (HF2.out g hg)) (fun g hg => Nat.le_trans HB2.out.size (HF3.out g hg)) ((((Only.refl _ _).set 0 _).set 1 _).set 2 _) K3.out (fun e => by have := (H.out.sLt _ e).2; omega)

end Go.Proofs.YtdeflloidhbpmaaGreatDoor
