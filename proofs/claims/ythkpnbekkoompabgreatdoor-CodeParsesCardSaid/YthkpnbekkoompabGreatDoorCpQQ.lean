/-
  code.Print: good code's text.
-/
import Derived.Test.YthkpnbekkoompabGreatDoorCpRQ
import Derived.Test.YthkpnbekkoompabGreatDoorQ05
import Derived.Shelf.Strings.BuilderK
namespace Go.Proofs
open Go.Shelf Go.RowKit
theorem Tryz.wstrK (B b : Nat) (bs : List Value) (s : ByteArray) (w : World) (h : Lib.IsBuilderF 60 5 B b bs w) (hlen : bs.length + s.size ≤ 140737488355328) (hBw : B ≤ w.heap.size) :
    Calls Tryz.prog 16 #[.pointer (some ⟨b, 0, none⟩), .string s] w fun e w' => e = .returned (.tuple #[.int .i64 s.size, .nilIface]) ∧ (Lib.BuilderAtF 60 5 B b (.pointer (some ⟨b, 0, none⟩)) (bs ++ Lib.strCells s) w' ∧ Below B w w' ∧ Lib.OthersKept 5 (some b) w w') := Any.Builder_WriteString_k Tryz.wstrL Tryz.joinE B b bs s w h hlen hBw
theorem Tryz.bstrK (B b : Nat) (l : List UInt8) (w : World) (h : Lib.IsBuilderF 60 5 B b (Lib.byteCells l) w) (hBw : B ≤ w.heap.size) :
    Calls Tryz.prog 19 #[.pointer (some ⟨b, 0, none⟩)] w fun e w' => e = .returned (.string ⟨l.toArray⟩) ∧ (Lib.IsBuilderF 60 5 B b (Lib.byteCells l) w' ∧ Below B w w') := Any.Builder_String_any_f Tryz.bstrL Tryz.bstrE B b l w h hBw
end Go.Proofs
namespace Go.Proofs.YthkpnbekkoompabGreatDoor
open Go.RowKit

/-- A builder in a block of its own. -/
def BF (b : Nat) (l : List UInt8) (w : World) : Prop := Lib.IsBuilderF 60 5 b b (Lib.byteCells l) w ∧ b < w.heap.size
theorem ownF_keep {w w' : World} {base n : Nat} {e : TypeId} {size : Nat} {v : Value} {xs : List Value} (h : w.ownsRowF base e size v n xs) (hk : ∀ g, g < w.heap.size → w'.heap[g]? = w.heap[g]?) : w'.ownsRowF base e size v n xs := by
  refine ⟨h.1, ?_⟩
  rcases h.2 with h0 | ⟨g, cap, cur, fz, rfl, hb, hg, r⟩
  · exact .inl h0
  · exact .inr ⟨g, cap, cur, fz, rfl, hb, by rw [hk g (blkLt hg)]; exact hg, r⟩
theorem BF.below {b : Nat} {l : List UInt8} {w w' : World} (h : BF b l w) (hb : Below w.heap.size w w') : BF b l w' := by
  have hk : ∀ g, g < w.heap.size → w'.heap[g]? = w.heap[g]? := fun g hg => hb.block g hg
  refine ⟨?_, Nat.lt_of_lt_of_le h.2 hb.size⟩
  rcases h.1 with ⟨h1, v, h2, h3, h4⟩ | ⟨h1, v, h2, h3, h4⟩
  · exact .inl ⟨h1, v, (hk b h.2).trans h2, ownF_keep h3 hk, h4⟩
  · exact .inr ⟨h1, v, (hk b h.2).trans h2, ownF_keep h3 hk, h4⟩
theorem BF.new (w : World) : BF w.heap.size [] (w.alloc (.cells #[.pointer none, .slice none 0 0] 60)) :=
  ⟨.inl ⟨Nat.le_refl _, .slice none 0 0, heapOne w _ _, ⟨by simp, .inl ⟨rfl, rfl⟩⟩, by simp [Value.ownBlock]⟩, by simp⟩
/-- What a write leaves. -/
def WrP (b : Nat) (l : List UInt8) (w : World) (e : Ending) (w' : World) : Prop :=
  (∃ n : Int, e = .returned (.tuple #[.int .i64 n, .nilIface])) ∧ BF b l w' ∧ Below b w w' ∧ ∀ k a t, w.heap[k]? = some (.cells a t (0, 0)) → k ≠ b → t ≠ 5 → w'.heap[k]? = some (.cells a t (0, 0))
theorem write_calls (b : Nat) (l t : List UInt8) (w : World) (h : BF b l w) (hlen : l.length + t.length ≤ 1000000) :
    Calls Tryz.prog 16 #[.pointer (some ⟨b, 0, none⟩), .string (bs t)] w (WrP b (l ++ t) w) := by
  refine (Tryz.wstrK b b (Lib.byteCells l) (bs t) w h.1 (by rw [Lib.byteCells_length, bs_size]; omega) (Nat.le_of_lt h.2)).mono ?_
  rintro e w' ⟨rfl, h1, h2, h3⟩
  refine ⟨⟨_, rfl⟩, ⟨.inr ?_, Nat.lt_of_lt_of_le h.2 h2.size⟩, h2, fun k a u hk hne hu => h3 k _ hk (by simpa using hne) (fun c fz e => by injection e with _ e _; exact hu e)⟩
  rw [Lib.byteCells_append]
  rwa [Lib.strCells_eq, bs_toList] at h1

def preT (c : CoM) (k : Nat) : List UInt8 := (c.ps.take k).flatMap (txtPr c)
theorem preT_step (c : CoM) (k : Nat) (h : k < c.ps.length) : preT c (k + 1) = preT c k ++ (lineM (partsP c.ps[k]) ++ bodyT (body c c.ps[k])) := by
  unfold preT
  rw [List.take_succ_eq_append_getElem h, List.flatMap_append]
  simp [txtPr]
theorem preT_all (c : CoM) : preT c c.ps.length = txtC c := by unfold preT txtC; rw [List.take_length]
theorem preT_le (c : CoM) (k : Nat) : (preT c k).length ≤ (txtC c).length := by
  have : txtC c = preT c k ++ (c.ps.drop k).flatMap (txtPr c) := by
    unfold preT txtC
    rw [← List.flatMap_append, List.take_append_drop]
  rw [this, List.length_append]; omega
theorem bodyT_step (xs : List InM) (j : Nat) (h : j < xs.length) : bodyT (xs.take (j + 1)) = bodyT (xs.take j) ++ lineM (partsI xs[j]) := by
  unfold bodyT
  rw [List.take_succ_eq_append_getElem h, List.flatMap_append]
  simp
theorem bodyT_le (xs : List InM) (j : Nat) : (bodyT (xs.take j)).length ≤ (bodyT xs).length := by
  have : bodyT xs = bodyT (xs.take j) ++ bodyT (xs.drop j) := by
    unfold bodyT
    rw [← List.flatMap_append, List.take_append_drop]
  rw [this, List.length_append]; omega
/-- What Print answers. -/
def PrtP (c : CoM) (w : World) (e : Ending) (w' : World) : Prop :=
  Below w.heap.size w w' ∧ ((GoodC c ∧ e = .returned (.string (bs (txtC c)))) ∨ (¬ GoodC c ∧ e = .returned (.string (bs []))))

set_option maxRecDepth 100000 in
set_option maxHeartbeats 8000000 in
theorem print_calls (c : CoM) (A A2 : Option Addr) (c1 c2 : Nat) (w : World) (hc : CoAt w w.heap.size A c1 A2 c2 c) (hnm : ∀ p ∈ c.ps, p.name.length ≤ 100000) (hfew : c.is.length ≤ 100000) (hX : TX w) (hlen : GoodC c → (txtC c).length ≤ 1000000) :
    Calls Tryz.prog 9 #[coV A c1 A2 c2 c] w (PrtP c w) := by
  have hfw := hc.few
  have hcp := hc.capP
  have hci := hc.capI
  unfold maxLen at hfw
  have HC := Lib.hid hc
  have HGD := Lib.hid (fun W (hb : Below w.heap.size w W) => good_calls c A A2 c1 c2 W ((hc.below hb (Nat.le_refl _)).wide hb.size) hnm hfew (hX.below hb (Nat.le_refl _)).ts)
  have HX := Lib.hid hX
  have HNM := Lib.hid hnm
  have HLEN := Lib.hid hlen
  unfold coV at HGD ⊢
  have HB0 := Lib.hid ((Below.refl w.heap.size w).alloc (Nat.le_refl _) (.cells #[.slice A c.ps.length c1, .slice A2 c.is.length c2] 26))
  have HBX := Lib.hid (heapOne w #[.slice A c.ps.length c1, .slice A2 c.is.length c2] 26)
  clear hc hX hnm hlen
  go_enter Tryz.func9, Tryz.ntmps9
  go_wp2_with fail
  generalize w.alloc (.cells #[.slice A c.ps.length c1, .slice A2 c.is.length c2] 26) = W0 at *
  have hsz0 : w.heap.size < W0.heap.size := blkLt HBX.out
  refine (HGD.out _ HB0.out).mono ?_
  rintro e w1 ⟨hB1, h1⟩
  have HB1 := Lib.hid (HB0.out.trans (hB1.mono (by omega)))
  have HBX1 := Lib.hid ((hB1.block w.heap.size hsz0).trans HBX.out)
  clear hB1
  rcases h1 with ⟨hg, rfl⟩ | ⟨hg, rfl⟩
  rotate_left 1
  · have HG := Lib.hid hg
    clear hg
    go_wp2
    go_ret
    exact ⟨HB1.out, .inr ⟨HG.out, rfl⟩⟩
  · have HG := Lib.hid hg
    have HPR := Lib.hid (fun k (hk : k < c.ps.length) => hg.1.1.range (List.getElem_mem hk))
    have HPO := Lib.hid (fun k (hk : k < c.ps.length) => hg.1.2 _ (List.getElem_mem hk))
    have HFP := Lib.hid (fun k (hk : k < c.ps.length) => HC.out.fitP _ (List.getElem_mem hk))
    have HNL := Lib.hid (fun k (hk : k < c.ps.length) => HNM.out _ (List.getElem_mem hk))
    have hln := HLEN.out hg
    clear hg
    have x0 : w1.cell? ⟨w.heap.size, 0, none⟩ = some (.slice A c.ps.length c1) := cellC HBX1.out 0
    have x1 : w1.cell? ⟨w.heap.size, 1, none⟩ = some (.slice A2 c.is.length c2) := cellC HBX1.out 1
    have hsz1 : w.heap.size < w1.heap.size := blkLt HBX1.out
    have HN1 := Lib.hid (BF.new w1)
    have HBN := Lib.hid ((Below.refl w1.heap.size w1).alloc (Nat.le_refl _) (.cells #[.pointer none, .slice none 0 0] 60))
    have x0n := fun o => newC x0 o
    have x1n := fun o => newC x1 o
    go_wp2_with fail
    go_loopw [14] (fun i wr => ∃ (k : Nat), k ≤ c.ps.length ∧ i = .int .i64 k ∧ Hid (BF w1.heap.size (preT c k) wr) ∧ Hid (Below w1.heap.size w1 wr)) (fun i _ => c.ps.length - (intOf i).toNat)
    case atStart => exact ⟨0, by omega, rfl, Lib.hid (by unfold preT; exact HN1.out), HBN⟩
    case round =>
      clear x0n x1n HN1 HBN
      obtain ⟨k, hk, rfl, HF, HB⟩ := hrel
      obtain ⟨wo, rfl⟩ : ∃ x, x = wr := ⟨_, rfl⟩
      have x0 : wo.cell? ⟨w.heap.size, 0, none⟩ = some (.slice A c.ps.length c1) := keepC HB.out x0 hsz1
      have x1 : wo.cell? ⟨w.heap.size, 1, none⟩ = some (.slice A2 c.is.length c2) := keepC HB.out x1 hsz1
      by_cases hlt : k < c.ps.length
      · obtain ⟨b, off, rfl, hb, hcells⟩ := (HC.out.prs) (by omega)
        obtain ⟨q0, q1, q2, q3, q4, q5⟩ := hcells k hlt
        have kk : ∀ {o : Nat} {u : Value}, w.cell? ⟨b, o, none⟩ = some u → wo.cell? ⟨b, o, none⟩ = some u := fun hq => keepC HB.out (keepC HB1.out hq hb) (by omega)
        have q0 := kk q0
        have q1 := kk q1
        have q2 := kk q2
        have q3 := kk q3
        have q4 := kk q4
        have q5 := kk q5
        obtain ⟨r1, r2, r3, r4⟩ := HPR.out k hlt
        have HST := Lib.hid (preT_step c k hlt)
        have hl1 := preT_le c (k + 1)
        have HPO := Lib.hid (HPO.out k hlt)
        have hszr := HB.out.size
        have HTW := Lib.hid (HX.out.below (HB1.out.trans (HB.out.mono (by omega))) (Nat.le_refl _))
        have HLP := Lib.hid (fun o => procLine_calls c.ps[k] (wo.alloc o) (HTW.out.below ((Below.refl _ _).alloc (Nat.le_refl _) o) (Nat.le_refl _)) (HFP.out k hlt) (HNL.out k hlt))
        have HFI := Lib.hid (show ∀ y ∈ body c c.ps[k], y.fit from fun y hy => HC.out.fitI y (by unfold body at hy; exact List.mem_of_mem_drop (List.mem_of_mem_take hy)))
        generalize c.ps[k] = p at *
        generalize hF : p.frm.toNat = F at *
        generalize hT : p.to.toNat = T at *
        have HBG := Lib.hid (body_get r1 r2 r4 (by omega))
        rw [HST.out] at hl1
        simp only [List.length_append] at hl1
        unfold prV at HLP
        rw [r1] at q1
        rw [r2] at q2
        rw [r1, r2] at HLP
        have hk0 : (0 : Int) ≤ (k : Int) := by omega
        have hk1 : (k : Int) < (c.ps.length : Int) := by omega
        have hFl : (0 : Int) ≤ (F : Int) := by omega
        have hFT : (F : Int) ≤ (T : Int) := by omega
        have hTc : (T : Int) ≤ (c2 : Int) := by omega
        have hFc : (F : Int) < (c2 : Int) := by omega
        have hFn : ¬ c2 = F := by omega
        obtain ⟨b2, off2, rfl, hb2, hcells2⟩ := (HC.out.ins) (by omega)
        have HC2 := Lib.hid hcells2
        clear hcells2 kk hcells r1 r2 hF hT
        have PB0 := Lib.hid (heapOne wo #[.string (bs p.name), .int .i64 (F : Int), .int .i64 (T : Int), .int .i64 p.par, .int .i64 p.slo, .int .i64 p.typ] 56)
        have HFA := Lib.hid (fun o => HF.out.below ((Below.refl wo.heap.size wo).alloc (Nat.le_refl _) o))
        have HBA := Lib.hid (fun o => HB.out.alloc hszr o)
        have hbs : w1.heap.size < wo.heap.size := HF.out.2
        have HSZ1 := Lib.hid HB1.out.size
        generalize w1.heap.size = bb at *
        go_wp2_with (go_at_call 17; refine (HLP.out _).mono ?_; rintro e w2 ⟨rfl, hB2⟩; have HB2 := Lib.hid hB2; have HF2 := Lib.hid ((HFA.out _).below hB2); have PB2 := Lib.hid ((hB2.block wo.heap.size (by simp)).trans PB0.out); have HBB2 := Lib.hid ((HBA.out _).trans (hB2.mono (by simp; omega))); clear hB2 q0 q1 q2 q3 q4 q5)
        refine (write_calls bb _ (lineM (partsP p)) w2 HF2.out (by omega)).mono ?_
        rintro e w3 ⟨⟨nn, rfl⟩, hF3, hB3, hO3⟩
        have HF3 := Lib.hid hF3
        have HB3 := Lib.hid (HBB2.out.trans hB3)
        have PB3 := Lib.hid (hO3 wo.heap.size _ _ PB2.out (by omega) (by decide))
        have x0 : w3.cell? ⟨w.heap.size, 0, none⟩ = some (.slice (some ⟨b, off, none⟩) c.ps.length c1) := keepC HB3.out (cellC HBX1.out 0) hsz1
        have x1 : w3.cell? ⟨w.heap.size, 1, none⟩ = some (.slice (some ⟨b2, off2, none⟩) c.is.length c2) := keepC HB3.out (cellC HBX1.out 1) hsz1
        have p1 : w3.cell? ⟨wo.heap.size, 1, none⟩ = some (.int .i64 (F : Int)) := cellC PB3.out 1
        have p2 : w3.cell? ⟨wo.heap.size, 2, none⟩ = some (.int .i64 (T : Int)) := cellC PB3.out 2
        clear hF3 hB3 hO3 HF2 HFA HBA HLP
        go_wp2_with fail
        go_loopw [29] (fun i wx => ∃ (j : Nat), j ≤ T - F ∧ i = .int .i64 j ∧ Hid (BF bb (preT c k ++ lineM (partsP p) ++ bodyT ((body c p).take j)) wx) ∧ Hid (Below bb w1 wx)) (fun i _ => (T - F) - (intOf i).toNat)
        case atStart => exact ⟨0, by omega, rfl, Lib.hid (by simpa [bodyT] using HF3.out), HB3⟩
        case round =>
          clear x0 x1 p1 p2 HF3 HB3
          obtain ⟨j, hj, rfl, HFJ, HBJ⟩ := hrel
          by_cases hjt : j < T - F
          · have hFj : F + j < c.is.length := by omega
            obtain ⟨hbl, hbg⟩ := HBG.out
            have hbj := hbg j (by omega) hFj
            have hst := bodyT_step (body c p) j (by omega)
            have hle := bodyT_le (body c p) (j + 1)
            have hmem : c.is[F + j] ∈ body c p := by rw [← hbj]; exact List.getElem_mem _
            rw [hbj] at hst
            rw [hst, List.length_append] at hle
            have HSJ := Lib.hid hst
            have hcl := HC2.out (F + j) hFj
            have ea : off2 + (F + j) * 3 = off2 + F * 3 + j * 3 := by omega
            rw [ea] at hcl
            have hb2b : b2 < bb := by omega
            have HBW := Lib.hid (HB1.out.trans (HBJ.out.mono (by omega)))
            have y0 := keepC HBW.out hcl.1 hb2
            have y1 := keepC HBW.out hcl.2.1 hb2
            have y2 := keepC HBW.out hcl.2.2 hb2
            have HXW := Lib.hid (HX.out.below HBW.out (Nat.le_refl _))
            have HLI := Lib.hid (fun o => instrLine_calls p c.ps.length c.is[F + j] (wr.alloc o) (HXW.out.below ((Below.refl _ _).alloc (Nat.le_refl _) o) (Nat.le_refl _)) (HPO.out.2 _ hmem) (HFI.out _ hmem))
            have HFA := Lib.hid (fun o => HFJ.out.below ((Below.refl wr.heap.size wr).alloc (Nat.le_refl _) o))
            have hszj : bb ≤ wr.heap.size := Nat.le_of_lt HFJ.out.2
            have HBA := Lib.hid (fun o => HBJ.out.alloc hszj o)
            unfold inV at HLI
            generalize c.is[F + j] = x at *
            generalize lineM (partsI x) = ln at *
            generalize bodyT ((body c p).take j) = bt at *
            have hj0 : (0 : Int) ≤ (j : Int) := by omega
            have hj1 : (j : Int) < ((T - F : Nat) : Int) := by omega
            have hj2 : (j : Int) < (T : Int) - (F : Int) := by omega
            clear hst hbl hbg hbj hmem hcl ea
            go_wp2_with (go_at_call 18; refine (HLI.out _).mono ?_; rintro e w4 ⟨rfl, hB4⟩; have HF4 := Lib.hid ((HFA.out _).below hB4); have HB4 := Lib.hid ((HBA.out _).trans (hB4.mono (by simp; omega))); clear hB4 y0 y1 y2)
            refine (write_calls bb _ ln w4 HF4.out (by simp only [List.length_append]; omega)).mono ?_
            rintro e w5 ⟨⟨nn, rfl⟩, hF5, hB5, _⟩
            have HF5 := Lib.hid hF5
            have HB5 := Lib.hid (HB4.out.trans hB5)
            clear hF5 hB5 HF4 HFA HBA HLI
            go_wp2
            go_roundw
            case rel => exact ⟨j + 1, by omega, by go_num, Lib.hid (by rw [HSJ.out, ← List.append_assoc]; exact HF5.out), HB5⟩
            case measure => simp [intOf]; omega
          · obtain rfl : j = T - F := by omega
            have HSE : Hid (bodyT ((body c p).take (T - F)) = bodyT (body c p)) := Lib.hid (by rw [List.take_of_length_le (by rw [HBG.out.1]; exact Nat.le_refl _)])
            have hnl : ¬ ((T - F : Nat) : Int) < (T : Int) - (F : Int) := by omega
            clear hjt hj
            go_wp2
            go_roundw
            case rel => exact ⟨k + 1, by omega, by go_num, Lib.hid (by rw [HST.out, ← List.append_assoc, ← HSE.out]; exact HFJ.out), HBJ⟩
            case measure => simp [intOf]; omega
      · obtain rfl : k = c.ps.length := by omega
        have HT : Hid (preT c c.ps.length = txtC c) := Lib.hid (preT_all c)
        rw [HT.out] at HF
        have HS := Lib.hid (Tryz.bstrK w1.heap.size w1.heap.size (txtC c) wo HF.out.1 (Nat.le_of_lt HF.out.2))
        clear hlt hk
        go_wp2_with fail
        refine HS.out.mono ?_
        rintro e w2 ⟨rfl, _, hB2⟩
        have HB2 := Lib.hid (HB.out.trans hB2)
        clear hB2
        go_wp2
        go_ret
        exact ⟨HB1.out.trans (HB2.out.mono (by omega)), .inl ⟨HG.out, rfl⟩⟩
end Go.Proofs.YthkpnbekkoompabGreatDoor
