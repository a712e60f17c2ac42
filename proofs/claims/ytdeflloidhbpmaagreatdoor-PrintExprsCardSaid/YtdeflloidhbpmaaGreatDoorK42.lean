/-
  block: the walk.
  then: an if statement up to its else.
  isChoice: is it one if statement alone?
  choice's box: a struct that is written whole, in a region that draws; a block that calls that write leave alone.
-/
import Derived.Test.YtdeflloidhbpmaaGreatDoorK41
import Derived.Deep.RegionHeld3
import Derived.BigQuiet
namespace Go.Proofs.YtdeflloidhbpmaaGreatDoor
open Go.RowKit

section
variable {nm : List UInt8 → Prop} {nu : Nat → Prop} {dec : Nat → List UInt8} {g cl : Nat → Nat} {wb : Nat} {e s f : Value} {sg : Sg}
/-- The lines of a block. -/
def linesB (gx : Nat → List Wd) (b : Nat) (ls : List Nat) : List UInt8 := byt (ls.flatMap fun a => ind (b + 1) :: (gx a ++ [nl]))
def indB (b : Nat) : List UInt8 := List.replicate (2 * b) 32
theorem byt_blG (gx : Nat → List Wd) (b : Nat) (ls : List Nat) : byt (blG gx b ls) = [123, 10] ++ linesB gx b ls ++ (indB b ++ [125]) := by
  unfold blG linesB indB nl
  simp [byt, ind]
theorem lines_take (gx : Nat → List Wd) (b : Nat) (ls : List Nat) (i : Nat) (h : i < ls.length) : linesB gx b (ls.take (i + 1)) = linesB gx b (ls.take i) ++ indB (b + 1) ++ byt (gx ls[i]) ++ [10] := by
  unfold linesB indB
  rw [List.take_succ_eq_append_getElem h, List.flatMap_append, byt_app]
  simp [byt, ind, nl]
theorem lines_le (gx : Nat → List Wd) (b : Nat) (ls : List Nat) (i : Nat) : (linesB gx b (ls.take i)).length ≤ (linesB gx b ls).length := by
  unfold linesB
  conv => rhs; rw [← List.take_append_drop i ls]
  rw [List.flatMap_append, byt_app, List.length_append]
  omega
set_option maxRecDepth 100000 in
set_option maxHeartbeats 4000000 in
theorem wblock_calls {v0 : Value} {w0 : World} (h0 : Base nm nu dec g cl wb e s f sg v0 w0) (out : List UInt8) (w : World) (h : At wb e s f v0 w0 out w) (lv : Value) (ls : List Nat) (hl : RwAt w0 (fun k => k < wb) lv (intsV ls)) (b : Nat) (hb : b ≤ 100) (hls : ls.length ≤ 100000) (gx : Nat → List Wd)
    (hst : ∀ a ∈ ls, StAt wb e s f v0 w0 (b + 1) a (byt (gx a))) (hlen : out.length + (byt (blG gx b ls)).length ≤ 1000000000) :
    Calls Tryz.prog 42 #[.pointer (some ⟨wb, 0, none⟩), lv, .int .i64 (b : Int)] w (AtP wb e s f v0 w0 (out ++ byt (blG gx b ls))) := by
  rw [byt_blG] at hlen ⊢
  have hlen' : out.length + (2 + (linesB gx b ls).length + ((indB b).length + 1)) ≤ 1000000000 := by
    rw [List.length_append, List.length_append, List.length_append] at hlen
    have e1 : ([123, 10] : List UInt8).length = 2 := rfl
    have e2 : ([125] : List UInt8).length = 1 := rfl
    omega
  have HLEN := Lib.hid hlen'
  have H0 := Lib.hid h0
  have HST := Lib.hid hst
  have hBl1 : Hid (∀ W, Calls Tryz.prog 67 #[.int .i64 ((b : Int) + 1)] W (TxP (indB (b + 1)) W)) := Lib.hid fun W => blanks_calls (b + 1) (by omega) W
  have hBl0 : Hid (∀ W, Calls Tryz.prog 67 #[.int .i64 (b : Int)] W (TxP (indB b) W)) := Lib.hid fun W => blanks_calls b (by omega) W
  have hT : Hid (∀ t W, Calls Tryz.prog 40 #[.string (bs t)] W (TxP t W)) := Lib.hid ptextV
  have HTK := Lib.hid (lines_take gx b ls)
  have HLE := Lib.hid (lines_le gx b ls)
  have HLL : Hid (linesB gx b (ls.take ls.length) = linesB gx b ls) := Lib.hid (by rw [List.take_length])
  have HL0 : Hid (linesB gx b (ls.take 0) = []) := Lib.hid rfl
  have hwz : wrap64 ((b : Int) + 1) = (b : Int) + 1 := by unfold wrap64; omega
  obtain ⟨A, c, rfl, hcells⟩ := rw_cells hl
  have HC := Lib.hid hcells
  have HA := Lib.hid h
  have HLS := Lib.hid hls
  clear h hl hlen hlen' hcells hst h0 hb hls
  have HEND : Hid (out ++ [123, 10] ++ linesB gx b ls ++ (indB b ++ [125]) = out ++ ([123, 10] ++ linesB gx b ls ++ (indB b ++ [125]))) := Lib.hid (by simp)
  generalize (out ++ ([123, 10] ++ linesB gx b ls ++ (indB b ++ [125]))) = target at HEND ⊢
  go_enter Tryz.func42, Tryz.ntmps42
  go_wp2_with (go_at_call 40; refine (hT.out [123, 10] _).mono ?_)
  intro e1 w1 h1
  obtain ⟨rfl, hB1⟩ := h1
  have hp1 := Lib.hid ((HA.out.below hB1).text H0.out [123, 10] (by have := HLEN.out; simp; omega) #[.bool false, .string (bs [123, 10]), .int .i64 0] rfl)
  clear hB1
  go_wp2_with (go_at_call 18; refine hp1.out.mono ?_)
  intro e2 w2 h2
  obtain ⟨rfl, h2⟩ := h2
  have H2 := Lib.hid h2
  clear h2 hp1
  go_wp2
  go_loopw [14] (fun a wr => ∃ i : Nat, i ≤ ls.length ∧ a = .int .i64 i ∧ Hid (At wb e s f v0 w0 (out ++ [123, 10] ++ linesB gx b (ls.take i)) wr)) (fun a _ => ls.length - (intOf a).toNat)
  case atStart => exact ⟨0, Nat.zero_le _, rfl, Lib.hid (by rw [HL0.out, List.append_nil]; exact H2.out)⟩
  case round =>
    obtain ⟨i, hi, rfl, HI⟩ := hrel
    have hls := HLS.out
    by_cases hlt : i < ls.length
    · obtain ⟨gl, rfl, hc⟩ := HC.out i hlt
      have hcw := hc wr (HI.out.wbBelow H0.out)
      have h3 : (i : Int) < (ls.length : Int) := by omega
      have h0 : 0 ≤ (i : Int) := by omega
      have HTK2 := Lib.hid (HTK.out i hlt)
      have HLE2 := Lib.hid (HLE.out (i + 1))
      obtain ⟨x, l, m, hSm, hSt⟩ := HST.out ls[i] (List.getElem_mem hlt)
      generalize ls[i] = a at hcw HTK2 hSm hSt
      have HSM := Lib.hid hSm
      have HSt := Lib.hid hSt
      have HLN : Hid ((out ++ [123, 10] ++ linesB gx b (ls.take i)).length + ((indB (b + 1)).length + ((byt (gx a)).length + 1)) ≤ 1000000000) := Lib.hid (by
        have h1 := HLE2.out
        rw [HTK2.out, List.length_append, List.length_append, List.length_append] at h1
        have h2 := HLEN.out
        rw [List.length_append, List.length_append]
        have e1 : ([123, 10] : List UInt8).length = 2 := rfl
        have e2 : ([10] : List UInt8).length = 1 := rfl
        omega)
      clear hc hSm hSt
      generalize hpre : out ++ [123, 10] ++ linesB gx b (ls.take i) = pre at HI HLN
      have HPRE := Lib.hid hpre
      clear hpre
      go_wp2_with (go_at_call 67; refine (hBl1.out _).mono ?_)
      intro e3 w3 h3'
      obtain ⟨rfl, hB3⟩ := h3'
      have hp3 := Lib.hid ((HI.out.below hB3).text H0.out (indB (b + 1)) (by have := HLN.out; omega) #[.bool false, .string (bs (indB (b + 1))), .int .i64 0] rfl)
      clear hB3
      go_wp2_with (go_at_call 18; refine hp3.out.mono ?_)
      intro e4 w4 h4
      obtain ⟨rfl, h4⟩ := h4
      have H4 := Lib.hid h4
      clear h4 hp3
      have hs4 := H4.out.cellS
      obtain ⟨gs, n, c2, hse, hone⟩ := HSM.out.one w4 (H4.out.wbBelow H0.out)
      rw [hse] at hs4
      have HONE := Lib.hid hone
      clear hse hone
      go_wp2_with (go_at_call 69; refine HONE.out.mono ?_)
      intro e5 w5 h5
      obtain ⟨rfl, hB5⟩ := h5
      have hst5 := Lib.hid (HSt.out _ _ (H4.out.below hB5) (by have := HLN.out; rw [List.length_append]; omega))
      clear hB5 hs4 HONE
      go_wp2_with (go_at_call 68; refine hst5.out.mono ?_)
      intro e6 w6 h6
      obtain ⟨rfl, h6⟩ := h6
      have H6 := Lib.hid h6
      clear h6 hst5
      go_wp2_with (go_at_call 40; refine (hT.out [10] _).mono ?_)
      intro e7 w7 h7
      obtain ⟨rfl, hB7⟩ := h7
      have hp7 := Lib.hid ((H6.out.below hB7).text H0.out [10] (by have := HLN.out; rw [List.length_append, List.length_append]; simp; omega) #[.bool false, .string (bs [10]), .int .i64 0] rfl)
      clear hB7
      go_wp2_with (go_at_call 18; refine hp7.out.mono ?_)
      intro e8 w8 h8
      obtain ⟨rfl, h8⟩ := h8
      have H8 := Lib.hid h8
      clear h8 hp7
      go_wp2
      go_roundw
      case rel =>
        refine ⟨i + 1, by omega, by go_num, Lib.hid ?_⟩
        have h := H8.out
        rw [← HPRE.out] at h
        rw [HTK2.out]
        simpa [List.append_assoc] using h
      case measure => simp [intOf]; omega
    · obtain rfl : i = ls.length := by omega
      have HI2 : Hid (At wb e s f v0 w0 (out ++ [123, 10] ++ linesB gx b ls) wr) := Lib.hid (by rw [← HLL.out]; exact HI.out)
      have HLN : Hid ((out ++ [123, 10] ++ linesB gx b ls).length + ((indB b).length + 1) ≤ 1000000000) := Lib.hid (by
        have h2 := HLEN.out
        rw [List.length_append, List.length_append]
        have e1 : ([123, 10] : List UInt8).length = 2 := rfl
        omega)
      clear HI
      generalize (out ++ [123, 10] ++ linesB gx b ls) = pre at HI2 HLN HEND
      go_wp2_with (go_at_call 67; refine (hBl0.out _).mono ?_)
      intro e3 w3 h3'
      obtain ⟨rfl, hB3⟩ := h3'
      have H3 := Lib.hid (HI2.out.below hB3)
      clear hB3
      go_wp2_with (go_at_call 40; refine (hT.out [125] _).mono ?_)
      intro e4 w4 h4
      obtain ⟨rfl, hB4⟩ := h4
      have hp4 := Lib.hid ((H3.out.below hB4).text2 H0.out (indB b) [125] (by have := HLN.out; simp; omega) #[.bool false, .string (bs (indB b)), .int .i64 0, .bool false, .string (bs [125]), .int .i64 0] rfl)
      clear hB4
      go_wp2_with (go_at_call 18; refine hp4.out.mono ?_)
      intro e5 w5 h5
      obtain ⟨rfl, h5⟩ := h5
      have H5 : Hid (AtP wb e s f v0 w0 target (.returned (.tuple #[])) w5) := Lib.hid ⟨rfl, by rw [← HEND.out]; exact h5⟩
      clear h5 hp4
      go_wp2
      go_end0
      exact H5.out
end
end Go.Proofs.YtdeflloidhbpmaaGreatDoor

namespace Go.Proofs.YtdeflloidhbpmaaGreatDoor
open Go.RowKit

section
variable {nm : List UInt8 → Prop} {nu : Nat → Prop} {dec : Nat → List UInt8} {g cl : Nat → Nat} {wb : Nat} {e s f : Value} {sg : Sg}
theorem RwAt.lowB {w w' : World} {l : Value} {vs : List Value} (h : RwAt w (fun k => k < wb) l vs) (hB : Below wb w w') : RwAt w' (fun k => k < wb) l vs := h.keep hB.size fun g _ hg _ => ⟨hg, hB.block g hg⟩
/-- Whatever the beginning, a statement writes its text. -/
def StU (nm : List UInt8 → Prop) (nu : Nat → Prop) (dec : Nat → List UInt8) (g cl : Nat → Nat) (wb : Nat) (e s f : Value) (sg : Sg) (b i : Nat) (txt : List UInt8) : Prop := ∀ v0 w0, Base nm nu dec g cl wb e s f sg v0 w0 → StAt wb e s f v0 w0 b i txt
/-- A text, an expression, a text. -/
theorem At.three {v0 : Value} {w0 w : World} {out : List UInt8} (h0 : Base nm nu dec g cl wb e s f sg v0 w0) (h : At wb e s f v0 w0 out w) (a b : List UInt8) {k fi i : Nat} (hs : Sh nm nu sg.ex k fi i) (hlen : out.length + (a.length + (exT dec sg.ex i).length + b.length) ≤ 1000000000) (cs : Array Value)
    (hc : cs = #[.bool false, .string (bs a), .int .i64 0, .bool true, .string ⟨#[]⟩, .int .i64 (i : Int), .bool false, .string (bs b), .int .i64 0]) :
    Calls Tryz.prog 18 #[.pointer (some ⟨wb, 0, none⟩), .slice (some ⟨w.heap.size, 0, none⟩) 3 3] (w.alloc (.cells cs 59)) (AtP wb e s f v0 w0 (out ++ (a ++ exT dec sg.ex i ++ b))) := by
  have hB := (Below.refl w.heap.size w).alloc (Nat.le_refl _) (.cells cs 59)
  have hwt := wt_le hs (dec := dec)
  have hlt := hs.lt.1
  have hfew := h0.few
  have hp := (h.below hB).put (nm := nm) (nu := nu) (dec := dec) (sg := sg) h0 (.slice (some ⟨w.heap.size, 0, none⟩) 3 3) [.tx a, .pt (i : Int), .tx b] (arr_of_own (by decide) (own_pcs w w.heap.size [.tx a, .pt (i : Int), .tx b] 3 rfl (Nat.le_refl _) (by decide) cs hc)) (fun q hq => by
    simp only [List.mem_cons, List.not_mem_nil, or_false] at hq
    rcases hq with rfl | rfl | rfl
    · exact .inl ⟨a, rfl⟩
    · exact .inr ⟨i, k, fi, rfl, hs, hlt⟩
    · exact .inl ⟨b, rfl⟩) (by simp only [pws, pwt, List.map_cons, List.map_nil, List.sum_cons, List.sum_nil, Int.toNat_natCast]; omega) (by simpa [pcsB, pcB, Nat.add_assoc] using hlen)
  simpa [pcsB, pcB] using hp
theorem At.box {v0 : Value} {w0 w : World} {out : List UInt8} (h : At wb e s f v0 w0 out w) {bx o : Nat} (hn : bx ∉ PutS wb v0) {u : Value} (hc : w0.cell? ⟨bx, o, none⟩ = some u) : w.cell? ⟨bx, o, none⟩ = some u := by
  obtain ⟨_, _, _, _, h3⟩ := h
  exact h3.cell hc hn
set_option maxRecDepth 100000 in
set_option maxHeartbeats 4000000 in
theorem wthen_calls {v0 : Value} {w0 : World} (h0 : Base nm nu dec g cl wb e s f sg v0 w0) (out : List UInt8) (w : World) (h : At wb e s f v0 w0 out w) (x : Sm) (l m : Value) (a : Nat) (ha : x.a = (a : Int)) {k fi : Nat} (hsh : Sh nm nu sg.ex k fi a) (hl : RwAt w0 (fun k => k < wb) l (intsV x.thn)) (b : Nat) (hb : b ≤ 100) (hls : x.thn.length ≤ 100000) (gx : Nat → List Wd)
    (hst : ∀ a ∈ x.thn, StU nm nu dec g cl wb e s f sg (b + 1) a (byt (gx a))) (hlen : out.length + (4 + (exT dec sg.ex a).length + (byt (blG gx b x.thn)).length) ≤ 1000000000) :
    Calls Tryz.prog 123 #[.pointer (some ⟨wb, 0, none⟩), .agg #[.int .i64 (x.kind : Int), .int .i64 (x.lo : Int), .int .i64 (x.hi : Int), .string (bs x.name), .int .i64 (x.num : Int), .int .i64 x.a, .int .i64 (x.b : Int), l, m], .int .i64 (b : Int)] w (AtP wb e s f v0 w0 (out ++ ([105, 102, 32] ++ exT dec sg.ex a ++ [32]) ++ byt (blG gx b x.thn))) := by
  have hT : Hid (∀ t W, Calls Tryz.prog 40 #[.string (bs t)] W (TxP t W)) := Lib.hid ptextV
  have hP := Lib.hid ppartV
  have HBX := Lib.hid (heap_one w #[.int .i64 (x.kind : Int), .int .i64 (x.lo : Int), .int .i64 (x.hi : Int), .string (bs x.name), .int .i64 (x.num : Int), .int .i64 x.a, .int .i64 (x.b : Int), l, m] 42)
  have hB0 := (Below.refl w.heap.size w).alloc (Nat.le_refl _) (.cells #[.int .i64 (x.kind : Int), .int .i64 (x.lo : Int), .int .i64 (x.hi : Int), .string (bs x.name), .int .i64 (x.num : Int), .int .i64 x.a, .int .i64 (x.b : Int), l, m] 42)
  have hwl : w.heap.size < (w.alloc (.cells #[.int .i64 (x.kind : Int), .int .i64 (x.lo : Int), .int .i64 (x.hi : Int), .string (bs x.name), .int .i64 (x.num : Int), .int .i64 x.a, .int .i64 (x.b : Int), l, m] 42)).heap.size := by simp
  obtain ⟨v, p, hw, hsn, hS⟩ := h
  have hw1 : WrAt wb e s f v p out (w.alloc (.cells #[.int .i64 (x.kind : Int), .int .i64 (x.lo : Int), .int .i64 (x.hi : Int), .string (bs x.name), .int .i64 (x.num : Int), .int .i64 x.a, .int .i64 (x.b : Int), l, m] 42)) := hw.sav (sav_of_below [] hB0 (Nat.le_refl _)) (by simp) (fun _ _ => by simp)
  have hS1 := hS.trans (sav_of_below _ hB0 (Nat.le_refl _))
  have HNB : Hid (w.heap.size ∉ PutS wb v) := Lib.hid (by
    intro hm
    rcases List.mem_cons.1 hm with hm | hm
    · have := (Array.getElem?_eq_some_iff.1 hw.blk).1; omega
    · have := (hw.row.lt w.heap.size (by simpa using hm)).2; omega)
  have base1 := h0.at hw1 hS1
  have HBL := Lib.hid (fun W (hA : At wb e s f v (w.alloc (.cells #[.int .i64 (x.kind : Int), .int .i64 (x.lo : Int), .int .i64 (x.hi : Int), .string (bs x.name), .int .i64 (x.num : Int), .int .i64 x.a, .int .i64 (x.b : Int), l, m] 42)) (out ++ ([105, 102, 32] ++ exT dec sg.ex a ++ [32])) W) => wblock_calls base1 _ W hA l x.thn (hl.lowB (hS1.below h0.lo.2 (Nat.le_of_lt h0.lo.1))) b hb hls gx (fun a ha => hst a ha v _ base1) (by
    rw [List.length_append, List.length_append, List.length_append]
    have e1 : ([105, 102, 32] : List UInt8).length = 3 := rfl
    have e2 : ([32] : List UInt8).length = 1 := rfl
    omega))
  have HBK := Lib.hid (fun W t (hA : At wb e s f v (w.alloc (.cells #[.int .i64 (x.kind : Int), .int .i64 (x.lo : Int), .int .i64 (x.hi : Int), .string (bs x.name), .int .i64 (x.num : Int), .int .i64 x.a, .int .i64 (x.b : Int), l, m] 42)) t W) => hA.back hsn hS1)
  have HBASE := Lib.hid base1
  have HAc := Lib.hid (At.refl hw1)
  have HSH := Lib.hid hsh
  have HAE := Lib.hid ha
  have HLN : Hid (out.length + (3 + (exT dec sg.ex a).length + 1) ≤ 1000000000) := Lib.hid (by omega)
  clear hw hw1 hS hS1 hsn base1 h0 hl hst hlen hsh ha hB0 hwl hb hls
  generalize byt (blG gx b x.thn) = tb at HBL ⊢
  go_enter Tryz.func123, Tryz.ntmps123
  go_wp2_with fail
  generalize w.alloc (.cells #[.int .i64 (x.kind : Int), .int .i64 (x.lo : Int), .int .i64 (x.hi : Int), .string (bs x.name), .int .i64 (x.num : Int), .int .i64 x.a, .int .i64 (x.b : Int), l, m] 42) = W0 at *
  have D5 : Hid (W0.cell? ⟨w.heap.size, 5, none⟩ = some (.int .i64 x.a)) := Lib.hid (cellK HBX.out 5)
  have D7 : Hid (W0.cell? ⟨w.heap.size, 7, none⟩ = some l) := Lib.hid (cellK HBX.out 7)
  have HAc := Lib.hid (HAc.out.below (Below.refl W0.heap.size W0).drew)
  have d5 : W0.drew.cell? ⟨w.heap.size, 5, none⟩ = some (.int .i64 x.a) := D5.out
  go_region_held3 (fun w' => w'.cell? ⟨w.heap.size, 5, none⟩ = some (.int .i64 x.a))
      (first | with_reducible exact d5 | with_reducible exact cell_new d5 _)
      (first
        | (go_at_call 40; refine (hT.out _ _).mono ?_; intro e5 w5 h5; obtain ⟨rfl, hb5⟩ := h5; have HAc := Lib.hid (HAc.out.below hb5); have d5 := HAc.out.box HNB.out D5.out; clear hb5)
        | (go_at_call 19; refine (hP.out _ _).mono ?_; rintro e5 w5 ⟨rfl, hb5⟩; have HAc := Lib.hid (HAc.out.below hb5); have d5 := HAc.out.box HNB.out D5.out; clear hb5)
        | (go_at_call 18; refine (HAc.out.three HBASE.out [105, 102, 32] [32] HSH.out HLN.out _ (by rw [HAE.out])).mono ?_; intro e8 w8 h8; obtain ⟨rfl, h8⟩ := h8; have HAc := Lib.hid h8; have d5 := HAc.out.box HNB.out D5.out; clear h8))
  all_goals
    have d7 := HAc.out.box HNB.out D7.out
    have hbl := Lib.hid (HBL.out _ HAc.out)
    go_wp2_with (go_at_call 42; refine hbl.out.mono ?_)
    intro e9 w9 h9
    obtain ⟨rfl, h9⟩ := h9
    have HE := Lib.hid (HBK.out _ _ h9)
    clear h9
    go_wp2
    go_end0
    exact ⟨rfl, HE.out⟩
end
end Go.Proofs.YtdeflloidhbpmaaGreatDoor

namespace Go.Proofs.YtdeflloidhbpmaaGreatDoor
open Go.RowKit

def OneL (x : Sm) (l m : Value) (w : World) (e : Ending) (w' : World) : Prop := e = .returned (.agg #[.int .i64 (x.kind : Int), .int .i64 (x.lo : Int), .int .i64 (x.hi : Int), .string (bs x.name), .int .i64 (x.num : Int), .int .i64 x.a, .int .i64 (x.b : Int), l, m]) ∧ Below w.heap.size w w'
theorem sm_field (a b c d e f g l m : Value) : ∀ W, Sem.run Tryz.prog (Instr.field 42 (.agg #[a, b, c, d, e, f, g, l, m]) 0) W = .ok a W := by
  intro W
  simp [Instr.field, go_sem, asAgg]
theorem one_lit {x : Sm} {l m : Value} {w w' : World} {e : Ending} (h : OneS x l m w e w') : OneL x l m w e w' := ⟨h.1, h.2⟩
def IsP (t : Bool) (w : World) (e : Ending) (w' : World) : Prop := e = .returned (.bool t) ∧ Below w.heap.size w w'
section
variable {nm : List UInt8 → Prop} {nu : Nat → Prop} {dec : Nat → List UInt8} {g cl : Nat → Nat} {wb : Nat} {e s f : Value} {sg : Sg}
set_option maxRecDepth 100000 in
set_option maxHeartbeats 4000000 in
theorem wis_calls {v0 : Value} {w0 : World} (h0 : Base nm nu dec g cl wb e s f sg v0 w0) (out : List UInt8) (w : World) (h : At wb e s f v0 w0 out w) (lv : Value) (ls : List Nat) (hl : RwAt w0 (fun k => k < wb) lv (intsV ls)) (hin : ∀ a ∈ ls, a < sg.st.length) :
    Calls Tryz.prog 124 #[.pointer (some ⟨wb, 0, none⟩), lv] w (IsP (oneIf sg.st ls).isSome w) := by
  obtain ⟨A, c, rfl, hcells⟩ := rw_cells hl
  have hB := h.wbBelow h0
  by_cases h1 : ls.length = 1
  · obtain ⟨j, rfl⟩ : ∃ j, ls = [j] := List.length_eq_one_iff.1 h1
    obtain ⟨gl, rfl, hc⟩ := hcells 0 (by simp)
    have hj := hin j (by simp)
    have hx : sg.st[j]? = some sg.st[j] := List.getElem?_eq_getElem hj
    generalize sg.st[j] = x at hx
    obtain ⟨l, m, hSm⟩ := h0.smIn hx
    have e0 : oneIf sg.st [j] = if x.kind = 5 then some j else none := by unfold oneIf; dsimp only; rw [hx]
    obtain ⟨gs, n, c2, hse, hone⟩ := hSm.one w.drew hB.drew
    have hs : w.drew.cell? ⟨wb, 1, none⟩ = some (.slice (some ⟨gs, 0, none⟩) n c2) := hse ▸ h.cellS
    have hcw : w.drew.cell? ⟨gl, 0, none⟩ = some (.int .i64 (j : Int)) := hc w hB
    have HONE : Hid (Calls Tryz.prog 69 #[.slice (some ⟨gs, 0, none⟩) n c2, .int .i64 (j : Int)] w.drew (OneL x l m w.drew)) := Lib.hid (hone.mono (fun _ _ h => one_lit h))
    clear hone
    rw [e0]
    clear e0 hSm hse hc hB h h0 hin hcells h1 hl hx hj
    have hf := sm_field (.int .i64 (x.kind : Int)) (.int .i64 (x.lo : Int)) (.int .i64 (x.hi : Int)) (.string (bs x.name)) (.int .i64 (x.num : Int)) (.int .i64 x.a) (.int .i64 (x.b : Int)) l m
    by_cases hk : x.kind = 5
    · have ek : ((x.kind : Int) == 5) = true := keq hk
      rw [if_pos hk]
      clear hk
      show Calls _ _ _ _ (IsP true w)
      go_enter Tryz.func124, Tryz.ntmps124
      go_wp2_with fail
      go_region_held3 (fun w' => w'.cell? ⟨wb, 1, none⟩ = some (.slice (some ⟨gs, 0, none⟩) n c2) ∧ w'.cell? ⟨gl, 0, none⟩ = some (.int .i64 (j : Int)))
        (first | with_reducible exact ⟨hs, hcw⟩)
        (first | (go_at_call 69; refine HONE.out.mono ?_; intro e2 w2 h2; obtain ⟨rfl, hb2⟩ := h2; have HB2 := Lib.hid hb2; have hs := (hb2.cell (p := ⟨wb, 1, none⟩) (World.block_lt_of_cell? w.drew _ hs)).trans hs; have hcw := (hb2.cell (p := ⟨gl, 0, none⟩) (World.block_lt_of_cell? w.drew _ hcw)).trans hcw; clear hb2))
      all_goals
        go_wp2
        go_ret
        exact ⟨rfl, ((Below.refl w.heap.size w).drew).trans HB2.out⟩
    · have ek : ((x.kind : Int) == 5) = false := kne hk
      rw [if_neg hk]
      clear hk
      show Calls _ _ _ _ (IsP false w)
      go_enter Tryz.func124, Tryz.ntmps124
      go_wp2_with fail
      go_region_held3 (fun w' => w'.cell? ⟨wb, 1, none⟩ = some (.slice (some ⟨gs, 0, none⟩) n c2) ∧ w'.cell? ⟨gl, 0, none⟩ = some (.int .i64 (j : Int)))
        (first | with_reducible exact ⟨hs, hcw⟩)
        (first | (go_at_call 69; refine HONE.out.mono ?_; intro e2 w2 h2; obtain ⟨rfl, hb2⟩ := h2; have HB2 := Lib.hid hb2; have hs := (hb2.cell (p := ⟨wb, 1, none⟩) (World.block_lt_of_cell? w.drew _ hs)).trans hs; have hcw := (hb2.cell (p := ⟨gl, 0, none⟩) (World.block_lt_of_cell? w.drew _ hcw)).trans hcw; clear hb2))
      all_goals
        go_wp2
        go_ret
        exact ⟨rfl, ((Below.refl w.heap.size w).drew).trans HB2.out⟩
  · have e0 : oneIf sg.st ls = none := by
      match ls, h1 with
      | [], _ => rfl
      | [j], h1 => exact absurd rfl h1
      | _ :: _ :: _, _ => rfl
    rw [e0]
    have e1 : ((ls.length : Int) == 1) = false := kne h1
    have e2 : ¬ (ls.length : Int) = 1 := by omega
    clear e0 hB h h0 hin hcells hl h1
    show Calls _ _ _ _ (IsP false w)
    go_enter Tryz.func124, Tryz.ntmps124
    go_wp2_with fail
    go_quiet (fail)
    go_wp2
    go_ret
    exact ⟨rfl, below_drewN (Below.refl _ w) _⟩
end
end Go.Proofs.YtdeflloidhbpmaaGreatDoor

namespace Go.Proofs.YtdeflloidhbpmaaGreatDoor
open Go.RowKit

theorem frozenK {w : World} {g : Nat} {a : Array Value} {t : TypeId} (h : w.heap[g]? = some (.cells a t (0, 0))) (o : Nat) : w.frozen? ⟨g, o, none⟩ = false := by simp [World.frozen?, h]
theorem set_one {w : World} {bx k : Nat} {t : TypeId} {cs ds : Array Value} (v : Value) (h : w.heap[bx]? = some (.cells cs t (0, 0))) (hd : cs.setIfInBounds k v = ds) : (w.setCell ⟨bx, k, none⟩ v).heap[bx]? = some (.cells ds t (0, 0)) := by
  rw [← hd]; exact setCell_at w bx k v cs t (0, 0) h
theorem set9 {w : World} {bx : Nat} {t : TypeId} {a0 a1 a2 a3 a4 a5 a6 a7 a8 : Value} (b0 b1 b2 b3 b4 b5 b6 b7 b8 : Value) (h0 : w.heap[bx]? = some (.cells #[a0, a1, a2, a3, a4, a5, a6, a7, a8] t (0, 0))) : Only bx w (((((((((w.setCell ⟨bx, 0, none⟩ b0).setCell ⟨bx, 1, none⟩ b1).setCell ⟨bx, 2, none⟩ b2).setCell ⟨bx, 3, none⟩ b3).setCell ⟨bx, 4, none⟩ b4).setCell ⟨bx, 5, none⟩ b5).setCell ⟨bx, 6, none⟩ b6).setCell ⟨bx, 7, none⟩ b7).setCell ⟨bx, 8, none⟩ b8) ∧ (((((((((w.setCell ⟨bx, 0, none⟩ b0).setCell ⟨bx, 1, none⟩ b1).setCell ⟨bx, 2, none⟩ b2).setCell ⟨bx, 3, none⟩ b3).setCell ⟨bx, 4, none⟩ b4).setCell ⟨bx, 5, none⟩ b5).setCell ⟨bx, 6, none⟩ b6).setCell ⟨bx, 7, none⟩ b7).setCell ⟨bx, 8, none⟩ b8).heap[bx]? = some (.cells #[b0, b1, b2, b3, b4, b5, b6, b7, b8] t (0, 0)) := by
  have h1 := set_one (k := 0) (ds := #[b0, a1, a2, a3, a4, a5, a6, a7, a8]) b0 h0 rfl
  have h2 := set_one (k := 1) (ds := #[b0, b1, a2, a3, a4, a5, a6, a7, a8]) b1 h1 rfl
  have h3 := set_one (k := 2) (ds := #[b0, b1, b2, a3, a4, a5, a6, a7, a8]) b2 h2 rfl
  have h4 := set_one (k := 3) (ds := #[b0, b1, b2, b3, a4, a5, a6, a7, a8]) b3 h3 rfl
  have h5 := set_one (k := 4) (ds := #[b0, b1, b2, b3, b4, a5, a6, a7, a8]) b4 h4 rfl
  have h6 := set_one (k := 5) (ds := #[b0, b1, b2, b3, b4, b5, a6, a7, a8]) b5 h5 rfl
  have h7 := set_one (k := 6) (ds := #[b0, b1, b2, b3, b4, b5, b6, a7, a8]) b6 h6 rfl
  have h8 := set_one (k := 7) (ds := #[b0, b1, b2, b3, b4, b5, b6, b7, a8]) b7 h7 rfl
  have h9 := set_one (k := 8) (ds := #[b0, b1, b2, b3, b4, b5, b6, b7, b8]) b8 h8 rfl
  exact ⟨((((((((((Only.refl bx w).set 0 b0).set 1 b1).set 2 b2).set 3 b3).set 4 b4).set 5 b5).set 6 b6).set 7 b7).set 8 b8), h9⟩
/-- A whole store at a step of a region that draws its order. -/
theorem step_store_whole {P : Program} {ops : Array Oper} {o : Oper} {a : Act} {w : World} {K : Act → World → Prop} {Q : Exit → Act → World → Prop} {E : Prop} (hgd : o.guard = none) (ty : TypeId) (x y : Operand) (ho : o.op = .store ty x y)
    (B : Nat) (old cells : Array Value) (t : TypeId) (hb : w.heap[B]? = some (.cells old t (0, 0))) (hs : old.size = cells.size) (hx : a.eval x = .pointer (some ⟨B, 0, none⟩)) (hy : a.eval y = .agg cells) (hi : (P.info? ty).map (·.size) = some cells.size) (h1 : cells.all (·.oneCell') = true)
    (h : ∀ w', Only B w w' → w'.heap[B]? = some (.cells cells t (0, 0)) → K (a.put o.dst undef) w') :
    if Region.wanted o (yielded ops a.tmps) = true then Oper.wp P o a w K Q else E := by
  have hw : Region.wanted o (yielded ops a.tmps) = true := by simp [Region.wanted, hgd]
  rw [if_pos hw]
  exact wp_store_mid ty x y ho B 0 cells hx hy (there_of hb _ hs.symm) hi h1 (h _ (setCells_only B _ 0 w) (by
    have := setCells_block B t cells.toList [] old w hb rfl (by simp [hs])
    simpa using this))

section
variable {nm : List UInt8 → Prop} {nu : Nat → Prop} {dec : Nat → List UInt8} {g cl : Nat → Nat} {wb : Nat} {e s f : Value} {sg : Sg}
/-- What is written so far, and a block beside it that is known. -/
def AtX (wb : Nat) (e s f v0 : Value) (w0 : World) (bx : Nat) (o : Obj) (out : List UInt8) (w : World) : Prop :=
  w0.heap.size ≤ bx ∧ ∃ v p, WrAt wb e s f v p out w ∧ SameOrNew v0 v w0 ∧ Sav (PutS wb v0) w0 w ∧ bx ∉ PutS wb v ∧ w.heap[bx]? = some o
def AtXP (wb : Nat) (e s f v0 : Value) (w0 : World) (bx : Nat) (o : Obj) (out : List UInt8) (e0 : Ending) (w : World) : Prop := e0 = .returned (.tuple #[]) ∧ AtX wb e s f v0 w0 bx o out w
theorem AtX.at {v0 : Value} {w0 w : World} {bx : Nat} {o : Obj} {out : List UInt8} (h : AtX wb e s f v0 w0 bx o out w) : At wb e s f v0 w0 out w := by
  obtain ⟨_, v, p, h1, h2, h3, _, _⟩ := h
  exact ⟨v, p, h1, h2, h3⟩
theorem AtX.box {v0 : Value} {w0 w : World} {bx : Nat} {o : Obj} {out : List UInt8} (h : AtX wb e s f v0 w0 bx o out w) : w.heap[bx]? = some o := by
  obtain ⟨_, v, p, _, _, _, _, h5⟩ := h
  exact h5
/-- A new block. -/
theorem At.newBox {v0 : Value} {w0 w : World} {out : List UInt8} (h : At wb e s f v0 w0 out w) (cs : Array Value) (t : TypeId) : AtX wb e s f v0 w0 w.heap.size (.cells cs t) out (w.alloc (.cells cs t)) := by
  obtain ⟨v, p, h1, h2, h3⟩ := h
  have hB := (Below.refl w.heap.size w).alloc (Nat.le_refl _) (.cells cs t)
  refine ⟨h3.size, v, p, h1.sav (sav_of_below [] hB (Nat.le_refl _)) (by simp) (fun _ _ => by simp), h2, h3.trans (sav_of_below _ hB (Nat.le_refl _)), fun hm => ?_, heap_one w cs t⟩
  rcases List.mem_cons.1 hm with hm | hm
  · have := (Array.getElem?_eq_some_iff.1 h1.blk).1; omega
  · have := (h1.row.lt w.heap.size (by simpa using hm)).2; omega
theorem AtX.below {v0 : Value} {w0 w w' : World} {bx : Nat} {o : Obj} {out : List UInt8} (h : AtX wb e s f v0 w0 bx o out w) (hB : Below w.heap.size w w') : AtX wb e s f v0 w0 bx o out w' := by
  obtain ⟨h0, v, p, h1, h2, h3, h4, h5⟩ := h
  exact ⟨h0, v, p, h1.sav (sav_of_below [] hB (Nat.le_refl _)) (by simp) (fun _ _ => by simp), h2, h3.trans (sav_of_below _ hB (Nat.le_refl _)), h4, (hB.block bx (Array.getElem?_eq_some_iff.1 h5).1).trans h5⟩
/-- The block is written. -/
theorem AtX.store {v0 : Value} {w0 w w' : World} {bx : Nat} {o : Obj} {out : List UInt8} (h : AtX wb e s f v0 w0 bx o out w) (ho : Only bx w w') (o' : Obj) (hb : w'.heap[bx]? = some o') : AtX wb e s f v0 w0 bx o' out w' := by
  obtain ⟨h0, v, p, h1, h2, h3, h4, h5⟩ := h
  have hS : Sav [bx] w w' := ⟨ho.os, ho.tape, ho.output, Nat.le_of_eq ho.size.symm, fun k hk hn => ho.block k (by simpa using hn)⟩
  refine ⟨h0, v, p, h1.sav hS (fun hm => h4 (by simp at hm; simp [hm])) (fun q hq hm => h4 (by simp at hm; simp [← hm, hq])), h2, h3.trans' hS (fun y hy => .inr (by simp at hy; omega)), h4, hb⟩
/-- A call that writes, whatever the beginning, leaves the block alone. -/
theorem AtX.call {v0 : Value} {w0 w : World} {bx : Nat} {o : Obj} {out tgt : List UInt8} {j : Nat} {args : Array Value} (h0 : Base nm nu dec g cl wb e s f sg v0 w0) (h : AtX wb e s f v0 w0 bx o out w)
    (F : ∀ v1, Base nm nu dec g cl wb e s f sg v1 w → At wb e s f v1 w out w → Calls Tryz.prog j args w (AtP wb e s f v1 w tgt)) :
    Calls Tryz.prog j args w (AtXP wb e s f v0 w0 bx o tgt) := by
  obtain ⟨hx, v, p, h1, h2, h3, h4, h5⟩ := h
  have hb := h0.at h1 h3
  refine (F v hb (At.refl h1)).mono ?_
  rintro e0 w' ⟨rfl, v', p', a1, a2, a3⟩
  have hlt := (Array.getElem?_eq_some_iff.1 h5).1
  refine ⟨rfl, hx, v', p', a1, h2.trans a2 h3.size, sav_put h2 h3 a3, fun hm => ?_, (a3.block bx hlt h4).trans h5⟩
  rcases a2.inPut wb bx hm with hm | hm
  · exact h4 hm
  · omega
/-- A row of one text, put beside the block. -/
theorem AtX.text {v0 : Value} {w0 w : World} {bx : Nat} {o : Obj} {out : List UInt8} (h0 : Base nm nu dec g cl wb e s f sg v0 w0) (h : AtX wb e s f v0 w0 bx o out w) (b : List UInt8) (hlen : out.length + b.length ≤ 1000000000) (cs : Array Value) (hc : cs = #[.bool false, .string (bs b), .int .i64 0]) :
    Calls Tryz.prog 18 #[.pointer (some ⟨wb, 0, none⟩), .slice (some ⟨w.heap.size, 0, none⟩) 1 1] (w.alloc (.cells cs 59)) (AtXP wb e s f v0 w0 bx o (out ++ b)) := by
  have hB := (Below.refl w.heap.size w).alloc (Nat.le_refl _) (.cells cs 59)
  have hA := arr_of_own (by decide) (own_pcs w w.heap.size [.tx b] 1 rfl (Nat.le_refl _) (by decide) cs hc)
  refine (h.below hB).call h0 fun v1 hb1 h1 => ?_
  have hp := h1.put (nm := nm) (nu := nu) (dec := dec) (sg := sg) hb1 (.slice (some ⟨w.heap.size, 0, none⟩) 1 1) [.tx b] hA (fun q hq => by
    rw [List.mem_singleton] at hq
    exact .inl ⟨b, hq⟩) (by simp [pws, pwt]) (by simpa [pcsB, pcB] using hlen)
  simpa [pcsB, pcB] using hp
end
end Go.Proofs.YtdeflloidhbpmaaGreatDoor
