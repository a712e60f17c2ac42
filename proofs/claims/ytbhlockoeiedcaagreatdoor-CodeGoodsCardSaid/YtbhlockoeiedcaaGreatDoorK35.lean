/-
  code.Parse.
  The statements' own small fact: the document's example is parsed, and is good.
-/
import Derived.Test.YtbhlockoeiedcaaGreatDoorK32
import Derived.Test.YtbhlockoeiedcaaGreatDoorK34
namespace Go.Proofs.YtbhlockoeiedcaaGreatDoor
open Go.RowKit

def zeroC : Value := .agg #[.slice none 0 0, .slice none 0 0]
/-- What Parse answers (of a text that isn't too long). -/
def PsP (t : List UInt8) (w : World) (e : Ending) (w' : World) : Prop :=
  Below w.heap.size w w' ∧ ((∃ k, parseM t = .inl k ∧ e = .returned (.tuple #[zeroC, .int .i64 (k : Int), .int .i64 3])) ∨
   (∃ c k, parseM t = .inr (c, k) ∧ ¬ GoodC c ∧ e = .returned (.tuple #[zeroC, .int .i64 (k : Int), .int .i64 3])) ∨
   (∃ c k A c1 A2 c2, parseM t = .inr (c, k) ∧ GoodC c ∧ CFit c ∧ e = .returned (.tuple #[coV A c1 A2 c2 c, .int .i64 0, .int .i64 0]) ∧ CoAt w' w'.heap.size A c1 A2 c2 c ∧ c.ps.length + c.is.length ≤ t.length + 1))
/-- What holds at the head of a round. -/
structure PI (T : List UInt8) (bc : Nat) (t : List UInt8) (k : Nat) (c : CoM) (vP vI : Value) (w0 w : World) : Prop where
  run : parseM T = linesM (t.length + 1) t k c
  cc : Cc bc vP vI c w
  low : Below bc w0 w
  fit : CFit c
  cnt : c.ps.length + c.is.length + 1 = k
  len : k + t.length ≤ T.length + 1
theorem linesM_next {t : List UInt8} {k : Nat} {c c' : CoM} (h0 : t ≠ []) (hc : (cutL t).2.2 = true) (ht : takeM c (splitL (cutL t).1) = some c') : linesM (t.length + 1) t k c = linesM ((cutL t).2.1.length + 1) (cutL t).2.1 (k + 1) c' := by
  conv => lhs; rw [linesM]
  rw [if_neg h0, if_pos hc, ht]
  exact linesM_step _ _ _ _ (cutL_lt t hc) _ (by omega)
theorem linesM_bad {t : List UInt8} {k : Nat} {c : CoM} (h0 : t ≠ []) (h : (cutL t).2.2 = false ∨ takeM c (splitL (cutL t).1) = none) : linesM (t.length + 1) t k c = .inl k := by
  rw [linesM, if_neg h0]
  by_cases hc : (cutL t).2.2 = true
  · rw [if_pos hc]
    rcases h with h | h
    · rw [hc] at h; cases h
    · rw [h]
  · rw [if_neg hc]

theorem Cc.setLow {bc g o : Nat} {vP vI v : Value} {c : CoM} {w : World} (h : Cc bc vP vI c w) (hg : g < bc) : Cc bc vP vI c (w.setCell ⟨g, o, none⟩ v) :=
  ⟨(setNe w g o v bc (by omega)).trans h.box, own_keepC h.rowP fun k hk => setNe w g o v k (by have := (own_ltC h.rowP k hk).1; omega), own_keepC h.rowI fun k hk => setNe w g o v k (by have := (own_ltC h.rowI k hk).1; omega)⟩
set_option maxRecDepth 100000 in
set_option maxHeartbeats 4000000 in
theorem parse_calls (T : List UInt8) (hT : T.length ≤ 90000) (w : World) (hX : TX w) : Calls Tryz.prog 16 #[.string (bs T)] w (PsP T w) := by
  have hsz : (bs T).size = T.length := bs_size T
  have hd : decide ((200000 : Int) < ((bs T).size : Int)) = false := decide_eq_false (by omega)
  have hd2 : decide (200000 < (bs T).size) = false := decide_eq_false (by omega)
  have HX := Lib.hid hX
  have HR0 := Lib.hid (heapOne w #[.slice none 0 0, .slice none 0 0] 25)
  have HB0 := Lib.hid ((Below.refl w.heap.size w).alloc (Nat.le_refl _) (.cells #[.slice none 0 0, .slice none 0 0] 25))
  have HSZ := Lib.hid hsz
  clear hsz hX
  go_enter Tryz.func16, Tryz.ntmps16
  go_wp2
  have HZ1 : Hid ((w.alloc (.cells #[.slice none 0 0, .slice none 0 0] 25)).heap.size = w.heap.size + 1) := Lib.hid (by simp)
  generalize w.alloc (.cells #[.slice none 0 0, .slice none 0 0] 25) = W1 at *
  have hc0 : Cc (w.heap.size + 1) (.slice none 0 0) (.slice none 0 0) ⟨[], []⟩ (W1.alloc (.cells #[.slice none 0 0, .slice none 0 0] 25)) :=
    ⟨by rw [← HZ1.out]; exact heapOne W1 _ _, World.ownsRow_nil _ _ _ _, World.ownsRow_nil _ _ _ _⟩
  have HP0 : Hid (PI T (w.heap.size + 1) T 1 ⟨[], []⟩ (.slice none 0 0) (.slice none 0 0) W1 (W1.alloc (.cells #[.slice none 0 0, .slice none 0 0] 25))) := Lib.hid
    ⟨rfl, hc0, by rw [← HZ1.out]; exact (Below.refl _ _).alloc (Nat.le_refl _) _, ⟨fun p hp => (by cases hp), fun x hx => (by cases hx)⟩, rfl, by omega⟩
  clear hc0
  go_loopw [0, 6] (fun s ln wr => ∃ (t : List UInt8) (k : Nat) (c : CoM) (vP vI : Value), s = .string (bs t) ∧ ln = .int .i64 k ∧ Hid (PI T (w.heap.size + 1) t k c vP vI W1 wr)) (fun s _ _ => match s with | .string b => b.size | _ => 0)
  case atStart => exact ⟨T, 1, _, _, _, rfl, rfl, HP0⟩
  case round =>
    obtain ⟨t, k, c, vP, vI, rfl, rfl, HI⟩ := hrel
    have hlen := HI.out.len
    have hcnt := HI.out.cnt
    have hk0 : (k : Int) ≤ 1000000 := by omega
    have hk1 : (0 : Int) ≤ (k : Int) := by omega
    have HRB : Hid (wr.heap[w.heap.size]? = some (.cells #[.slice none 0 0, .slice none 0 0] 25 (0, 0))) := Lib.hid ((HI.out.low.block _ (by omega)).trans HR0.out)
    have HBW : Hid (Below w.heap.size w wr) := Lib.hid (HB0.out.trans (HI.out.low.mono (by omega)))
    have HXR := Lib.hid (HX.out.below HBW.out (Nat.le_refl _))
    have hbl := blkLt HI.out.cc.box
    have hcmp : ((bs t).toList == []) = decide (t = []) := by
      rw [ByteArray.toList_eq, bs_toList]
      cases t <;> rfl
    by_cases ht : t = []
    · subst ht
      have b1 : ((bs []).toList == []) = true := hcmp
      clear hcmp
      obtain ⟨AP, cP, rfl⟩ := own_sliceC HI.out.cc.rowP
      obtain ⟨AI, cI, rfl⟩ := own_sliceC HI.out.cc.rowI
      have x0 := cellC HI.out.cc.box 0
      have x1 := cellC HI.out.cc.box 1
      have HRUN : Hid (parseM T = .inr (c, k)) := Lib.hid (by rw [HI.out.run]; rfl)
      have HG := Lib.hid (good_calls c AP AI cP cI wr (HI.out.cc.co HI.out.fit) (fun p hp => (HI.out.fit.prs p hp).2) (by simp at hlen; omega) HXR.out.ts)
      unfold coV at HG
      have HCO := Lib.hid (HI.out.cc.co HI.out.fit)
      have HCB := Lib.hid HI.out.cc.box
      have HCC := Lib.hid HI.out.cc
      have HFT := Lib.hid HI.out.fit
      have HSM : Hid (c.ps.length + c.is.length ≤ T.length + 1) := Lib.hid (by simp at hlen; omega)
      clear HI hlen
      go_wp2_with fail
      refine HG.out.mono ?_
      rintro e w2 ⟨hB2, hgood⟩
      have hzs : w.heap.size < w2.heap.size := Nat.lt_of_lt_of_le (blkLt HRB.out) hB2.size
      have hr2 := (hB2.block w.heap.size (blkLt HRB.out)).trans HRB.out
      have z0 := cellC hr2 0
      have z1 := cellC hr2 1
      have zf0 : w2.frozen? ⟨w.heap.size, 0, none⟩ = false := by simp [World.frozen?, hr2]
      have zf1 : w2.frozen? ⟨w.heap.size, 1, none⟩ = false := by simp [World.frozen?, hr2]
      have hb2 := (hB2.block (w.heap.size + 1) hbl).trans HCB.out
      have x0 := cellC hb2 0
      have x1 := cellC hb2 1
      have HB2 := Lib.hid hB2
      have HBW2 := Lib.hid (HBW.out.trans (hB2.mono HBW.out.size))
      clear hB2 hr2 hb2 HG
      rcases hgood with ⟨hg, rfl⟩ | ⟨hg, rfl⟩
      · have HGD := Lib.hid hg
        clear hg
        go_wp2
        refine bodyPost_ret (v := .tuple #[coV AP cP AI cI c, .int .i64 0, .int .i64 0]) (by simp [results, Tryz.results16, go_sem, coV, z0, z1]) rfl ⟨?_, .inr (.inr ⟨c, k, AP, cP, AI, cI, HRUN.out, HGD.out, HFT.out, rfl, ?_, HSM.out⟩)⟩
        · exact (HBW2.out.setCell (p := ⟨w.heap.size, 0, none⟩) (by simp) _).setCell (p := ⟨w.heap.size, 1, none⟩) (by simp) _
        · exact Cc.co (((HCC.out.keep HB2.out).setLow (by omega)).setLow (by omega)) HFT.out
      · have HGD := Lib.hid hg
        clear hg
        go_wp2
        refine bodyPost_ret (v := .tuple #[zeroC, .int .i64 (k : Int), .int .i64 3]) (by simp [results, Tryz.results16, go_sem, zeroC, z0, z1]) rfl ⟨?_, .inr (.inl ⟨c, k, HRUN.out, HGD.out, rfl⟩)⟩
        · exact (HBW2.out.setCell (p := ⟨w.heap.size, 0, none⟩) (by simp) _).setCell (p := ⟨w.heap.size, 1, none⟩) (by simp) _
    · have b1 : ((bs t).toList == []) = false := by rw [hcmp]; exact decide_eq_false ht
      have b2 : (bs t).toList ≠ [] := by rw [ByteArray.toList_eq, bs_toList]; exact ht
      have HBAD := Lib.hid (fun h => HI.out.run.trans (linesM_bad (k := k) (c := c) ht h))
      have HNEXT := Lib.hid (fun c' h1 h2 => HI.out.run.trans (linesM_next (k := k) (c := c) (c' := c') ht h1 h2))
      have htl : t.length ≤ 90001 := by omega
      have HCU := Lib.hid (cut_calls t (by omega) wr HXR.out)
      have hcl := cutL_le t
      have HLT := Lib.hid (fun h => cutL_lt t h)
      have HSP := Lib.hid (splitL_part (cutL t).1)
      clear hcmp
      generalize hce : cutL t = ce at *
      obtain ⟨line, rest, ended⟩ := ce
      dsimp only at hcl HCU HBAD HNEXT HLT HSP
      clear hce ht
      go_wp2_with fail
      refine HCU.out.mono ?_
      rintro e w1 ⟨rfl, hB1⟩
      have hr1 := (hB1.block w.heap.size (blkLt HRB.out)).trans HRB.out
      have HR1 := Lib.hid hr1
      have HC1 := Lib.hid (HI.out.cc.keep hB1)
      have HX1 := Lib.hid (HXR.out.below hB1 (Nat.le_refl _))
      have HB1 := Lib.hid hB1
      have HBW1 := Lib.hid (HBW.out.trans (hB1.mono HBW.out.size))
      have hzs1 : w.heap.size < w1.heap.size := blkLt hr1
      clear hB1 hr1 HCU
      cases ended with
      | false =>
        have HR := Lib.hid (HBAD.out (.inl rfl))
        have z0 := cellC HR1.out 0
        have z1 := cellC HR1.out 1
        have zf0 : w1.frozen? ⟨w.heap.size, 0, none⟩ = false := by simp [World.frozen?, HR1.out]
        have zf1 : w1.frozen? ⟨w.heap.size, 1, none⟩ = false := by simp [World.frozen?, HR1.out]
        have hzs := hzs1
        clear HBAD HNEXT HLT HSP
        go_wp2
        refine bodyPost_ret (v := .tuple #[zeroC, .int .i64 (k : Int), .int .i64 3]) (by simp [results, Tryz.results16, go_sem, zeroC, z0, z1]) rfl ⟨?_, .inl ⟨k, HR.out, rfl⟩⟩
        · exact (HBW1.out.setCell (p := ⟨w.heap.size, 0, none⟩) (by simp) _).setCell (p := ⟨w.heap.size, 1, none⟩) (by simp) _
      | true =>
        have HSL := Lib.hid (split_calls line (by omega) w1 HX1.out)
        go_wp2_with fail
        refine HSL.out.mono ?_
        rintro e w2 ⟨rfl, hB2, hsx⟩
        have HC2 := Lib.hid (HC1.out.keep hB2)
        have HX2 := Lib.hid (HX1.out.below hB2 (Nat.le_refl _))
        have hn1 : 1 ≤ (splitL line).length := List.length_pos_iff.2 (splitL_ne line)
        have hn2 : (splitL line).length ≤ 1000000 := by rw [splitL_len]; have := Lib.count_le line [32]; omega
        have HTK := Lib.hid (take_calls (c := c) (Nat.le_trans (by omega) hB2.size) HC2.out w1.heap.size 0 (splitL line).length rfl hn1 hn2 hsx HX2.out (fun x hx => by have := HSP.out x hx; omega) (by omega) (by omega))
        have HB2 := Lib.hid hB2
        generalize (splitL line).length = N at *
        clear hB2 hsx HSL
        go_wp2_with fail
        refine HTK.out.mono ?_
        intro e w3 h3
        have HX3 := Lib.hid (fun c' (hr : takeM c (splitL line) = some c') => takeM_fit hr HI.out.fit (fun x hx => by have := HSP.out x hx; omega) (by omega))
        rcases h3.cases with ⟨hr, rfl, hB3⟩ | ⟨c', vP', vI', hr, rfl, hc', hB3⟩
        · have HR := Lib.hid (HBAD.out (.inr hr))
          have hr3 := (hB3.block w.heap.size (by omega)).trans ((HB2.out.block w.heap.size hzs1).trans HR1.out)
          have z0 := cellC hr3 0
          have z1 := cellC hr3 1
          have zf0 : w3.frozen? ⟨w.heap.size, 0, none⟩ = false := by simp [World.frozen?, hr3]
          have zf1 : w3.frozen? ⟨w.heap.size, 1, none⟩ = false := by simp [World.frozen?, hr3]
          have hzs : w.heap.size < w3.heap.size := blkLt hr3
          have HBW3 := Lib.hid ((HBW1.out.trans (HB2.out.mono (by omega))).trans (hB3.mono (by omega)))
          clear HBAD HNEXT HLT HSP HTK h3 hr hB3 hr3 HX3
          go_wp2
          refine bodyPost_ret (v := .tuple #[zeroC, .int .i64 (k : Int), .int .i64 3]) (by simp [results, Tryz.results16, go_sem, zeroC, z0, z1]) rfl ⟨?_, .inl ⟨k, HR.out, rfl⟩⟩
          exact (HBW3.out.setCell (p := ⟨w.heap.size, 0, none⟩) (by simp) _).setCell (p := ⟨w.heap.size, 1, none⟩) (by simp) _
        · obtain ⟨hfit, hnum⟩ := HX3.out c' hr
          have hlt := HLT.out trivial
          have HIN : Hid (PI T (w.heap.size + 1) rest (k + 1) c' vP' vI' W1 w3) := Lib.hid ⟨HNEXT.out c' trivial hr, hc', ((HI.out.low.trans (HB1.out.mono (by omega))).trans (HB2.out.mono (by have := HB1.out.size; omega))).trans hB3, hfit, by omega, by omega⟩
          have hsr : (bs rest).size < (bs t).size := by rw [bs_size, bs_size]; exact hlt
          clear HBAD HNEXT HLT HSP HTK h3 hr hB3 HX3 hc' hfit hnum
          go_wp2
          go_roundw
          case rel => exact ⟨rest, k + 1, c', vP', vI', rfl, by go_num, HIN⟩
          case measure => exact hsr
end Go.Proofs.YtbhlockoeiedcaaGreatDoor

namespace Go.Proofs.YtbhlockoeiedcaaGreatDoor
open Go.RowKit

/-- The document's example, and its code. -/
def exT : List UInt8 := [112, 114, 111, 99, 32, 109, 97, 105, 110, 32, 48, 32, 48, 32, 52, 10, 114, 101, 116, 117, 114, 110, 32, 48, 10]
def exC : CoM := ⟨[⟨[109, 97, 105, 110], 0, 1, 0, 0, 4⟩], [⟨27, 0, 0⟩]⟩
def chkC (r : Nat ⊕ CoM × Nat) : Bool := match r with
  | .inr (⟨[p], [x]⟩, k) => p.name == [109, 97, 105, 110] && decide (p.frm = 0) && decide (p.to = 1) && decide (p.par = 0) && decide (p.slo = 0) && decide (p.typ = 4) && decide (x.op = 27) && decide (x.arg = 0) && decide (x.mor = 0) && decide (k = 3)
  | _ => false
set_option maxRecDepth 100000 in
theorem exC_chk : chkC (parseM exT) = true := by decide +kernel
theorem chkC_eq {r : Nat ⊕ CoM × Nat} (h : chkC r = true) : r = .inr (exC, 3) := by
  rcases r with k | ⟨⟨ps, is⟩, k⟩
  · simp [chkC] at h
  · match ps, is with
    | [⟨a, b, c, d, e, f⟩], [⟨x, y, z⟩] =>
      simp [chkC] at h
      obtain ⟨⟨⟨⟨⟨⟨⟨⟨⟨rfl, rfl⟩, rfl⟩, rfl⟩, rfl⟩, rfl⟩, rfl⟩, rfl⟩, rfl⟩, rfl⟩ := h
      rfl
    | [], _ => simp [chkC] at h
    | _ :: _ :: _, _ => simp [chkC] at h
    | [_], [] => simp [chkC] at h
    | [_], _ :: _ :: _ => simp [chkC] at h
theorem exC_run : parseM exT = .inr (exC, 3) := chkC_eq exC_chk
theorem exC_good : GoodC exC := by
  refine ⟨⟨⟨by simp [exC], by simp [exC, ordB]⟩, ?_⟩, [0], rfl, ?_⟩
  · intro p hp
    simp [exC] at hp
    subst hp
    refine ⟨⟨by decide, by decide, by decide, .inr rfl, by decide +kernel⟩, ?_⟩
    intro x hx
    simp [exC, body] at hx
    subst hx
    exact ⟨⟨by decide, by decide⟩, by simp [argOk, ansM], by simp [morOk]⟩
  · intro p hp
    simp [exC] at hp
    subst hp
    refine ⟨rfl, ?_, ?_⟩
    · intro i h1 h2 _
      obtain rfl : i = 0 := by simp at h2; omega
      refine ⟨by simp [takesM, insAt, exC, hAt], ?_⟩
      intro q hq
      simp [nexts, insAt, exC] at hq
    · intro i h1 h2
      obtain rfl : i = 0 := by simp at h2; omega
      exact ⟨.inr (by simp [hAt]), fun _ => Met.start⟩
/-- What Parse answers of the example. -/
theorem ex_parsed {w w' : World} {e : Ending} (h : PsP exT w e w') : Below w.heap.size w w' ∧ ∃ A c1 A2 c2, e = .returned (.tuple #[coV A c1 A2 c2 exC, .int .i64 0, .int .i64 0]) ∧ CoAt w' w'.heap.size A c1 A2 c2 exC := by
  refine ⟨h.1, ?_⟩
  rcases h.2 with ⟨k, hr, _⟩ | ⟨c, k, hr, hn, _⟩ | ⟨c, k, A, c1, A2, c2, hr, hg, hf, he, hc, _⟩
  · rw [exC_run] at hr; cases hr
  · rw [exC_run] at hr; cases hr; exact absurd exC_good hn
  · rw [exC_run] at hr; cases hr; exact ⟨A, c1, A2, c2, he, hc⟩
end Go.Proofs.YtbhlockoeiedcaaGreatDoor
