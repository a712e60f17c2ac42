/-
  rewindref10.Parse: what its walk needs.
  rewindref10.Parse, walked.
-/
import Derived.Test.YthkpnbekkoompabGreatDoorCsLQ
import Derived.Test.YthkpnbekkoompabGreatDoorCsLpQ
import Derived.Test.YthkpnbekkoompabGreatDoorCsRmQ
import Derived.Test.YthkpnbekkoompabGreatDoorCrEQ
import Derived.BigRegion
import Derived.RegionTactic
import Derived.Deep.RegionHeld3
namespace Go.Proofs.YthkpnbekkoompabGreatDoor
open Go.RowKit

theorem refLine_calls (r : CoM) (vP vI : Value) (B : Nat) (s : List UInt8) (hs : s.length ≤ 20000) (w : World) (hP : w.ownsRow B 51 6 vP r.ps.length (flatP r.ps)) (hI : w.ownsRow B 55 3 vI r.is.length (flatI r.is)) (hB : B ≤ w.heap.size) (hn1 : r.ps.length ≤ 100000) (hn2 : r.is.length ≤ 100000) :
    Calls Tryz.prog 14 #[.agg #[vP, vI], .string (bs s)] w (LnP B vP vI r (lineR r (splitL s)) w) := by
  by_cases hp : (splitL s).getD 0 [] = procB
  · exact refLine_proc r vP vI B s hs w hP hI hB hn1 hn2 hp
  · exact refLine_instr r vP vI B s hs w hP hI hB hn1 hn2 hp
theorem ext_bsC (t : List UInt8) (a b : Nat) : (bs t).extract a b = bs ((t.drop a).take (b - a)) := by
  apply bs_eq.2
  simp [bs, ByteArray.data_extract]
/-- An own row is no block of another type. -/
theorem own_off {w : World} {base n sz d : Nat} {e t : TypeId} {v : Value} {xs : List Value} {cur : Array Value} (he : e ≠ t) (h : w.ownsRow base e sz v n xs) (hd : w.heap[d]? = some (.cells cur t (0, 0))) (o : Nat) (u : Value) : (w.setCell ⟨d, o, none⟩ u).ownsRow base e sz v n xs :=
  own_keepC h fun g hg => setNe w d o u g fun e' => by
    subst e'
    obtain ⟨c2, hc⟩ := own_cells2 h _ hg
    rw [hd] at hc
    injection hc with hc
    injection hc with _ hc _
    exact he hc.symm
/-- What stands when a line was put behind the code, in a box of its own. -/
structure Aft (bc : Nat) (vP vI : Value) (c : CoM) (w0 X : World) : Prop where
  low : Below bc w0 X
  box : ∃ a b, X.heap[bc]? = some (.cells #[a, b] 33 (0, 0))
  rowP : X.ownsRow (bc + 1) 51 6 vP c.ps.length (flatP c.ps)
  rowI : X.ownsRow (bc + 1) 55 3 vI c.is.length (flatI c.is)
section
variable {bc : Nat} {vP vI : Value} {c : CoM} {w0 X : World}
theorem Aft.alloc (h : Aft bc vP vI c w0 X) (hs : bc ≤ X.heap.size) (o : Obj) : Aft bc vP vI c w0 (X.alloc o) := by
  obtain ⟨a, b, hb⟩ := h.box
  exact ⟨h.low.alloc hs o, ⟨a, b, (Below.heap_alloc _ _ _ (blkLt hb)).trans hb⟩, h.rowP.alloc o, h.rowI.alloc o⟩
theorem Aft.set (h : Aft bc vP vI c w0 X) {d o : Nat} {cur : Array Value} (hd : X.heap[d]? = some (.cells cur 33 (0, 0))) (hb : bc < d) (u : Value) : Aft bc vP vI c w0 (X.setCell ⟨d, o, none⟩ u) := by
  obtain ⟨a, b, hx⟩ := h.box
  exact ⟨h.low.setCell (p := ⟨d, o, none⟩) (Nat.le_of_lt hb) u, ⟨a, b, (setNe X d o u bc (by omega)).trans hx⟩, own_off (by decide) h.rowP hd o u, own_off (by decide) h.rowI hd o u⟩
theorem Aft.two (h : Aft bc vP vI c w0 X) {d : Nat} {cur : Array Value} (hd : X.heap[d]? = some (.cells cur 33 (0, 0))) (hb : bc < d) (u v : Value) : Aft bc vP vI c w0 ((X.setCell ⟨d, 0, none⟩ u).setCell ⟨d, 1, none⟩ v) :=
  (h.set (o := 0) hd hb u).set (setAt X d 0 u _ _ _ hd) hb v
/-- It is put into the code's box. -/
theorem Aft.put (h : Aft bc vP vI c w0 X) : Cr bc vP vI c ((X.setCell ⟨bc, 0, none⟩ vP).setCell ⟨bc, 1, none⟩ vI) ∧ Below bc w0 ((X.setCell ⟨bc, 0, none⟩ vP).setCell ⟨bc, 1, none⟩ vI) := by
  obtain ⟨a, b, hx⟩ := h.box
  have h1 := setAt X bc 0 vP _ _ _ hx
  refine ⟨⟨?_, own_off (by decide) (own_off (by decide) h.rowP hx 0 vP) h1 1 vI, own_off (by decide) (own_off (by decide) h.rowI hx 0 vP) h1 1 vI⟩, (h.low.setCell (p := ⟨bc, 0, none⟩) (Nat.le_refl _) vP).setCell (p := ⟨bc, 1, none⟩) (Nat.le_refl _) vI⟩
  rw [setAt _ bc 1 vI _ _ _ h1]
  rfl
end
/-- Line's answer, when it is told ahead. -/
theorem LnP.no {B : Nat} {vP vI : Value} {r : CoM} {o : Option CoM} {w w' : World} {e : Ending} (h : LnP B vP vI r o w e w') (ho : o = none) : e = .returned (.tuple #[.agg #[vP, vI], .bool false]) ∧ Below B w w' ∧ (∀ k, k < w.heap.size → vP.ownBlock ≠ some k → vI.ownBlock ≠ some k → w'.heap[k]? = w.heap[k]?) := by
  obtain ⟨h1, h2, h3⟩ := h
  rcases h3 with ⟨_, h⟩ | ⟨_, _, _, h, _⟩
  · exact ⟨h, h1, h2⟩
  · rw [ho] at h; cases h
theorem LnP.yes {B : Nat} {vP vI : Value} {r r' : CoM} {o : Option CoM} {w w' : World} {e : Ending} (h : LnP B vP vI r o w e w') (ho : o = some r') : (∃ vP' vI', e = .returned (.tuple #[.agg #[vP', vI'], .bool true]) ∧ w'.ownsRow B 51 6 vP' r'.ps.length (flatP r'.ps) ∧ w'.ownsRow B 55 3 vI' r'.is.length (flatI r'.is)) ∧ Below B w w' ∧ (∀ k, k < w.heap.size → vP.ownBlock ≠ some k → vI.ownBlock ≠ some k → w'.heap[k]? = w.heap[k]?) := by
  obtain ⟨h1, h2, h3⟩ := h
  rcases h3 with ⟨h, _⟩ | ⟨r2, vP', vI', h, he, p1, p2⟩
  · rw [ho] at h; cases h
  · rw [ho] at h
    obtain rfl := Option.some.inj h
    exact ⟨⟨vP', vI', he, p1, p2⟩, h1, h2⟩
/-- The code's box and its two rows. -/
structure Rw (bc : Nat) (AP AI : Option Addr) (np cP ni cI : Nat) (xs ys : List Value) (w1 w : World) : Prop where
  box : w.heap[bc]? = some (.cells #[.slice AP np cP, .slice AI ni cI] 33 (0, 0))
  rowP : w.ownsRow (bc + 1) 51 6 (.slice AP np cP) np xs
  rowI : w.ownsRow (bc + 1) 55 3 (.slice AI ni cI) ni ys
  low : Below bc w1 w
theorem Rw.set {bc g np cP ni cI j : Nat} {AI : Option Addr} {xs ys : List Value} {w1 w : World} (h : Rw bc (some ⟨g, 0, none⟩) AI np cP ni cI xs ys w1 w) (hj : j < np * 6) (u : Value) : Rw bc (some ⟨g, 0, none⟩) AI np cP ni cI (xs.set j u) ys w1 (w.setCell ⟨g, j, none⟩ u) := by
  have hg := (own_ltC h.rowP g rfl).1
  obtain ⟨cur, hc⟩ := own_cells2 h.rowP g rfl
  exact ⟨(setNe w g j u bc (by omega)).trans h.box, own_setC h.rowP hj, own_keepC h.rowI fun k hk => setNe w g j u k (fun e => own_apart (by decide) h.rowI h.rowP k hk (by subst e; rfl)), h.low.setCell (p := ⟨g, j, none⟩) (by show bc ≤ g; omega) u⟩
end Go.Proofs.YthkpnbekkoompabGreatDoor

namespace Go.Proofs.YthkpnbekkoompabGreatDoor
open Go.RowKit

theorem noEnds_ps (c : CoM) : (noEnds c).ps.length = c.ps.length := by simp [noEnds]
theorem parts_of (c : CoM) : (noEnds c).is = c.is := rfl
set_option maxRecDepth 100000 in
set_option maxHeartbeats 8000000 in
theorem refParse_calls (T : List UInt8) (w : World) (hT : T.length ≤ 20000) : Calls Tryz.prog 6 #[.string (bs T)] w (PsP T w) := by
  have hsz : (bs T).size = T.length := bs_size T
  have HG : Hid (∀ (k : Nat) (h : k < (bs T).size) (h' : k < T.length), (bs T)[k]'h = T[k]) := Lib.hid (fun k h h' => rfl)
  have HX : Hid (∀ j f, (bs T).extract f j = bs ((T.drop f).take (j - f))) := Lib.hid (fun j f => ext_bsC T f j)
  have d1 : decide ((200000 : Int) < (T.length : Int)) = false := decide_eq_false (by omega)
  have d2 : decide (200000 < T.length) = false := decide_eq_false (by omega)
  have HR1 := Lib.hid (heapOne w #[.slice none 0 0, .slice none 0 0] 33)
  have HB0 := Lib.hid ((Below.refl w.heap.size w).alloc (Nat.le_refl _) (.cells #[.slice none 0 0, .slice none 0 0] 33))
  generalize hS : bs T = S at *
  clear hS
  go_enter Tryz.func6, Tryz.ntmps6
  go_wp2
  have HZ1 : Hid ((w.alloc (.cells #[.slice none 0 0, .slice none 0 0] 33)).heap.size = w.heap.size + 1) := Lib.hid (by simp)
  generalize w.alloc (.cells #[.slice none 0 0, .slice none 0 0] 33) = W1 at *
  have HCR0 : Hid (Cr (w.heap.size + 1) (.slice none 0 0) (.slice none 0 0) (noEnds ⟨[], []⟩) (W1.alloc (.cells #[.slice none 0 0, .slice none 0 0] 33))) := Lib.hid (Cr.start (by rw [← HZ1.out]; exact heapOne W1 _ _))
  have HLO0 : Hid (Below (w.heap.size + 1) W1 (W1.alloc (.cells #[.slice none 0 0, .slice none 0 0] 33))) := Lib.hid (by rw [← HZ1.out]; exact (Below.refl _ _).alloc (Nat.le_refl _) _)
  go_loopw [6, 7, 8] (fun nn f i wr => ∃ (j f' k : Nat) (c : CoM) (vP vI : Value), nn = .int .i64 k ∧ f = .int .i64 f' ∧ i = .int .i64 j ∧ Hid (RI T j f' k c) ∧ Hid (Cr (w.heap.size + 1) vP vI (noEnds c) wr) ∧ Hid (Below (w.heap.size + 1) W1 wr)) (fun _ _ i _ => T.length - (intOf i).toNat)
  case atStart => exact ⟨0, 0, 1, ⟨[], []⟩, _, _, rfl, rfl, rfl, Lib.hid (ri_zero T), HCR0, HLO0⟩
  case round =>
    obtain ⟨j, f', k, c, vP, vI, rfl, rfl, rfl, HI, HC, HL⟩ := hrel
    have hlie := HI.out.lie
    have hlen := HI.out.len
    have hcnt := HI.out.cnt
    have hbl := blkLt HC.out.box
    by_cases hlt : j < T.length
    · have hjs : j < S.size := by omega
      have k0 : (0 : Int) ≤ (j : Int) := by omega
      have k1 : (j : Int) < (T.length : Int) := by omega
      by_cases hc : T[j] = 10
      · have e1 : (((S[j]'hjs).toNat : Int) != 10) = false := by rw [HG.out j hjs hlt, hc]; rfl
        obtain ⟨hbad, hgood⟩ := HI.out.line hT hlt hc
        have hn1 : (noEnds c).ps.length ≤ 100000 := by rw [noEnds_ps]; omega
        have hn2 : (noEnds c).is.length ≤ 100000 := by rw [parts_of]; omega
        have hxe := HX.out j f'
        have hsl : ((T.drop f').take (j - f')).length ≤ 20000 := by rw [List.length_take, List.length_drop]; omega
        have HBADL := Lib.hid hbad
        have HGOOD := Lib.hid hgood
        clear hbad hgood hc
        generalize noEnds c = q at *
        generalize (T.drop f').take (j - f') = seg at *
        obtain ⟨AP, cP, rfl⟩ := own_sliceC HC.out.rowP
        obtain ⟨AI, cI, rfl⟩ := own_sliceC HC.out.rowI
        have x0 : wr.cell? ⟨w.heap.size + 1, 0, none⟩ = some (.slice AP q.ps.length cP) := cellC HC.out.box 0
        have x1 : wr.cell? ⟨w.heap.size + 1, 1, none⟩ = some (.slice AI q.is.length cI) := cellC HC.out.box 1
        have HLN : Hid (∀ W, Below wr.heap.size wr W → Calls Tryz.prog 14 #[.agg #[.slice AP q.ps.length cP, .slice AI q.is.length cI], .string (S.extract f' j)] W (LnP (w.heap.size + 1 + 1) (.slice AP q.ps.length cP) (.slice AI q.is.length cI) q (lineR q (splitL seg)) W)) := Lib.hid (fun W hW => by
          rw [hxe]
          exact refLine_calls q _ _ (w.heap.size + 1 + 1) seg hsl W (own_keepC HC.out.rowP fun g hg => hW.block g (own_ltC HC.out.rowP g hg).2) (own_keepC HC.out.rowI fun g hg => hW.block g (own_ltC HC.out.rowI g hg).2) (by have := hW.size; omega) hn1 hn2)
        have HN1 : Hid ((Value.slice AP q.ps.length cP).ownBlock ≠ some wr.heap.size) := Lib.hid (fun e => by have := (own_ltC HC.out.rowP _ e).2; omega)
        have HN2 : Hid ((Value.slice AI q.is.length cI).ownBlock ≠ some wr.heap.size) := Lib.hid (fun e => by have := (own_ltC HC.out.rowI _ e).2; omega)
        have HBd0 : Hid (Below wr.heap.size wr wr.drew) := Lib.hid (below_drewC (Below.refl _ _) 1)
        have HBd1 : Hid (Below wr.heap.size wr (wr.alloc (.cells #[.slice none 0 0, .slice none 0 0] 33)).drew) := Lib.hid (below_drewC ((Below.refl _ _).alloc (Nat.le_refl _) _) 1)
        have HLW0 : Hid (Below (w.heap.size + 1) W1 wr.drew) := Lib.hid (HL.out.trans (HBd0.out.mono (by omega)))
        have HLW1 : Hid (Below (w.heap.size + 1) W1 (wr.alloc (.cells #[.slice none 0 0, .slice none 0 0] 33)).drew) := Lib.hid (HL.out.trans (HBd1.out.mono (by omega)))
        have HBX0 := Lib.hid ((HBd0.out.block _ hbl).trans HC.out.box)
        have HBX1 := Lib.hid ((HBd1.out.block _ hbl).trans HC.out.box)
        have HD1 : Hid ((wr.alloc (.cells #[.slice none 0 0, .slice none 0 0] 33)).drew.heap[wr.heap.size]? = some (.cells #[.slice none 0 0, .slice none 0 0] 33 (0, 0))) := Lib.hid (heapOne wr _ _)
        have kf0 : (0 : Int) ≤ (f' : Int) := by omega
        have kf1 : (f' : Int) ≤ (j : Int) := by omega
        have kf2 : (j : Int) ≤ (T.length : Int) := by omega
        have HNE : Hid (w.heap.size + 1 ≠ wr.heap.size) := Lib.hid (by omega)
        have x0m : ∀ o, (wr.alloc o).drew.cell? ⟨w.heap.size + 1, 0, none⟩ = some (.slice AP q.ps.length cP) := fun o => newC x0 o
        have x1m : ∀ o, (wr.alloc o).drew.cell? ⟨w.heap.size + 1, 1, none⟩ = some (.slice AI q.is.length cI) := fun o => newC x1 o
        clear hxe hsl hn1 hn2
        cases hl : lineR q (splitL seg) with
        | none =>
          have HBAD := Lib.hid (HBADL.out hl)
          have HNO := Lib.hid hl
          clear hl HBADL HGOOD
          go_upto_region 10 with (fail)
          have x0 : wr.drew.cell? ⟨w.heap.size + 1, 0, none⟩ = some (.slice AP q.ps.length cP) := x0
          have x1 : wr.drew.cell? ⟨w.heap.size + 1, 1, none⟩ = some (.slice AI q.is.length cI) := x1
          go_region_held3 (fun w' => w'.cell? ⟨w.heap.size + 1, 0, none⟩ = some (.slice AP q.ps.length cP) ∧ w'.cell? ⟨w.heap.size + 1, 1, none⟩ = some (.slice AI q.is.length cI)) (first | (with_reducible exact ⟨x0, x1⟩) | exact ⟨x0m _, x1m _⟩ | exact ⟨x0n _, x1n _⟩ | exact ⟨x0s _ _, x1s _ _⟩) (first | (go_at_call 14; (with_reducible refine (HLN.out _ (by first | exact HBd0.out | exact HBd1.out)).mono ?_); intro e w3 h3; obtain ⟨rfl, hlow, hsv⟩ := h3.no HNO.out; have HL3 := Lib.hid ((show Below (w.heap.size + 1) W1 _ by first | exact HLW0.out | exact HLW1.out).trans (hlow.mono (by omega))); have hc3 := (hlow.block (w.heap.size + 1) (by omega)).trans (by first | exact HBX0.out | exact HBX1.out); have HC3 := Lib.hid hc3; have x0 : w3.cell? ⟨w.heap.size + 1, 0, none⟩ = some (.slice AP q.ps.length cP) := cellC hc3 0; have x1 : w3.cell? ⟨w.heap.size + 1, 1, none⟩ = some (.slice AI q.is.length cI) := cellC hc3 1; have x0n := fun o => newC x0 o; have x1n := fun o => newC x1 o; have x0s := fun u v => cellH ((setNe (w3.setCell ⟨wr.heap.size, 0, none⟩ u) wr.heap.size 1 v (w.heap.size + 1) HNE.out).trans (setNe w3 wr.heap.size 0 u (w.heap.size + 1) HNE.out)) x0; have x1s := fun u v => cellH ((setNe (w3.setCell ⟨wr.heap.size, 0, none⟩ u) wr.heap.size 1 v (w.heap.size + 1) HNE.out).trans (setNe w3 wr.heap.size 0 u (w.heap.size + 1) HNE.out)) x1; have zr := (HL3.out.block w.heap.size (by omega)).trans HR1.out; have HZR := Lib.hid zr; have z0 : w3.cell? ⟨w.heap.size, 0, none⟩ = some (.slice none 0 0) := cellC zr 0; have z1 : w3.cell? ⟨w.heap.size, 1, none⟩ = some (.slice none 0 0) := cellC zr 1; have zf0 := frzL zr 0; have zf1 := frzL zr 1; have z0n := fun o => newC z0 o; have z1n := fun o => newC z1 o; have zf0n := fun o => frzL ((Below.heap_alloc w3 o _ (blkLt zr)).trans zr) 0; have zf1n := fun o => frzL ((Below.heap_alloc w3 o _ (blkLt zr)).trans zr) 1; (try (have hd3 := (hsv wr.heap.size (by simp) HN1.out HN2.out).trans HD1.out; have HD3 := Lib.hid hd3; have dd0 := cellC hd3 0; have dd1 := cellC hd3 1; have df0 := frzL hd3 0; have df1 := frzL hd3 1; clear hd3)); clear hlow hsv h3 zr hc3))
          · have hzx := (Below.heap_alloc w3 (.cells #[.slice AP q.ps.length cP, .slice AI q.is.length cI] 33) _ (blkLt HZR.out)).trans HZR.out
            have HBX3 := Lib.hid ((HB0.out.trans (HL3.out.mono (by omega))).alloc (by have := blkLt HZR.out; omega) (.cells #[.slice AP q.ps.length cP, .slice AI q.is.length cI] 33))
            clear z0 z1 zf0 zf1 z0n z1n zf0n zf1n x0 x1 x0n x1n x0m x1m x0s x1s
            generalize w3.alloc (.cells #[.slice AP q.ps.length cP, .slice AI q.is.length cI] 33) = X at *
            have z0 := cellC hzx 0
            have z1 := cellC hzx 1
            have zf0 := frzL hzx 0
            have zf1 := frzL hzx 1
            go_wp2
            refine bodyPost_ret (v := .tuple #[zeroC, .int .i64 (k : Int), .int .i64 3]) (by simp [results, Tryz.results6, go_sem, zeroC, z0, z1]) rfl ⟨?_, .inl ⟨k, HBAD.out, rfl⟩⟩
            exact (HBX3.out.setCell (p := ⟨w.heap.size, 0, none⟩) (by simp) _).setCell (p := ⟨w.heap.size, 1, none⟩) (by simp) _
          · have hzx := ((setNe (w3.setCell ⟨wr.heap.size, 0, none⟩ (.slice AP q.ps.length cP)) wr.heap.size 1 (.slice AI q.is.length cI) w.heap.size (by omega)).trans (setNe w3 wr.heap.size 0 (.slice AP q.ps.length cP) w.heap.size (by omega))).trans HZR.out
            have HBX3 := Lib.hid (((HB0.out.trans (HL3.out.mono (by omega))).setCell (p := ⟨wr.heap.size, 0, none⟩) (by show w.heap.size ≤ wr.heap.size; omega) (.slice AP q.ps.length cP)).setCell (p := ⟨wr.heap.size, 1, none⟩) (by show w.heap.size ≤ wr.heap.size; omega) (.slice AI q.is.length cI))
            clear z0 z1 zf0 zf1 z0n z1n zf0n zf1n x0 x1 x0n x1n x0m x1m x0s x1s dd0 dd1 df0 df1
            generalize (w3.setCell ⟨wr.heap.size, 0, none⟩ (.slice AP q.ps.length cP)).setCell ⟨wr.heap.size, 1, none⟩ (.slice AI q.is.length cI) = X at *
            have z0 := cellC hzx 0
            have z1 := cellC hzx 1
            have zf0 := frzL hzx 0
            have zf1 := frzL hzx 1
            go_wp2
            refine bodyPost_ret (v := .tuple #[zeroC, .int .i64 (k : Int), .int .i64 3]) (by simp [results, Tryz.results6, go_sem, zeroC, z0, z1]) rfl ⟨?_, .inl ⟨k, HBAD.out, rfl⟩⟩
            exact (HBX3.out.setCell (p := ⟨w.heap.size, 0, none⟩) (by simp) _).setCell (p := ⟨w.heap.size, 1, none⟩) (by simp) _
        | some r' =>
          have HNO := Lib.hid hl
          obtain ⟨c', hr', hi'⟩ := HGOOD.out r' hl
          have HI2 := Lib.hid hi'
          subst hr'
          clear hl HBADL HGOOD hi'
          go_upto_region 10 with (fail)
          have x0 : wr.drew.cell? ⟨w.heap.size + 1, 0, none⟩ = some (.slice AP q.ps.length cP) := x0
          have x1 : wr.drew.cell? ⟨w.heap.size + 1, 1, none⟩ = some (.slice AI q.is.length cI) := x1
          go_region_held3 (fun w' => w'.cell? ⟨w.heap.size + 1, 0, none⟩ = some (.slice AP q.ps.length cP) ∧ w'.cell? ⟨w.heap.size + 1, 1, none⟩ = some (.slice AI q.is.length cI)) (first | (with_reducible exact ⟨x0, x1⟩) | exact ⟨x0m _, x1m _⟩ | exact ⟨x0n _, x1n _⟩ | exact ⟨x0s _ _, x1s _ _⟩) (first | (go_at_call 14; (with_reducible refine (HLN.out _ (by first | exact HBd0.out | exact HBd1.out)).mono ?_); intro e w3 h3; obtain ⟨⟨vP2, vI2, rfl, hP3, hI3⟩, hlow, hsv⟩ := h3.yes HNO.out; obtain ⟨AP2, cP2, rfl⟩ := own_sliceC hP3; obtain ⟨AI2, cI2, rfl⟩ := own_sliceC hI3; have HP3 := Lib.hid hP3; have HI3 := Lib.hid hI3; clear hP3 hI3; have HL3 := Lib.hid ((show Below (w.heap.size + 1) W1 _ by first | exact HLW0.out | exact HLW1.out).trans (hlow.mono (by omega))); have hc3 := (hlow.block (w.heap.size + 1) (by omega)).trans (by first | exact HBX0.out | exact HBX1.out); have HC3 := Lib.hid hc3; have x0 : w3.cell? ⟨w.heap.size + 1, 0, none⟩ = some (.slice AP q.ps.length cP) := cellC hc3 0; have x1 : w3.cell? ⟨w.heap.size + 1, 1, none⟩ = some (.slice AI q.is.length cI) := cellC hc3 1; have x0n := fun o => newC x0 o; have x1n := fun o => newC x1 o; have x0s := fun u v => cellH ((setNe (w3.setCell ⟨wr.heap.size, 0, none⟩ u) wr.heap.size 1 v (w.heap.size + 1) HNE.out).trans (setNe w3 wr.heap.size 0 u (w.heap.size + 1) HNE.out)) x0; have x1s := fun u v => cellH ((setNe (w3.setCell ⟨wr.heap.size, 0, none⟩ u) wr.heap.size 1 v (w.heap.size + 1) HNE.out).trans (setNe w3 wr.heap.size 0 u (w.heap.size + 1) HNE.out)) x1; have zr := (HL3.out.block w.heap.size (by omega)).trans HR1.out; have HZR := Lib.hid zr; have xf0 := frzL hc3 0; have xf1 := frzL hc3 1; have xf0n := fun o => frzL ((Below.heap_alloc w3 o _ (blkLt hc3)).trans hc3) 0; have xf1n := fun o => frzL ((Below.heap_alloc w3 o _ (blkLt hc3)).trans hc3) 1; (try (have hd3 := (hsv wr.heap.size (by simp) HN1.out HN2.out).trans HD1.out; have HD3 := Lib.hid hd3; have dd0 := cellC hd3 0; have dd1 := cellC hd3 1; have df0 := frzL hd3 0; have df1 := frzL hd3 1; clear hd3)); clear hlow hsv h3 zr hc3))
          · have HA3 : Hid (Aft (w.heap.size + 1) (.slice AP2 (noEnds c').ps.length cP2) (.slice AI2 (noEnds c').is.length cI2) (noEnds c') W1 w3) := Lib.hid ⟨HL3.out, ⟨_, _, HC3.out⟩, HP3.out, HI3.out⟩
            have hb3 : w.heap.size + 1 < w3.heap.size := blkLt HC3.out
            have HAX := Lib.hid (HA3.out.alloc (by omega) (.cells #[.slice AP2 (noEnds c').ps.length cP2, .slice AI2 (noEnds c').is.length cI2] 33))
            have hbx := (Below.heap_alloc w3 (.cells #[.slice AP2 (noEnds c').ps.length cP2, .slice AI2 (noEnds c').is.length cI2] 33) _ hb3).trans HC3.out
            have hdx := heapOne w3 #[.slice AP2 (noEnds c').ps.length cP2, .slice AI2 (noEnds c').is.length cI2] 33
            clear xf0 xf1 xf0n xf1n x0 x1 x0n x1n x0m x1m x0s x1s
            generalize w3.alloc (.cells #[.slice AP2 (noEnds c').ps.length cP2, .slice AI2 (noEnds c').is.length cI2] 33) = X at *
            generalize w3.heap.size = d at *
            have x0 := cellC hbx 0
            have x1 := cellC hbx 1
            have xf0 := frzL hbx 0
            have xf1 := frzL hbx 1
            have y0 : X.cell? ⟨d, 0, none⟩ = some (.slice AP2 (noEnds c').ps.length cP2) := cellC hdx 0
            have y1 : X.cell? ⟨d, 1, none⟩ = some (.slice AI2 (noEnds c').is.length cI2) := cellC hdx 1
            go_wp2
            go_roundw
            case rel => exact ⟨j + 1, j + 1, k + 1, c', _, _, by go_num, by go_num, by go_num, HI2, Lib.hid HAX.out.put.1, Lib.hid HAX.out.put.2⟩
            case measure => simp [intOf]; omega
          · have HA3 : Hid (Aft (w.heap.size + 1) (.slice AP2 (noEnds c').ps.length cP2) (.slice AI2 (noEnds c').is.length cI2) (noEnds c') W1 w3) := Lib.hid ⟨HL3.out, ⟨_, _, HC3.out⟩, HP3.out, HI3.out⟩
            have hb3 : w.heap.size + 1 < w3.heap.size := blkLt HC3.out
            have HAX := Lib.hid (HA3.out.two HD3.out hbl (.slice AP2 (noEnds c').ps.length cP2) (.slice AI2 (noEnds c').is.length cI2))
            have hbx := ((setNe (w3.setCell ⟨wr.heap.size, 0, none⟩ (.slice AP2 (noEnds c').ps.length cP2)) wr.heap.size 1 (.slice AI2 (noEnds c').is.length cI2) (w.heap.size + 1) HNE.out).trans (setNe w3 wr.heap.size 0 (.slice AP2 (noEnds c').ps.length cP2) (w.heap.size + 1) HNE.out)).trans HC3.out
            have hdx := setAt _ wr.heap.size 1 (.slice AI2 (noEnds c').is.length cI2) _ _ _ (setAt w3 wr.heap.size 0 (.slice AP2 (noEnds c').ps.length cP2) _ _ _ HD3.out)
            clear xf0 xf1 xf0n xf1n x0 x1 x0n x1n x0m x1m x0s x1s dd0 dd1 df0 df1
            generalize (w3.setCell ⟨wr.heap.size, 0, none⟩ (.slice AP2 (noEnds c').ps.length cP2)).setCell ⟨wr.heap.size, 1, none⟩ (.slice AI2 (noEnds c').is.length cI2) = X at *
            have x0 := cellC hbx 0
            have x1 := cellC hbx 1
            have xf0 := frzL hbx 0
            have xf1 := frzL hbx 1
            have y0 : X.cell? ⟨wr.heap.size, 0, none⟩ = some (.slice AP2 (noEnds c').ps.length cP2) := cellC hdx 0
            have y1 : X.cell? ⟨wr.heap.size, 1, none⟩ = some (.slice AI2 (noEnds c').is.length cI2) := cellC hdx 1
            go_wp2
            go_roundw
            case rel => exact ⟨j + 1, j + 1, k + 1, c', _, _, by go_num, by go_num, by go_num, HI2, Lib.hid HAX.out.put.1, Lib.hid HAX.out.put.2⟩
            case measure => simp [intOf]; omega
      · have e1 : (((S[j]'hjs).toNat : Int) != 10) = true := by
          rw [HG.out j hjs hlt]
          simp only [bne_iff_ne]
          exact fun e => hc (UInt8.toNat_inj.1 (by simpa using (show (T[j]).toNat = 10 by omega)))
        have HI2 := Lib.hid (HI.out.skip hlt hc)
        clear hc hlie hlen hcnt
        go_wp2
        go_roundw
        case rel => exact ⟨j + 1, f', k, c, vP, vI, rfl, rfl, by go_num, HI2, HC, HL⟩
        case measure => simp [intOf]; omega
    · obtain rfl : j = T.length := by omega
      obtain ⟨hfb, hfg⟩ := HI.out.fin
      have HRr := Lib.hid ((HL.out.block w.heap.size (by omega)).trans HR1.out)
      by_cases hf : f' < T.length
      · have HBAD := Lib.hid (hfb hf)
        have kf : (f' : Int) < (T.length : Int) := by omega
        have z0 := cellC HRr.out 0
        have z1 := cellC HRr.out 1
        have zf0 := frzL HRr.out 0
        have zf1 := frzL HRr.out 1
        have HBW := Lib.hid (HB0.out.trans (HL.out.mono (by omega)))
        clear hfb hfg hlie hlen hcnt
        go_wp2
        refine bodyPost_ret (v := .tuple #[zeroC, .int .i64 (k : Int), .int .i64 3]) (by simp [results, Tryz.results6, go_sem, zeroC, z0, z1]) rfl ⟨?_, .inl ⟨k, HBAD.out, rfl⟩⟩
        exact (HBW.out.setCell (p := ⟨w.heap.size, 0, none⟩) (by simp) _).setCell (p := ⟨w.heap.size, 1, none⟩) (by simp) _
      · have hp := hfg hf
        have HRUN := Lib.hid hp
        have HEND := Lib.hid (parse_text hp).2
        have kf : decide ((f' : Int) < (T.length : Int)) = false := decide_eq_false (by omega)
        have kf2 : decide (f' < T.length) = false := decide_eq_false hf
        have HFT := Lib.hid HI.out.fit
        have hsm : c.ps.length + c.is.length ≤ T.length + 1 := by omega
        have HSM := Lib.hid hsm
        clear hfb hfg hp hlt
        have htx : txtC c = T := (parse_text HRUN.out).1
        have HNL := Lib.hid (show ∀ p ∈ c.ps, p.name.length ≤ 20000 from fun p hp => Nat.le_trans (name_le hp) (by rw [htx]; exact hT))
        clear htx
        have hrow := HC.out.rowP
        rw [noEnds_ps] at hrow
        have hrowI : wr.ownsRow (w.heap.size + 1 + 1) 55 3 vI c.is.length (flatI c.is) := HC.out.rowI
        obtain ⟨AP, cP, rfl⟩ := own_sliceC hrow
        obtain ⟨AI, cI, rfl⟩ := own_sliceC hrowI
        have HRW : Hid (Rw (w.heap.size + 1) AP AI c.ps.length cP c.is.length cI (flatP (midE c.is.length 0 c.ps)) (flatI c.is) W1 wr) := Lib.hid ⟨HC.out.box, hrow, hrowI, HL.out⟩
        have x0 : wr.cell? ⟨w.heap.size + 1, 0, none⟩ = some (.slice AP c.ps.length cP) := cellC HC.out.box 0
        clear hrow hrowI HC HL HI hlie hlen hcnt hbl hf HRr
        go_wp2_with fail
        go_loopw [56] (fun i wq => ∃ (m : Nat), m ≤ c.ps.length ∧ i = .int .i64 m ∧ Hid (Rw (w.heap.size + 1) AP AI c.ps.length cP c.is.length cI (flatP (midE c.is.length m c.ps)) (flatI c.is) W1 wq)) (fun i _ => c.ps.length - (intOf i).toNat)
        case atStart => exact ⟨0, by omega, rfl, HRW⟩
        case round =>
          clear HRW x0
          obtain ⟨m, hm, rfl, HRW⟩ := hrel
          have x0 : wr.cell? ⟨w.heap.size + 1, 0, none⟩ = some (.slice AP c.ps.length cP) := cellC HRW.out.box 0
          have x1 : wr.cell? ⟨w.heap.size + 1, 1, none⟩ = some (.slice AI c.is.length cI) := cellC HRW.out.box 1
          by_cases hmt : m < c.ps.length
          · have hlm : m < (midE c.is.length m c.ps).length := by rw [midE_len]; exact hmt
            obtain ⟨g, cap, hv, hg, _, _, hcl⟩ := own_read HRW.out.rowP (by omega)
            obtain rfl : AP = some ⟨g, 0, none⟩ := by injection hv
            obtain ⟨q0, q1, q2, q3, q4, q5⟩ := flatP_get (midE c.is.length m c.ps) m hlm
            obtain ⟨tv, t2⟩ : ∃ tv, wr.cell? ⟨g, m * 6 + 2, none⟩ = some (.int .i64 tv) := ⟨_, hcl _ _ q2⟩
            have fz : ∀ o, wr.frozen? ⟨g, o, none⟩ = false := fun o => World.ownsRow.frozenAt HRW.out.rowP o
            have hgb := (own_ltC HRW.out.rowP g rfl).1
            have k0 : (0 : Int) ≤ (m : Int) := by omega
            have k1 : (m : Int) < (c.ps.length : Int) := by omega
            have HST := Lib.hid (HRW.out.set (j := m * 6 + 2) (by omega) (.int .i64 (c.is.length : Int)))
            clear q0 q2 q3 q4 q5 hv
            cases m with
            | zero =>
              have HN : Hid ((flatP (midE c.is.length 0 c.ps)).set (0 * 6 + 2) (.int .i64 (c.is.length : Int)) = flatP (midE c.is.length 1 c.ps)) := Lib.hid (by
                cases hps : c.ps with
                | nil => rw [hps] at hmt; simp at hmt
                | cons p b => exact midE_first _ p b)
              rw [HN.out] at HST
              clear hcl q1 hlm
              go_wp2
              go_roundw
              case rel => exact ⟨1, by omega, by go_num, HST⟩
              case measure => simp [intOf]; omega
            | succ k2 =>
              have he := midE_get c.is.length (k2 + 1) (k2 + 1) c.ps hmt
              rw [he] at q1
              have hq1 := List.getElem?_set_ne (l := flatP (midE c.is.length (k2 + 1) c.ps)) (i := (k2 + 1) * 6 + 2) (j := (k2 + 1) * 6 + 1) (a := Value.int .i64 (c.is.length : Int)) (by omega)
              have hq2 := List.getElem?_set_ne (l := flatP (midE c.is.length (k2 + 1) c.ps)) (i := (k2 + 1) * 6 + 2) (j := k2 * 6 + 2) (a := Value.int .i64 (c.is.length : Int)) (by omega)
              obtain ⟨te, p2⟩ : ∃ te, (flatP (midE c.is.length (k2 + 1) c.ps))[k2 * 6 + 2]? = some (.int .i64 te) := ⟨_, (flatP_get (midE c.is.length (k2 + 1) c.ps) k2 (by omega)).2.2.1⟩
              rw [q1] at hq1
              rw [p2] at hq2
              have HSTEP := Lib.hid (midE_step HEND.out hmt)
              obtain ⟨fr, hfr⟩ : ∃ fr, fr = (c.ps[k2 + 1]).frm := ⟨_, rfl⟩
              rw [← hfr] at hq1 HSTEP
              have HQ1 := Lib.hid hq1
              have HQ2 := Lib.hid hq2
              clear hcl q1 hlm he hq1 hq2 p2 hfr
              go_upto_region 23 with (fail)
              generalize wr.setCell ⟨g, (k2 + 1) * 6 + 2, none⟩ (.int .i64 (c.is.length : Int)) = W9 at *
              obtain ⟨g', cap', hv', _, _, _, hcl9⟩ := own_read HST.out.rowP (by omega)
              have hgg : g' = g := by injection hv' with hv'; injection hv' with hv'; injection hv' with hv'; exact hv'.symm
              subst hgg
              have y0 : W9.drew.cell? ⟨w.heap.size + 1, 0, none⟩ = some (.slice (some ⟨g', 0, none⟩) c.ps.length cP) := cellC HST.out.box 0
              have y1 : W9.drew.cell? ⟨g', (k2 + 1) * 6 + 1, none⟩ = some (.int .i64 fr) := hcl9 _ _ HQ1.out
              obtain ⟨tu, u2⟩ : ∃ tu, W9.drew.cell? ⟨g', k2 * 6 + 2, none⟩ = some (.int .i64 tu) := ⟨_, hcl9 _ _ HQ2.out⟩
              have fz9 : ∀ o, W9.drew.frozen? ⟨g', o, none⟩ = false := fun o => World.ownsRow.frozenAt HST.out.rowP o
              have HST9 : Hid (Rw (w.heap.size + 1) (some ⟨g', 0, none⟩) AI c.ps.length cP c.is.length cI _ (flatI c.is) W1 W9.drew) := Lib.hid ⟨HST.out.box, HST.out.rowP, HST.out.rowI, below_drewC HST.out.low 1⟩
              have HS2 := Lib.hid (HST9.out.set (j := k2 * 6 + 2) (by omega) (.int .i64 fr))
              rw [HSTEP.out] at HS2
              have kk0 : (0 : Int) ≤ (k2 : Int) := by omega
              have kk1 : (k2 : Int) < (c.ps.length : Int) := by omega
              have kk2 : (k2 : Int) + 1 < (c.ps.length : Int) := by omega
              have kk3 : (k2 : Int) + 1 - 1 = (k2 : Int) := by omega
              have kk4 : k2 < c.ps.length := by omega
              clear hcl9 hv' t2 fz x0 x1
              go_region
              go_wp2
              go_roundw
              case rel => exact ⟨k2 + 2, by omega, by go_num, HS2⟩
              case measure => simp [intOf]; omega
          · obtain rfl : m = c.ps.length := by omega
            rw [midE_all HEND.out] at HRW
            have hcr : Cr (w.heap.size + 1) (.slice AP c.ps.length cP) (.slice AI c.is.length cI) c wr := ⟨HRW.out.box, HRW.out.rowP, HRW.out.rowI⟩
            have HCR := Lib.hid hcr
            have HH := Lib.hid (refHeights_calls c AP AI cP cI wr (hcr.co HFT.out) HNL.out (by omega) (by omega))
            unfold coV at HH
            clear hcr hm hmt
            go_wp2_with fail
            refine HH.out.mono ?_
            rintro e w2 ⟨hb2, h2⟩
            have HCR2 := Lib.hid (HCR.out.keep hb2)
            have HLW2 := Lib.hid (HRW.out.low.trans (hb2.mono (Nat.le_of_lt (blkLt HRW.out.box))))
            have hzr := (HLW2.out.block w.heap.size (by omega)).trans HR1.out
            have z0 := cellC hzr 0
            have z1 := cellC hzr 1
            have zf0 := frzL hzr 0
            have zf1 := frzL hzr 1
            have x0 : w2.cell? ⟨w.heap.size + 1, 0, none⟩ = some (.slice AP c.ps.length cP) := cellC HCR2.out.box 0
            have x1 : w2.cell? ⟨w.heap.size + 1, 1, none⟩ = some (.slice AI c.is.length cI) := cellC HCR2.out.box 1
            have HBW := Lib.hid (HB0.out.trans (HLW2.out.mono (by omega)))
            clear hb2 HH
            rcases h2 with ⟨hg, hs, gh, _, rfl, _⟩ | ⟨hg, rfl⟩
            · have HGD := Lib.hid hg
              obtain ⟨pp0, pp1, _⟩ := putL (u := .slice AP c.ps.length cP) (v := .slice AI c.is.length cI) hzr
              clear hg hzr
              go_wp2
              refine bodyPost_ret (v := .tuple #[coV AP cP AI cI c, .int .i64 0, .int .i64 0]) (by simp [results, Tryz.results6, go_sem, coV, pp0, pp1]) rfl ⟨?_, .inr (.inr ⟨c, k, AP, cP, AI, cI, HRUN.out, HGD.out, HFT.out, rfl, ?_, HSM.out⟩)⟩
              · exact (HBW.out.setCell (p := ⟨w.heap.size, 0, none⟩) (by simp) _).setCell (p := ⟨w.heap.size, 1, none⟩) (by simp) _
              · exact Cr.co ((HCR2.out.setLow (by omega)).setLow (by omega)) HFT.out
            · have HGD := Lib.hid hg
              clear hg hzr
              go_wp2
              refine bodyPost_ret (v := .tuple #[zeroC, .int .i64 (k : Int), .int .i64 3]) (by simp [results, Tryz.results6, go_sem, zeroC, z0, z1]) rfl ⟨?_, .inr (.inl ⟨c, k, HRUN.out, HGD.out, rfl⟩)⟩
              exact (HBW.out.setCell (p := ⟨w.heap.size, 0, none⟩) (by simp) _).setCell (p := ⟨w.heap.size, 1, none⟩) (by simp) _
end Go.Proofs.YthkpnbekkoompabGreatDoor
