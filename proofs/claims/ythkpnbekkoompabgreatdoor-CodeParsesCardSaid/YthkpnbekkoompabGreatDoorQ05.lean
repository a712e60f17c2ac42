/-
  code: an instruction leads to those that may come next (leadFrom): all.
  code: a procedure's heights are found (find).
  code: slices.Repeat of one int, -1.
  code.Heights, code.Good.
-/
import Derived.Test.YthkpnbekkoompabGreatDoorQ04
import Derived.Test.YthkpnbekkoompabGreatDoorCoJayQ
import Derived.Test.YthkpnbekkoompabGreatDoorCoJaxQ
import Derived.Test.YthkpnbekkoompabGreatDoorCoJbyQ
import Derived.Test.YthkpnbekkoompabGreatDoorCoJbxQ
import Derived.Deep.LoopGhost
import Derived.Test.YthkpnbekkoompabGreatDoorQ03
import Derived.Test.YthkpnbekkoompabGreatDoorCoX
import Derived.Laws.CopyOwn
import Derived.Deep.RegionLaw
import Derived.IntWalk
import Derived.Deep.AppendLies
namespace Go.Proofs.YthkpnbekkoompabGreatDoor
open Go.RowKit
section
variable {c : CoM} {A A2 : Option Addr} {c1 c2 : Nat} {p : PrM} {q gH f : Nat} {hs : List Int} {vW : Value} {ws : List Nat} {w : World}

theorem leadFrom_calls (h : Fd c A c1 A2 c2 p q gH f hs vW ws w) (F T : Nat) (hF : p.frm = (F : Int)) (hT : p.to = (T : Int)) (hl : T ≤ c.is.length) (hp : ∀ y ∈ c.ps, prOk y) (a : Nat) (ha : a < c.is.length) (hok : inOk p c.ps.length (insAt c a)) (h0 : 0 ≤ hAt hs a ∧ hAt hs a ≤ 200) (hw : ws.length ≤ 999990) :
    Calls Tryz.prog 58 #[.pointer (some ⟨f, 0, none⟩), .int .i64 (a : Int)] w (LeadP c A c1 A2 c2 p q gH f (fromM c T hs ws a) w) := by
  by_cases hge : hAt hs a < takesM c (insAt c a)
  · exact from_low h F T hF hT hl hp a ha hok h0 hw hge
  · by_cases h27 : (insAt c a).op = 27
    · exact from_ret h F T hF hT hl hp a ha hok h0 hw hge h27
    · by_cases h22 : (insAt c a).op = 22
      · exact from_jump h F T hF hT hl hp a ha hok h0 hw hge h22
      · by_cases h23 : (insAt c a).op = 23
        · obtain ⟨k, hk⟩ := inOk_place hok hF (by omega)
          by_cases hR : (leadM T hs ws (k, hAt hs a - takesM c (insAt c a) + leavesM c (insAt c a))).1 = true
          · exact from_two_yes h F T hF hT hl hp a ha hok h0 hw hge h23 k hk hR
          · exact from_two_no h F T hF hT hl hp a ha hok h0 hw hge h23 k hk hR
        · by_cases h24 : (insAt c a).op = 24
          · obtain ⟨k, hk⟩ := inOk_place hok hF (by omega)
            by_cases hR : (leadM T hs ws (k, hAt hs a)).1 = true
            · exact from_and24_yes h F T hF hT hl hp a ha hok h0 hw hge h24 k hk hR
            · exact from_and24_no h F T hF hT hl hp a ha hok h0 hw hge h24 k hk hR
          by_cases h25 : (insAt c a).op = 25
          · obtain ⟨k, hk⟩ := inOk_place hok hF (by omega)
            by_cases hR : (leadM T hs ws (k, hAt hs a)).1 = true
            · exact from_and25_yes h F T hF hT hl hp a ha hok h0 hw hge h25 k hk hR
            · exact from_and25_no h F T hF hT hl hp a ha hok h0 hw hge h25 k hk hR
          · exact from_next h F T hF hT hl hp a ha hok h0 hw hge ⟨h27, by omega⟩
end

end Go.Proofs.YthkpnbekkoompabGreatDoor

namespace Go.Proofs.YthkpnbekkoompabGreatDoor
open Go.RowKit

theorem ownCut {w : World} {base n g cap : Nat} {e : TypeId} {xs : List Value} {x : Value} (h : w.ownsRow base e 1 (.slice (some ⟨g, 0, none⟩) (n + 1) cap) (n + 1) (xs ++ [x])) : w.ownsRow base e 1 (.slice (some ⟨g, 0, none⟩) n cap) n xs := by
  have hl : xs.length = n := by have := h.1; simp at this; omega
  rcases h.2 with ⟨h0, _⟩ | ⟨g', cap', cur, hv, hb, hg, h1, h2, h3, h4⟩
  · cases h0
  · injection hv with e1 e2 e3
    injection e1 with e1
    injection e1 with e1
    subst e1 e3
    refine ⟨by omega, .inr ⟨g, cap, cur, rfl, hb, hg, by omega, h2, h3, ?_⟩⟩
    have h5 := congrArg (List.take n) h4
    rw [List.take_take, Nat.min_eq_left (by omega), List.take_append_of_le_length (by omega), List.take_of_length_le (by omega : xs.length ≤ n)] at h5
    rw [Nat.mul_one]
    exact h5
theorem ownForm {w : World} {base n : Nat} {e : TypeId} {v : Value} {xs : List Value} (h : w.ownsRow base e 1 v (n + 1) xs) : ∃ g cap, v = .slice (some ⟨g, 0, none⟩) (n + 1) cap ∧ base ≤ g ∧ n + 1 ≤ cap ∧ cap ≤ maxLen ∧ ∀ j u, xs[j]? = some u → w.cell? ⟨g, j, none⟩ = some u := by
  have h' := h
  rcases h.2 with ⟨_, h0⟩ | ⟨g, cap, cur, rfl, hb, hg, h1, h2, h3, h4⟩
  · omega
  · refine ⟨g, cap, rfl, hb, h1, h2, fun j u hu => ?_⟩
    have := h'.cells (g := g) rfl j u hu
    rwa [Addr.add_lit, Nat.zero_add] at this

section
variable {c : CoM} {A A2 : Option Addr} {c1 c2 : Nat} {p : PrM} {q gH f : Nat} {hs : List Int} {vW : Value} {ws : List Nat} {w : World}
theorem Fd.pop {g cap a : Nat} (h : Fd c A c1 A2 c2 p q gH f hs (.slice (some ⟨g, 0, none⟩) (ws.length + 1) cap) (ws ++ [a]) w) : Fd c A c1 A2 c2 p q gH f hs (.slice (some ⟨g, 0, none⟩) ws.length cap) ws (w.setCell ⟨f, 9, none⟩ (.slice (some ⟨g, 0, none⟩) ws.length cap)) ∧ FK gH f w (w.setCell ⟨f, 9, none⟩ (.slice (some ⟨g, 0, none⟩) ws.length cap)) := by
  have hl := h.lt
  have hf := h.flt
  have hk : ∀ k, k ≠ f → (w.setCell ⟨f, 9, none⟩ (.slice (some ⟨g, 0, none⟩) ws.length cap)).heap[k]? = w.heap[k]? := fun k hk => setNe w f 9 _ k hk
  have hw := h.wait
  rw [List.length_append, List.length_singleton, wsL_snoc] at hw
  have hw2 := ownCut hw
  refine ⟨⟨?_, (hk gH (by omega)).trans h.hts, own_keepC hw2 fun g' hg' => hk g' (by have := (own_ltC hw2 g' hg').1; omega), ?_, ?_, h.lt, h.len, h.few⟩, rfl, rfl, rfl, by simp, fun k h1 _ => hk k (by omega)⟩
  · rw [setAt w f 9 _ _ _ _ h.box]; rfl
  · exact h.co.keep fun b o hb => World.cell?_of_block (a := ⟨b, o, none⟩) (hk b (by omega))
  · exact h.shp.at' (fun o => World.cell?_of_block (a := ⟨0, o, none⟩) (hk 0 (by omega))) (by simp; omega)

/-- What find leaves. -/
def FindP (c : CoM) (_A : Option Addr) (_c1 : Nat) (_A2 : Option Addr) (_c2 : Nat) (_p : PrM) (_q gH f F T : Nat) (hs0 : List Int) (w : World) (e : Ending) (w' : World) : Prop :=
  ∃ b : Bool, e = .returned (.bool b) ∧ FK gH f w w' ∧ (b = true → ∃ hs, w'.heap[gH]? = some (.cells (intsL hs).toArray 3 (0, 0)) ∧ hs.length = c.is.length ∧ HtsP c F T hs ∧ ∀ i, ¬ (F ≤ i ∧ i < T) → hAt hs i = hAt hs0 i) ∧ (b = false → Wrong c F T)
structure FI (c : CoM) (A : Option Addr) (c1 : Nat) (A2 : Option Addr) (c2 : Nat) (p : PrM) (q gH f F T : Nat) (hs0 : List Int) (b : Bool) (hs : List Int) (vW : Value) (ws : List Nat) (gk : Nat) (w w' : World) : Prop where
  fk : FK gH f w w'
  fd : Fd c A c1 A2 c2 p q gH f hs vW ws w'
  yes : b = true → Fnd c F T hs0 hs ws [] ∧ 2 * unset hs + ws.length ≤ gk ∧ gk ≤ 300000
  no : b = false → Wrong c F T

set_option maxRecDepth 100000 in
set_option maxHeartbeats 4000000 in
theorem find_calls (hs0 : List Int) (h : Fd c A c1 A2 c2 p q gH f hs0 (.slice none 0 0) [] w) (F T : Nat) (hF : p.frm = (F : Int)) (hT : p.to = (T : Int)) (hFT : F < T) (hl : T ≤ c.is.length) (hp : ∀ y ∈ c.ps, prOk y) (hb : ∀ x ∈ body c p, inOk p c.ps.length x) (h0 : ∀ i, F ≤ i → i < T → hAt hs0 i = -1) :
    Calls Tryz.prog 39 #[.pointer (some ⟨f, 0, none⟩)] w (FindP c A c1 A2 c2 p q gH f F T hs0 w) := by
  have hcells := h.cells
  obtain ⟨_, _, d3, _⟩ := hcells
  rw [hF] at d3
  obtain ⟨hM, hFnd⟩ := fnd_start (c := c) hFT hl h.len h0
  have HL := Lib.hid (lead_calls h T F 0 hT hl (by simp))
  rw [hM] at HL
  have hlen := h.len
  have hun : unset (hs0.set F 0) ≤ hs0.length := by
    have := List.countP_le_length (p := fun x : Int => x == -1) (l := hs0.set F 0)
    rw [List.length_set] at this
    exact this
  have hfew := h.few
  have HSTART : Hid (∀ vW' W, Fd c A c1 A2 c2 p q gH f (hs0.set F 0) vW' [F] W → FK gH f w W → FI c A c1 A2 c2 p q gH f F T hs0 true (hs0.set F 0) vW' [F] (2 * hs0.length + 1) w W) := Lib.hid fun vW' W h1 h2 => ⟨h2, h1, fun _ => ⟨hFnd, by simp; omega, by omega⟩, fun e => (by cases e)⟩
  have HFROM : Hid (∀ (hs' : List Int) (g' cap' : Nat) (ws' : List Nat) (a : Nat) (W : World) (gk : Nat), FI c A c1 A2 c2 p q gH f F T hs0 true hs' (.slice (some ⟨g', 0, none⟩) (ws'.length + 1) cap') (ws' ++ [a]) gk w W → Calls Tryz.prog 58 #[.pointer (some ⟨f, 0, none⟩), .int .i64 (a : Int)] (W.setCell ⟨f, 9, none⟩ (.slice (some ⟨g', 0, none⟩) ws'.length cap')) (fun e w' => ∃ b hs2 vW2 ws2, e = .returned (.bool b) ∧ FI c A c1 A2 c2 p q gH f F T hs0 b hs2 vW2 ws2 (gk - 1) w w' ∧ 1 ≤ gk)) := Lib.hid fun hs' g' cap' ws' a W gk hI => by
    obtain ⟨hn, hgk, hg3⟩ := hI.yes rfl
    obtain ⟨hfd, hfk⟩ := hI.fd.pop
    obtain ⟨m1, m2, m3⟩ := hn.wait a (by simp)
    have hmet := (hn.met a m1 m2).1
    have hokk := fromM_ok hl hF hT hb hn
    rw [List.length_append, List.length_singleton] at hgk
    refine (leadFrom_calls hfd F T hF hT hl hp a (by omega) (hb _ (ins_body hF hT hl m1 m2)) (by omega) (by omega)).mono ?_
    rintro e w' ⟨he, vW', hfd', hfk'⟩
    refine ⟨_, _, vW', _, he, ⟨(hI.fk.trans hfk).trans hfk', hfd', fun hy => ?_, fun hno => hokk.1 hno⟩, by omega⟩
    obtain ⟨k1, k2⟩ := hokk.2 hy
    exact ⟨k2, by omega, by omega⟩
  have HEND : Hid (∀ (hs' : List Int) (vW' : Value) (gk : Nat) (W : World), FI c A c1 A2 c2 p q gH f F T hs0 true hs' vW' [] gk w W → FindP c A c1 A2 c2 p q gH f F T hs0 w (.returned (.bool true)) W) := Lib.hid fun hs' vW' gk W hI => by
    obtain ⟨hn, _, _⟩ := hI.yes rfl
    exact ⟨true, rfl, hI.fk, fun _ => ⟨hs', hI.fd.hts, hn.len, hn.hts, hn.out⟩, fun e => (by cases e)⟩
  clear hlen hFnd hM hT hF hb hp hun h h0
  go_enter Tryz.func39, Tryz.ntmps39
  go_wp2_with (go_at_call 57; refine HL.out.mono ?_; rintro e w1 ⟨rfl, vW1, hfd1, hfk1⟩; have HI1 := Lib.hid (HSTART.out vW1 w1 hfd1 hfk1); clear hfd1 hfk1)
  clear HSTART HL d3
  go_loopg [3] (2 * hs0.length + 1) (fun gk v wr => ∃ b hs' vW' ws', v = .bool b ∧ Hid (FI c A c1 A2 c2 p q gH f F T hs0 b hs' vW' ws' gk w wr))
  case atStart => exact ⟨true, _, _, _, rfl, HI1⟩
  case round =>
    obtain ⟨b, hs', vW', ws', rfl, HI⟩ := hrel
    cases b with
    | false =>
      go_wp2
      go_ret
      exact ⟨false, rfl, HI.out.fk, fun e => (by cases e), fun _ => HI.out.no rfl⟩
    | true =>
      rcases List.eq_nil_or_concat ws' with rfl | ⟨ws2, a, rfl⟩
      · have hwt := HI.out.fd.wait
        obtain ⟨A9, c9, rfl⟩ := own_sliceC hwt
        obtain ⟨_, _, _, _, _, d9, _⟩ := HI.out.fd.cells
        have HE := Lib.hid (HEND.out _ _ _ _ HI.out)
        clear HFROM hwt
        go_wp2
        go_ret
        exact HE.out
      · rw [List.concat_eq_append] at HI
        have hwt := HI.out.fd.wait
        rw [List.length_append, List.length_singleton] at hwt
        obtain ⟨g, cap, rfl, hbg, hnc, hcm, hcl⟩ := ownForm hwt
        have ha := hcl ws2.length (.int .i64 (a : Int)) (by rw [wsL_snoc, List.getElem?_append_right (by simp [wsL])]; simp [wsL])
        obtain ⟨_, _, _, _, _, d9, dfz⟩ := HI.out.fd.cells
        have dfz := dfz 9
        have HFR := Lib.hid (HFROM.out _ _ _ _ _ _ _ HI.out)
        generalize hN : ws2.length = N at *
        have HNN := Lib.hid hN
        have k0 : (0 : Int) ≤ (N : Int) := by omega
        have k1 : (N : Int) < (N : Int) + 1 := by omega
        have k2 : (N : Int) ≤ (cap : Int) := by omega
        have k3 : (N : Int) + 1 ≤ 300001 := by
          have := (HI.out.yes rfl).2
          rw [List.length_append, List.length_singleton, HNN.out] at this
          omega
        clear HFROM HEND hwt hcl hN HI hbg
        go_wp2_with (go_at_call 58; refine HFR.out.mono ?_; rintro e w5 ⟨b5, hs5, vW5, ws5, rfl, hI5, hgk⟩; have HI5 := Lib.hid hI5; clear hI5)
        go_roundg (gk - 1)
        case measure => omega
        case rel => exact ⟨b5, hs5, vW5, ws5, rfl, HI5⟩
end

end Go.Proofs.YthkpnbekkoompabGreatDoor

namespace Go.Proofs.YthkpnbekkoompabGreatDoor
open Go.RowKit

def fillL (m n : Nat) : List Value := List.replicate m (.int .i64 (-1)) ++ List.replicate (n - m) (.int .i64 0)
theorem fillL_len (m n : Nat) (h : m ≤ n) : (fillL m n).length = n := by unfold fillL; simp; omega
theorem fillL_get (m n j : Nat) (hj : j < m) : (fillL m n)[j]? = some (.int .i64 (-1)) := by
  unfold fillL
  rw [List.getElem?_append_left (by simpa using hj), List.getElem?_replicate, if_pos hj]
theorem fillL_all (n : Nat) : fillL n n = intsL (List.replicate n (-1)) := by unfold fillL intsL; simp
theorem fillL_splice (m n k : Nat) (_h : m + k ≤ n) : splice (fillL m n) m (List.replicate k (.int .i64 (-1))) = fillL (m + k) n := by
  have e1 : (fillL m n).take m = List.replicate m (.int .i64 (-1)) := by
    unfold fillL; rw [List.take_append_of_le_length (by simp), List.take_of_length_le (by simp)]
  have e2 : (fillL m n).drop (m + k) = List.replicate (n - (m + k)) (.int .i64 0) := by
    unfold fillL
    rw [List.drop_append, List.drop_eq_nil_of_le (by simp), List.nil_append, List.drop_replicate]
    congr 1
    simp; omega
  unfold splice
  rw [List.length_replicate, e1, e2]
  unfold fillL
  rw [← List.append_assoc, List.replicate_append_replicate]
theorem fillL_zero (n : Nat) : (madeCells (Value.cells (.int .i64 0)) (n * 1)).toList = fillL 0 n := by
  unfold fillL
  apply List.ext_getElem?
  intro i
  by_cases h : i < n
  · simp [madeCells, Value.cells, h, Nat.mod_one]
  · rw [List.getElem?_eq_none (by simp [madeCells]; omega), List.getElem?_eq_none (by simp; omega)]
theorem own_whole {w : World} {base n : Nat} {e : TypeId} {g : Nat} {xs : List Value} (h : w.ownsRow base e 1 (.slice (some ⟨g, 0, none⟩) n n) n xs) : w.heap[g]? = some (.cells xs.toArray e (0, 0)) := by
  rcases h.2 with ⟨h0, _⟩ | ⟨g', cap, cur, hv, hb, hg, h1, h2, h3, h4⟩
  · cases h0
  · injection hv with e1 e2 e3
    injection e1 with e1
    injection e1 with e1
    subst e1
    have hl : cur.toList.take (n * 1) = cur.toList := List.take_of_length_le (by rw [Array.length_toList]; omega)
    rw [hl] at h4
    rw [hg, ← h4]
theorem oneCellAt {w : World} {g : Nat} {u : Value} (h : w.cell? ⟨g, 0, none⟩ = some u) : ∀ j v, [u][j]? = some v → w.cell? ((⟨g, 0, none⟩ : Addr).add j) = some v := by
  intro j v hv
  match j with
  | 0 => simp at hv; subst hv; simpa [Addr.add] using h
  | j + 1 => simp at hv
theorem rowAt {w : World} {g m k : Nat} {u : Value} (h : ∀ j, j < m → w.cell? ⟨g, j, none⟩ = some u) (hk : k ≤ m) : ∀ j v, (List.replicate k u)[j]? = some v → w.cell? ((⟨g, 0, none⟩ : Addr).add j) = some v := by
  intro j v hv
  rw [List.getElem?_replicate] at hv
  split at hv
  · rename_i hj
    obtain rfl := Option.some.inj hv
    rw [Addr.add_lit, Nat.zero_add]
    exact h j (by omega)
  · cases hv
theorem below_grown0 {w w' : World} (h : w.grownBy w' none) : Below w.heap.size w w' := ⟨h.os, h.tape, h.output, h.size, fun k hk => h.block k hk (by simp)⟩
def RepP (n : Nat) (w : World) (e : Ending) (w' : World) : Prop :=
  ∃ g, e = .returned (.slice (some ⟨g, 0, none⟩) n n) ∧ w.heap.size ≤ g ∧ w'.heap[g]? = some (.cells (intsL (List.replicate n (-1))).toArray 3 (0, 0)) ∧ Below w.heap.size w w'

set_option maxRecDepth 100000 in
set_option maxHeartbeats 2000000 in
theorem repeat_calls (n g : Nat) (w : World) (h1 : 1 ≤ n) (hn : n ≤ 100000) (hc : w.cell? ⟨g, 0, none⟩ = some (.int .i64 (-1))) :
    Calls Tryz.prog 38 #[.slice (some ⟨g, 0, none⟩) 1 1, .int .i64 (n : Int)] w (RepP n w) := by
  obtain ⟨i0, hi0, hz0, hz1, hz2⟩ := info_parts Tryz.infoInt
  have hsz : (Tryz.prog.info? 3).map (·.size) = some 1 := by rw [hi0]; simp [hz1]
  have HM : Hid (∀ W, Calls Tryz.prog 56 #[.int .u64 1, .int .u64 (n : Int)] W fun e w' => e = .returned (.tuple #[.int .u64 0, .int .u64 (n : Int)]) ∧ W = w') := Lib.hid fun W => by
    have h := Tryz.mulW 1 n (by omega) (by omega) W
    have e1 : 1 * n / 18446744073709551616 = 0 := by rw [Nat.one_mul]; exact Nat.div_eq_of_lt (by omega)
    have e2 : 1 * n % 18446744073709551616 = n := by rw [Nat.one_mul]; exact Nat.mod_eq_of_lt (by omega)
    rw [e1, e2] at h
    exact h.mono fun _ _ hv => ⟨hv.1, hv.2.symm⟩
  have hlt := ltC hc
  have hn0 : decide ((n : Int) < 0) = false := decide_eq_false (by omega)
  have hn1 : (0 : Int) ≤ (n : Int) := by omega
  have hn2 : (n : Int) ≤ 100000 := by omega
  have hn3 : decide ((9223372036854775807 : Int) < (n : Int)) = false := decide_eq_false (by omega)
  go_enter Tryz.func38, Tryz.ntmps38
  go_wp2_with (first | (go_at_call 56; refine (HM.out _).mono ?_; rintro e w' ⟨rfl, rfl⟩) | (at_make; refine wpList_make_full _ rfl _ _ 52 rfl w.heap.size 3 i0 (.int .i64 0) 1 Tryz.underlying52 hi0 hz0 hz1 .i64 .i64 (n : Int) (n : Int) n (by rfl) (by rfl) rfl rfl (by rw [hz2]; omega) (by unfold maxLen; omega) (Nat.le_refl _) ?_; intro w1 hown hgrow; have HO := Lib.hid (own_whole hown); have HG := Lib.hid hgrow; have hc1 := (hgrow.cell_far ⟨g, 0, none⟩ hlt (by simp)).trans hc; have hlt1 : g < w1.heap.size := Nat.lt_of_lt_of_le hlt hgrow.size; clear hown hgrow) | (refine wpList_copy_splice rfl (.tmp 31) (.tmp 32) 52 52 rfl 3 Tryz.underlying52 hsz (some ⟨w.heap.size, 0, none⟩) (some ⟨g, 0, none⟩) n n 1 1 (by rfl) (by rfl) w.heap.size 0 (fillL 0 n) 3 (by rw [← fillL_zero]; exact HO.out) [.int .i64 (-1)] (by show 1 = min 1 n; omega) (fun _ => ⟨rfl, ⟨g, 0, none⟩, rfl, oneCellAt hc1⟩) (by rw [fillL_len _ _ (by omega)]; simp; omega) (by simp [Value.oneCell']) w.heap.size w (below_grown0 HG.out) (Nat.le_refl _) ?_; intro w2 H2 hB2; have HB2 := Lib.hid hB2; clear hB2))
  have H2' : Hid (w2.heap[w.heap.size]? = some (.cells (fillL 1 n).toArray 3 (0, 0))) := Lib.hid (by
    rw [H2.out, show [Value.int .i64 (-1)] = List.replicate 1 (.int .i64 (-1)) from rfl, fillL_splice 0 n 1 (by omega)])
  clear H2 hc1 hlt1 HG HO
  go_loopw [8] (fun v wr => ∃ m : Nat, 1 ≤ m ∧ m ≤ n ∧ v = .int .i64 m ∧ Hid (wr.heap[w.heap.size]? = some (.cells (fillL m n).toArray 3 (0, 0))) ∧ Hid (Below w.heap.size w wr)) (fun v _ => n - (intOf v).toNat)
  case atStart => exact ⟨1, by omega, h1, rfl, H2', HB2⟩
  case round =>
    obtain ⟨m, hm1, hmn, rfl, HM2, HBr⟩ := hrel
    clear HB2 H2'
    by_cases hlt : m < n
    · obtain ⟨k, hkd⟩ : ∃ k, k = min m (n - m) := ⟨_, rfl⟩
      have hk1 : k ≤ m ∧ k ≤ n - m ∧ 1 ≤ k := by omega
      have HKN : Hid (List.length (List.replicate k (Value.int .i64 (-1))) = Nat.min m (n - m)) := Lib.hid (by rw [List.length_replicate, hkd])
      have HK : Hid (List.length (List.replicate k (Value.int .i64 (-1))) = k) := Lib.hid List.length_replicate
      clear hkd
      have b0 : (0 : Int) ≤ (m : Int) := by omega
      have b1 : (m : Int) < (n : Int) := by omega
      have b2 : (m : Int) ≤ (n : Int) := by omega
      have b3 : ¬ n = m := by omega
      have HSP := Lib.hid (fillL_splice m n k (by omega))
      have HNX : Hid ((m : Int) + (k : Int) = ((m + k : Nat) : Int)) := Lib.hid (by omega)
      have hsum : IntKind.i64.wrap ((m : Int) + (k : Int)) = ((m + k : Nat) : Int) := by rw [← HNX.out]; exact IntWalk.i64_in _ (by omega)
      have HG9 : Hid (wr.drew.heap[w.heap.size]? = some (.cells (fillL m n).toArray 3 (0, 0))) := Lib.hid HM2.out
      have HBd := Lib.hid HBr.out.drew
      have HCL : Hid (∀ j, j < m → wr.drew.cell? ⟨w.heap.size, j, none⟩ = some (.int .i64 (-1))) := Lib.hid (fun j (hj : j < m) => (cellC HG9.out j).trans (by rw [List.getElem?_toArray, fillL_get m n j hj] : (fillL m n).toArray[j]? = some (.int .i64 (-1))))
      go_wp2
      go_region_law ((refine step_copy_splice rfl (.tmp 41) (.tmp 44) 52 52 rfl 3 Tryz.underlying52 hsz (some ⟨w.heap.size, m, none⟩) (some ⟨w.heap.size, 0, none⟩) (n - m) (n - m) m n (by go_simp) (by go_simp) w.heap.size m (fillL m n) 3 HG9.out (List.replicate k (.int .i64 (-1))) HKN.out (fun _ => ⟨rfl, ⟨w.heap.size, 0, none⟩, rfl, rowAt HCL.out hk1.1⟩) (by rw [HK.out, fillL_len _ _ (by omega)]; omega) (fun v hv => by rw [List.eq_of_mem_replicate hv]; rfl) w.heap.size w HBd.out (Nat.le_refl _) ?_; intro w4 hg4 hb4; rw [HK.out]; have HB4 := Lib.hid hb4; clear hb4))
      all_goals
        simp only [Act.put, List.getElem_toArray, List.getElem_cons_succ, List.getElem_cons_zero, List.setIfInBounds_toArray, List.set_cons_zero, List.set_cons_succ]
        go_roundw
        case rel => ((repeat apply Exists.intro); exact ⟨⟨m + k, by omega, by omega, by go_num, Lib.hid (by rw [hg4.out, HSP.out]), HB4⟩, rfl⟩)
        case measure => simp [intOf]; omega
    · obtain rfl : m = n := by omega
      clear hlt
      go_wp2
      go_ret
      exact ⟨w.heap.size, rfl, Nat.le_refl _, by rw [HM2.out, fillL_all], HBr.out⟩
end Go.Proofs.YthkpnbekkoompabGreatDoor

namespace Go.Proofs.YthkpnbekkoompabGreatDoor
open Go.RowKit

/-- What Heights answers. -/
def HgtP (c : CoM) (w : World) (e : Ending) (w' : World) : Prop :=
  Below w.heap.size w w' ∧ ((StOk c ∧ ∃ hs g, HtsC c hs ∧ e = .returned (.tuple #[.slice (some ⟨g, 0, none⟩) hs.length hs.length, .bool true]) ∧ w'.heap[g]? = some (.cells (intsL hs).toArray 3 (0, 0)) ∧ w.heap.size ≤ g) ∨
   (¬ GoodC c ∧ e = .returned (.tuple #[.slice none 0 0, .bool false])))
theorem ret_hs {g n m : Nat} (h : n = m) : Ending.returned (.tuple #[.slice (some ⟨g, 0, none⟩) n n, .bool true]) = .returned (.tuple #[.slice (some ⟨g, 0, none⟩) m m, .bool true]) := by rw [h]
theorem FK.below {gH f B : Nat} {w w' : World} (h : FK gH f w w') (h1 : B ≤ f) (h2 : B ≤ gH) : Below B w w' := ⟨h.os, h.tape, h.output, h.size, fun k hk => h.block k (by omega) (by omega)⟩
theorem FK.less {gH f f' : Nat} {w w' : World} (h : FK gH f w w') (h1 : f' ≤ f) : FK gH f' w w' := ⟨h.os, h.tape, h.output, h.size, fun k hk h2 => h.block k (by omega) h2⟩

set_option maxRecDepth 100000 in
set_option maxHeartbeats 4000000 in
theorem heights_calls (c : CoM) (A A2 : Option Addr) (c1 c2 : Nat) (w : World) (hc : CoAt w w.heap.size A c1 A2 c2 c) (hnm : ∀ p ∈ c.ps, p.name.length ≤ 100000) (hfew : c.is.length ≤ 100000) (hT : TS w) :
    Calls Tryz.prog 20 #[coV A c1 A2 c2 c] w (HgtP c w) := by
  have HB0 := Lib.hid ((Below.refl w.heap.size w).alloc (Nat.le_refl _) (.cells #[.slice A c.ps.length c1, .slice A2 c.is.length c2] 26))
  have HX := Lib.hid (heapOne w #[.slice A c.ps.length c1, .slice A2 c.is.length c2] 26)
  have HIO := Lib.hid (fun W (hb : Below w.heap.size w W) => inOrder_calls c A A2 c1 c2 W ((hc.below hb (Nat.le_refl _)).wide hb.size))
  have HIP := Lib.hid (fun (ho : ordC c) W (hb : Below w.heap.size w W) => inParts_calls c A A2 c1 c2 W ((hc.below hb (Nat.le_refl _)).wide hb.size) ho hnm (hT.below hb (Nat.le_refl _)))
  have hcl := hc.few
  have hcp := hc.capP
  unfold maxLen at hcl
  unfold coV at HIO HIP ⊢
  cases hob : ordCB c with
  | false =>
    have hbad : ¬ GoodC c := fun h => by
      have := (ordCB_iff c).2 h.1.1
      rw [hob] at this; cases this
    rw [hob] at HIO
    clear hob HIP
    go_enter Tryz.func20, Tryz.ntmps20
    go_wp2_with (go_at_call 36; refine (HIO.out _ HB0.out).mono ?_; rintro e w1 ⟨rfl, hB1⟩; have HB1 := Lib.hid (HB0.out.trans (hB1.mono HB0.out.size)); clear hB1)
    go_ret2
    exact ⟨HB1.out, .inr ⟨hbad, rfl⟩⟩
  | true =>
    have ho := (ordCB_iff c).1 hob
    have HIP := Lib.hid (HIP.out ho)
    rw [hob] at HIO
    cases hpb : partsB c with
    | false =>
      have hbad : ¬ GoodC c := fun h => by
        have := (partsB_iff c hc.fitI).2 h.1.2
        rw [hpb] at this; cases this
      rw [hpb] at HIP
      clear hob hpb ho
      go_enter Tryz.func20, Tryz.ntmps20
      go_wp2_with (first
        | (go_at_call 36; refine (HIO.out _ HB0.out).mono ?_; rintro e w1 ⟨rfl, hB1⟩; have HB1 := Lib.hid (HB0.out.trans (hB1.mono HB0.out.size)); have hx := Lib.hid ((hB1.block w.heap.size (blkLt HX.out)).trans HX.out); have x0 := cellC hx.out 0; have x1 := cellC hx.out 1; clear hB1)
        | (go_at_call 37; refine (HIP.out _ HB1.out).mono ?_; rintro e w2 ⟨rfl, hB2⟩; have HB2 := Lib.hid (HB1.out.trans (hB2.mono HB1.out.size)); clear hB2))
      go_ret2
      exact ⟨HB2.out, .inr ⟨hbad, rfl⟩⟩
    | true =>
      have hpa := (partsB_iff c hc.fitI).1 hpb
      have HST : Hid (StOk c) := Lib.hid ⟨ho, hpa⟩
      rw [hpb] at HIP
      have hnn : 1 ≤ c.ps.length := List.length_pos_iff.2 ho.1
      have hin : 1 ≤ c.is.length := by
        have := ho.range (List.getElem_mem (by omega : 0 < c.ps.length))
        omega
      have HC := Lib.hid hc
      have HTS := Lib.hid hT
      have HREP := Lib.hid (fun W g hg => repeat_calls c.is.length g W hin hfew hg)
      clear hob hpb hpa
      go_enter Tryz.func20, Tryz.ntmps20
      go_wp2_with (first
        | (go_at_call 36; refine (HIO.out _ HB0.out).mono ?_; rintro e w1 ⟨rfl, hB1⟩; have HB1 := Lib.hid (HB0.out.trans (hB1.mono HB0.out.size)); have HX1 := Lib.hid ((hB1.block w.heap.size (blkLt HX.out)).trans HX.out); have x0 := cellC HX1.out 0; have x1 := cellC HX1.out 1; clear hB1)
        | (go_at_call 37; refine (HIP.out _ HB1.out).mono ?_; rintro e w2 ⟨rfl, hB2⟩; have HB2 := Lib.hid (HB1.out.trans (hB2.mono HB1.out.size)); have HX2 := Lib.hid ((hB2.block w.heap.size (blkLt HX1.out)).trans HX1.out); have x0 := cellC HX2.out 0; have x1 := cellC HX2.out 1; have x2 := fun o => newC (cellC HX2.out 0) o; have x3 := fun o => newC (cellC HX2.out 1) o; clear hB2)
        | (go_at_call 38; refine (HREP.out _ w2.heap.size (cellC (heapOne w2 #[.int .i64 (-1)] 3) 0)).mono ?_; rintro e w3 ⟨gH, rfl, hg3, hh3, hB3⟩; have HH3 := Lib.hid hh3; have HG3 : Hid (w2.heap.size ≤ gH) := Lib.hid (Nat.le_trans (by simp) hg3); have HB23 := Lib.hid (((Below.refl w2.heap.size w2).alloc (Nat.le_refl _) _).trans (hB3.mono (by simp))); have HX3 := Lib.hid ((HB23.out.block w.heap.size (blkLt HX2.out)).trans HX2.out); have x0 := cellC HX3.out 0; have x1 := cellC HX3.out 1; clear hB3 hg3 hh3 x2 x3))
      have HB3 := Lib.hid (HB2.out.trans (HB23.out.mono HB2.out.size))
      have hz2 := HB2.out.size
      have hz23 := HB23.out.size
      have hgl := blkLt HH3.out
      have hgg := HG3.out
      have hxb := blkLt HX3.out
      have hqw : w.heap.size < w2.heap.size := blkLt HX2.out
      have hGl : 0 < w.heap.size := HTS.out.shp.2
      clear HIO HIP HREP HB1 HX1 x0 x1
      go_loopw [24] (fun i wr => ∃ (k : Nat) (hs : List Int), k ≤ c.ps.length ∧ i = .int .i64 k ∧ Hid (wr.heap[gH]? = some (.cells (intsL hs).toArray 3 (0, 0))) ∧ Hid (Upto c hs k) ∧ Hid (FK gH w3.heap.size w3 wr)) (fun i _ => c.ps.length - (intOf i).toNat)
      case atStart => exact ⟨0, _, by omega, rfl, HH3, Lib.hid (Upto.zero c), Lib.hid (FK.refl _ _ _)⟩
      case round =>
        obtain ⟨k, hs, hk, rfl, HH, HU, HK⟩ := hrel
        obtain ⟨wo, rfl⟩ : ∃ x, x = wr := ⟨_, rfl⟩
        have HXo := Lib.hid ((HK.out.block w.heap.size hxb (by omega)).trans HX3.out)
        have y0 := cellC HXo.out 0
        have y1 := cellC HXo.out 1
        have HBo := Lib.hid (HB3.out.trans (HK.out.below (B := w.heap.size) (by omega) (by omega)))
        have hzo := HK.out.size
        have hlen := HU.out.len
        by_cases hlt : k < c.ps.length
        · obtain ⟨r1, r2, r3, r4⟩ := HST.out.1.range (List.getElem_mem hlt)
          have hpok := (HST.out.2 _ (List.getElem_mem hlt)).2
          have HSTEP := Lib.hid (fun hs' h1 h2 h3 => HU.out.step (hs' := hs') HST.out hlt h1 h2 h3)
          have HBAD := Lib.hid (fun hw => wrong_bad HST.out hlt hw)
          have hnone := HU.out.no k hlt (Nat.le_refl _)
          obtain ⟨b, off, rfl, hb, hcells⟩ := HC.out.prs (by omega)
          obtain ⟨q0, q1, q2, q3, q4, q5⟩ := hcells k hlt
          have q0 := keepC HBo.out q0 hb
          have q1 := keepC HBo.out q1 hb
          have q2 := keepC HBo.out q2 hb
          have q3 := keepC HBo.out q3 hb
          have q4 := keepC HBo.out q4 hb
          have q5 := keepC HBo.out q5 hb
          generalize c.ps[k] = p at *
          have HPB := Lib.hid (two_fst wo #[.string (bs p.name), .int .i64 p.frm, .int .i64 p.to, .int .i64 p.par, .int .i64 p.slo, .int .i64 p.typ] #[.slice (some ⟨b, off, none⟩) c.ps.length c1, .slice A2 c.is.length c2, .string (bs p.name), .int .i64 p.frm, .int .i64 p.to, .int .i64 p.par, .int .i64 p.slo, .int .i64 p.typ, .slice (some ⟨gH, 0, none⟩) c.is.length c.is.length, .slice none 0 0] 56 89)
          have HB5 : Hid (Below wo.heap.size wo ((wo.alloc (.cells #[.string (bs p.name), .int .i64 p.frm, .int .i64 p.to, .int .i64 p.par, .int .i64 p.slo, .int .i64 p.typ] 56)).alloc (.cells #[.slice (some ⟨b, off, none⟩) c.ps.length c1, .slice A2 c.is.length c2, .string (bs p.name), .int .i64 p.frm, .int .i64 p.to, .int .i64 p.par, .int .i64 p.slo, .int .i64 p.typ, .slice (some ⟨gH, 0, none⟩) c.is.length c.is.length, .slice none 0 0] 89))) := Lib.hid (((Below.refl wo.heap.size wo).alloc (Nat.le_refl _) _).alloc (by simp) _)
          have hfb := heapOne (wo.alloc (.cells #[.string (bs p.name), .int .i64 p.frm, .int .i64 p.to, .int .i64 p.par, .int .i64 p.slo, .int .i64 p.typ] 56)) #[.slice (some ⟨b, off, none⟩) c.ps.length c1, .slice A2 c.is.length c2, .string (bs p.name), .int .i64 p.frm, .int .i64 p.to, .int .i64 p.par, .int .i64 p.slo, .int .i64 p.typ, .slice (some ⟨gH, 0, none⟩) c.is.length c.is.length, .slice none 0 0] 89
          rw [World.size_alloc] at hfb
          have hgo : gH < wo.heap.size := blkLt HH.out
          have HFD : Hid (Fd c (some ⟨b, off, none⟩) c1 A2 c2 p w.heap.size gH (wo.heap.size + 1) hs (.slice none 0 0) [] ((wo.alloc (.cells #[.string (bs p.name), .int .i64 p.frm, .int .i64 p.to, .int .i64 p.par, .int .i64 p.slo, .int .i64 p.typ] 56)).alloc (.cells #[.slice (some ⟨b, off, none⟩) c.ps.length c1, .slice A2 c.is.length c2, .string (bs p.name), .int .i64 p.frm, .int .i64 p.to, .int .i64 p.par, .int .i64 p.slo, .int .i64 p.typ, .slice (some ⟨gH, 0, none⟩) c.is.length c.is.length, .slice none 0 0] 89))) := Lib.hid
            ⟨by rw [hfb, hlen], (HB5.out.block gH hgo).trans HH.out, World.ownsRow_nil _ _ _ _, (HC.out.below HBo.out (Nat.le_refl _)).below HB5.out (by omega), (HTS.out.below HBo.out (Nat.le_refl _)).shp.below HB5.out, ⟨hGl, by omega, by omega⟩, hlen, hfew⟩
          have HFIND := Lib.hid (find_calls hs HFD.out p.frm.toNat p.to.toNat r1 r2 r3 r4 (fun y hy => (HST.out.2 y hy).1) hpok hnone)
          have hk0 : (0 : Int) ≤ (k : Int) := by omega
          have hk1 : (k : Int) < (c.ps.length : Int) := by omega
          clear hfb hpok hnone hcells HFD r1 r2 r3 r4 HPB
          have y0 := fun o => newC y0 o
          have y1 := fun o => newC y1 o
          have HLN := Lib.hid hlen
          clear hlen
          go_wp2_with fail
          refine HFIND.out.mono ?_
          rintro e w6 ⟨b6, rfl, hK6, hyes, hno⟩
          have HK6 := Lib.hid hK6
          have HW6 := Lib.hid (HK.out.trans ((FK.of HB5.out (by omega) : FK gH w3.heap.size wo _).trans (hK6.less (by omega))))
          clear HFIND hK6
          cases b6 with
          | false =>
            have HN := Lib.hid (HBAD.out (hno rfl))
            clear hyes hno
            go_wp2
            go_ret2
            exact ⟨HB3.out.trans (HW6.out.below (B := w.heap.size) (by omega) (by omega)), .inr ⟨HN.out, rfl⟩⟩
          | true =>
            obtain ⟨hs', hh', hl', hp', ho'⟩ := hyes rfl
            have HS' := Lib.hid (HSTEP.out hs' hl' ho' hp')
            have HH' := Lib.hid hh'
            clear hyes hno hh' hl' hp' ho'
            go_wp2
            go_roundw
            case rel => exact ⟨k + 1, hs', by omega, by go_num, HH', HS', HW6⟩
            case measure => simp [intOf]; omega
        · obtain rfl : k = c.ps.length := by omega
          have HLN := Lib.hid hlen
          clear hlen hlt hk
          go_wp2
          go_ret2
          exact ⟨HBo.out, .inl ⟨HST.out, hs, gH, HU.out.all, ret_hs HLN.out.symm, HH.out, by omega⟩⟩

/-- What Good answers. -/
def GoodP (c : CoM) (w : World) (e : Ending) (w' : World) : Prop :=
  Below w.heap.size w w' ∧ ((GoodC c ∧ e = .returned (.bool true)) ∨ (¬ GoodC c ∧ e = .returned (.bool false)))
set_option maxRecDepth 100000 in
set_option maxHeartbeats 2000000 in
theorem good_calls (c : CoM) (A A2 : Option Addr) (c1 c2 : Nat) (w : World) (hc : CoAt w w.heap.size A c1 A2 c2 c) (hnm : ∀ p ∈ c.ps, p.name.length ≤ 100000) (hfew : c.is.length ≤ 100000) (hT : TS w) :
    Calls Tryz.prog 10 #[coV A c1 A2 c2 c] w (GoodP c w) := by
  have HB0 := Lib.hid ((Below.refl w.heap.size w).alloc (Nat.le_refl _) (.cells #[.slice A c.ps.length c1, .slice A2 c.is.length c2] 26))
  have HH := Lib.hid (fun W (hb : Below w.heap.size w W) => heights_calls c A A2 c1 c2 W ((hc.below hb (Nat.le_refl _)).wide hb.size) hnm hfew (hT.below hb (Nat.le_refl _)))
  unfold coV at HH ⊢
  clear hc hT
  go_enter Tryz.func10, Tryz.ntmps10
  go_wp2_with fail
  refine (HH.out _ HB0.out).mono ?_
  rintro e w1 ⟨hB1, h⟩
  have HB1 := Lib.hid (HB0.out.trans (hB1.mono HB0.out.size))
  clear hB1
  rcases h with ⟨hst, hs, g, hh, rfl, hg, _⟩ | ⟨hbad, rfl⟩
  · have HG := Lib.hid (show GoodC c from ⟨hst, hs, hh⟩)
    clear hst hh hg
    go_wp2
    go_ret
    exact ⟨HB1.out, .inl ⟨HG.out, rfl⟩⟩
  · have HG := Lib.hid hbad
    clear hbad
    go_wp2
    go_ret
    exact ⟨HB1.out, .inr ⟨HG.out, rfl⟩⟩

end Go.Proofs.YthkpnbekkoompabGreatDoor
