/-
  code: a line is cut off, and parted; code that is built can be read.
-/
import Derived.Test.YtbhlockoeiedcaaDoorCpG
import Derived.Test.YtbhlockoeiedcaaDoorCpH
namespace Go.Proofs.YtbhlockoeiedcaaDoor
open Go.RowKit

theorem bs_mk (l : List UInt8) : (⟨l.toArray⟩ : ByteArray) = bs l := rfl
theorem cut_calls (t : List UInt8) (ht : t.length ≤ 1000000) (w : World) (hT : TX w) : Calls Tryd.prog 13 #[.string (bs t), .string ⟨#[10]⟩] w fun e w' => e = .returned (.tuple #[.string (bs (cutL t).1), .string (bs (cutL t).2.1), .bool (cutL t).2.2]) ∧ Below w.heap.size w w' := by
  obtain ⟨m, hm⟩ := hT.mx
  refine (Tryd.cutW (bs t) ⟨#[10]⟩ m w (by rw [bs_size]; omega) hm).mono ?_
  rintro e w' ⟨rfl, n, rfl⟩
  rw [bs_toList, show (⟨#[10]⟩ : ByteArray).data.toList = [10] from rfl, cutL_eq, bs_mk, bs_mk]
  exact ⟨rfl, below_drewC (Below.refl _ _) n⟩
def SpP (t : List UInt8) (w : World) (e : Ending) (w' : World) : Prop :=
  e = .returned (.slice (some ⟨w.heap.size, 0, none⟩) (splitL t).length (splitL t).length) ∧ Below w.heap.size w w' ∧ SxAt w' (some ⟨w.heap.size, 0, none⟩) (splitL t)
theorem split_calls (t : List UInt8) (ht : t.length ≤ 1000000) (w : World) (hT : TX w) : Calls Tryd.prog 15 #[.string (bs t), .string ⟨#[32]⟩] w (SpP t w) := by
  obtain ⟨m, hm⟩ := hT.mx
  refine (Tryd.splitW (bs t) ⟨#[32]⟩ m w (by rw [bs_size]; omega) hm (by decide)).mono ?_
  rintro e w' ⟨rfl, rfl⟩
  have hcnt : Lib.countB (bs t) ⟨#[32]⟩ + 1 = (splitL t).length := by rw [splitL_len]; unfold Lib.countB; rw [bs_toList]
  have hd := Lib.splitB_data ⟨#[32]⟩ 0 (Lib.countB (bs t) ⟨#[32]⟩) (bs t)
  rw [bs_toList, show (⟨#[32]⟩ : ByteArray).data.toList = [32] from rfl] at hd
  have hk : Lib.splitK [32] 0 (Lib.countB (bs t) ⟨#[32]⟩) t = splitL t := by
    unfold Lib.countB; rw [bs_toList]; exact splitK_eq _ t rfl
  rw [hk] at hd
  rw [hcnt]
  refine ⟨rfl, (Below.refl _ _).alloc (Nat.le_refl _) _, fun _ => ⟨w.heap.size, 0, rfl, by simp, fun j hj => ?_⟩⟩
  rw [cellC (heapOne w _ _) (0 + j), Nat.zero_add, List.getElem?_toArray, List.getElem?_map]
  have h1 := congrArg (·[j]?) hd
  rw [List.getElem?_map, List.getElem?_eq_getElem hj] at h1
  cases hx : (Lib.splitB ⟨#[32]⟩ 0 (Lib.countB (bs t) ⟨#[32]⟩) (bs t))[j]? with
  | none => rw [hx] at h1; cases h1
  | some b =>
    rw [hx] at h1
    have h2 := Option.some.inj h1
    simp only [Option.map_some]
    rw [← h2]
    rfl

/-! What is built fits. -/
structure CFit (c : CoM) : Prop where
  prs : ∀ p ∈ c.ps, p.fit ∧ p.name.length ≤ 100000
  ins : ∀ x ∈ c.is, x.fit
theorem numM_i64 {t : List UInt8} {v : Int} (h : numM t = some v) : i64 v := by
  unfold numM at h
  split at h
  · rename_i u hu
    split at h
    · obtain rfl := Option.some.inj h
      exact atoi_i64 hu
    · cases h
  · cases h
theorem numsM_i64 : ∀ (ps : List (List UInt8)) (l : List Int), numsM ps = some l → ∀ v ∈ l, i64 v
  | [], l, h => by simp [numsM] at h; subst h; simp
  | t :: r, l, h => by
    simp only [numsM] at h
    cases ht : numM t with
    | none => rw [ht] at h; cases h
    | some n =>
      cases hr : numsM r with
      | none => rw [ht, hr] at h; cases h
      | some o =>
        rw [ht, hr] at h
        obtain rfl := Option.some.inj h
        intro v hv
        rcases List.mem_cons.1 hv with rfl | hv
        · exact numM_i64 ht
        · exact numsM_i64 r o hr v hv
theorem getD_i64 {l : List Int} (h : ∀ v ∈ l, i64 v) (k : Nat) : i64 (l.getD k 0) := by
  rw [List.getD_eq_getElem?_getD]
  cases hx : l[k]? with
  | none => exact ⟨by decide, by decide⟩
  | some v => exact h v (List.mem_of_getElem? hx)
theorem endAt_mem (n : Int) : ∀ (ps : List PrM) (p : PrM), p ∈ endAt n ps → ∃ q ∈ ps, p = q ∨ p = { q with to := n }
  | [], p, h => by cases h
  | [q], p, h => by
    simp [endAt] at h
    exact ⟨q, by simp, .inr h⟩
  | q :: r :: s, p, h => by
    simp only [endAt] at h
    rcases List.mem_cons.1 h with rfl | h
    · exact ⟨p, by simp, .inl rfl⟩
    · obtain ⟨y, hy, hx⟩ := endAt_mem n (r :: s) p h
      exact ⟨y, List.mem_cons_of_mem _ hy, hx⟩
theorem takeM_fit {c c' : CoM} {ps : List (List UInt8)} (h : takeM c ps = some c') (hf : CFit c) (hl : ∀ t ∈ ps, t.length ≤ 100000) (hn : c.is.length ≤ 1000000) : CFit c' ∧ c'.ps.length + c'.is.length = c.ps.length + c.is.length + 1 := by
  unfold takeM at h
  split at h
  · unfold takePM at h
    split at h
    · rename_i h5
      cases hx : numsM (ps.drop 2) with
      | none => rw [hx] at h; cases h
      | some l =>
        rw [hx] at h
        obtain rfl := Option.some.inj h
        have hv := numsM_i64 _ _ hx
        have h1 : ps.getD 1 [] ∈ ps := by
          rw [List.getD_eq_getElem?_getD, List.getElem?_eq_getElem (by omega : 1 < ps.length)]
          exact List.getElem_mem _
        have hi : i64 (c.is.length : Int) := ⟨by omega, by omega⟩
        refine ⟨⟨fun p hp => ?_, hf.ins⟩, by simp; omega⟩
        rcases List.mem_append.1 hp with hp | hp
        · exact hf.prs p hp
        · simp at hp; subst hp
          exact ⟨⟨hi, hi, getD_i64 hv 0, getD_i64 hv 1, getD_i64 hv 2⟩, hl _ h1⟩
    · cases h
  · split at h
    · cases h
    · unfold takeIM at h
      cases hx : numsM (ps.drop 1) with
      | none => rw [hx] at h; cases h
      | some l =>
        rw [hx] at h
        dsimp only at h
        split at h
        · cases h
        · obtain rfl := Option.some.inj h
          have hv := numsM_i64 _ _ hx
          have ho := opM_le (ps.getD 0 [])
          refine ⟨⟨fun p hp => ?_, fun x hx => ?_⟩, by simp [endAt_len]; omega⟩
          · obtain ⟨q, hq, hpq⟩ := endAt_mem _ _ _ hp
            have := hf.prs q hq
            rcases hpq with rfl | rfl
            · exact this
            · have hi2 : i64 ((c.is.length : Int) + 1) := ⟨by omega, by omega⟩
              exact ⟨⟨this.1.1, hi2, this.1.2.2.1, this.1.2.2.2.1, this.1.2.2.2.2⟩, this.2⟩
          · rcases List.mem_append.1 hx with hx | hx
            · exact hf.ins x hx
            · obtain rfl := List.mem_singleton.1 hx
              have hi2 : i64 ((opM (ps.getD 0 []) : Nat) : Int) := ⟨by omega, by omega⟩
              exact ⟨hi2, getD_i64 hv 0, getD_i64 hv 1⟩

/-! Code that is built, read. -/
theorem flatP_get : ∀ (ps : List PrM) (i : Nat) (h : i < ps.length), (flatP ps)[i * 6]? = some (.string (bs (ps[i]).name)) ∧ (flatP ps)[i * 6 + 1]? = some (.int .i64 (ps[i]).frm) ∧ (flatP ps)[i * 6 + 2]? = some (.int .i64 (ps[i]).to) ∧ (flatP ps)[i * 6 + 3]? = some (.int .i64 (ps[i]).par) ∧ (flatP ps)[i * 6 + 4]? = some (.int .i64 (ps[i]).slo) ∧ (flatP ps)[i * 6 + 5]? = some (.int .i64 (ps[i]).typ)
  | [], i, h => by simp at h
  | p :: r, 0, h => by simp [flatP, prC]
  | p :: r, i + 1, h => by
    have := flatP_get r i (by simpa using h)
    have e : flatP (p :: r) = prC p ++ flatP r := rfl
    have key : ∀ k, (flatP (p :: r))[6 + k]? = (flatP r)[k]? := fun k => by
      rw [e, List.getElem?_append_right (by simp [prC])]; simp [prC]
    rw [show (i + 1) * 6 = 6 + i * 6 by omega, Nat.add_assoc, Nat.add_assoc, Nat.add_assoc, Nat.add_assoc, Nat.add_assoc, key, key, key, key, key, key]
    simpa using this
theorem flatI_get : ∀ (xs : List InM) (i : Nat) (h : i < xs.length), (flatI xs)[i * 3]? = some (.int .i64 (xs[i]).op) ∧ (flatI xs)[i * 3 + 1]? = some (.int .i64 (xs[i]).arg) ∧ (flatI xs)[i * 3 + 2]? = some (.int .i64 (xs[i]).mor)
  | [], i, h => by simp at h
  | p :: r, 0, h => by simp [flatI, inC]
  | p :: r, i + 1, h => by
    have := flatI_get r i (by simpa using h)
    have e : flatI (p :: r) = inC p ++ flatI r := rfl
    have key : ∀ k, (flatI (p :: r))[3 + k]? = (flatI r)[k]? := fun k => by
      rw [e, List.getElem?_append_right (by simp [inC])]; simp [inC]
    rw [show (i + 1) * 3 = 3 + i * 3 by omega, Nat.add_assoc, Nat.add_assoc, key, key, key]
    simpa using this
theorem own_read {w : World} {base n sz : Nat} {e : TypeId} {v : Value} {xs : List Value} (h : w.ownsRow base e sz v n xs) (hn : 0 < n) : ∃ g cap, v = .slice (some ⟨g, 0, none⟩) n cap ∧ g < w.heap.size ∧ n ≤ cap ∧ cap ≤ maxLen ∧ ∀ j u, xs[j]? = some u → w.cell? ⟨g, j, none⟩ = some u := by
  have h' := h
  rcases h.2 with ⟨_, h0⟩ | ⟨g, cap, cur, rfl, hb, hg, h1, h2, h3, h4⟩
  · omega
  · refine ⟨g, cap, rfl, blkLt hg, h1, h2, fun j u hu => ?_⟩
    have := h'.cells (g := g) rfl j u hu
    rwa [Addr.add_lit, Nat.zero_add] at this
theorem own_cap {w : World} {base n sz c : Nat} {A : Option Addr} {e : TypeId} {xs : List Value} (h : w.ownsRow base e sz (.slice A n c) n xs) : n ≤ c ∧ c ≤ maxLen := by
  rcases h.2 with ⟨h0, h1⟩ | ⟨g, cap, cur, hv, hb, hg, h1, h2, h3, h4⟩
  · injection h0 with _ a b; subst b; exact ⟨by omega, by unfold maxLen; omega⟩
  · injection hv with _ _ b; subst b; exact ⟨h1, h2⟩
theorem Cc.co {bc : Nat} {A A2 : Option Addr} {c1 c2 : Nat} {c : CoM} {w : World} (h : Cc bc (.slice A c.ps.length c1) (.slice A2 c.is.length c2) c w) (hf : CFit c) : CoAt w w.heap.size A c1 A2 c2 c := by
  have k1 := own_cap h.rowP
  have k2 := own_cap h.rowI
  refine ⟨fun hn => ?_, fun hn => ?_, k1.1, k2.1, ⟨k1.2, k2.2⟩, fun p hp => (hf.prs p hp).1, hf.ins⟩
  · obtain ⟨g, cap, hv, hg, _, _, hc⟩ := own_read h.rowP hn
    injection hv with hv
    refine ⟨g, 0, hv, hg, fun i hi => ?_⟩
    obtain ⟨q0, q1, q2, q3, q4, q5⟩ := flatP_get c.ps i hi
    rw [Nat.zero_add]
    exact ⟨hc _ _ q0, hc _ _ q1, hc _ _ q2, hc _ _ q3, hc _ _ q4, hc _ _ q5⟩
  · obtain ⟨g, cap, hv, hg, _, _, hc⟩ := own_read h.rowI hn
    injection hv with hv
    refine ⟨g, 0, hv, hg, fun i hi => ?_⟩
    obtain ⟨q0, q1, q2⟩ := flatI_get c.is i hi
    rw [Nat.zero_add]
    exact ⟨hc _ _ q0, hc _ _ q1, hc _ _ q2⟩

end Go.Proofs.YtbhlockoeiedcaaDoor
