/-
  The library's contracts of strings.Clone and strconv.Atoi, laid at this program's own functions.
  Numbers.
-/
import Derived.Shelf.Strconv.Clone
import Derived.Shelf.Strconv.Atoi
import Derived.Ground.NamesProg
import Derived.Test.YtdeflloidhbpmaaGreatDoorProg
import Derived.Test.YtdeflloidhbpmaaGreatDoorK09
namespace Go.Proofs
open Go.Shelf
def Tryz.cloneL_ren : Go.Shelf.Ren := ⟨fun | 316 => 100 | n => n, fun | 9 => 9 | 3 => 3 | 4 => 4 | 37 => 52 | 0 => 0 | 127 => 104 | 5 => 5 | n => n, fun | n => n⟩
theorem Tryz.cloneL : Go.Proofs.LaysM.n316 Tryz.prog Tryz.cloneL_ren := {
  mixed := by kernel_rfl
  f316 := Tryz.func100.trans (congrArg some (by kernel_rfl))
  t0 := Tryz.underlying0
  a0 := Tryz.isAgg0
  z0 := Tryz.sizeOf0
  v0 := Tryz.zeroValue0
  t3 := Tryz.underlying3
  a3 := Tryz.isAgg3
  z3 := Tryz.sizeOf3
  v3 := Tryz.zeroValue3
  t4 := Tryz.underlying4
  a4 := Tryz.isAgg4
  z4 := Tryz.sizeOf4
  v4 := Tryz.zeroValue4
  t9 := Tryz.underlying9
  a9 := Tryz.isAgg9
  z9 := Tryz.sizeOf9
  v9 := Tryz.zeroValue9
  t37 := Tryz.underlying52
  a37 := Tryz.isAgg52
  z37 := Tryz.sizeOf52
  v37 := Tryz.zeroValue52
  t127 := Tryz.underlying104
  a127 := Tryz.isAgg104
  z127 := Tryz.sizeOf104
  v127 := Tryz.zeroValue104
  t5 := Tryz.underlying5
  a5 := Tryz.isAgg5
  z5 := Tryz.sizeOf5
  v5 := Tryz.zeroValue5
  i0 := by kernel_rfl
  i3 := by kernel_rfl
  i4 := by kernel_rfl
  i5 := by kernel_rfl
  i9 := by kernel_rfl
  i37 := by kernel_rfl
  i127 := by kernel_rfl }
def Tryz.atoiL_ren : Go.Shelf.Ren := ⟨fun | 172 => 173 | 244 => 176 | 245 => 177 | 247 => 179 | 279 => 180 | 280 => 181 | 281 => 182 | 282 => 183 | 287 => 185 | 316 => 100 | 171 => 86 | 205 => 186 | 321 => 189 | 322 => 190 | 243 => 118 | 246 => 135 | 283 => 144 | 284 => 145 | 285 => 146 | 286 => 147 | 129 => 152 | 317 => 151 | 318 => 153 | 319 => 154 | 320 => 155 | 337 => 161 | 338 => 162 | n => n, fun | 9 => 9 | 3 => 3 | 75 => 101 | 76 => 102 | 4 => 4 | 5 => 5 | 167 => 203 | 37 => 52 | 0 => 0 | 85 => 204 | 2 => 2 | 168 => 206 | 53 => 177 | 175 => 209 | 46 => 164 | 210 => 212 | 127 => 104 | 145 => 217 | 143 => 215 | 21 => 21 | 171 => 184 | 173 => 187 | 212 => 190 | 51 => 174 | 20 => 20 | 213 => 191 | 232 => 196 | 233 => 197 | 80 => 61 | n => n, fun | 15 => 7 | 16 => 8 | 17 => 4 | 18 => 5 | 19 => 6 | n => n⟩
theorem Tryz.atoiL : Go.Proofs.Lays.n172 Tryz.prog Tryz.atoiL_ren := {
  mixed := by kernel_rfl
  f129 := Tryz.func152.trans (congrArg some (by kernel_rfl))
  f171 := Tryz.func86.trans (congrArg some (by kernel_rfl))
  f172 := Tryz.func173.trans (congrArg some (by kernel_rfl))
  f205 := Tryz.func186.trans (congrArg some (by kernel_rfl))
  f243 := Tryz.func118.trans (congrArg some (by kernel_rfl))
  f244 := Tryz.func176.trans (congrArg some (by kernel_rfl))
  f245 := Tryz.func177.trans (congrArg some (by kernel_rfl))
  f246 := Tryz.func135.trans (congrArg some (by kernel_rfl))
  f247 := Tryz.func179.trans (congrArg some (by kernel_rfl))
  f279 := Tryz.func180.trans (congrArg some (by kernel_rfl))
  f280 := Tryz.func181.trans (congrArg some (by kernel_rfl))
  f281 := Tryz.func182.trans (congrArg some (by kernel_rfl))
  f282 := Tryz.func183.trans (congrArg some (by kernel_rfl))
  f283 := Tryz.func144.trans (congrArg some (by kernel_rfl))
  f284 := Tryz.func145.trans (congrArg some (by kernel_rfl))
  f285 := Tryz.func146.trans (congrArg some (by kernel_rfl))
  f286 := Tryz.func147.trans (congrArg some (by kernel_rfl))
  f287 := Tryz.func185.trans (congrArg some (by kernel_rfl))
  f316 := Tryz.func100.trans (congrArg some (by kernel_rfl))
  f317 := Tryz.func151.trans (congrArg some (by kernel_rfl))
  f318 := Tryz.func153.trans (congrArg some (by kernel_rfl))
  f319 := Tryz.func154.trans (congrArg some (by kernel_rfl))
  f320 := Tryz.func155.trans (congrArg some (by kernel_rfl))
  f321 := Tryz.func189.trans (congrArg some (by kernel_rfl))
  f322 := Tryz.func190.trans (congrArg some (by kernel_rfl))
  f337 := Tryz.func161.trans (congrArg some (by kernel_rfl))
  f338 := Tryz.func162.trans (congrArg some (by kernel_rfl))
  t0 := Tryz.underlying0
  a0 := Tryz.isAgg0
  z0 := Tryz.sizeOf0
  v0 := Tryz.zeroValue0
  t2 := Tryz.underlying2
  a2 := Tryz.isAgg2
  z2 := Tryz.sizeOf2
  v2 := Tryz.zeroValue2
  t3 := Tryz.underlying3
  a3 := Tryz.isAgg3
  z3 := Tryz.sizeOf3
  v3 := Tryz.zeroValue3
  t4 := Tryz.underlying4
  a4 := Tryz.isAgg4
  z4 := Tryz.sizeOf4
  v4 := Tryz.zeroValue4
  t5 := Tryz.underlying5
  a5 := Tryz.isAgg5
  z5 := Tryz.sizeOf5
  v5 := Tryz.zeroValue5
  t9 := Tryz.underlying9
  a9 := Tryz.isAgg9
  z9 := Tryz.sizeOf9
  v9 := Tryz.zeroValue9
  t20 := Tryz.underlying20
  a20 := Tryz.isAgg20
  z20 := Tryz.sizeOf20
  v20 := Tryz.zeroValue20
  t21 := Tryz.underlying21
  a21 := Tryz.isAgg21
  z21 := Tryz.sizeOf21
  v21 := Tryz.zeroValue21
  t37 := Tryz.underlying52
  a37 := Tryz.isAgg52
  z37 := Tryz.sizeOf52
  v37 := Tryz.zeroValue52
  t46 := Tryz.underlying164
  a46 := Tryz.isAgg164
  z46 := Tryz.sizeOf164
  v46 := Tryz.zeroValue164
  t51 := Tryz.underlying174
  a51 := Tryz.isAgg174
  z51 := Tryz.sizeOf174
  v51 := Tryz.zeroValue174
  t53 := Tryz.underlying177
  a53 := Tryz.isAgg177
  z53 := Tryz.sizeOf177
  v53 := Tryz.zeroValue177
  t75 := Tryz.underlying101
  a75 := Tryz.isAgg101
  z75 := Tryz.sizeOf101
  v75 := Tryz.zeroValue101
  t76 := Tryz.underlying102
  a76 := Tryz.isAgg102
  z76 := Tryz.sizeOf102
  v76 := Tryz.zeroValue102
  t85 := Tryz.underlying204
  a85 := Tryz.isAgg204
  z85 := Tryz.sizeOf204
  v85 := Tryz.zeroValue204
  t127 := Tryz.underlying104
  a127 := Tryz.isAgg104
  z127 := Tryz.sizeOf104
  v127 := Tryz.zeroValue104
  t143 := Tryz.underlying215
  a143 := Tryz.isAgg215
  z143 := Tryz.sizeOf215
  v143 := Tryz.zeroValue215
  t145 := Tryz.underlying217
  a145 := Tryz.isAgg217
  z145 := Tryz.sizeOf217
  v145 := Tryz.zeroValue217
  t167 := Tryz.underlying203
  a167 := Tryz.isAgg203
  z167 := Tryz.sizeOf203
  v167 := Tryz.zeroValue203
  t168 := Tryz.underlying206
  a168 := Tryz.isAgg206
  z168 := Tryz.sizeOf206
  v168 := Tryz.zeroValue206
  t171 := Tryz.underlying184
  a171 := Tryz.isAgg184
  z171 := Tryz.sizeOf184
  v171 := Tryz.zeroValue184
  t173 := Tryz.underlying187
  a173 := Tryz.isAgg187
  z173 := Tryz.sizeOf187
  v173 := Tryz.zeroValue187
  t175 := Tryz.underlying209
  a175 := Tryz.isAgg209
  z175 := Tryz.sizeOf209
  v175 := Tryz.zeroValue209
  t210 := Tryz.underlying212
  a210 := Tryz.isAgg212
  z210 := Tryz.sizeOf212
  v210 := Tryz.zeroValue212
  t212 := Tryz.underlying190
  a212 := Tryz.isAgg190
  z212 := Tryz.sizeOf190
  v212 := Tryz.zeroValue190
  t213 := Tryz.underlying191
  a213 := Tryz.isAgg191
  z213 := Tryz.sizeOf191
  t232 := Tryz.underlying196
  a232 := Tryz.isAgg196
  z232 := Tryz.sizeOf196
  v232 := Tryz.zeroValue196
  t233 := Tryz.underlying197
  a233 := Tryz.isAgg197
  z233 := Tryz.sizeOf197
  v233 := Tryz.zeroValue197
  g15 := by kernel_rfl
  g16 := by kernel_rfl
  g17 := by kernel_rfl
  g18 := by kernel_rfl
  g19 := by kernel_rfl }
end Go.Proofs

namespace Go.Proofs.YtdeflloidhbpmaaGreatDoor
open Go.RowKit

theorem decFrom_digits (l : List UInt8) : ∀ acc, (∀ c ∈ l, 48 ≤ c.toNat ∧ c.toNat ≤ 57) → Lib.decFrom acc l = some (l.foldl (fun n c => n * 10 + (c.toNat - 48)) acc) := by
  induction l with
  | nil => intro acc _; rfl
  | cons b r ih =>
    intro acc h
    have hb := h b (by simp)
    simp only [Lib.decFrom, Lib.digitVal, if_pos hb, List.foldl_cons]
    exact ih _ fun c hc => h c (by simp [hc])
theorem atoi_digits (l : List UInt8) (hne : l ≠ []) (h : ∀ c ∈ l, 48 ≤ c.toNat ∧ c.toNat ≤ 57) : Lib.atoi l = some ((numOf l : Nat) : Int) := by
  cases l with
  | nil => exact absurd rfl hne
  | cons b r =>
    have hb := h b (by simp)
    have h45 : (b == 45) = false := by rw [beq_eq_false_iff_ne]; rintro rfl; simp at hb
    have h43 : (b == 43) = false := by rw [beq_eq_false_iff_ne]; rintro rfl; simp at hb
    simp only [Lib.atoi, h45, h43, Lib.decNat, decFrom_digits _ 0 h]
    rfl
theorem below_bytes (w : World) (e : TypeId) (t : ByteArray) : Below w.heap.size w (Lib.bytesWorld w e t) :=
  ⟨rfl, rfl, rfl, by rw [Lib.bytesWorld_size]; omega, fun k hk => Lib.bytesWorld_at_old w e t k hk⟩
theorem atoi_calls (l : List UInt8) (hne : l ≠ []) (h18 : l.length ≤ 18) (h : ∀ c ∈ l, 48 ≤ c.toNat ∧ c.toNat ≤ 57) (w : World) :
    Calls Tryz.prog 173 #[.string (bs l)] w fun e w' => e = .returned (.tuple #[.int .i64 ((numOf l : Nat) : Int), .nilIface]) ∧ Below w.heap.size w w' :=
  (Any.strconv_Atoi Tryz.atoiL (bs l) _ (by rw [bs_size]; exact h18) (by rw [bs_toList]; exact atoi_digits l hne h) w).mono fun _ _ ⟨h1, t, h2⟩ => ⟨h1, by rw [h2]; exact below_bytes w _ t⟩
theorem takeK_txt {T : List Tk} {k : Nat} {s s1 : Sg} {o : List UInt8} (h : takeK T k s = .ok o s1) : isK T k s = true ∧ o = (cur T s).txt := by
  unfold takeK at h
  by_cases hi : isK T k s = true
  · rw [if_pos hi] at h
    unfold nextP at h
    by_cases hm : 1000 < s.st.length
    · rw [if_pos hm] at h; cases h
    · rw [if_neg hm] at h; injection h with h1 h2; exact ⟨hi, h1.symm⟩
  · rw [if_neg hi] at h; cases h
theorem num_txt {T : List Tk} (hT : TkOk T) {s s1 : Sg} {o : List UInt8} (hl : s.at_ < T.length) (h : takeK T 2 s = .ok o s1) : o ≠ [] ∧ o.length ≤ 18 ∧ ∀ c ∈ o, 48 ≤ c.toNat ∧ c.toNat ≤ 57 := by
  obtain ⟨h1, rfl⟩ := takeK_txt h
  rw [cur_at hl]
  refine hT.num _ hl ?_
  unfold isK at h1
  rw [cur_at hl] at h1
  exact beq_iff_eq.1 h1

set_option maxRecDepth 100000 in
set_option maxHeartbeats 1000000 in
theorem number_calls (C : Cx) (S : Nat → Prop) (d : Nat) (s : Sg) (w : World) (h : PAt C S d s w) : Calls Tryz.prog 167 #[.pointer (some ⟨C.q, 0, none⟩)] w (OutP C S (d + 1) natV (numberM C.T s) w) := by
  obtain ⟨R, hR⟩ : ∃ R, numberM C.T s = R := ⟨_, rfl⟩
  rw [hR]
  have HR := Lib.hid hR
  unfold numberM at HR
  have H := Lib.hid h
  clear h hR
  have HN := Lib.hid (fun o s1 => num_txt (T := C.T) (s := s) (s1 := s1) (o := o) H.out.tk H.out.lt)
  go_enter Tryz.func167, Tryz.ntmps167
  go_wp2_with fail
  refine (takeA_calls C S d s 2 (by decide) w H.out).mono ?_
  intro e w1 h1
  generalize hr : takeK C.T 2 s = r at h1
  cases r with
  | no c i =>
    obtain rfl : R = .no c i := HR.out.symm.trans (bd_no hr)
    clear hr
    obtain rfl := h1.1
    go_wp2
    exact ⟨rfl, h1.no (Keep.refl C S w) fun _ h => h⟩
  | ok o s1 =>
    have HD := Lib.hid (HN.out o s1 hr)
    have HR1 := Lib.hid ((bd_ok hr).symm.trans HR.out)
    clear hr HR
    obtain ⟨rfl, hp, hk⟩ := h1
    have P1 := Lib.hid hp
    have K1 := Lib.hid ((Keep.refl C S w).trans hk)
    clear hp hk
    have ha := Lib.hid (fun W => atoi_calls o HD.out.1 HD.out.2.1 HD.out.2.2 W)
    unfold strV
    go_wp2_with fail
    refine (ha.out _).mono ?_
    rintro e w2 ⟨rfl, hB⟩
    have P2 := Lib.hid (P1.out.below hB)
    have K2 := Lib.hid (K1.out.trans (P1.out.belowK hB))
    clear hB
    obtain rfl : R = .ok (numOf o) s1 := HR1.out.symm
    go_wp2
    go_ret
    exact ⟨rfl, P2.out, K2.out⟩

end Go.Proofs.YtdeflloidhbpmaaGreatDoor
