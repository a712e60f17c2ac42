/-
  Brackets, signs, places, blocks, as deep as asked: the texts.
-/
import Derived.Test.YtccmodefjgjpeaaGreatDoorPRes
namespace Go.Proofs.YtccmodefjgjpeaaGreatDoor

def rep (n : Nat) (x : List UInt8) : List UInt8 := match n with | 0 => [] | n + 1 => x ++ rep n x
theorem rep_snoc (n : Nat) (x : List UInt8) : rep n x ++ x = rep (n + 1) x := by
  induction n with
  | zero => simp [rep]
  | succ n ih => rw [rep, List.append_assoc, ih]; rfl
theorem rep_len (n : Nat) (x : List UInt8) : (rep n x).length = n * x.length := by
  induction n with
  | zero => simp [rep]
  | succ n ih => rw [rep, List.length_append, ih, Nat.add_mul]; omega
def headM : List UInt8 := [102, 117, 110, 99, 32, 109, 97, 105, 110, 40, 41, 32, 123]
def opn : Nat → List UInt8 | 0 => [40] | 1 => [45] | 2 => [33] | _ => [97, 91]
def shu : Nat → List UInt8 | 0 => [41] | 1 => [] | 2 => [] | _ => [93]
def deepA (k j : Nat) : List UInt8 := headM ++ [32, 112, 114, 105, 110, 116, 32] ++ rep k (opn j) ++ [49] ++ rep k (shu j) ++ [59, 32, 125]
def deepB (k : Nat) : List UInt8 := headM ++ rep k [105, 102, 32, 49, 32, 123] ++ rep k [125] ++ [125]
def code (r : Res0) : Nat := match r with | .good _ => 0 | .bad _ c => c

end Go.Proofs.YtccmodefjgjpeaaGreatDoor
