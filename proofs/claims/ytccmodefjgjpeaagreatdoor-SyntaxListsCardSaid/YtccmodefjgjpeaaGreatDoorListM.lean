/-
  A call with so many arguments, a function with so many parameters: the texts.
-/
import Derived.Test.YtccmodefjgjpeaaGreatDoorPRes
namespace Go.Proofs.YtccmodefjgjpeaaGreatDoor

/-- So many things, parted. -/
def parted (sep x : List UInt8) : Nat → List UInt8
  | 0 => []
  | n + 1 => (if n = 0 then [] else parted sep x n ++ sep) ++ x
def argsT (n : Nat) : List UInt8 := parted [44, 32] [49] n
def parsT (n : Nat) : List UInt8 := parted [44] [112] n
/-- func f(..) { g(..); } -/
def listT (a p : Nat) : List UInt8 := [102, 117, 110, 99, 32, 102, 40] ++ parsT p ++ [41, 32, 123, 32, 103, 40] ++ argsT a ++ [41, 59, 32, 125]
def listF (p : Nat) : List UInt8 := [102, 117, 110, 99, 32, 102, 40] ++ parsT p ++ [44, 41, 32, 123, 32, 125]
def listG (a : Nat) : List UInt8 := [102, 117, 110, 99, 32, 102, 40, 41, 32, 123, 32, 103, 40] ++ argsT a ++ [44, 41, 59, 32, 125]
def chkL (a p : Nat) (r : Res0) : Bool := match r with
  | .good s => s.fn.length == 1 && s.st.length == 1 && s.ex.length == a + 1 && (s.ex[a]?.map (fun x => (x.kind, x.list.length))) == some (6, a) && (s.fn[0]?.map (fun x => x.params.length)) == some p
  | _ => false
def codeL (r : Res0) : Nat := match r with | .good _ => 0 | .bad _ c => c

end Go.Proofs.YtccmodefjgjpeaaGreatDoor
