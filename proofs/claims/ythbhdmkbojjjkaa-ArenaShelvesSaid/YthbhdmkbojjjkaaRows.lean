/-
  No cell of these rows narrows 'for every input' (looked for: loops, veiled, ifaces, maps, wideKeys, modest, calm, conditions, laid).
  DERIVED. THE GIVEN ROWS OF THIS SEAT. 3 by the template 'for every input the law returns true; each argument reads behind the call as it read before'; 0 by the template 'total and deterministic' (their statements: YthbhdmkbojjjkaaTotals.lean).
  GIVEN WITH THE SEED: the statements are not yours to turn. If you find one false, say at which input.
  Laid BY PROGRAM, IN A SANDBOX (cutbox-rows.mjs): the forced cells as the released guide's own fill.sh prints them over the translation 4ab5416fac7c9c10… (all of the seat's roots in one cut). By AI agents, Wed Nov 11 2026. No macro, syntax, notation, axiom, sorry.
-/
import Derived.Test.YthbhdmkbojjjkaaChecked
import GoSem.Claim
import GoSem.ClaimJoined
import GoSem.ClaimMapViews
import Derived.JoinedTies
import Derived.KernelRfl
namespace Go.Proofs.Ythbhdmkbojjjkaa
/- THE CELL 'sum', in the pinned program and in every row, IS THE sha256 OF THE DUMP (.gsa) THAT YthbhdmkbojjjkaaProg.lean LOADS. Nothing in Lean hashes anything: it is a label: what it is worth is what the hold of that sum in a sandbox is worth. -/
noncomputable def Try.pinned : Pinned := { name := "ythbhdmkbojjjkaa", sum := "4ab5416fac7c9c104ee841a50e73a8ab22e515cdf52a5be64575cc772be5bd2a", checked := Try.checked }
namespace Rows
def none {H : Type} : Left H := { results := [], args := [] }

/-- 'rewindlaw03.ArenaKeeps': WHATEVER THE INPUT: true; the input reads as it did. -/
def arenaKeepsSpec : ChangeSpec := { name := "arenaKeeps", fn := fun _ => fun
  | [d1, d2] => { results := [.lit (.bool true)], args := [d1, d2] }
  | _ => none }
def arenaKeepsRow : OpenClaim := { program := "ythbhdmkbojjjkaa", sum := "4ab5416fac7c9c104ee841a50e73a8ab22e515cdf52a5be64575cc772be5bd2a", func := "rewind/rewindlaw03.ArenaKeeps", spec := "arenaKeeps", unfollowed := true, recurses := true, apart := false }
def ArenaKeepsSaid : Prop := arenaKeepsRow.holds Try.pinned (OpenSpec.ofChange arenaKeepsSpec)

/-- ITS FALSE NEIGHBOUR: 'it returns false'. Refute it at one input. -/
def arenaKeepsWrong : ChangeSpec := { name := "arenaKeeps", fn := fun _ => fun
  | [d1, d2] => { results := [.lit (.bool false)], args := [d1, d2] }
  | _ => none }
def ArenaKeepsWrongFalsely : Prop := arenaKeepsRow.holds Try.pinned (OpenSpec.ofChange arenaKeepsWrong)

/-- 'rewindlaw03.ArenaShelves': WHATEVER THE INPUT: true; the input reads as it did. -/
def arenaShelvesSpec : ChangeSpec := { name := "arenaShelves", fn := fun _ => fun
  | [d1, d2] => { results := [.lit (.bool true)], args := [d1, d2] }
  | _ => none }
def arenaShelvesRow : OpenClaim := { program := "ythbhdmkbojjjkaa", sum := "4ab5416fac7c9c104ee841a50e73a8ab22e515cdf52a5be64575cc772be5bd2a", func := "rewind/rewindlaw03.ArenaShelves", spec := "arenaShelves", unfollowed := true, recurses := true, apart := false }
def ArenaShelvesSaid : Prop := arenaShelvesRow.holds Try.pinned (OpenSpec.ofChange arenaShelvesSpec)

/-- ITS FALSE NEIGHBOUR: 'it returns false'. Refute it at one input. -/
def arenaShelvesWrong : ChangeSpec := { name := "arenaShelves", fn := fun _ => fun
  | [d1, d2] => { results := [.lit (.bool false)], args := [d1, d2] }
  | _ => none }
def ArenaShelvesWrongFalsely : Prop := arenaShelvesRow.holds Try.pinned (OpenSpec.ofChange arenaShelvesWrong)

/-- 'rewindlaw03.ArenaRooms': WHATEVER THE INPUT: true; the input reads as it did. -/
def arenaRoomsSpec : ChangeSpec := { name := "arenaRooms", fn := fun _ => fun
  | [d1, d2] => { results := [.lit (.bool true)], args := [d1, d2] }
  | _ => none }
def arenaRoomsRow : OpenClaim := { program := "ythbhdmkbojjjkaa", sum := "4ab5416fac7c9c104ee841a50e73a8ab22e515cdf52a5be64575cc772be5bd2a", func := "rewind/rewindlaw03.ArenaRooms", spec := "arenaRooms", unfollowed := true, recurses := true, apart := false }
def ArenaRoomsSaid : Prop := arenaRoomsRow.holds Try.pinned (OpenSpec.ofChange arenaRoomsSpec)

/-- ITS FALSE NEIGHBOUR: 'it returns false'. Refute it at one input. -/
def arenaRoomsWrong : ChangeSpec := { name := "arenaRooms", fn := fun _ => fun
  | [d1, d2] => { results := [.lit (.bool false)], args := [d1, d2] }
  | _ => none }
def ArenaRoomsWrongFalsely : Prop := arenaRoomsRow.holds Try.pinned (OpenSpec.ofChange arenaRoomsWrong)

/- THE SECOND FORM. 'bulk': how many values and letters a reading holds, each counted each time it is reached (what is shared counts as often as it is met; a slice's spare places count too). A statement '..UptoSaid' is the law's where the arguments, and the package variables that the reading takes, are together of bulk at most 1048576: NARROWER than '..Said'. Prove '..Said' where nothing that the law and all that it calls make is longer than what came in: it says more and counts as full. Else prove '..UptoSaid'. A law counts once. -/
mutual
def uptoBulk {H : Type} : DataW H → Nat
  | .lit (.string bytes) => bytes.length + 1
  | .lit _ => 1
  | .nil => 1
  | .ptr d => uptoBulk d + 1
  | .slice elems spare => uptoBulkAll elems + uptoBulkAll spare + 1
  | .agg parts => uptoBulkAll parts + 1
  | .iface _ d => uptoBulk d + 1
  | .map entries => uptoBulkEntries entries + 1
  | .held _ => 1
def uptoBulkAll {H : Type} : List (DataW H) → Nat
  | [] => 0
  | d :: r => uptoBulk d + uptoBulkAll r
def uptoBulkEntries {H : Type} : List (Lit × DataW H) → Nat
  | [] => 0
  | x :: r => uptoBulkEntry x + uptoBulkEntries r
def uptoBulkEntry {H : Type} : Lit × DataW H → Nat
  | (.string bytes, d) => bytes.length + uptoBulk d + 1
  | (_, d) => uptoBulk d + 1
 end
def uptoSmall : (H : Type) → List (DataW H) → Bool := fun _ ds => decide (uptoBulkAll ds ≤ 1048576)
def OpenSpec.upto (s : _root_.Go.ChangeSpec) : _root_.Go.OpenSpec := { _root_.Go.OpenSpec.ofChange s with cond := some uptoSmall }

/-- 'rewindlaw03.ArenaKeeps', WHERE WHAT IT READS IS OF BULK AT MOST 1048576: true; the input reads as it did. -/
def arenaKeepsUptoRow : OpenClaim := { program := "ythbhdmkbojjjkaa", sum := "4ab5416fac7c9c104ee841a50e73a8ab22e515cdf52a5be64575cc772be5bd2a", func := "rewind/rewindlaw03.ArenaKeeps", spec := "arenaKeeps", unfollowed := true, recurses := true, apart := false, narrowed := true }
def ArenaKeepsUptoSaid : Prop := arenaKeepsUptoRow.holds Try.pinned (OpenSpec.upto arenaKeepsSpec)

/-- 'rewindlaw03.ArenaShelves', WHERE WHAT IT READS IS OF BULK AT MOST 1048576: true; the input reads as it did. -/
def arenaShelvesUptoRow : OpenClaim := { program := "ythbhdmkbojjjkaa", sum := "4ab5416fac7c9c104ee841a50e73a8ab22e515cdf52a5be64575cc772be5bd2a", func := "rewind/rewindlaw03.ArenaShelves", spec := "arenaShelves", unfollowed := true, recurses := true, apart := false, narrowed := true }
def ArenaShelvesUptoSaid : Prop := arenaShelvesUptoRow.holds Try.pinned (OpenSpec.upto arenaShelvesSpec)

/-- 'rewindlaw03.ArenaRooms', WHERE WHAT IT READS IS OF BULK AT MOST 1048576: true; the input reads as it did. -/
def arenaRoomsUptoRow : OpenClaim := { program := "ythbhdmkbojjjkaa", sum := "4ab5416fac7c9c104ee841a50e73a8ab22e515cdf52a5be64575cc772be5bd2a", func := "rewind/rewindlaw03.ArenaRooms", spec := "arenaRooms", unfollowed := true, recurses := true, apart := false, narrowed := true }
def ArenaRoomsUptoSaid : Prop := arenaRoomsUptoRow.holds Try.pinned (OpenSpec.upto arenaRoomsSpec)

end Rows
end Go.Proofs.Ythbhdmkbojjjkaa
