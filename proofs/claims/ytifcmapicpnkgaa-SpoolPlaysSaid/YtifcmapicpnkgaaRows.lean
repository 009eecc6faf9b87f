/-
  No cell of these rows narrows 'for every input' (looked for: loops, veiled, ifaces, maps, wideKeys, modest, calm, conditions, laid).
  DERIVED. THE GIVEN ROWS OF THIS SEAT. 5 by the template 'for every input the law returns true; each argument reads behind the call as it read before'; 0 by the template 'total and deterministic' (their statements: YtifcmapicpnkgaaTotals.lean).
  GIVEN WITH THE SEED: the statements are not yours to turn. If you find one false, say at which input.
  Laid BY PROGRAM, IN A SANDBOX (cutbox-rows.mjs): the forced cells as the released guide's own fill.sh prints them over the translation d065d05ad5839855… (all of the seat's roots in one cut). By AI agents, Wed Nov 11 2026. No macro, syntax, notation, axiom, sorry.
-/
import Derived.Test.YtifcmapicpnkgaaChecked
import GoSem.Claim
import GoSem.ClaimJoined
import GoSem.ClaimMapViews
import Derived.JoinedTies
import Derived.KernelRfl
namespace Go.Proofs.Ytifcmapicpnkgaa
/- THE CELL 'sum', in the pinned program and in every row, IS THE sha256 OF THE DUMP (.gsa) THAT YtifcmapicpnkgaaProg.lean LOADS. Nothing in Lean hashes anything: it is a label: what it is worth is what the hold of that sum in a sandbox is worth. -/
noncomputable def Try.pinned : Pinned := { name := "ytifcmapicpnkgaa", sum := "d065d05ad5839855e65b8b7e9d4e50c55e59c1589ce04a0d2ef682b96879fcc7", checked := Try.checked }
namespace Rows
def none {H : Type} : Left H := { results := [], args := [] }

/-- 'gangerlaw18.SpoolPlays': WHATEVER THE INPUT: true; the input reads as it did. -/
def spoolPlaysSpec : ChangeSpec := { name := "spoolPlays", fn := fun _ => fun
  | [d1, d2] => { results := [.lit (.bool true)], args := [d1, d2] }
  | _ => none }
def spoolPlaysRow : OpenClaim := { program := "ytifcmapicpnkgaa", sum := "d065d05ad5839855e65b8b7e9d4e50c55e59c1589ce04a0d2ef682b96879fcc7", func := "ganger/gangerlaw18.SpoolPlays", spec := "spoolPlays", apart := false }
def SpoolPlaysSaid : Prop := spoolPlaysRow.holds Try.pinned (OpenSpec.ofChange spoolPlaysSpec)

/-- ITS FALSE NEIGHBOUR: 'it returns false'. Refute it at one input. -/
def spoolPlaysWrong : ChangeSpec := { name := "spoolPlays", fn := fun _ => fun
  | [d1, d2] => { results := [.lit (.bool false)], args := [d1, d2] }
  | _ => none }
def SpoolPlaysWrongFalsely : Prop := spoolPlaysRow.holds Try.pinned (OpenSpec.ofChange spoolPlaysWrong)

/-- 'gangerlaw18.SpoolSure': WHATEVER THE INPUT: true; the input reads as it did. -/
def spoolSureSpec : ChangeSpec := { name := "spoolSure", fn := fun _ => fun
  | [d1, d2, d3] => { results := [.lit (.bool true)], args := [d1, d2, d3] }
  | _ => none }
def spoolSureRow : OpenClaim := { program := "ytifcmapicpnkgaa", sum := "d065d05ad5839855e65b8b7e9d4e50c55e59c1589ce04a0d2ef682b96879fcc7", func := "ganger/gangerlaw18.SpoolSure", spec := "spoolSure", apart := false }
def SpoolSureSaid : Prop := spoolSureRow.holds Try.pinned (OpenSpec.ofChange spoolSureSpec)

/-- ITS FALSE NEIGHBOUR: 'it returns false'. Refute it at one input. -/
def spoolSureWrong : ChangeSpec := { name := "spoolSure", fn := fun _ => fun
  | [d1, d2, d3] => { results := [.lit (.bool false)], args := [d1, d2, d3] }
  | _ => none }
def SpoolSureWrongFalsely : Prop := spoolSureRow.holds Try.pinned (OpenSpec.ofChange spoolSureWrong)

/-- 'gangerlaw18.SpoolRoom': WHATEVER THE INPUT: true; the input reads as it did. -/
def spoolRoomSpec : ChangeSpec := { name := "spoolRoom", fn := fun _ => fun
  | [d1, d2, d3] => { results := [.lit (.bool true)], args := [d1, d2, d3] }
  | _ => none }
def spoolRoomRow : OpenClaim := { program := "ytifcmapicpnkgaa", sum := "d065d05ad5839855e65b8b7e9d4e50c55e59c1589ce04a0d2ef682b96879fcc7", func := "ganger/gangerlaw18.SpoolRoom", spec := "spoolRoom", apart := false }
def SpoolRoomSaid : Prop := spoolRoomRow.holds Try.pinned (OpenSpec.ofChange spoolRoomSpec)

/-- ITS FALSE NEIGHBOUR: 'it returns false'. Refute it at one input. -/
def spoolRoomWrong : ChangeSpec := { name := "spoolRoom", fn := fun _ => fun
  | [d1, d2, d3] => { results := [.lit (.bool false)], args := [d1, d2, d3] }
  | _ => none }
def SpoolRoomWrongFalsely : Prop := spoolRoomRow.holds Try.pinned (OpenSpec.ofChange spoolRoomWrong)

/-- 'gangerlaw18.SpoolOff': WHATEVER THE INPUT: true; the input reads as it did. -/
def spoolOffSpec : ChangeSpec := { name := "spoolOff", fn := fun _ => fun
  | [d1, d2] => { results := [.lit (.bool true)], args := [d1, d2] }
  | _ => none }
def spoolOffRow : OpenClaim := { program := "ytifcmapicpnkgaa", sum := "d065d05ad5839855e65b8b7e9d4e50c55e59c1589ce04a0d2ef682b96879fcc7", func := "ganger/gangerlaw18.SpoolOff", spec := "spoolOff", apart := false }
def SpoolOffSaid : Prop := spoolOffRow.holds Try.pinned (OpenSpec.ofChange spoolOffSpec)

/-- ITS FALSE NEIGHBOUR: 'it returns false'. Refute it at one input. -/
def spoolOffWrong : ChangeSpec := { name := "spoolOff", fn := fun _ => fun
  | [d1, d2] => { results := [.lit (.bool false)], args := [d1, d2] }
  | _ => none }
def SpoolOffWrongFalsely : Prop := spoolOffRow.holds Try.pinned (OpenSpec.ofChange spoolOffWrong)

/-- 'gangerlaw18.SpoolNil': WHATEVER THE INPUT: true; the input reads as it did. -/
def spoolNilSpec : ChangeSpec := { name := "spoolNil", fn := fun _ => fun
  | [d1, d2, d3] => { results := [.lit (.bool true)], args := [d1, d2, d3] }
  | _ => none }
def spoolNilRow : OpenClaim := { program := "ytifcmapicpnkgaa", sum := "d065d05ad5839855e65b8b7e9d4e50c55e59c1589ce04a0d2ef682b96879fcc7", func := "ganger/gangerlaw18.SpoolNil", spec := "spoolNil", apart := false }
def SpoolNilSaid : Prop := spoolNilRow.holds Try.pinned (OpenSpec.ofChange spoolNilSpec)

/-- ITS FALSE NEIGHBOUR: 'it returns false'. Refute it at one input. -/
def spoolNilWrong : ChangeSpec := { name := "spoolNil", fn := fun _ => fun
  | [d1, d2, d3] => { results := [.lit (.bool false)], args := [d1, d2, d3] }
  | _ => none }
def SpoolNilWrongFalsely : Prop := spoolNilRow.holds Try.pinned (OpenSpec.ofChange spoolNilWrong)

/- THE SECOND FORM. 'bulk': how many values and letters a reading holds, each counted each time it is reached (what is shared counts as often as it is met; a slice's spare places count too). A statement '..UptoSaid' is the law's where the arguments, and the package variables that the reading takes, are together of bulk at most 1048576: NARROWER than '..Said'. Prove '..Said' where nothing that the law and all that it calls make is longer than what came in: it says more and counts as full. Else prove '..UptoSaid'. A law counts once. -/
mutual
def uptoBulk {H : Type} : DataW H → Nat
  | .lit (.string bytes) => bytes.length + 1
  | .lit _ => 1
  | .nil => 1
  | .ptr d => uptoBulk d + 1
  | .slice elems spare => uptoBulkAll elems + uptoBulkAll spare + 1
  | .agg parts => uptoBulkAll parts + 1
  | .iface _ d => uptoBulk d + 1
  | .map entries => uptoBulkEntries entries + 1
  | .held _ => 1
def uptoBulkAll {H : Type} : List (DataW H) → Nat
  | [] => 0
  | d :: r => uptoBulk d + uptoBulkAll r
def uptoBulkEntries {H : Type} : List (Lit × DataW H) → Nat
  | [] => 0
  | x :: r => uptoBulkEntry x + uptoBulkEntries r
def uptoBulkEntry {H : Type} : Lit × DataW H → Nat
  | (.string bytes, d) => bytes.length + uptoBulk d + 1
  | (_, d) => uptoBulk d + 1
 end
def uptoSmall : (H : Type) → List (DataW H) → Bool := fun _ ds => decide (uptoBulkAll ds ≤ 1048576)
def OpenSpec.upto (s : _root_.Go.ChangeSpec) : _root_.Go.OpenSpec := { _root_.Go.OpenSpec.ofChange s with cond := some uptoSmall }

/-- 'gangerlaw18.SpoolPlays', WHERE WHAT IT READS IS OF BULK AT MOST 1048576: true; the input reads as it did. -/
def spoolPlaysUptoRow : OpenClaim := { program := "ytifcmapicpnkgaa", sum := "d065d05ad5839855e65b8b7e9d4e50c55e59c1589ce04a0d2ef682b96879fcc7", func := "ganger/gangerlaw18.SpoolPlays", spec := "spoolPlays", apart := false, narrowed := true }
def SpoolPlaysUptoSaid : Prop := spoolPlaysUptoRow.holds Try.pinned (OpenSpec.upto spoolPlaysSpec)

/-- 'gangerlaw18.SpoolSure', WHERE WHAT IT READS IS OF BULK AT MOST 1048576: true; the input reads as it did. -/
def spoolSureUptoRow : OpenClaim := { program := "ytifcmapicpnkgaa", sum := "d065d05ad5839855e65b8b7e9d4e50c55e59c1589ce04a0d2ef682b96879fcc7", func := "ganger/gangerlaw18.SpoolSure", spec := "spoolSure", apart := false, narrowed := true }
def SpoolSureUptoSaid : Prop := spoolSureUptoRow.holds Try.pinned (OpenSpec.upto spoolSureSpec)

/-- 'gangerlaw18.SpoolRoom', WHERE WHAT IT READS IS OF BULK AT MOST 1048576: true; the input reads as it did. -/
def spoolRoomUptoRow : OpenClaim := { program := "ytifcmapicpnkgaa", sum := "d065d05ad5839855e65b8b7e9d4e50c55e59c1589ce04a0d2ef682b96879fcc7", func := "ganger/gangerlaw18.SpoolRoom", spec := "spoolRoom", apart := false, narrowed := true }
def SpoolRoomUptoSaid : Prop := spoolRoomUptoRow.holds Try.pinned (OpenSpec.upto spoolRoomSpec)

/-- 'gangerlaw18.SpoolOff', WHERE WHAT IT READS IS OF BULK AT MOST 1048576: true; the input reads as it did. -/
def spoolOffUptoRow : OpenClaim := { program := "ytifcmapicpnkgaa", sum := "d065d05ad5839855e65b8b7e9d4e50c55e59c1589ce04a0d2ef682b96879fcc7", func := "ganger/gangerlaw18.SpoolOff", spec := "spoolOff", apart := false, narrowed := true }
def SpoolOffUptoSaid : Prop := spoolOffUptoRow.holds Try.pinned (OpenSpec.upto spoolOffSpec)

/-- 'gangerlaw18.SpoolNil', WHERE WHAT IT READS IS OF BULK AT MOST 1048576: true; the input reads as it did. -/
def spoolNilUptoRow : OpenClaim := { program := "ytifcmapicpnkgaa", sum := "d065d05ad5839855e65b8b7e9d4e50c55e59c1589ce04a0d2ef682b96879fcc7", func := "ganger/gangerlaw18.SpoolNil", spec := "spoolNil", apart := false, narrowed := true }
def SpoolNilUptoSaid : Prop := spoolNilUptoRow.holds Try.pinned (OpenSpec.upto spoolNilSpec)

end Rows
end Go.Proofs.Ytifcmapicpnkgaa
