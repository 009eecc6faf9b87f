/-
  No cell of these rows narrows 'for every input' (looked for: loops, veiled, ifaces, maps, wideKeys, modest, calm, conditions, laid).
  DERIVED. THE GIVEN ROWS OF THIS SEAT. 5 by the template 'for every input the law returns true; each argument reads behind the call as it read before'; 0 by the template 'total and deterministic' (their statements: YtgohnidndjbjiaaTotals.lean).
  GIVEN WITH THE SEED: the statements are not yours to turn. If you find one false, say at which input.
  Laid BY PROGRAM, IN A SANDBOX (cutbox-rows.mjs): the forced cells as the released guide's own fill.sh prints them over the translation 399d183b40702bd8… (all of the seat's roots in one cut). By AI agents, Wed Nov 11 2026. No macro, syntax, notation, axiom, sorry.
-/
import Derived.Test.YtgohnidndjbjiaaChecked
import GoSem.Claim
import GoSem.ClaimJoined
import GoSem.ClaimMapViews
import Derived.JoinedTies
import Derived.KernelRfl
namespace Go.Proofs.Ytgohnidndjbjiaa
/- THE CELL 'sum', in the pinned program and in every row, IS THE sha256 OF THE DUMP (.gsa) THAT YtgohnidndjbjiaaProg.lean LOADS. Nothing in Lean hashes anything: it is a label: what it is worth is what the hold of that sum in a sandbox is worth. -/
noncomputable def Try.pinned : Pinned := { name := "ytgohnidndjbjiaa", sum := "399d183b40702bd80afe56277466f016a9fd531b80ccb2ffcfe6612ae8090231", checked := Try.checked }
namespace Rows
def none {H : Type} : Left H := { results := [], args := [] }

/-- 'gangerlaw19.TapePlays': WHATEVER THE INPUT: true; the input reads as it did. -/
def tapePlaysSpec : ChangeSpec := { name := "tapePlays", fn := fun _ => fun
  | [d1, d2] => { results := [.lit (.bool true)], args := [d1, d2] }
  | _ => none }
def tapePlaysRow : OpenClaim := { program := "ytgohnidndjbjiaa", sum := "399d183b40702bd80afe56277466f016a9fd531b80ccb2ffcfe6612ae8090231", func := "ganger/gangerlaw19.TapePlays", spec := "tapePlays", unfollowed := true, recurses := true, apart := false }
def TapePlaysSaid : Prop := tapePlaysRow.holds Try.pinned (OpenSpec.ofChange tapePlaysSpec)

/-- ITS FALSE NEIGHBOUR: 'it returns false'. Refute it at one input. -/
def tapePlaysWrong : ChangeSpec := { name := "tapePlays", fn := fun _ => fun
  | [d1, d2] => { results := [.lit (.bool false)], args := [d1, d2] }
  | _ => none }
def TapePlaysWrongFalsely : Prop := tapePlaysRow.holds Try.pinned (OpenSpec.ofChange tapePlaysWrong)

/-- 'gangerlaw19.TapeSafe': WHATEVER THE INPUT: true; the input reads as it did. -/
def tapeSafeSpec : ChangeSpec := { name := "tapeSafe", fn := fun _ => fun
  | [d1, d2, d3] => { results := [.lit (.bool true)], args := [d1, d2, d3] }
  | _ => none }
def tapeSafeRow : OpenClaim := { program := "ytgohnidndjbjiaa", sum := "399d183b40702bd80afe56277466f016a9fd531b80ccb2ffcfe6612ae8090231", func := "ganger/gangerlaw19.TapeSafe", spec := "tapeSafe", unfollowed := true, recurses := true, apart := false }
def TapeSafeSaid : Prop := tapeSafeRow.holds Try.pinned (OpenSpec.ofChange tapeSafeSpec)

/-- ITS FALSE NEIGHBOUR: 'it returns false'. Refute it at one input. -/
def tapeSafeWrong : ChangeSpec := { name := "tapeSafe", fn := fun _ => fun
  | [d1, d2, d3] => { results := [.lit (.bool false)], args := [d1, d2, d3] }
  | _ => none }
def TapeSafeWrongFalsely : Prop := tapeSafeRow.holds Try.pinned (OpenSpec.ofChange tapeSafeWrong)

/-- 'gangerlaw19.TapePacks': WHATEVER THE INPUT: true; the input reads as it did. -/
def tapePacksSpec : ChangeSpec := { name := "tapePacks", fn := fun _ => fun
  | [d1, d2, d3] => { results := [.lit (.bool true)], args := [d1, d2, d3] }
  | _ => none }
def tapePacksRow : OpenClaim := { program := "ytgohnidndjbjiaa", sum := "399d183b40702bd80afe56277466f016a9fd531b80ccb2ffcfe6612ae8090231", func := "ganger/gangerlaw19.TapePacks", spec := "tapePacks", unfollowed := true, recurses := true, apart := false }
def TapePacksSaid : Prop := tapePacksRow.holds Try.pinned (OpenSpec.ofChange tapePacksSpec)

/-- ITS FALSE NEIGHBOUR: 'it returns false'. Refute it at one input. -/
def tapePacksWrong : ChangeSpec := { name := "tapePacks", fn := fun _ => fun
  | [d1, d2, d3] => { results := [.lit (.bool false)], args := [d1, d2, d3] }
  | _ => none }
def TapePacksWrongFalsely : Prop := tapePacksRow.holds Try.pinned (OpenSpec.ofChange tapePacksWrong)

/-- 'gangerlaw19.TapeFull': WHATEVER THE INPUT: true; the input reads as it did. -/
def tapeFullSpec : ChangeSpec := { name := "tapeFull", fn := fun _ => fun
  | [d1, d2] => { results := [.lit (.bool true)], args := [d1, d2] }
  | _ => none }
def tapeFullRow : OpenClaim := { program := "ytgohnidndjbjiaa", sum := "399d183b40702bd80afe56277466f016a9fd531b80ccb2ffcfe6612ae8090231", func := "ganger/gangerlaw19.TapeFull", spec := "tapeFull", unfollowed := true, recurses := true, apart := false }
def TapeFullSaid : Prop := tapeFullRow.holds Try.pinned (OpenSpec.ofChange tapeFullSpec)

/-- ITS FALSE NEIGHBOUR: 'it returns false'. Refute it at one input. -/
def tapeFullWrong : ChangeSpec := { name := "tapeFull", fn := fun _ => fun
  | [d1, d2] => { results := [.lit (.bool false)], args := [d1, d2] }
  | _ => none }
def TapeFullWrongFalsely : Prop := tapeFullRow.holds Try.pinned (OpenSpec.ofChange tapeFullWrong)

/-- 'gangerlaw19.TapeNil': WHATEVER THE INPUT: true; the input reads as it did. -/
def tapeNilSpec : ChangeSpec := { name := "tapeNil", fn := fun _ => fun
  | [d] => { results := [.lit (.bool true)], args := [d] }
  | _ => none }
def tapeNilRow : OpenClaim := { program := "ytgohnidndjbjiaa", sum := "399d183b40702bd80afe56277466f016a9fd531b80ccb2ffcfe6612ae8090231", func := "ganger/gangerlaw19.TapeNil", spec := "tapeNil", unfollowed := true, recurses := true, apart := false }
def TapeNilSaid : Prop := tapeNilRow.holds Try.pinned (OpenSpec.ofChange tapeNilSpec)

/-- ITS FALSE NEIGHBOUR: 'it returns false'. Refute it at one input. -/
def tapeNilWrong : ChangeSpec := { name := "tapeNil", fn := fun _ => fun
  | [d] => { results := [.lit (.bool false)], args := [d] }
  | _ => none }
def TapeNilWrongFalsely : Prop := tapeNilRow.holds Try.pinned (OpenSpec.ofChange tapeNilWrong)

/- THE SECOND FORM. 'bulk': how many values and letters a reading holds, each counted each time it is reached (what is shared counts as often as it is met; a slice's spare places count too). A statement '..UptoSaid' is the law's where the arguments, and the package variables that the reading takes, are together of bulk at most 1048576: NARROWER than '..Said'. Prove '..Said' where nothing that the law and all that it calls make is longer than what came in: it says more and counts as full. Else prove '..UptoSaid'. A law counts once. -/
mutual
def uptoBulk {H : Type} : DataW H → Nat
  | .lit (.string bytes) => bytes.length + 1
  | .lit _ => 1
  | .nil => 1
  | .ptr d => uptoBulk d + 1
  | .slice elems spare => uptoBulkAll elems + uptoBulkAll spare + 1
  | .agg parts => uptoBulkAll parts + 1
  | .iface _ d => uptoBulk d + 1
  | .map entries => uptoBulkEntries entries + 1
  | .held _ => 1
def uptoBulkAll {H : Type} : List (DataW H) → Nat
  | [] => 0
  | d :: r => uptoBulk d + uptoBulkAll r
def uptoBulkEntries {H : Type} : List (Lit × DataW H) → Nat
  | [] => 0
  | x :: r => uptoBulkEntry x + uptoBulkEntries r
def uptoBulkEntry {H : Type} : Lit × DataW H → Nat
  | (.string bytes, d) => bytes.length + uptoBulk d + 1
  | (_, d) => uptoBulk d + 1
 end
def uptoSmall : (H : Type) → List (DataW H) → Bool := fun _ ds => decide (uptoBulkAll ds ≤ 1048576)
def OpenSpec.upto (s : _root_.Go.ChangeSpec) : _root_.Go.OpenSpec := { _root_.Go.OpenSpec.ofChange s with cond := some uptoSmall }

/-- 'gangerlaw19.TapePlays', WHERE WHAT IT READS IS OF BULK AT MOST 1048576: true; the input reads as it did. -/
def tapePlaysUptoRow : OpenClaim := { program := "ytgohnidndjbjiaa", sum := "399d183b40702bd80afe56277466f016a9fd531b80ccb2ffcfe6612ae8090231", func := "ganger/gangerlaw19.TapePlays", spec := "tapePlays", unfollowed := true, recurses := true, apart := false, narrowed := true }
def TapePlaysUptoSaid : Prop := tapePlaysUptoRow.holds Try.pinned (OpenSpec.upto tapePlaysSpec)

/-- 'gangerlaw19.TapeSafe', WHERE WHAT IT READS IS OF BULK AT MOST 1048576: true; the input reads as it did. -/
def tapeSafeUptoRow : OpenClaim := { program := "ytgohnidndjbjiaa", sum := "399d183b40702bd80afe56277466f016a9fd531b80ccb2ffcfe6612ae8090231", func := "ganger/gangerlaw19.TapeSafe", spec := "tapeSafe", unfollowed := true, recurses := true, apart := false, narrowed := true }
def TapeSafeUptoSaid : Prop := tapeSafeUptoRow.holds Try.pinned (OpenSpec.upto tapeSafeSpec)

/-- 'gangerlaw19.TapePacks', WHERE WHAT IT READS IS OF BULK AT MOST 1048576: true; the input reads as it did. -/
def tapePacksUptoRow : OpenClaim := { program := "ytgohnidndjbjiaa", sum := "399d183b40702bd80afe56277466f016a9fd531b80ccb2ffcfe6612ae8090231", func := "ganger/gangerlaw19.TapePacks", spec := "tapePacks", unfollowed := true, recurses := true, apart := false, narrowed := true }
def TapePacksUptoSaid : Prop := tapePacksUptoRow.holds Try.pinned (OpenSpec.upto tapePacksSpec)

/-- 'gangerlaw19.TapeFull', WHERE WHAT IT READS IS OF BULK AT MOST 1048576: true; the input reads as it did. -/
def tapeFullUptoRow : OpenClaim := { program := "ytgohnidndjbjiaa", sum := "399d183b40702bd80afe56277466f016a9fd531b80ccb2ffcfe6612ae8090231", func := "ganger/gangerlaw19.TapeFull", spec := "tapeFull", unfollowed := true, recurses := true, apart := false, narrowed := true }
def TapeFullUptoSaid : Prop := tapeFullUptoRow.holds Try.pinned (OpenSpec.upto tapeFullSpec)

/-- 'gangerlaw19.TapeNil', WHERE WHAT IT READS IS OF BULK AT MOST 1048576: true; the input reads as it did. -/
def tapeNilUptoRow : OpenClaim := { program := "ytgohnidndjbjiaa", sum := "399d183b40702bd80afe56277466f016a9fd531b80ccb2ffcfe6612ae8090231", func := "ganger/gangerlaw19.TapeNil", spec := "tapeNil", unfollowed := true, recurses := true, apart := false, narrowed := true }
def TapeNilUptoSaid : Prop := tapeNilUptoRow.holds Try.pinned (OpenSpec.upto tapeNilSpec)

end Rows
end Go.Proofs.Ytgohnidndjbjiaa
