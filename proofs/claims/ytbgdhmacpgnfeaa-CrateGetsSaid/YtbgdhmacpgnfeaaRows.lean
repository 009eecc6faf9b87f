/-
  No cell of these rows narrows 'for every input' (looked for: loops, veiled, ifaces, maps, wideKeys, modest, calm, conditions, laid).
  DERIVED. THE GIVEN ROWS OF THIS SEAT. 6 by the template 'for every input the law returns true; each argument reads behind the call as it read before'; 0 by the template 'total and deterministic' (their statements: YtbgdhmacpgnfeaaTotals.lean).
  GIVEN WITH THE SEED: the statements are not yours to turn. If you find one false, say at which input.
  Laid BY PROGRAM, IN A SANDBOX (cutbox-rows.mjs): the forced cells as the released guide's own fill.sh prints them over the translation 4a252ff5f9e118bc… (all of the seat's roots in one cut). By AI agents, Wed Nov 11 2026. No macro, syntax, notation, axiom, sorry.
-/
import Derived.Test.YtbgdhmacpgnfeaaChecked
import GoSem.Claim
import GoSem.ClaimJoined
import GoSem.ClaimMapViews
import Derived.JoinedTies
import Derived.KernelRfl
namespace Go.Proofs.Ytbgdhmacpgnfeaa
/- THE CELL 'sum', in the pinned program and in every row, IS THE sha256 OF THE DUMP (.gsa) THAT YtbgdhmacpgnfeaaProg.lean LOADS. Nothing in Lean hashes anything: it is a label: what it is worth is what the hold of that sum in a sandbox is worth. -/
noncomputable def Try.pinned : Pinned := { name := "ytbgdhmacpgnfeaa", sum := "4a252ff5f9e118bc9d86699f71384fadbd52b6d7f677beda68f727d4c75d2cd8", checked := Try.checked }
namespace Rows
def none {H : Type} : Left H := { results := [], args := [] }

/-- 'gangerlaw17.CratePuts': WHATEVER THE INPUT: true; the input reads as it did. -/
def cratePutsSpec : ChangeSpec := { name := "cratePuts", fn := fun _ => fun
  | [d] => { results := [.lit (.bool true)], args := [d] }
  | _ => none }
def cratePutsRow : OpenClaim := { program := "ytbgdhmacpgnfeaa", sum := "4a252ff5f9e118bc9d86699f71384fadbd52b6d7f677beda68f727d4c75d2cd8", func := "ganger/gangerlaw17.CratePuts", spec := "cratePuts", apart := false }
def CratePutsSaid : Prop := cratePutsRow.holds Try.pinned (OpenSpec.ofChange cratePutsSpec)

/-- ITS FALSE NEIGHBOUR: 'it returns false'. Refute it at one input. -/
def cratePutsWrong : ChangeSpec := { name := "cratePuts", fn := fun _ => fun
  | [d] => { results := [.lit (.bool false)], args := [d] }
  | _ => none }
def CratePutsWrongFalsely : Prop := cratePutsRow.holds Try.pinned (OpenSpec.ofChange cratePutsWrong)

/-- 'gangerlaw17.CrateGets': WHATEVER THE INPUT: true; the input reads as it did. -/
def crateGetsSpec : ChangeSpec := { name := "crateGets", fn := fun _ => fun
  | [d1, d2] => { results := [.lit (.bool true)], args := [d1, d2] }
  | _ => none }
def crateGetsRow : OpenClaim := { program := "ytbgdhmacpgnfeaa", sum := "4a252ff5f9e118bc9d86699f71384fadbd52b6d7f677beda68f727d4c75d2cd8", func := "ganger/gangerlaw17.CrateGets", spec := "crateGets", apart := false }
def CrateGetsSaid : Prop := crateGetsRow.holds Try.pinned (OpenSpec.ofChange crateGetsSpec)

/-- ITS FALSE NEIGHBOUR: 'it returns false'. Refute it at one input. -/
def crateGetsWrong : ChangeSpec := { name := "crateGets", fn := fun _ => fun
  | [d1, d2] => { results := [.lit (.bool false)], args := [d1, d2] }
  | _ => none }
def CrateGetsWrongFalsely : Prop := crateGetsRow.holds Try.pinned (OpenSpec.ofChange crateGetsWrong)

/-- 'gangerlaw17.CrateBack': WHATEVER THE INPUT: true; the input reads as it did. -/
def crateBackSpec : ChangeSpec := { name := "crateBack", fn := fun _ => fun
  | [d1, d2, d3] => { results := [.lit (.bool true)], args := [d1, d2, d3] }
  | _ => none }
def crateBackRow : OpenClaim := { program := "ytbgdhmacpgnfeaa", sum := "4a252ff5f9e118bc9d86699f71384fadbd52b6d7f677beda68f727d4c75d2cd8", func := "ganger/gangerlaw17.CrateBack", spec := "crateBack", apart := false }
def CrateBackSaid : Prop := crateBackRow.holds Try.pinned (OpenSpec.ofChange crateBackSpec)

/-- ITS FALSE NEIGHBOUR: 'it returns false'. Refute it at one input. -/
def crateBackWrong : ChangeSpec := { name := "crateBack", fn := fun _ => fun
  | [d1, d2, d3] => { results := [.lit (.bool false)], args := [d1, d2, d3] }
  | _ => none }
def CrateBackWrongFalsely : Prop := crateBackRow.holds Try.pinned (OpenSpec.ofChange crateBackWrong)

/-- 'gangerlaw17.CrateTurned': WHATEVER THE INPUT: true; the input reads as it did. -/
def crateTurnedSpec : ChangeSpec := { name := "crateTurned", fn := fun _ => fun
  | [d1, d2, d3] => { results := [.lit (.bool true)], args := [d1, d2, d3] }
  | _ => none }
def crateTurnedRow : OpenClaim := { program := "ytbgdhmacpgnfeaa", sum := "4a252ff5f9e118bc9d86699f71384fadbd52b6d7f677beda68f727d4c75d2cd8", func := "ganger/gangerlaw17.CrateTurned", spec := "crateTurned", apart := false }
def CrateTurnedSaid : Prop := crateTurnedRow.holds Try.pinned (OpenSpec.ofChange crateTurnedSpec)

/-- ITS FALSE NEIGHBOUR: 'it returns false'. Refute it at one input. -/
def crateTurnedWrong : ChangeSpec := { name := "crateTurned", fn := fun _ => fun
  | [d1, d2, d3] => { results := [.lit (.bool false)], args := [d1, d2, d3] }
  | _ => none }
def CrateTurnedWrongFalsely : Prop := crateTurnedRow.holds Try.pinned (OpenSpec.ofChange crateTurnedWrong)

/-- 'gangerlaw17.CrateSums': WHATEVER THE INPUT: true; the input reads as it did. -/
def crateSumsSpec : ChangeSpec := { name := "crateSums", fn := fun _ => fun
  | [d1, d2, d3, d4] => { results := [.lit (.bool true)], args := [d1, d2, d3, d4] }
  | _ => none }
def crateSumsRow : OpenClaim := { program := "ytbgdhmacpgnfeaa", sum := "4a252ff5f9e118bc9d86699f71384fadbd52b6d7f677beda68f727d4c75d2cd8", func := "ganger/gangerlaw17.CrateSums", spec := "crateSums", apart := false }
def CrateSumsSaid : Prop := crateSumsRow.holds Try.pinned (OpenSpec.ofChange crateSumsSpec)

/-- ITS FALSE NEIGHBOUR: 'it returns false'. Refute it at one input. -/
def crateSumsWrong : ChangeSpec := { name := "crateSums", fn := fun _ => fun
  | [d1, d2, d3, d4] => { results := [.lit (.bool false)], args := [d1, d2, d3, d4] }
  | _ => none }
def CrateSumsWrongFalsely : Prop := crateSumsRow.holds Try.pinned (OpenSpec.ofChange crateSumsWrong)

/-- 'gangerlaw17.CrateApart': WHATEVER THE INPUT: true; the input reads as it did. -/
def crateApartSpec : ChangeSpec := { name := "crateApart", fn := fun _ => fun
  | [d1, d2, d3] => { results := [.lit (.bool true)], args := [d1, d2, d3] }
  | _ => none }
def crateApartRow : OpenClaim := { program := "ytbgdhmacpgnfeaa", sum := "4a252ff5f9e118bc9d86699f71384fadbd52b6d7f677beda68f727d4c75d2cd8", func := "ganger/gangerlaw17.CrateApart", spec := "crateApart", apart := false }
def CrateApartSaid : Prop := crateApartRow.holds Try.pinned (OpenSpec.ofChange crateApartSpec)

/-- ITS FALSE NEIGHBOUR: 'it returns false'. Refute it at one input. -/
def crateApartWrong : ChangeSpec := { name := "crateApart", fn := fun _ => fun
  | [d1, d2, d3] => { results := [.lit (.bool false)], args := [d1, d2, d3] }
  | _ => none }
def CrateApartWrongFalsely : Prop := crateApartRow.holds Try.pinned (OpenSpec.ofChange crateApartWrong)

/- THE SECOND FORM. 'bulk': how many values and letters a reading holds, each counted each time it is reached (what is shared counts as often as it is met; a slice's spare places count too). A statement '..UptoSaid' is the law's where the arguments, and the package variables that the reading takes, are together of bulk at most 1048576: NARROWER than '..Said'. Prove '..Said' where nothing that the law and all that it calls make is longer than what came in: it says more and counts as full. Else prove '..UptoSaid'. A law counts once. -/
mutual
def uptoBulk {H : Type} : DataW H → Nat
  | .lit (.string bytes) => bytes.length + 1
  | .lit _ => 1
  | .nil => 1
  | .ptr d => uptoBulk d + 1
  | .slice elems spare => uptoBulkAll elems + uptoBulkAll spare + 1
  | .agg parts => uptoBulkAll parts + 1
  | .iface _ d => uptoBulk d + 1
  | .map entries => uptoBulkEntries entries + 1
  | .held _ => 1
def uptoBulkAll {H : Type} : List (DataW H) → Nat
  | [] => 0
  | d :: r => uptoBulk d + uptoBulkAll r
def uptoBulkEntries {H : Type} : List (Lit × DataW H) → Nat
  | [] => 0
  | x :: r => uptoBulkEntry x + uptoBulkEntries r
def uptoBulkEntry {H : Type} : Lit × DataW H → Nat
  | (.string bytes, d) => bytes.length + uptoBulk d + 1
  | (_, d) => uptoBulk d + 1
 end
def uptoSmall : (H : Type) → List (DataW H) → Bool := fun _ ds => decide (uptoBulkAll ds ≤ 1048576)
def OpenSpec.upto (s : _root_.Go.ChangeSpec) : _root_.Go.OpenSpec := { _root_.Go.OpenSpec.ofChange s with cond := some uptoSmall }

/-- 'gangerlaw17.CratePuts', WHERE WHAT IT READS IS OF BULK AT MOST 1048576: true; the input reads as it did. -/
def cratePutsUptoRow : OpenClaim := { program := "ytbgdhmacpgnfeaa", sum := "4a252ff5f9e118bc9d86699f71384fadbd52b6d7f677beda68f727d4c75d2cd8", func := "ganger/gangerlaw17.CratePuts", spec := "cratePuts", apart := false, narrowed := true }
def CratePutsUptoSaid : Prop := cratePutsUptoRow.holds Try.pinned (OpenSpec.upto cratePutsSpec)

/-- 'gangerlaw17.CrateGets', WHERE WHAT IT READS IS OF BULK AT MOST 1048576: true; the input reads as it did. -/
def crateGetsUptoRow : OpenClaim := { program := "ytbgdhmacpgnfeaa", sum := "4a252ff5f9e118bc9d86699f71384fadbd52b6d7f677beda68f727d4c75d2cd8", func := "ganger/gangerlaw17.CrateGets", spec := "crateGets", apart := false, narrowed := true }
def CrateGetsUptoSaid : Prop := crateGetsUptoRow.holds Try.pinned (OpenSpec.upto crateGetsSpec)

/-- 'gangerlaw17.CrateBack', WHERE WHAT IT READS IS OF BULK AT MOST 1048576: true; the input reads as it did. -/
def crateBackUptoRow : OpenClaim := { program := "ytbgdhmacpgnfeaa", sum := "4a252ff5f9e118bc9d86699f71384fadbd52b6d7f677beda68f727d4c75d2cd8", func := "ganger/gangerlaw17.CrateBack", spec := "crateBack", apart := false, narrowed := true }
def CrateBackUptoSaid : Prop := crateBackUptoRow.holds Try.pinned (OpenSpec.upto crateBackSpec)

/-- 'gangerlaw17.CrateTurned', WHERE WHAT IT READS IS OF BULK AT MOST 1048576: true; the input reads as it did. -/
def crateTurnedUptoRow : OpenClaim := { program := "ytbgdhmacpgnfeaa", sum := "4a252ff5f9e118bc9d86699f71384fadbd52b6d7f677beda68f727d4c75d2cd8", func := "ganger/gangerlaw17.CrateTurned", spec := "crateTurned", apart := false, narrowed := true }
def CrateTurnedUptoSaid : Prop := crateTurnedUptoRow.holds Try.pinned (OpenSpec.upto crateTurnedSpec)

/-- 'gangerlaw17.CrateSums', WHERE WHAT IT READS IS OF BULK AT MOST 1048576: true; the input reads as it did. -/
def crateSumsUptoRow : OpenClaim := { program := "ytbgdhmacpgnfeaa", sum := "4a252ff5f9e118bc9d86699f71384fadbd52b6d7f677beda68f727d4c75d2cd8", func := "ganger/gangerlaw17.CrateSums", spec := "crateSums", apart := false, narrowed := true }
def CrateSumsUptoSaid : Prop := crateSumsUptoRow.holds Try.pinned (OpenSpec.upto crateSumsSpec)

/-- 'gangerlaw17.CrateApart', WHERE WHAT IT READS IS OF BULK AT MOST 1048576: true; the input reads as it did. -/
def crateApartUptoRow : OpenClaim := { program := "ytbgdhmacpgnfeaa", sum := "4a252ff5f9e118bc9d86699f71384fadbd52b6d7f677beda68f727d4c75d2cd8", func := "ganger/gangerlaw17.CrateApart", spec := "crateApart", apart := false, narrowed := true }
def CrateApartUptoSaid : Prop := crateApartUptoRow.holds Try.pinned (OpenSpec.upto crateApartSpec)

end Rows
end Go.Proofs.Ytbgdhmacpgnfeaa
