/-
  No cell of these rows narrows 'for every input' (looked for: loops, veiled, ifaces, maps, wideKeys, modest, calm, conditions, laid).
  DERIVED. THE GIVEN ROWS OF THIS SEAT. 3 by the template 'for every input the law returns true; each argument reads behind the call as it read before'; 0 by the template 'total and deterministic' (their statements: YtmaddfjgiflkbaaTotals.lean).
  GIVEN WITH THE SEED: the statements are not yours to turn. If you find one false, say at which input.
  Laid BY PROGRAM, IN A SANDBOX (cutbox-rows.mjs): the forced cells as the released guide's own fill.sh prints them over the translation 014bf6d47ef246c7… (all of the seat's roots in one cut). By AI agents, Wed Nov 11 2026. No macro, syntax, notation, axiom, sorry.
-/
import Derived.Test.YtmaddfjgiflkbaaChecked
import GoSem.Claim
import GoSem.ClaimJoined
import GoSem.ClaimMapViews
import Derived.JoinedTies
import Derived.KernelRfl
namespace Go.Proofs.Ytmaddfjgiflkbaa
/- THE CELL 'sum', in the pinned program and in every row, IS THE sha256 OF THE DUMP (.gsa) THAT YtmaddfjgiflkbaaProg.lean LOADS. Nothing in Lean hashes anything: it is a label: what it is worth is what the hold of that sum in a sandbox is worth. -/
noncomputable def Try.pinned : Pinned := { name := "ytmaddfjgiflkbaa", sum := "014bf6d47ef246c76df28bd47155b8b04c7184c0d40b47c8bb68f09b7bc7a66b", checked := Try.checked }
namespace Rows
def none {H : Type} : Left H := { results := [], args := [] }

/-- 'gueritelaw11.BasicEncodes': WHATEVER THE INPUT: true; the input reads as it did. -/
def basicEncodesSpec : ChangeSpec := { name := "basicEncodes", fn := fun _ => fun
  | [d] => { results := [.lit (.bool true)], args := [d] }
  | _ => none }
def basicEncodesRow : OpenClaim := { program := "ytmaddfjgiflkbaa", sum := "014bf6d47ef246c76df28bd47155b8b04c7184c0d40b47c8bb68f09b7bc7a66b", func := "guerite/gueritelaw11.BasicEncodes", spec := "basicEncodes", apart := false }
def BasicEncodesSaid : Prop := basicEncodesRow.holds Try.pinned (OpenSpec.ofChange basicEncodesSpec)

/-- ITS FALSE NEIGHBOUR: 'it returns false'. Refute it at one input. -/
def basicEncodesWrong : ChangeSpec := { name := "basicEncodes", fn := fun _ => fun
  | [d] => { results := [.lit (.bool false)], args := [d] }
  | _ => none }
def BasicEncodesWrongFalsely : Prop := basicEncodesRow.holds Try.pinned (OpenSpec.ofChange basicEncodesWrong)

/-- 'gueritelaw11.BasicDecodes': WHATEVER THE INPUT: true; the input reads as it did. -/
def basicDecodesSpec : ChangeSpec := { name := "basicDecodes", fn := fun _ => fun
  | [d1, d2] => { results := [.lit (.bool true)], args := [d1, d2] }
  | _ => none }
def basicDecodesRow : OpenClaim := { program := "ytmaddfjgiflkbaa", sum := "014bf6d47ef246c76df28bd47155b8b04c7184c0d40b47c8bb68f09b7bc7a66b", func := "guerite/gueritelaw11.BasicDecodes", spec := "basicDecodes", apart := false }
def BasicDecodesSaid : Prop := basicDecodesRow.holds Try.pinned (OpenSpec.ofChange basicDecodesSpec)

/-- ITS FALSE NEIGHBOUR: 'it returns false'. Refute it at one input. -/
def basicDecodesWrong : ChangeSpec := { name := "basicDecodes", fn := fun _ => fun
  | [d1, d2] => { results := [.lit (.bool false)], args := [d1, d2] }
  | _ => none }
def BasicDecodesWrongFalsely : Prop := basicDecodesRow.holds Try.pinned (OpenSpec.ofChange basicDecodesWrong)

/-- 'gueritelaw11.BasicSizes': WHATEVER THE INPUT: true; the input reads as it did. -/
def basicSizesSpec : ChangeSpec := { name := "basicSizes", fn := fun _ => fun
  | [d] => { results := [.lit (.bool true)], args := [d] }
  | _ => none }
def basicSizesRow : OpenClaim := { program := "ytmaddfjgiflkbaa", sum := "014bf6d47ef246c76df28bd47155b8b04c7184c0d40b47c8bb68f09b7bc7a66b", func := "guerite/gueritelaw11.BasicSizes", spec := "basicSizes", apart := false }
def BasicSizesSaid : Prop := basicSizesRow.holds Try.pinned (OpenSpec.ofChange basicSizesSpec)

/-- ITS FALSE NEIGHBOUR: 'it returns false'. Refute it at one input. -/
def basicSizesWrong : ChangeSpec := { name := "basicSizes", fn := fun _ => fun
  | [d] => { results := [.lit (.bool false)], args := [d] }
  | _ => none }
def BasicSizesWrongFalsely : Prop := basicSizesRow.holds Try.pinned (OpenSpec.ofChange basicSizesWrong)

/- THE SECOND FORM. 'bulk': how many values and letters a reading holds, each counted each time it is reached (what is shared counts as often as it is met; a slice's spare places count too). A statement '..UptoSaid' is the law's where the arguments, and the package variables that the reading takes, are together of bulk at most 1048576: NARROWER than '..Said'. Prove '..Said' where nothing that the law and all that it calls make is longer than what came in: it says more and counts as full. Else prove '..UptoSaid'. A law counts once. -/
mutual
def uptoBulk {H : Type} : DataW H → Nat
  | .lit (.string bytes) => bytes.length + 1
  | .lit _ => 1
  | .nil => 1
  | .ptr d => uptoBulk d + 1
  | .slice elems spare => uptoBulkAll elems + uptoBulkAll spare + 1
  | .agg parts => uptoBulkAll parts + 1
  | .iface _ d => uptoBulk d + 1
  | .map entries => uptoBulkEntries entries + 1
  | .held _ => 1
def uptoBulkAll {H : Type} : List (DataW H) → Nat
  | [] => 0
  | d :: r => uptoBulk d + uptoBulkAll r
def uptoBulkEntries {H : Type} : List (Lit × DataW H) → Nat
  | [] => 0
  | x :: r => uptoBulkEntry x + uptoBulkEntries r
def uptoBulkEntry {H : Type} : Lit × DataW H → Nat
  | (.string bytes, d) => bytes.length + uptoBulk d + 1
  | (_, d) => uptoBulk d + 1
 end
def uptoSmall : (H : Type) → List (DataW H) → Bool := fun _ ds => decide (uptoBulkAll ds ≤ 1048576)
def OpenSpec.upto (s : _root_.Go.ChangeSpec) : _root_.Go.OpenSpec := { _root_.Go.OpenSpec.ofChange s with cond := some uptoSmall }

/-- 'gueritelaw11.BasicEncodes', WHERE WHAT IT READS IS OF BULK AT MOST 1048576: true; the input reads as it did. -/
def basicEncodesUptoRow : OpenClaim := { program := "ytmaddfjgiflkbaa", sum := "014bf6d47ef246c76df28bd47155b8b04c7184c0d40b47c8bb68f09b7bc7a66b", func := "guerite/gueritelaw11.BasicEncodes", spec := "basicEncodes", apart := false, narrowed := true }
def BasicEncodesUptoSaid : Prop := basicEncodesUptoRow.holds Try.pinned (OpenSpec.upto basicEncodesSpec)

/-- 'gueritelaw11.BasicDecodes', WHERE WHAT IT READS IS OF BULK AT MOST 1048576: true; the input reads as it did. -/
def basicDecodesUptoRow : OpenClaim := { program := "ytmaddfjgiflkbaa", sum := "014bf6d47ef246c76df28bd47155b8b04c7184c0d40b47c8bb68f09b7bc7a66b", func := "guerite/gueritelaw11.BasicDecodes", spec := "basicDecodes", apart := false, narrowed := true }
def BasicDecodesUptoSaid : Prop := basicDecodesUptoRow.holds Try.pinned (OpenSpec.upto basicDecodesSpec)

/-- 'gueritelaw11.BasicSizes', WHERE WHAT IT READS IS OF BULK AT MOST 1048576: true; the input reads as it did. -/
def basicSizesUptoRow : OpenClaim := { program := "ytmaddfjgiflkbaa", sum := "014bf6d47ef246c76df28bd47155b8b04c7184c0d40b47c8bb68f09b7bc7a66b", func := "guerite/gueritelaw11.BasicSizes", spec := "basicSizes", apart := false, narrowed := true }
def BasicSizesUptoSaid : Prop := basicSizesUptoRow.holds Try.pinned (OpenSpec.upto basicSizesSpec)

end Rows
end Go.Proofs.Ytmaddfjgiflkbaa
