/-
  No cell of these rows narrows 'for every input' (looked for: loops, veiled, ifaces, maps, wideKeys, modest, calm, conditions, laid).
  DERIVED. THE GIVEN ROWS OF THIS SEAT. 4 by the template 'for every input the law returns true; each argument reads behind the call as it read before'; 0 by the template 'total and deterministic' (their statements: YtgihoicppeegaaaTotals.lean).
  GIVEN WITH THE SEED: the statements are not yours to turn. If you find one false, say at which input.
  Laid BY PROGRAM, IN A SANDBOX (cutbox-rows.mjs): the forced cells as the released guide's own fill.sh prints them over the translation 6afe981d01b4bbfb… (all of the seat's roots in one cut). By AI agents, Wed Nov 11 2026. No macro, syntax, notation, axiom, sorry.
-/
import Derived.Test.YtgihoicppeegaaaChecked
import GoSem.Claim
import GoSem.ClaimJoined
import GoSem.ClaimMapViews
import Derived.JoinedTies
import Derived.KernelRfl
namespace Go.Proofs.Ytgihoicppeegaaa
/- THE CELL 'sum', in the pinned program and in every row, IS THE sha256 OF THE DUMP (.gsa) THAT YtgihoicppeegaaaProg.lean LOADS. Nothing in Lean hashes anything: it is a label: what it is worth is what the hold of that sum in a sandbox is worth. -/
noncomputable def Try.pinned : Pinned := { name := "ytgihoicppeegaaa", sum := "6afe981d01b4bbfb92d656773dbe5b0f45af2ff33fa9844f0b649e17a06dd2ba", checked := Try.checked }
namespace Rows
def none {H : Type} : Left H := { results := [], args := [] }

/-- 'penfoldlaw08.ThingAll': WHATEVER THE INPUT: true; the input reads as it did. -/
def thingAllSpec : ChangeSpec := { name := "thingAll", fn := fun _ => fun
  | [d1, d2] => { results := [.lit (.bool true)], args := [d1, d2] }
  | _ => none }
def thingAllRow : OpenClaim := { program := "ytgihoicppeegaaa", sum := "6afe981d01b4bbfb92d656773dbe5b0f45af2ff33fa9844f0b649e17a06dd2ba", func := "penfold/penfoldlaw08.ThingAll", spec := "thingAll", unfollowed := true, recurses := true, apart := false }
def ThingAllSaid : Prop := thingAllRow.holds Try.pinned (OpenSpec.ofChange thingAllSpec)

/-- ITS FALSE NEIGHBOUR: 'it returns false'. Refute it at one input. -/
def thingAllWrong : ChangeSpec := { name := "thingAll", fn := fun _ => fun
  | [d1, d2] => { results := [.lit (.bool false)], args := [d1, d2] }
  | _ => none }
def ThingAllWrongFalsely : Prop := thingAllRow.holds Try.pinned (OpenSpec.ofChange thingAllWrong)

/-- 'penfoldlaw08.ThingWalks': WHATEVER THE INPUT: true; the input reads as it did. -/
def thingWalksSpec : ChangeSpec := { name := "thingWalks", fn := fun _ => fun
  | [d1, d2] => { results := [.lit (.bool true)], args := [d1, d2] }
  | _ => none }
def thingWalksRow : OpenClaim := { program := "ytgihoicppeegaaa", sum := "6afe981d01b4bbfb92d656773dbe5b0f45af2ff33fa9844f0b649e17a06dd2ba", func := "penfold/penfoldlaw08.ThingWalks", spec := "thingWalks", inPlace := ["math/bits.Add64"], unfollowed := true, recurses := true, apart := false }
def ThingWalksSaid : Prop := thingWalksRow.holds Try.pinned (OpenSpec.ofChange thingWalksSpec)

/-- ITS FALSE NEIGHBOUR: 'it returns false'. Refute it at one input. -/
def thingWalksWrong : ChangeSpec := { name := "thingWalks", fn := fun _ => fun
  | [d1, d2] => { results := [.lit (.bool false)], args := [d1, d2] }
  | _ => none }
def ThingWalksWrongFalsely : Prop := thingWalksRow.holds Try.pinned (OpenSpec.ofChange thingWalksWrong)

/-- 'penfoldlaw08.ThingSlots': WHATEVER THE INPUT: true; the input reads as it did. -/
def thingSlotsSpec : ChangeSpec := { name := "thingSlots", fn := fun _ => fun
  | [d] => { results := [.lit (.bool true)], args := [d] }
  | _ => none }
def thingSlotsRow : OpenClaim := { program := "ytgihoicppeegaaa", sum := "6afe981d01b4bbfb92d656773dbe5b0f45af2ff33fa9844f0b649e17a06dd2ba", func := "penfold/penfoldlaw08.ThingSlots", spec := "thingSlots", inPlace := ["math/bits.Add64"], unfollowed := true, recurses := true, apart := false }
def ThingSlotsSaid : Prop := thingSlotsRow.holds Try.pinned (OpenSpec.ofChange thingSlotsSpec)

/-- ITS FALSE NEIGHBOUR: 'it returns false'. Refute it at one input. -/
def thingSlotsWrong : ChangeSpec := { name := "thingSlots", fn := fun _ => fun
  | [d] => { results := [.lit (.bool false)], args := [d] }
  | _ => none }
def ThingSlotsWrongFalsely : Prop := thingSlotsRow.holds Try.pinned (OpenSpec.ofChange thingSlotsWrong)

/-- 'penfoldlaw08.ThingCuts': WHATEVER THE INPUT: true; the input reads as it did. -/
def thingCutsSpec : ChangeSpec := { name := "thingCuts", fn := fun _ => fun
  | [d1, d2] => { results := [.lit (.bool true)], args := [d1, d2] }
  | _ => none }
def thingCutsRow : OpenClaim := { program := "ytgihoicppeegaaa", sum := "6afe981d01b4bbfb92d656773dbe5b0f45af2ff33fa9844f0b649e17a06dd2ba", func := "penfold/penfoldlaw08.ThingCuts", spec := "thingCuts", inPlace := ["math/bits.Add64"], unfollowed := true, recurses := true, apart := false }
def ThingCutsSaid : Prop := thingCutsRow.holds Try.pinned (OpenSpec.ofChange thingCutsSpec)

/-- ITS FALSE NEIGHBOUR: 'it returns false'. Refute it at one input. -/
def thingCutsWrong : ChangeSpec := { name := "thingCuts", fn := fun _ => fun
  | [d1, d2] => { results := [.lit (.bool false)], args := [d1, d2] }
  | _ => none }
def ThingCutsWrongFalsely : Prop := thingCutsRow.holds Try.pinned (OpenSpec.ofChange thingCutsWrong)

/- THE SECOND FORM. 'bulk': how many values and letters a reading holds, each counted each time it is reached (what is shared counts as often as it is met; a slice's spare places count too). A statement '..UptoSaid' is the law's where the arguments, and the package variables that the reading takes, are together of bulk at most 1048576: NARROWER than '..Said'. Prove '..Said' where nothing that the law and all that it calls make is longer than what came in: it says more and counts as full. Else prove '..UptoSaid'. A law counts once. -/
mutual
def uptoBulk {H : Type} : DataW H → Nat
  | .lit (.string bytes) => bytes.length + 1
  | .lit _ => 1
  | .nil => 1
  | .ptr d => uptoBulk d + 1
  | .slice elems spare => uptoBulkAll elems + uptoBulkAll spare + 1
  | .agg parts => uptoBulkAll parts + 1
  | .iface _ d => uptoBulk d + 1
  | .map entries => uptoBulkEntries entries + 1
  | .held _ => 1
def uptoBulkAll {H : Type} : List (DataW H) → Nat
  | [] => 0
  | d :: r => uptoBulk d + uptoBulkAll r
def uptoBulkEntries {H : Type} : List (Lit × DataW H) → Nat
  | [] => 0
  | x :: r => uptoBulkEntry x + uptoBulkEntries r
def uptoBulkEntry {H : Type} : Lit × DataW H → Nat
  | (.string bytes, d) => bytes.length + uptoBulk d + 1
  | (_, d) => uptoBulk d + 1
 end
def uptoSmall : (H : Type) → List (DataW H) → Bool := fun _ ds => decide (uptoBulkAll ds ≤ 1048576)
def OpenSpec.upto (s : _root_.Go.ChangeSpec) : _root_.Go.OpenSpec := { _root_.Go.OpenSpec.ofChange s with cond := some uptoSmall }

/-- 'penfoldlaw08.ThingAll', WHERE WHAT IT READS IS OF BULK AT MOST 1048576: true; the input reads as it did. -/
def thingAllUptoRow : OpenClaim := { program := "ytgihoicppeegaaa", sum := "6afe981d01b4bbfb92d656773dbe5b0f45af2ff33fa9844f0b649e17a06dd2ba", func := "penfold/penfoldlaw08.ThingAll", spec := "thingAll", unfollowed := true, recurses := true, apart := false, narrowed := true }
def ThingAllUptoSaid : Prop := thingAllUptoRow.holds Try.pinned (OpenSpec.upto thingAllSpec)

/-- 'penfoldlaw08.ThingWalks', WHERE WHAT IT READS IS OF BULK AT MOST 1048576: true; the input reads as it did. -/
def thingWalksUptoRow : OpenClaim := { program := "ytgihoicppeegaaa", sum := "6afe981d01b4bbfb92d656773dbe5b0f45af2ff33fa9844f0b649e17a06dd2ba", func := "penfold/penfoldlaw08.ThingWalks", spec := "thingWalks", inPlace := ["math/bits.Add64"], unfollowed := true, recurses := true, apart := false, narrowed := true }
def ThingWalksUptoSaid : Prop := thingWalksUptoRow.holds Try.pinned (OpenSpec.upto thingWalksSpec)

/-- 'penfoldlaw08.ThingSlots', WHERE WHAT IT READS IS OF BULK AT MOST 1048576: true; the input reads as it did. -/
def thingSlotsUptoRow : OpenClaim := { program := "ytgihoicppeegaaa", sum := "6afe981d01b4bbfb92d656773dbe5b0f45af2ff33fa9844f0b649e17a06dd2ba", func := "penfold/penfoldlaw08.ThingSlots", spec := "thingSlots", inPlace := ["math/bits.Add64"], unfollowed := true, recurses := true, apart := false, narrowed := true }
def ThingSlotsUptoSaid : Prop := thingSlotsUptoRow.holds Try.pinned (OpenSpec.upto thingSlotsSpec)

/-- 'penfoldlaw08.ThingCuts', WHERE WHAT IT READS IS OF BULK AT MOST 1048576: true; the input reads as it did. -/
def thingCutsUptoRow : OpenClaim := { program := "ytgihoicppeegaaa", sum := "6afe981d01b4bbfb92d656773dbe5b0f45af2ff33fa9844f0b649e17a06dd2ba", func := "penfold/penfoldlaw08.ThingCuts", spec := "thingCuts", inPlace := ["math/bits.Add64"], unfollowed := true, recurses := true, apart := false, narrowed := true }
def ThingCutsUptoSaid : Prop := thingCutsUptoRow.holds Try.pinned (OpenSpec.upto thingCutsSpec)

end Rows
end Go.Proofs.Ytgihoicppeegaaa
