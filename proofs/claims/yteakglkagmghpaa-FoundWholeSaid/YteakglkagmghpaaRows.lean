/-
  No cell of these rows narrows 'for every input' (looked for: loops, veiled, ifaces, maps, wideKeys, modest, calm, conditions, laid).
  DERIVED. THE GIVEN ROWS OF THIS SEAT. 5 by the template 'for every input the law returns true; each argument reads behind the call as it read before'; 0 by the template 'total and deterministic' (their statements: YteakglkagmghpaaTotals.lean).
  GIVEN WITH THE SEED: the statements are not yours to turn. If you find one false, say at which input.
  Laid BY PROGRAM, IN A SANDBOX (cutbox-rows.mjs): the forced cells as the released guide's own fill.sh prints them over the translation cbd90639bafe35ba… (all of the seat's roots in one cut). By AI agents, Wed Nov 11 2026. No macro, syntax, notation, axiom, sorry.
-/
import Derived.Test.YteakglkagmghpaaChecked
import GoSem.Claim
import GoSem.ClaimJoined
import GoSem.ClaimMapViews
import Derived.JoinedTies
import Derived.KernelRfl
namespace Go.Proofs.Yteakglkagmghpaa
/- THE CELL 'sum', in the pinned program and in every row, IS THE sha256 OF THE DUMP (.gsa) THAT YteakglkagmghpaaProg.lean LOADS. Nothing in Lean hashes anything: it is a label: what it is worth is what the hold of that sum in a sandbox is worth. -/
noncomputable def Try.pinned : Pinned := { name := "yteakglkagmghpaa", sum := "cbd90639bafe35bafb3d2e80369d088637f8e763ca91a4fdf22cc1c7edffd4c7", checked := Try.checked }
namespace Rows
def none {H : Type} : Left H := { results := [], args := [] }

/-- 'penfoldlaw13.BeginRefuses': WHATEVER THE INPUT: true; the input reads as it did. -/
def beginRefusesSpec : ChangeSpec := { name := "beginRefuses", fn := fun _ => fun
  | [d] => { results := [.lit (.bool true)], args := [d] }
  | _ => none }
def beginRefusesRow : OpenClaim := { program := "yteakglkagmghpaa", sum := "cbd90639bafe35bafb3d2e80369d088637f8e763ca91a4fdf22cc1c7edffd4c7", func := "penfold/penfoldlaw13.BeginRefuses", spec := "beginRefuses", unfollowed := true, recurses := true, apart := false }
def BeginRefusesSaid : Prop := beginRefusesRow.holds Try.pinned (OpenSpec.ofChange beginRefusesSpec)

/-- ITS FALSE NEIGHBOUR: 'it returns false'. Refute it at one input. -/
def beginRefusesWrong : ChangeSpec := { name := "beginRefuses", fn := fun _ => fun
  | [d] => { results := [.lit (.bool false)], args := [d] }
  | _ => none }
def BeginRefusesWrongFalsely : Prop := beginRefusesRow.holds Try.pinned (OpenSpec.ofChange beginRefusesWrong)

/-- 'penfoldlaw14.FoundNew': WHATEVER THE INPUT: true; the input reads as it did. -/
def foundNewSpec : ChangeSpec := { name := "foundNew", fn := fun _ => fun
  | [d] => { results := [.lit (.bool true)], args := [d] }
  | _ => none }
def foundNewRow : OpenClaim := { program := "yteakglkagmghpaa", sum := "cbd90639bafe35bafb3d2e80369d088637f8e763ca91a4fdf22cc1c7edffd4c7", func := "penfold/penfoldlaw14.FoundNew", spec := "foundNew", unfollowed := true, recurses := true, apart := false }
def FoundNewSaid : Prop := foundNewRow.holds Try.pinned (OpenSpec.ofChange foundNewSpec)

/-- ITS FALSE NEIGHBOUR: 'it returns false'. Refute it at one input. -/
def foundNewWrong : ChangeSpec := { name := "foundNew", fn := fun _ => fun
  | [d] => { results := [.lit (.bool false)], args := [d] }
  | _ => none }
def FoundNewWrongFalsely : Prop := foundNewRow.holds Try.pinned (OpenSpec.ofChange foundNewWrong)

/-- 'penfoldlaw14.FoundTouches': WHATEVER THE INPUT: true; the input reads as it did. -/
def foundTouchesSpec : ChangeSpec := { name := "foundTouches", fn := fun _ => fun
  | [d1, d2] => { results := [.lit (.bool true)], args := [d1, d2] }
  | _ => none }
def foundTouchesRow : OpenClaim := { program := "yteakglkagmghpaa", sum := "cbd90639bafe35bafb3d2e80369d088637f8e763ca91a4fdf22cc1c7edffd4c7", func := "penfold/penfoldlaw14.FoundTouches", spec := "foundTouches", unfollowed := true, recurses := true, apart := false }
def FoundTouchesSaid : Prop := foundTouchesRow.holds Try.pinned (OpenSpec.ofChange foundTouchesSpec)

/-- ITS FALSE NEIGHBOUR: 'it returns false'. Refute it at one input. -/
def foundTouchesWrong : ChangeSpec := { name := "foundTouches", fn := fun _ => fun
  | [d1, d2] => { results := [.lit (.bool false)], args := [d1, d2] }
  | _ => none }
def FoundTouchesWrongFalsely : Prop := foundTouchesRow.holds Try.pinned (OpenSpec.ofChange foundTouchesWrong)

/-- 'penfoldlaw14.FoundWhole': WHATEVER THE INPUT: true; the input reads as it did. -/
def foundWholeSpec : ChangeSpec := { name := "foundWhole", fn := fun _ => fun
  | [d1, d2] => { results := [.lit (.bool true)], args := [d1, d2] }
  | _ => none }
def foundWholeRow : OpenClaim := { program := "yteakglkagmghpaa", sum := "cbd90639bafe35bafb3d2e80369d088637f8e763ca91a4fdf22cc1c7edffd4c7", func := "penfold/penfoldlaw14.FoundWhole", spec := "foundWhole", unfollowed := true, recurses := true, apart := false }
def FoundWholeSaid : Prop := foundWholeRow.holds Try.pinned (OpenSpec.ofChange foundWholeSpec)

/-- ITS FALSE NEIGHBOUR: 'it returns false'. Refute it at one input. -/
def foundWholeWrong : ChangeSpec := { name := "foundWhole", fn := fun _ => fun
  | [d1, d2] => { results := [.lit (.bool false)], args := [d1, d2] }
  | _ => none }
def FoundWholeWrongFalsely : Prop := foundWholeRow.holds Try.pinned (OpenSpec.ofChange foundWholeWrong)

/-- 'penfoldlaw14.FoundEpochs': WHATEVER THE INPUT: true; the input reads as it did. -/
def foundEpochsSpec : ChangeSpec := { name := "foundEpochs", fn := fun _ => fun
  | [d1, d2] => { results := [.lit (.bool true)], args := [d1, d2] }
  | _ => none }
def foundEpochsRow : OpenClaim := { program := "yteakglkagmghpaa", sum := "cbd90639bafe35bafb3d2e80369d088637f8e763ca91a4fdf22cc1c7edffd4c7", func := "penfold/penfoldlaw14.FoundEpochs", spec := "foundEpochs", unfollowed := true, recurses := true, apart := false }
def FoundEpochsSaid : Prop := foundEpochsRow.holds Try.pinned (OpenSpec.ofChange foundEpochsSpec)

/-- ITS FALSE NEIGHBOUR: 'it returns false'. Refute it at one input. -/
def foundEpochsWrong : ChangeSpec := { name := "foundEpochs", fn := fun _ => fun
  | [d1, d2] => { results := [.lit (.bool false)], args := [d1, d2] }
  | _ => none }
def FoundEpochsWrongFalsely : Prop := foundEpochsRow.holds Try.pinned (OpenSpec.ofChange foundEpochsWrong)

/- THE SECOND FORM. 'bulk': how many values and letters a reading holds, each counted each time it is reached (what is shared counts as often as it is met; a slice's spare places count too). A statement '..UptoSaid' is the law's where the arguments, and the package variables that the reading takes, are together of bulk at most 1048576: NARROWER than '..Said'. Prove '..Said' where nothing that the law and all that it calls make is longer than what came in: it says more and counts as full. Else prove '..UptoSaid'. A law counts once. -/
mutual
def uptoBulk {H : Type} : DataW H → Nat
  | .lit (.string bytes) => bytes.length + 1
  | .lit _ => 1
  | .nil => 1
  | .ptr d => uptoBulk d + 1
  | .slice elems spare => uptoBulkAll elems + uptoBulkAll spare + 1
  | .agg parts => uptoBulkAll parts + 1
  | .iface _ d => uptoBulk d + 1
  | .map entries => uptoBulkEntries entries + 1
  | .held _ => 1
def uptoBulkAll {H : Type} : List (DataW H) → Nat
  | [] => 0
  | d :: r => uptoBulk d + uptoBulkAll r
def uptoBulkEntries {H : Type} : List (Lit × DataW H) → Nat
  | [] => 0
  | x :: r => uptoBulkEntry x + uptoBulkEntries r
def uptoBulkEntry {H : Type} : Lit × DataW H → Nat
  | (.string bytes, d) => bytes.length + uptoBulk d + 1
  | (_, d) => uptoBulk d + 1
 end
def uptoSmall : (H : Type) → List (DataW H) → Bool := fun _ ds => decide (uptoBulkAll ds ≤ 1048576)
def OpenSpec.upto (s : _root_.Go.ChangeSpec) : _root_.Go.OpenSpec := { _root_.Go.OpenSpec.ofChange s with cond := some uptoSmall }

/-- 'penfoldlaw13.BeginRefuses', WHERE WHAT IT READS IS OF BULK AT MOST 1048576: true; the input reads as it did. -/
def beginRefusesUptoRow : OpenClaim := { program := "yteakglkagmghpaa", sum := "cbd90639bafe35bafb3d2e80369d088637f8e763ca91a4fdf22cc1c7edffd4c7", func := "penfold/penfoldlaw13.BeginRefuses", spec := "beginRefuses", unfollowed := true, recurses := true, apart := false, narrowed := true }
def BeginRefusesUptoSaid : Prop := beginRefusesUptoRow.holds Try.pinned (OpenSpec.upto beginRefusesSpec)

/-- 'penfoldlaw14.FoundNew', WHERE WHAT IT READS IS OF BULK AT MOST 1048576: true; the input reads as it did. -/
def foundNewUptoRow : OpenClaim := { program := "yteakglkagmghpaa", sum := "cbd90639bafe35bafb3d2e80369d088637f8e763ca91a4fdf22cc1c7edffd4c7", func := "penfold/penfoldlaw14.FoundNew", spec := "foundNew", unfollowed := true, recurses := true, apart := false, narrowed := true }
def FoundNewUptoSaid : Prop := foundNewUptoRow.holds Try.pinned (OpenSpec.upto foundNewSpec)

/-- 'penfoldlaw14.FoundTouches', WHERE WHAT IT READS IS OF BULK AT MOST 1048576: true; the input reads as it did. -/
def foundTouchesUptoRow : OpenClaim := { program := "yteakglkagmghpaa", sum := "cbd90639bafe35bafb3d2e80369d088637f8e763ca91a4fdf22cc1c7edffd4c7", func := "penfold/penfoldlaw14.FoundTouches", spec := "foundTouches", unfollowed := true, recurses := true, apart := false, narrowed := true }
def FoundTouchesUptoSaid : Prop := foundTouchesUptoRow.holds Try.pinned (OpenSpec.upto foundTouchesSpec)

/-- 'penfoldlaw14.FoundWhole', WHERE WHAT IT READS IS OF BULK AT MOST 1048576: true; the input reads as it did. -/
def foundWholeUptoRow : OpenClaim := { program := "yteakglkagmghpaa", sum := "cbd90639bafe35bafb3d2e80369d088637f8e763ca91a4fdf22cc1c7edffd4c7", func := "penfold/penfoldlaw14.FoundWhole", spec := "foundWhole", unfollowed := true, recurses := true, apart := false, narrowed := true }
def FoundWholeUptoSaid : Prop := foundWholeUptoRow.holds Try.pinned (OpenSpec.upto foundWholeSpec)

/-- 'penfoldlaw14.FoundEpochs', WHERE WHAT IT READS IS OF BULK AT MOST 1048576: true; the input reads as it did. -/
def foundEpochsUptoRow : OpenClaim := { program := "yteakglkagmghpaa", sum := "cbd90639bafe35bafb3d2e80369d088637f8e763ca91a4fdf22cc1c7edffd4c7", func := "penfold/penfoldlaw14.FoundEpochs", spec := "foundEpochs", unfollowed := true, recurses := true, apart := false, narrowed := true }
def FoundEpochsUptoSaid : Prop := foundEpochsUptoRow.holds Try.pinned (OpenSpec.upto foundEpochsSpec)

end Rows
end Go.Proofs.Yteakglkagmghpaa
