/-
  No cell of these rows narrows 'for every input' (looked for: loops, veiled, ifaces, maps, wideKeys, modest, calm, conditions, laid).
  DERIVED. THE GIVEN ROWS OF THIS SEAT. 4 by the template 'for every input the law returns true; each argument reads behind the call as it read before'; 0 by the template 'total and deterministic' (their statements: YtkghpdmliffkdaaTotals.lean).
  GIVEN WITH THE SEED: the statements are not yours to turn. If you find one false, say at which input.
  Laid BY PROGRAM, IN A SANDBOX (cutbox-rows.mjs): the forced cells as the released guide's own fill.sh prints them over the translation 86e0477f6ea15ac6… (all of the seat's roots in one cut). By AI agents, Wed Nov 11 2026. No macro, syntax, notation, axiom, sorry.
-/
import Derived.Test.YtkghpdmliffkdaaChecked
import GoSem.Claim
import GoSem.ClaimJoined
import GoSem.ClaimMapViews
import Derived.JoinedTies
import Derived.KernelRfl
namespace Go.Proofs.Ytkghpdmliffkdaa
/- THE CELL 'sum', in the pinned program and in every row, IS THE sha256 OF THE DUMP (.gsa) THAT YtkghpdmliffkdaaProg.lean LOADS. Nothing in Lean hashes anything: it is a label: what it is worth is what the hold of that sum in a sandbox is worth. -/
noncomputable def Try.pinned : Pinned := { name := "ytkghpdmliffkdaa", sum := "86e0477f6ea15ac6f35ff70b74ed23660d263ff507c254a123be060916fca01b", checked := Try.checked }
namespace Rows
def none {H : Type} : Left H := { results := [], args := [] }

/-- 'penfoldlaw13.BeginAll': WHATEVER THE INPUT: true; the input reads as it did. -/
def beginAllSpec : ChangeSpec := { name := "beginAll", fn := fun _ => fun
  | [d1, d2, d3] => { results := [.lit (.bool true)], args := [d1, d2, d3] }
  | _ => none }
def beginAllRow : OpenClaim := { program := "ytkghpdmliffkdaa", sum := "86e0477f6ea15ac6f35ff70b74ed23660d263ff507c254a123be060916fca01b", func := "penfold/penfoldlaw13.BeginAll", spec := "beginAll", unfollowed := true, recurses := true, apart := false }
def BeginAllSaid : Prop := beginAllRow.holds Try.pinned (OpenSpec.ofChange beginAllSpec)

/-- ITS FALSE NEIGHBOUR: 'it returns false'. Refute it at one input. -/
def beginAllWrong : ChangeSpec := { name := "beginAll", fn := fun _ => fun
  | [d1, d2, d3] => { results := [.lit (.bool false)], args := [d1, d2, d3] }
  | _ => none }
def BeginAllWrongFalsely : Prop := beginAllRow.holds Try.pinned (OpenSpec.ofChange beginAllWrong)

/-- 'penfoldlaw13.BeginRefuses': WHATEVER THE INPUT: true; the input reads as it did. -/
def beginRefusesSpec : ChangeSpec := { name := "beginRefuses", fn := fun _ => fun
  | [d] => { results := [.lit (.bool true)], args := [d] }
  | _ => none }
def beginRefusesRow : OpenClaim := { program := "ytkghpdmliffkdaa", sum := "86e0477f6ea15ac6f35ff70b74ed23660d263ff507c254a123be060916fca01b", func := "penfold/penfoldlaw13.BeginRefuses", spec := "beginRefuses", unfollowed := true, recurses := true, apart := false }
def BeginRefusesSaid : Prop := beginRefusesRow.holds Try.pinned (OpenSpec.ofChange beginRefusesSpec)

/-- ITS FALSE NEIGHBOUR: 'it returns false'. Refute it at one input. -/
def beginRefusesWrong : ChangeSpec := { name := "beginRefuses", fn := fun _ => fun
  | [d] => { results := [.lit (.bool false)], args := [d] }
  | _ => none }
def BeginRefusesWrongFalsely : Prop := beginRefusesRow.holds Try.pinned (OpenSpec.ofChange beginRefusesWrong)

/-- 'penfoldlaw13.BeginLocal': WHATEVER THE INPUT: true; the input reads as it did. -/
def beginLocalSpec : ChangeSpec := { name := "beginLocal", fn := fun _ => fun
  | [d1, d2, d3] => { results := [.lit (.bool true)], args := [d1, d2, d3] }
  | _ => none }
def beginLocalRow : OpenClaim := { program := "ytkghpdmliffkdaa", sum := "86e0477f6ea15ac6f35ff70b74ed23660d263ff507c254a123be060916fca01b", func := "penfold/penfoldlaw13.BeginLocal", spec := "beginLocal", unfollowed := true, recurses := true, apart := false }
def BeginLocalSaid : Prop := beginLocalRow.holds Try.pinned (OpenSpec.ofChange beginLocalSpec)

/-- ITS FALSE NEIGHBOUR: 'it returns false'. Refute it at one input. -/
def beginLocalWrong : ChangeSpec := { name := "beginLocal", fn := fun _ => fun
  | [d1, d2, d3] => { results := [.lit (.bool false)], args := [d1, d2, d3] }
  | _ => none }
def BeginLocalWrongFalsely : Prop := beginLocalRow.holds Try.pinned (OpenSpec.ofChange beginLocalWrong)

/-- 'penfoldlaw13.BeginStarts': WHATEVER THE INPUT: true; the input reads as it did. -/
def beginStartsSpec : ChangeSpec := { name := "beginStarts", fn := fun _ => fun
  | [d1, d2, d3] => { results := [.lit (.bool true)], args := [d1, d2, d3] }
  | _ => none }
def beginStartsRow : OpenClaim := { program := "ytkghpdmliffkdaa", sum := "86e0477f6ea15ac6f35ff70b74ed23660d263ff507c254a123be060916fca01b", func := "penfold/penfoldlaw13.BeginStarts", spec := "beginStarts", unfollowed := true, recurses := true, apart := false }
def BeginStartsSaid : Prop := beginStartsRow.holds Try.pinned (OpenSpec.ofChange beginStartsSpec)

/-- ITS FALSE NEIGHBOUR: 'it returns false'. Refute it at one input. -/
def beginStartsWrong : ChangeSpec := { name := "beginStarts", fn := fun _ => fun
  | [d1, d2, d3] => { results := [.lit (.bool false)], args := [d1, d2, d3] }
  | _ => none }
def BeginStartsWrongFalsely : Prop := beginStartsRow.holds Try.pinned (OpenSpec.ofChange beginStartsWrong)

/- THE SECOND FORM. 'bulk': how many values and letters a reading holds, each counted each time it is reached (what is shared counts as often as it is met; a slice's spare places count too). A statement '..UptoSaid' is the law's where the arguments, and the package variables that the reading takes, are together of bulk at most 1048576: NARROWER than '..Said'. Prove '..Said' where nothing that the law and all that it calls make is longer than what came in: it says more and counts as full. Else prove '..UptoSaid'. A law counts once. -/
mutual
def uptoBulk {H : Type} : DataW H → Nat
  | .lit (.string bytes) => bytes.length + 1
  | .lit _ => 1
  | .nil => 1
  | .ptr d => uptoBulk d + 1
  | .slice elems spare => uptoBulkAll elems + uptoBulkAll spare + 1
  | .agg parts => uptoBulkAll parts + 1
  | .iface _ d => uptoBulk d + 1
  | .map entries => uptoBulkEntries entries + 1
  | .held _ => 1
def uptoBulkAll {H : Type} : List (DataW H) → Nat
  | [] => 0
  | d :: r => uptoBulk d + uptoBulkAll r
def uptoBulkEntries {H : Type} : List (Lit × DataW H) → Nat
  | [] => 0
  | x :: r => uptoBulkEntry x + uptoBulkEntries r
def uptoBulkEntry {H : Type} : Lit × DataW H → Nat
  | (.string bytes, d) => bytes.length + uptoBulk d + 1
  | (_, d) => uptoBulk d + 1
 end
def uptoSmall : (H : Type) → List (DataW H) → Bool := fun _ ds => decide (uptoBulkAll ds ≤ 1048576)
def OpenSpec.upto (s : _root_.Go.ChangeSpec) : _root_.Go.OpenSpec := { _root_.Go.OpenSpec.ofChange s with cond := some uptoSmall }

/-- 'penfoldlaw13.BeginAll', WHERE WHAT IT READS IS OF BULK AT MOST 1048576: true; the input reads as it did. -/
def beginAllUptoRow : OpenClaim := { program := "ytkghpdmliffkdaa", sum := "86e0477f6ea15ac6f35ff70b74ed23660d263ff507c254a123be060916fca01b", func := "penfold/penfoldlaw13.BeginAll", spec := "beginAll", unfollowed := true, recurses := true, apart := false, narrowed := true }
def BeginAllUptoSaid : Prop := beginAllUptoRow.holds Try.pinned (OpenSpec.upto beginAllSpec)

/-- 'penfoldlaw13.BeginRefuses', WHERE WHAT IT READS IS OF BULK AT MOST 1048576: true; the input reads as it did. -/
def beginRefusesUptoRow : OpenClaim := { program := "ytkghpdmliffkdaa", sum := "86e0477f6ea15ac6f35ff70b74ed23660d263ff507c254a123be060916fca01b", func := "penfold/penfoldlaw13.BeginRefuses", spec := "beginRefuses", unfollowed := true, recurses := true, apart := false, narrowed := true }
def BeginRefusesUptoSaid : Prop := beginRefusesUptoRow.holds Try.pinned (OpenSpec.upto beginRefusesSpec)

/-- 'penfoldlaw13.BeginLocal', WHERE WHAT IT READS IS OF BULK AT MOST 1048576: true; the input reads as it did. -/
def beginLocalUptoRow : OpenClaim := { program := "ytkghpdmliffkdaa", sum := "86e0477f6ea15ac6f35ff70b74ed23660d263ff507c254a123be060916fca01b", func := "penfold/penfoldlaw13.BeginLocal", spec := "beginLocal", unfollowed := true, recurses := true, apart := false, narrowed := true }
def BeginLocalUptoSaid : Prop := beginLocalUptoRow.holds Try.pinned (OpenSpec.upto beginLocalSpec)

/-- 'penfoldlaw13.BeginStarts', WHERE WHAT IT READS IS OF BULK AT MOST 1048576: true; the input reads as it did. -/
def beginStartsUptoRow : OpenClaim := { program := "ytkghpdmliffkdaa", sum := "86e0477f6ea15ac6f35ff70b74ed23660d263ff507c254a123be060916fca01b", func := "penfold/penfoldlaw13.BeginStarts", spec := "beginStarts", unfollowed := true, recurses := true, apart := false, narrowed := true }
def BeginStartsUptoSaid : Prop := beginStartsUptoRow.holds Try.pinned (OpenSpec.upto beginStartsSpec)

end Rows
end Go.Proofs.Ytkghpdmliffkdaa
