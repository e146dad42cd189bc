/-
  No cell of these rows narrows 'for every input' (looked for: loops, veiled, ifaces, maps, wideKeys, modest, calm, conditions, laid).
  DERIVED. THE GIVEN ROWS OF THIS SEAT. 5 by the template 'for every input the law returns true; each argument reads behind the call as it read before'; 0 by the template 'total and deterministic' (their statements: YtapbhcpcechccaaTotals.lean).
  GIVEN WITH THE SEED: the statements are not yours to turn. If you find one false, say at which input.
  Laid BY PROGRAM, IN A SANDBOX (cutbox-rows.mjs): the forced cells as the released guide's own fill.sh prints them over the translation d2a05a007ff37b99… (all of the seat's roots in one cut). By AI agents, Wed Nov 11 2026. No macro, syntax, notation, axiom, sorry.
-/
import Derived.Test.YtapbhcpcechccaaChecked
import GoSem.Claim
import GoSem.ClaimJoined
import GoSem.ClaimMapViews
import Derived.JoinedTies
import Derived.KernelRfl
namespace Go.Proofs.Ytapbhcpcechccaa
/- THE CELL 'sum', in the pinned program and in every row, IS THE sha256 OF THE DUMP (.gsa) THAT YtapbhcpcechccaaProg.lean LOADS. Nothing in Lean hashes anything: it is a label: what it is worth is what the hold of that sum in a sandbox is worth. -/
noncomputable def Try.pinned : Pinned := { name := "ytapbhcpcechccaa", sum := "d2a05a007ff37b99367e1106d77672580962c4e981d2a5db87367543ff391953", checked := Try.checked }
namespace Rows
def none {H : Type} : Left H := { results := [], args := [] }

/-- 'penfoldlaw10.FinAll': WHATEVER THE INPUT: true; the input reads as it did. -/
def finAllSpec : ChangeSpec := { name := "finAll", fn := fun _ => fun
  | [d1, d2, d3] => { results := [.lit (.bool true)], args := [d1, d2, d3] }
  | _ => none }
def finAllRow : OpenClaim := { program := "ytapbhcpcechccaa", sum := "d2a05a007ff37b99367e1106d77672580962c4e981d2a5db87367543ff391953", func := "penfold/penfoldlaw10.FinAll", spec := "finAll", unfollowed := true, recurses := true, apart := false }
def FinAllSaid : Prop := finAllRow.holds Try.pinned (OpenSpec.ofChange finAllSpec)

/-- ITS FALSE NEIGHBOUR: 'it returns false'. Refute it at one input. -/
def finAllWrong : ChangeSpec := { name := "finAll", fn := fun _ => fun
  | [d1, d2, d3] => { results := [.lit (.bool false)], args := [d1, d2, d3] }
  | _ => none }
def FinAllWrongFalsely : Prop := finAllRow.holds Try.pinned (OpenSpec.ofChange finAllWrong)

/-- 'penfoldlaw10.FinKeeps': WHATEVER THE INPUT: true; the input reads as it did. -/
def finKeepsSpec : ChangeSpec := { name := "finKeeps", fn := fun _ => fun
  | [d1, d2] => { results := [.lit (.bool true)], args := [d1, d2] }
  | _ => none }
def finKeepsRow : OpenClaim := { program := "ytapbhcpcechccaa", sum := "d2a05a007ff37b99367e1106d77672580962c4e981d2a5db87367543ff391953", func := "penfold/penfoldlaw10.FinKeeps", spec := "finKeeps", unfollowed := true, recurses := true, apart := false }
def FinKeepsSaid : Prop := finKeepsRow.holds Try.pinned (OpenSpec.ofChange finKeepsSpec)

/-- ITS FALSE NEIGHBOUR: 'it returns false'. Refute it at one input. -/
def finKeepsWrong : ChangeSpec := { name := "finKeeps", fn := fun _ => fun
  | [d1, d2] => { results := [.lit (.bool false)], args := [d1, d2] }
  | _ => none }
def FinKeepsWrongFalsely : Prop := finKeepsRow.holds Try.pinned (OpenSpec.ofChange finKeepsWrong)

/-- 'penfoldlaw10.FinParts': WHATEVER THE INPUT: true; the input reads as it did. -/
def finPartsSpec : ChangeSpec := { name := "finParts", fn := fun _ => fun
  | [d1, d2] => { results := [.lit (.bool true)], args := [d1, d2] }
  | _ => none }
def finPartsRow : OpenClaim := { program := "ytapbhcpcechccaa", sum := "d2a05a007ff37b99367e1106d77672580962c4e981d2a5db87367543ff391953", func := "penfold/penfoldlaw10.FinParts", spec := "finParts", unfollowed := true, recurses := true, apart := false }
def FinPartsSaid : Prop := finPartsRow.holds Try.pinned (OpenSpec.ofChange finPartsSpec)

/-- ITS FALSE NEIGHBOUR: 'it returns false'. Refute it at one input. -/
def finPartsWrong : ChangeSpec := { name := "finParts", fn := fun _ => fun
  | [d1, d2] => { results := [.lit (.bool false)], args := [d1, d2] }
  | _ => none }
def FinPartsWrongFalsely : Prop := finPartsRow.holds Try.pinned (OpenSpec.ofChange finPartsWrong)

/-- 'penfoldlaw10.FinSkips': WHATEVER THE INPUT: true; the input reads as it did. -/
def finSkipsSpec : ChangeSpec := { name := "finSkips", fn := fun _ => fun
  | [d1, d2, d3] => { results := [.lit (.bool true)], args := [d1, d2, d3] }
  | _ => none }
def finSkipsRow : OpenClaim := { program := "ytapbhcpcechccaa", sum := "d2a05a007ff37b99367e1106d77672580962c4e981d2a5db87367543ff391953", func := "penfold/penfoldlaw10.FinSkips", spec := "finSkips", unfollowed := true, recurses := true, apart := false }
def FinSkipsSaid : Prop := finSkipsRow.holds Try.pinned (OpenSpec.ofChange finSkipsSpec)

/-- ITS FALSE NEIGHBOUR: 'it returns false'. Refute it at one input. -/
def finSkipsWrong : ChangeSpec := { name := "finSkips", fn := fun _ => fun
  | [d1, d2, d3] => { results := [.lit (.bool false)], args := [d1, d2, d3] }
  | _ => none }
def FinSkipsWrongFalsely : Prop := finSkipsRow.holds Try.pinned (OpenSpec.ofChange finSkipsWrong)

/-- 'penfoldlaw10.FinJoins': WHATEVER THE INPUT: true; the input reads as it did. -/
def finJoinsSpec : ChangeSpec := { name := "finJoins", fn := fun _ => fun
  | [d1, d2, d3] => { results := [.lit (.bool true)], args := [d1, d2, d3] }
  | _ => none }
def finJoinsRow : OpenClaim := { program := "ytapbhcpcechccaa", sum := "d2a05a007ff37b99367e1106d77672580962c4e981d2a5db87367543ff391953", func := "penfold/penfoldlaw10.FinJoins", spec := "finJoins", unfollowed := true, recurses := true, apart := false }
def FinJoinsSaid : Prop := finJoinsRow.holds Try.pinned (OpenSpec.ofChange finJoinsSpec)

/-- ITS FALSE NEIGHBOUR: 'it returns false'. Refute it at one input. -/
def finJoinsWrong : ChangeSpec := { name := "finJoins", fn := fun _ => fun
  | [d1, d2, d3] => { results := [.lit (.bool false)], args := [d1, d2, d3] }
  | _ => none }
def FinJoinsWrongFalsely : Prop := finJoinsRow.holds Try.pinned (OpenSpec.ofChange finJoinsWrong)

/- THE SECOND FORM. 'bulk': how many values and letters a reading holds, each counted each time it is reached (what is shared counts as often as it is met; a slice's spare places count too). A statement '..UptoSaid' is the law's where the arguments, and the package variables that the reading takes, are together of bulk at most 1048576: NARROWER than '..Said'. Prove '..Said' where nothing that the law and all that it calls make is longer than what came in: it says more and counts as full. Else prove '..UptoSaid'. A law counts once. -/
mutual
def uptoBulk {H : Type} : DataW H → Nat
  | .lit (.string bytes) => bytes.length + 1
  | .lit _ => 1
  | .nil => 1
  | .ptr d => uptoBulk d + 1
  | .slice elems spare => uptoBulkAll elems + uptoBulkAll spare + 1
  | .agg parts => uptoBulkAll parts + 1
  | .iface _ d => uptoBulk d + 1
  | .map entries => uptoBulkEntries entries + 1
  | .held _ => 1
def uptoBulkAll {H : Type} : List (DataW H) → Nat
  | [] => 0
  | d :: r => uptoBulk d + uptoBulkAll r
def uptoBulkEntries {H : Type} : List (Lit × DataW H) → Nat
  | [] => 0
  | x :: r => uptoBulkEntry x + uptoBulkEntries r
def uptoBulkEntry {H : Type} : Lit × DataW H → Nat
  | (.string bytes, d) => bytes.length + uptoBulk d + 1
  | (_, d) => uptoBulk d + 1
 end
def uptoSmall : (H : Type) → List (DataW H) → Bool := fun _ ds => decide (uptoBulkAll ds ≤ 1048576)
def OpenSpec.upto (s : _root_.Go.ChangeSpec) : _root_.Go.OpenSpec := { _root_.Go.OpenSpec.ofChange s with cond := some uptoSmall }

/-- 'penfoldlaw10.FinAll', WHERE WHAT IT READS IS OF BULK AT MOST 1048576: true; the input reads as it did. -/
def finAllUptoRow : OpenClaim := { program := "ytapbhcpcechccaa", sum := "d2a05a007ff37b99367e1106d77672580962c4e981d2a5db87367543ff391953", func := "penfold/penfoldlaw10.FinAll", spec := "finAll", unfollowed := true, recurses := true, apart := false, narrowed := true }
def FinAllUptoSaid : Prop := finAllUptoRow.holds Try.pinned (OpenSpec.upto finAllSpec)

/-- 'penfoldlaw10.FinKeeps', WHERE WHAT IT READS IS OF BULK AT MOST 1048576: true; the input reads as it did. -/
def finKeepsUptoRow : OpenClaim := { program := "ytapbhcpcechccaa", sum := "d2a05a007ff37b99367e1106d77672580962c4e981d2a5db87367543ff391953", func := "penfold/penfoldlaw10.FinKeeps", spec := "finKeeps", unfollowed := true, recurses := true, apart := false, narrowed := true }
def FinKeepsUptoSaid : Prop := finKeepsUptoRow.holds Try.pinned (OpenSpec.upto finKeepsSpec)

/-- 'penfoldlaw10.FinParts', WHERE WHAT IT READS IS OF BULK AT MOST 1048576: true; the input reads as it did. -/
def finPartsUptoRow : OpenClaim := { program := "ytapbhcpcechccaa", sum := "d2a05a007ff37b99367e1106d77672580962c4e981d2a5db87367543ff391953", func := "penfold/penfoldlaw10.FinParts", spec := "finParts", unfollowed := true, recurses := true, apart := false, narrowed := true }
def FinPartsUptoSaid : Prop := finPartsUptoRow.holds Try.pinned (OpenSpec.upto finPartsSpec)

/-- 'penfoldlaw10.FinSkips', WHERE WHAT IT READS IS OF BULK AT MOST 1048576: true; the input reads as it did. -/
def finSkipsUptoRow : OpenClaim := { program := "ytapbhcpcechccaa", sum := "d2a05a007ff37b99367e1106d77672580962c4e981d2a5db87367543ff391953", func := "penfold/penfoldlaw10.FinSkips", spec := "finSkips", unfollowed := true, recurses := true, apart := false, narrowed := true }
def FinSkipsUptoSaid : Prop := finSkipsUptoRow.holds Try.pinned (OpenSpec.upto finSkipsSpec)

/-- 'penfoldlaw10.FinJoins', WHERE WHAT IT READS IS OF BULK AT MOST 1048576: true; the input reads as it did. -/
def finJoinsUptoRow : OpenClaim := { program := "ytapbhcpcechccaa", sum := "d2a05a007ff37b99367e1106d77672580962c4e981d2a5db87367543ff391953", func := "penfold/penfoldlaw10.FinJoins", spec := "finJoins", unfollowed := true, recurses := true, apart := false, narrowed := true }
def FinJoinsUptoSaid : Prop := finJoinsUptoRow.holds Try.pinned (OpenSpec.upto finJoinsSpec)

end Rows
end Go.Proofs.Ytapbhcpcechccaa
