/-
  No cell of these rows narrows 'for every input' (looked for: loops, veiled, ifaces, maps, wideKeys, modest, calm, conditions, laid).
  DERIVED. THE GIVEN ROWS OF THIS SEAT. 5 by the template 'for every input the law returns true; each argument reads behind the call as it read before'; 0 by the template 'total and deterministic' (their statements: YtbbedeelomfanaaTotals.lean).
  GIVEN WITH THE SEED: the statements are not yours to turn. If you find one false, say at which input.
  Laid BY PROGRAM, IN A SANDBOX (cutbox-rows.mjs): the forced cells as the released guide's own fill.sh prints them over the translation f84091ae5b8aa64b… (all of the seat's roots in one cut). By AI agents, Wed Nov 11 2026. No macro, syntax, notation, axiom, sorry.
-/
import Derived.Test.YtbbedeelomfanaaChecked
import GoSem.Claim
import GoSem.ClaimJoined
import GoSem.ClaimMapViews
import Derived.JoinedTies
import Derived.KernelRfl
namespace Go.Proofs.Ytbbedeelomfanaa
/- THE CELL 'sum', in the pinned program and in every row, IS THE sha256 OF THE DUMP (.gsa) THAT YtbbedeelomfanaaProg.lean LOADS. Nothing in Lean hashes anything: it is a label: what it is worth is what the hold of that sum in a sandbox is worth. -/
noncomputable def Try.pinned : Pinned := { name := "ytbbedeelomfanaa", sum := "f84091ae5b8aa64b0b01a1e5e40d4667c0eba18f4069ff667c2e67debcecc5aa", checked := Try.checked }
namespace Rows
def none {H : Type} : Left H := { results := [], args := [] }

/-- 'penfoldlaw06.RefAll': WHATEVER THE INPUT: true; the input reads as it did. -/
def refAllSpec : ChangeSpec := { name := "refAll", fn := fun _ => fun
  | [d1, d2] => { results := [.lit (.bool true)], args := [d1, d2] }
  | _ => none }
def refAllRow : OpenClaim := { program := "ytbbedeelomfanaa", sum := "f84091ae5b8aa64b0b01a1e5e40d4667c0eba18f4069ff667c2e67debcecc5aa", func := "penfold/penfoldlaw06.RefAll", spec := "refAll", apart := false }
def RefAllSaid : Prop := refAllRow.holds Try.pinned (OpenSpec.ofChange refAllSpec)

/-- ITS FALSE NEIGHBOUR: 'it returns false'. Refute it at one input. -/
def refAllWrong : ChangeSpec := { name := "refAll", fn := fun _ => fun
  | [d1, d2] => { results := [.lit (.bool false)], args := [d1, d2] }
  | _ => none }
def RefAllWrongFalsely : Prop := refAllRow.holds Try.pinned (OpenSpec.ofChange refAllWrong)

/-- 'penfoldlaw06.RefBack': WHATEVER THE INPUT: true; the input reads as it did. -/
def refBackSpec : ChangeSpec := { name := "refBack", fn := fun _ => fun
  | [d1, d2, d3] => { results := [.lit (.bool true)], args := [d1, d2, d3] }
  | _ => none }
def refBackRow : OpenClaim := { program := "ytbbedeelomfanaa", sum := "f84091ae5b8aa64b0b01a1e5e40d4667c0eba18f4069ff667c2e67debcecc5aa", func := "penfold/penfoldlaw06.RefBack", spec := "refBack", apart := false }
def RefBackSaid : Prop := refBackRow.holds Try.pinned (OpenSpec.ofChange refBackSpec)

/-- ITS FALSE NEIGHBOUR: 'it returns false'. Refute it at one input. -/
def refBackWrong : ChangeSpec := { name := "refBack", fn := fun _ => fun
  | [d1, d2, d3] => { results := [.lit (.bool false)], args := [d1, d2, d3] }
  | _ => none }
def RefBackWrongFalsely : Prop := refBackRow.holds Try.pinned (OpenSpec.ofChange refBackWrong)

/-- 'penfoldlaw06.RefWalks': WHATEVER THE INPUT: true; the input reads as it did. -/
def refWalksSpec : ChangeSpec := { name := "refWalks", fn := fun _ => fun
  | [d1, d2] => { results := [.lit (.bool true)], args := [d1, d2] }
  | _ => none }
def refWalksRow : OpenClaim := { program := "ytbbedeelomfanaa", sum := "f84091ae5b8aa64b0b01a1e5e40d4667c0eba18f4069ff667c2e67debcecc5aa", func := "penfold/penfoldlaw06.RefWalks", spec := "refWalks", apart := false }
def RefWalksSaid : Prop := refWalksRow.holds Try.pinned (OpenSpec.ofChange refWalksSpec)

/-- ITS FALSE NEIGHBOUR: 'it returns false'. Refute it at one input. -/
def refWalksWrong : ChangeSpec := { name := "refWalks", fn := fun _ => fun
  | [d1, d2] => { results := [.lit (.bool false)], args := [d1, d2] }
  | _ => none }
def RefWalksWrongFalsely : Prop := refWalksRow.holds Try.pinned (OpenSpec.ofChange refWalksWrong)

/-- 'penfoldlaw06.RefParts': WHATEVER THE INPUT: true; the input reads as it did. -/
def refPartsSpec : ChangeSpec := { name := "refParts", fn := fun _ => fun
  | [d1, d2] => { results := [.lit (.bool true)], args := [d1, d2] }
  | _ => none }
def refPartsRow : OpenClaim := { program := "ytbbedeelomfanaa", sum := "f84091ae5b8aa64b0b01a1e5e40d4667c0eba18f4069ff667c2e67debcecc5aa", func := "penfold/penfoldlaw06.RefParts", spec := "refParts", apart := false }
def RefPartsSaid : Prop := refPartsRow.holds Try.pinned (OpenSpec.ofChange refPartsSpec)

/-- ITS FALSE NEIGHBOUR: 'it returns false'. Refute it at one input. -/
def refPartsWrong : ChangeSpec := { name := "refParts", fn := fun _ => fun
  | [d1, d2] => { results := [.lit (.bool false)], args := [d1, d2] }
  | _ => none }
def RefPartsWrongFalsely : Prop := refPartsRow.holds Try.pinned (OpenSpec.ofChange refPartsWrong)

/-- 'penfoldlaw06.RefTurns': WHATEVER THE INPUT: true; the input reads as it did. -/
def refTurnsSpec : ChangeSpec := { name := "refTurns", fn := fun _ => fun
  | [d1, d2] => { results := [.lit (.bool true)], args := [d1, d2] }
  | _ => none }
def refTurnsRow : OpenClaim := { program := "ytbbedeelomfanaa", sum := "f84091ae5b8aa64b0b01a1e5e40d4667c0eba18f4069ff667c2e67debcecc5aa", func := "penfold/penfoldlaw06.RefTurns", spec := "refTurns", apart := false }
def RefTurnsSaid : Prop := refTurnsRow.holds Try.pinned (OpenSpec.ofChange refTurnsSpec)

/-- ITS FALSE NEIGHBOUR: 'it returns false'. Refute it at one input. -/
def refTurnsWrong : ChangeSpec := { name := "refTurns", fn := fun _ => fun
  | [d1, d2] => { results := [.lit (.bool false)], args := [d1, d2] }
  | _ => none }
def RefTurnsWrongFalsely : Prop := refTurnsRow.holds Try.pinned (OpenSpec.ofChange refTurnsWrong)

/- THE SECOND FORM. 'bulk': how many values and letters a reading holds, each counted each time it is reached (what is shared counts as often as it is met; a slice's spare places count too). A statement '..UptoSaid' is the law's where the arguments, and the package variables that the reading takes, are together of bulk at most 1048576: NARROWER than '..Said'. Prove '..Said' where nothing that the law and all that it calls make is longer than what came in: it says more and counts as full. Else prove '..UptoSaid'. A law counts once. -/
mutual
def uptoBulk {H : Type} : DataW H → Nat
  | .lit (.string bytes) => bytes.length + 1
  | .lit _ => 1
  | .nil => 1
  | .ptr d => uptoBulk d + 1
  | .slice elems spare => uptoBulkAll elems + uptoBulkAll spare + 1
  | .agg parts => uptoBulkAll parts + 1
  | .iface _ d => uptoBulk d + 1
  | .map entries => uptoBulkEntries entries + 1
  | .held _ => 1
def uptoBulkAll {H : Type} : List (DataW H) → Nat
  | [] => 0
  | d :: r => uptoBulk d + uptoBulkAll r
def uptoBulkEntries {H : Type} : List (Lit × DataW H) → Nat
  | [] => 0
  | x :: r => uptoBulkEntry x + uptoBulkEntries r
def uptoBulkEntry {H : Type} : Lit × DataW H → Nat
  | (.string bytes, d) => bytes.length + uptoBulk d + 1
  | (_, d) => uptoBulk d + 1
 end
def uptoSmall : (H : Type) → List (DataW H) → Bool := fun _ ds => decide (uptoBulkAll ds ≤ 1048576)
def OpenSpec.upto (s : _root_.Go.ChangeSpec) : _root_.Go.OpenSpec := { _root_.Go.OpenSpec.ofChange s with cond := some uptoSmall }

/-- 'penfoldlaw06.RefAll', WHERE WHAT IT READS IS OF BULK AT MOST 1048576: true; the input reads as it did. -/
def refAllUptoRow : OpenClaim := { program := "ytbbedeelomfanaa", sum := "f84091ae5b8aa64b0b01a1e5e40d4667c0eba18f4069ff667c2e67debcecc5aa", func := "penfold/penfoldlaw06.RefAll", spec := "refAll", apart := false, narrowed := true }
def RefAllUptoSaid : Prop := refAllUptoRow.holds Try.pinned (OpenSpec.upto refAllSpec)

/-- 'penfoldlaw06.RefBack', WHERE WHAT IT READS IS OF BULK AT MOST 1048576: true; the input reads as it did. -/
def refBackUptoRow : OpenClaim := { program := "ytbbedeelomfanaa", sum := "f84091ae5b8aa64b0b01a1e5e40d4667c0eba18f4069ff667c2e67debcecc5aa", func := "penfold/penfoldlaw06.RefBack", spec := "refBack", apart := false, narrowed := true }
def RefBackUptoSaid : Prop := refBackUptoRow.holds Try.pinned (OpenSpec.upto refBackSpec)

/-- 'penfoldlaw06.RefWalks', WHERE WHAT IT READS IS OF BULK AT MOST 1048576: true; the input reads as it did. -/
def refWalksUptoRow : OpenClaim := { program := "ytbbedeelomfanaa", sum := "f84091ae5b8aa64b0b01a1e5e40d4667c0eba18f4069ff667c2e67debcecc5aa", func := "penfold/penfoldlaw06.RefWalks", spec := "refWalks", apart := false, narrowed := true }
def RefWalksUptoSaid : Prop := refWalksUptoRow.holds Try.pinned (OpenSpec.upto refWalksSpec)

/-- 'penfoldlaw06.RefParts', WHERE WHAT IT READS IS OF BULK AT MOST 1048576: true; the input reads as it did. -/
def refPartsUptoRow : OpenClaim := { program := "ytbbedeelomfanaa", sum := "f84091ae5b8aa64b0b01a1e5e40d4667c0eba18f4069ff667c2e67debcecc5aa", func := "penfold/penfoldlaw06.RefParts", spec := "refParts", apart := false, narrowed := true }
def RefPartsUptoSaid : Prop := refPartsUptoRow.holds Try.pinned (OpenSpec.upto refPartsSpec)

/-- 'penfoldlaw06.RefTurns', WHERE WHAT IT READS IS OF BULK AT MOST 1048576: true; the input reads as it did. -/
def refTurnsUptoRow : OpenClaim := { program := "ytbbedeelomfanaa", sum := "f84091ae5b8aa64b0b01a1e5e40d4667c0eba18f4069ff667c2e67debcecc5aa", func := "penfold/penfoldlaw06.RefTurns", spec := "refTurns", apart := false, narrowed := true }
def RefTurnsUptoSaid : Prop := refTurnsUptoRow.holds Try.pinned (OpenSpec.upto refTurnsSpec)

end Rows
end Go.Proofs.Ytbbedeelomfanaa
