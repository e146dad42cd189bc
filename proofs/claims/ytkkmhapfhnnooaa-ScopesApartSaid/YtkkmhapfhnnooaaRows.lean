/-
  No cell of these rows narrows 'for every input' (looked for: loops, veiled, ifaces, maps, wideKeys, modest, calm, conditions, laid).
  DERIVED. THE GIVEN ROWS OF THIS SEAT. 7 by the template 'for every input the law returns true; each argument reads behind the call as it read before'; 0 by the template 'total and deterministic' (their statements: YtkkmhapfhnnooaaTotals.lean).
  GIVEN WITH THE SEED: the statements are not yours to turn. If you find one false, say at which input.
  Laid BY PROGRAM, IN A SANDBOX (cutbox-rows.mjs): the forced cells as the released guide's own fill.sh prints them over the translation 5315d2a47323ffb5… (all of the seat's roots in one cut). By AI agents, Wed Nov 11 2026. No macro, syntax, notation, axiom, sorry.
-/
import Derived.Test.YtkkmhapfhnnooaaChecked
import GoSem.Claim
import GoSem.ClaimJoined
import GoSem.ClaimMapViews
import Derived.JoinedTies
import Derived.KernelRfl
namespace Go.Proofs.Ytkkmhapfhnnooaa
/- THE CELL 'sum', in the pinned program and in every row, IS THE sha256 OF THE DUMP (.gsa) THAT YtkkmhapfhnnooaaProg.lean LOADS. Nothing in Lean hashes anything: it is a label: what it is worth is what the hold of that sum in a sandbox is worth. -/
noncomputable def Try.pinned : Pinned := { name := "ytkkmhapfhnnooaa", sum := "5315d2a47323ffb557e504525ffc99fb9e8a98c5ac1338faa65ea7ece82cf257", checked := Try.checked }
namespace Rows
def none {H : Type} : Left H := { results := [], args := [] }

/-- 'penfoldlaw11.ScopesPlays': WHATEVER THE INPUT: true; the input reads as it did. -/
def scopesPlaysSpec : ChangeSpec := { name := "scopesPlays", fn := fun _ => fun
  | [d1, d2] => { results := [.lit (.bool true)], args := [d1, d2] }
  | _ => none }
def scopesPlaysRow : OpenClaim := { program := "ytkkmhapfhnnooaa", sum := "5315d2a47323ffb557e504525ffc99fb9e8a98c5ac1338faa65ea7ece82cf257", func := "penfold/penfoldlaw11.ScopesPlays", spec := "scopesPlays", unfollowed := true, recurses := true, apart := false }
def ScopesPlaysSaid : Prop := scopesPlaysRow.holds Try.pinned (OpenSpec.ofChange scopesPlaysSpec)

/-- ITS FALSE NEIGHBOUR: 'it returns false'. Refute it at one input. -/
def scopesPlaysWrong : ChangeSpec := { name := "scopesPlays", fn := fun _ => fun
  | [d1, d2] => { results := [.lit (.bool false)], args := [d1, d2] }
  | _ => none }
def ScopesPlaysWrongFalsely : Prop := scopesPlaysRow.holds Try.pinned (OpenSpec.ofChange scopesPlaysWrong)

/-- 'penfoldlaw11.ScopesApart': WHATEVER THE INPUT: true; the input reads as it did. -/
def scopesApartSpec : ChangeSpec := { name := "scopesApart", fn := fun _ => fun
  | [d1, d2] => { results := [.lit (.bool true)], args := [d1, d2] }
  | _ => none }
def scopesApartRow : OpenClaim := { program := "ytkkmhapfhnnooaa", sum := "5315d2a47323ffb557e504525ffc99fb9e8a98c5ac1338faa65ea7ece82cf257", func := "penfold/penfoldlaw11.ScopesApart", spec := "scopesApart", unfollowed := true, recurses := true, apart := false }
def ScopesApartSaid : Prop := scopesApartRow.holds Try.pinned (OpenSpec.ofChange scopesApartSpec)

/-- ITS FALSE NEIGHBOUR: 'it returns false'. Refute it at one input. -/
def scopesApartWrong : ChangeSpec := { name := "scopesApart", fn := fun _ => fun
  | [d1, d2] => { results := [.lit (.bool false)], args := [d1, d2] }
  | _ => none }
def ScopesApartWrongFalsely : Prop := scopesApartRow.holds Try.pinned (OpenSpec.ofChange scopesApartWrong)

/-- 'penfoldlaw11.ScopesOnce': WHATEVER THE INPUT: true; the input reads as it did. -/
def scopesOnceSpec : ChangeSpec := { name := "scopesOnce", fn := fun _ => fun
  | [d1, d2, d3] => { results := [.lit (.bool true)], args := [d1, d2, d3] }
  | _ => none }
def scopesOnceRow : OpenClaim := { program := "ytkkmhapfhnnooaa", sum := "5315d2a47323ffb557e504525ffc99fb9e8a98c5ac1338faa65ea7ece82cf257", func := "penfold/penfoldlaw11.ScopesOnce", spec := "scopesOnce", unfollowed := true, recurses := true, apart := false }
def ScopesOnceSaid : Prop := scopesOnceRow.holds Try.pinned (OpenSpec.ofChange scopesOnceSpec)

/-- ITS FALSE NEIGHBOUR: 'it returns false'. Refute it at one input. -/
def scopesOnceWrong : ChangeSpec := { name := "scopesOnce", fn := fun _ => fun
  | [d1, d2, d3] => { results := [.lit (.bool false)], args := [d1, d2, d3] }
  | _ => none }
def ScopesOnceWrongFalsely : Prop := scopesOnceRow.holds Try.pinned (OpenSpec.ofChange scopesOnceWrong)

/-- 'penfoldlaw11.ScopesLeast': WHATEVER THE INPUT: true; the input reads as it did. -/
def scopesLeastSpec : ChangeSpec := { name := "scopesLeast", fn := fun _ => fun
  | [d1, d2] => { results := [.lit (.bool true)], args := [d1, d2] }
  | _ => none }
def scopesLeastRow : OpenClaim := { program := "ytkkmhapfhnnooaa", sum := "5315d2a47323ffb557e504525ffc99fb9e8a98c5ac1338faa65ea7ece82cf257", func := "penfold/penfoldlaw11.ScopesLeast", spec := "scopesLeast", unfollowed := true, recurses := true, apart := false }
def ScopesLeastSaid : Prop := scopesLeastRow.holds Try.pinned (OpenSpec.ofChange scopesLeastSpec)

/-- ITS FALSE NEIGHBOUR: 'it returns false'. Refute it at one input. -/
def scopesLeastWrong : ChangeSpec := { name := "scopesLeast", fn := fun _ => fun
  | [d1, d2] => { results := [.lit (.bool false)], args := [d1, d2] }
  | _ => none }
def ScopesLeastWrongFalsely : Prop := scopesLeastRow.holds Try.pinned (OpenSpec.ofChange scopesLeastWrong)

/-- 'penfoldlaw11.ScopesRefuses': WHATEVER THE INPUT: true; the input reads as it did. -/
def scopesRefusesSpec : ChangeSpec := { name := "scopesRefuses", fn := fun _ => fun
  | [d1, d2] => { results := [.lit (.bool true)], args := [d1, d2] }
  | _ => none }
def scopesRefusesRow : OpenClaim := { program := "ytkkmhapfhnnooaa", sum := "5315d2a47323ffb557e504525ffc99fb9e8a98c5ac1338faa65ea7ece82cf257", func := "penfold/penfoldlaw11.ScopesRefuses", spec := "scopesRefuses", unfollowed := true, recurses := true, apart := false }
def ScopesRefusesSaid : Prop := scopesRefusesRow.holds Try.pinned (OpenSpec.ofChange scopesRefusesSpec)

/-- ITS FALSE NEIGHBOUR: 'it returns false'. Refute it at one input. -/
def scopesRefusesWrong : ChangeSpec := { name := "scopesRefuses", fn := fun _ => fun
  | [d1, d2] => { results := [.lit (.bool false)], args := [d1, d2] }
  | _ => none }
def ScopesRefusesWrongFalsely : Prop := scopesRefusesRow.holds Try.pinned (OpenSpec.ofChange scopesRefusesWrong)

/-- 'penfoldlaw11.ScopesLife': WHATEVER THE INPUT: true; the input reads as it did. -/
def scopesLifeSpec : ChangeSpec := { name := "scopesLife", fn := fun _ => fun
  | [d1, d2] => { results := [.lit (.bool true)], args := [d1, d2] }
  | _ => none }
def scopesLifeRow : OpenClaim := { program := "ytkkmhapfhnnooaa", sum := "5315d2a47323ffb557e504525ffc99fb9e8a98c5ac1338faa65ea7ece82cf257", func := "penfold/penfoldlaw11.ScopesLife", spec := "scopesLife", unfollowed := true, recurses := true, apart := false }
def ScopesLifeSaid : Prop := scopesLifeRow.holds Try.pinned (OpenSpec.ofChange scopesLifeSpec)

/-- ITS FALSE NEIGHBOUR: 'it returns false'. Refute it at one input. -/
def scopesLifeWrong : ChangeSpec := { name := "scopesLife", fn := fun _ => fun
  | [d1, d2] => { results := [.lit (.bool false)], args := [d1, d2] }
  | _ => none }
def ScopesLifeWrongFalsely : Prop := scopesLifeRow.holds Try.pinned (OpenSpec.ofChange scopesLifeWrong)

/-- 'penfoldlaw11.ScopesSame': WHATEVER THE INPUT: true; the input reads as it did. -/
def scopesSameSpec : ChangeSpec := { name := "scopesSame", fn := fun _ => fun
  | [d1, d2] => { results := [.lit (.bool true)], args := [d1, d2] }
  | _ => none }
def scopesSameRow : OpenClaim := { program := "ytkkmhapfhnnooaa", sum := "5315d2a47323ffb557e504525ffc99fb9e8a98c5ac1338faa65ea7ece82cf257", func := "penfold/penfoldlaw11.ScopesSame", spec := "scopesSame", unfollowed := true, recurses := true, apart := false }
def ScopesSameSaid : Prop := scopesSameRow.holds Try.pinned (OpenSpec.ofChange scopesSameSpec)

/-- ITS FALSE NEIGHBOUR: 'it returns false'. Refute it at one input. -/
def scopesSameWrong : ChangeSpec := { name := "scopesSame", fn := fun _ => fun
  | [d1, d2] => { results := [.lit (.bool false)], args := [d1, d2] }
  | _ => none }
def ScopesSameWrongFalsely : Prop := scopesSameRow.holds Try.pinned (OpenSpec.ofChange scopesSameWrong)

/- THE SECOND FORM. 'bulk': how many values and letters a reading holds, each counted each time it is reached (what is shared counts as often as it is met; a slice's spare places count too). A statement '..UptoSaid' is the law's where the arguments, and the package variables that the reading takes, are together of bulk at most 1048576: NARROWER than '..Said'. Prove '..Said' where nothing that the law and all that it calls make is longer than what came in: it says more and counts as full. Else prove '..UptoSaid'. A law counts once. -/
mutual
def uptoBulk {H : Type} : DataW H → Nat
  | .lit (.string bytes) => bytes.length + 1
  | .lit _ => 1
  | .nil => 1
  | .ptr d => uptoBulk d + 1
  | .slice elems spare => uptoBulkAll elems + uptoBulkAll spare + 1
  | .agg parts => uptoBulkAll parts + 1
  | .iface _ d => uptoBulk d + 1
  | .map entries => uptoBulkEntries entries + 1
  | .held _ => 1
def uptoBulkAll {H : Type} : List (DataW H) → Nat
  | [] => 0
  | d :: r => uptoBulk d + uptoBulkAll r
def uptoBulkEntries {H : Type} : List (Lit × DataW H) → Nat
  | [] => 0
  | x :: r => uptoBulkEntry x + uptoBulkEntries r
def uptoBulkEntry {H : Type} : Lit × DataW H → Nat
  | (.string bytes, d) => bytes.length + uptoBulk d + 1
  | (_, d) => uptoBulk d + 1
 end
def uptoSmall : (H : Type) → List (DataW H) → Bool := fun _ ds => decide (uptoBulkAll ds ≤ 1048576)
def OpenSpec.upto (s : _root_.Go.ChangeSpec) : _root_.Go.OpenSpec := { _root_.Go.OpenSpec.ofChange s with cond := some uptoSmall }

/-- 'penfoldlaw11.ScopesPlays', WHERE WHAT IT READS IS OF BULK AT MOST 1048576: true; the input reads as it did. -/
def scopesPlaysUptoRow : OpenClaim := { program := "ytkkmhapfhnnooaa", sum := "5315d2a47323ffb557e504525ffc99fb9e8a98c5ac1338faa65ea7ece82cf257", func := "penfold/penfoldlaw11.ScopesPlays", spec := "scopesPlays", unfollowed := true, recurses := true, apart := false, narrowed := true }
def ScopesPlaysUptoSaid : Prop := scopesPlaysUptoRow.holds Try.pinned (OpenSpec.upto scopesPlaysSpec)

/-- 'penfoldlaw11.ScopesApart', WHERE WHAT IT READS IS OF BULK AT MOST 1048576: true; the input reads as it did. -/
def scopesApartUptoRow : OpenClaim := { program := "ytkkmhapfhnnooaa", sum := "5315d2a47323ffb557e504525ffc99fb9e8a98c5ac1338faa65ea7ece82cf257", func := "penfold/penfoldlaw11.ScopesApart", spec := "scopesApart", unfollowed := true, recurses := true, apart := false, narrowed := true }
def ScopesApartUptoSaid : Prop := scopesApartUptoRow.holds Try.pinned (OpenSpec.upto scopesApartSpec)

/-- 'penfoldlaw11.ScopesOnce', WHERE WHAT IT READS IS OF BULK AT MOST 1048576: true; the input reads as it did. -/
def scopesOnceUptoRow : OpenClaim := { program := "ytkkmhapfhnnooaa", sum := "5315d2a47323ffb557e504525ffc99fb9e8a98c5ac1338faa65ea7ece82cf257", func := "penfold/penfoldlaw11.ScopesOnce", spec := "scopesOnce", unfollowed := true, recurses := true, apart := false, narrowed := true }
def ScopesOnceUptoSaid : Prop := scopesOnceUptoRow.holds Try.pinned (OpenSpec.upto scopesOnceSpec)

/-- 'penfoldlaw11.ScopesLeast', WHERE WHAT IT READS IS OF BULK AT MOST 1048576: true; the input reads as it did. -/
def scopesLeastUptoRow : OpenClaim := { program := "ytkkmhapfhnnooaa", sum := "5315d2a47323ffb557e504525ffc99fb9e8a98c5ac1338faa65ea7ece82cf257", func := "penfold/penfoldlaw11.ScopesLeast", spec := "scopesLeast", unfollowed := true, recurses := true, apart := false, narrowed := true }
def ScopesLeastUptoSaid : Prop := scopesLeastUptoRow.holds Try.pinned (OpenSpec.upto scopesLeastSpec)

/-- 'penfoldlaw11.ScopesRefuses', WHERE WHAT IT READS IS OF BULK AT MOST 1048576: true; the input reads as it did. -/
def scopesRefusesUptoRow : OpenClaim := { program := "ytkkmhapfhnnooaa", sum := "5315d2a47323ffb557e504525ffc99fb9e8a98c5ac1338faa65ea7ece82cf257", func := "penfold/penfoldlaw11.ScopesRefuses", spec := "scopesRefuses", unfollowed := true, recurses := true, apart := false, narrowed := true }
def ScopesRefusesUptoSaid : Prop := scopesRefusesUptoRow.holds Try.pinned (OpenSpec.upto scopesRefusesSpec)

/-- 'penfoldlaw11.ScopesLife', WHERE WHAT IT READS IS OF BULK AT MOST 1048576: true; the input reads as it did. -/
def scopesLifeUptoRow : OpenClaim := { program := "ytkkmhapfhnnooaa", sum := "5315d2a47323ffb557e504525ffc99fb9e8a98c5ac1338faa65ea7ece82cf257", func := "penfold/penfoldlaw11.ScopesLife", spec := "scopesLife", unfollowed := true, recurses := true, apart := false, narrowed := true }
def ScopesLifeUptoSaid : Prop := scopesLifeUptoRow.holds Try.pinned (OpenSpec.upto scopesLifeSpec)

/-- 'penfoldlaw11.ScopesSame', WHERE WHAT IT READS IS OF BULK AT MOST 1048576: true; the input reads as it did. -/
def scopesSameUptoRow : OpenClaim := { program := "ytkkmhapfhnnooaa", sum := "5315d2a47323ffb557e504525ffc99fb9e8a98c5ac1338faa65ea7ece82cf257", func := "penfold/penfoldlaw11.ScopesSame", spec := "scopesSame", unfollowed := true, recurses := true, apart := false, narrowed := true }
def ScopesSameUptoSaid : Prop := scopesSameUptoRow.holds Try.pinned (OpenSpec.upto scopesSameSpec)

end Rows
end Go.Proofs.Ytkkmhapfhnnooaa
