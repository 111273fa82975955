/-
  No cell of these rows narrows 'for every input' (looked for: loops, veiled, ifaces, maps, wideKeys, modest, calm, conditions, laid).
  DERIVED. THE GIVEN ROWS OF THIS SEAT. 6 by the template 'for every input the law returns true; each argument reads behind the call as it read before'; 0 by the template 'total and deterministic' (their statements: YtmmddkddjiodbaaTotals.lean).
  GIVEN WITH THE SEED: the statements are not yours to turn. If you find one false, say at which input.
  Laid BY PROGRAM, IN A SANDBOX (cutbox-rows.mjs): the forced cells as the released guide's own fill.sh prints them over the translation 672cdb25d19045f8… (all of the seat's roots in one cut). By AI agents, Wed Nov 11 2026. No macro, syntax, notation, axiom, sorry.
-/
import Derived.Test.YtmmddkddjiodbaaChecked
import GoSem.Claim
import GoSem.ClaimJoined
import GoSem.ClaimMapViews
import Derived.JoinedTies
import Derived.KernelRfl
namespace Go.Proofs.Ytmmddkddjiodbaa
/- THE CELL 'sum', in the pinned program and in every row, IS THE sha256 OF THE DUMP (.gsa) THAT YtmmddkddjiodbaaProg.lean LOADS. Nothing in Lean hashes anything: it is a label: what it is worth is what the hold of that sum in a sandbox is worth. -/
noncomputable def Try.pinned : Pinned := { name := "ytmmddkddjiodbaa", sum := "672cdb25d19045f8d85759e8df4364527bf9aafe87b726df193fc8e9f14feb4f", checked := Try.checked }
namespace Rows
def none {H : Type} : Left H := { results := [], args := [] }

/-- 'daisychainlaw11.EntryDoes': WHATEVER THE INPUT: true; the input reads as it did. -/
def entryDoesSpec : ChangeSpec := { name := "entryDoes", fn := fun _ => fun
  | [d1, d2, d3] => { results := [.lit (.bool true)], args := [d1, d2, d3] }
  | _ => none }
def entryDoesRow : OpenClaim := { program := "ytmmddkddjiodbaa", sum := "672cdb25d19045f8d85759e8df4364527bf9aafe87b726df193fc8e9f14feb4f", func := "daisychain/daisychainlaw11.EntryDoes", spec := "entryDoes", apart := false }
def EntryDoesSaid : Prop := entryDoesRow.holds Try.pinned (OpenSpec.ofChange entryDoesSpec)

/-- ITS FALSE NEIGHBOUR: 'it returns false'. Refute it at one input. -/
def entryDoesWrong : ChangeSpec := { name := "entryDoes", fn := fun _ => fun
  | [d1, d2, d3] => { results := [.lit (.bool false)], args := [d1, d2, d3] }
  | _ => none }
def EntryDoesWrongFalsely : Prop := entryDoesRow.holds Try.pinned (OpenSpec.ofChange entryDoesWrong)

/-- 'daisychainlaw11.EntryFrom': WHATEVER THE INPUT: true; the input reads as it did. -/
def entryFromSpec : ChangeSpec := { name := "entryFrom", fn := fun _ => fun
  | [d1, d2, d3, d4] => { results := [.lit (.bool true)], args := [d1, d2, d3, d4] }
  | _ => none }
def entryFromRow : OpenClaim := { program := "ytmmddkddjiodbaa", sum := "672cdb25d19045f8d85759e8df4364527bf9aafe87b726df193fc8e9f14feb4f", func := "daisychain/daisychainlaw11.EntryFrom", spec := "entryFrom", apart := false }
def EntryFromSaid : Prop := entryFromRow.holds Try.pinned (OpenSpec.ofChange entryFromSpec)

/-- ITS FALSE NEIGHBOUR: 'it returns false'. Refute it at one input. -/
def entryFromWrong : ChangeSpec := { name := "entryFrom", fn := fun _ => fun
  | [d1, d2, d3, d4] => { results := [.lit (.bool false)], args := [d1, d2, d3, d4] }
  | _ => none }
def EntryFromWrongFalsely : Prop := entryFromRow.holds Try.pinned (OpenSpec.ofChange entryFromWrong)

/-- 'daisychainlaw11.EntryNewer': WHATEVER THE INPUT: true; the input reads as it did. -/
def entryNewerSpec : ChangeSpec := { name := "entryNewer", fn := fun _ => fun
  | [d1, d2, d3, d4] => { results := [.lit (.bool true)], args := [d1, d2, d3, d4] }
  | _ => none }
def entryNewerRow : OpenClaim := { program := "ytmmddkddjiodbaa", sum := "672cdb25d19045f8d85759e8df4364527bf9aafe87b726df193fc8e9f14feb4f", func := "daisychain/daisychainlaw11.EntryNewer", spec := "entryNewer", apart := false }
def EntryNewerSaid : Prop := entryNewerRow.holds Try.pinned (OpenSpec.ofChange entryNewerSpec)

/-- ITS FALSE NEIGHBOUR: 'it returns false'. Refute it at one input. -/
def entryNewerWrong : ChangeSpec := { name := "entryNewer", fn := fun _ => fun
  | [d1, d2, d3, d4] => { results := [.lit (.bool false)], args := [d1, d2, d3, d4] }
  | _ => none }
def EntryNewerWrongFalsely : Prop := entryNewerRow.holds Try.pinned (OpenSpec.ofChange entryNewerWrong)

/-- 'daisychainlaw11.EntryMatches': WHATEVER THE INPUT: true; the input reads as it did. -/
def entryMatchesSpec : ChangeSpec := { name := "entryMatches", fn := fun _ => fun
  | [d1, d2, d3] => { results := [.lit (.bool true)], args := [d1, d2, d3] }
  | _ => none }
def entryMatchesRow : OpenClaim := { program := "ytmmddkddjiodbaa", sum := "672cdb25d19045f8d85759e8df4364527bf9aafe87b726df193fc8e9f14feb4f", func := "daisychain/daisychainlaw11.EntryMatches", spec := "entryMatches", apart := false }
def EntryMatchesSaid : Prop := entryMatchesRow.holds Try.pinned (OpenSpec.ofChange entryMatchesSpec)

/-- ITS FALSE NEIGHBOUR: 'it returns false'. Refute it at one input. -/
def entryMatchesWrong : ChangeSpec := { name := "entryMatches", fn := fun _ => fun
  | [d1, d2, d3] => { results := [.lit (.bool false)], args := [d1, d2, d3] }
  | _ => none }
def EntryMatchesWrongFalsely : Prop := entryMatchesRow.holds Try.pinned (OpenSpec.ofChange entryMatchesWrong)

/-- 'daisychainlaw11.EntryAdds': WHATEVER THE INPUT: true; the input reads as it did. -/
def entryAddsSpec : ChangeSpec := { name := "entryAdds", fn := fun _ => fun
  | [d1, d2] => { results := [.lit (.bool true)], args := [d1, d2] }
  | _ => none }
def entryAddsRow : OpenClaim := { program := "ytmmddkddjiodbaa", sum := "672cdb25d19045f8d85759e8df4364527bf9aafe87b726df193fc8e9f14feb4f", func := "daisychain/daisychainlaw11.EntryAdds", spec := "entryAdds", apart := false }
def EntryAddsSaid : Prop := entryAddsRow.holds Try.pinned (OpenSpec.ofChange entryAddsSpec)

/-- ITS FALSE NEIGHBOUR: 'it returns false'. Refute it at one input. -/
def entryAddsWrong : ChangeSpec := { name := "entryAdds", fn := fun _ => fun
  | [d1, d2] => { results := [.lit (.bool false)], args := [d1, d2] }
  | _ => none }
def EntryAddsWrongFalsely : Prop := entryAddsRow.holds Try.pinned (OpenSpec.ofChange entryAddsWrong)

/-- 'daisychainlaw11.EntryCopies': WHATEVER THE INPUT: true; the input reads as it did. -/
def entryCopiesSpec : ChangeSpec := { name := "entryCopies", fn := fun _ => fun
  | [d1, d2] => { results := [.lit (.bool true)], args := [d1, d2] }
  | _ => none }
def entryCopiesRow : OpenClaim := { program := "ytmmddkddjiodbaa", sum := "672cdb25d19045f8d85759e8df4364527bf9aafe87b726df193fc8e9f14feb4f", func := "daisychain/daisychainlaw11.EntryCopies", spec := "entryCopies", apart := false }
def EntryCopiesSaid : Prop := entryCopiesRow.holds Try.pinned (OpenSpec.ofChange entryCopiesSpec)

/-- ITS FALSE NEIGHBOUR: 'it returns false'. Refute it at one input. -/
def entryCopiesWrong : ChangeSpec := { name := "entryCopies", fn := fun _ => fun
  | [d1, d2] => { results := [.lit (.bool false)], args := [d1, d2] }
  | _ => none }
def EntryCopiesWrongFalsely : Prop := entryCopiesRow.holds Try.pinned (OpenSpec.ofChange entryCopiesWrong)

/- THE SECOND FORM. 'bulk': how many values and letters a reading holds, each counted each time it is reached (what is shared counts as often as it is met; a slice's spare places count too). A statement '..UptoSaid' is the law's where the arguments, and the package variables that the reading takes, are together of bulk at most 1048576: NARROWER than '..Said'. Prove '..Said' where nothing that the law and all that it calls make is longer than what came in: it says more and counts as full. Else prove '..UptoSaid'. A law counts once. -/
mutual
def uptoBulk {H : Type} : DataW H → Nat
  | .lit (.string bytes) => bytes.length + 1
  | .lit _ => 1
  | .nil => 1
  | .ptr d => uptoBulk d + 1
  | .slice elems spare => uptoBulkAll elems + uptoBulkAll spare + 1
  | .agg parts => uptoBulkAll parts + 1
  | .iface _ d => uptoBulk d + 1
  | .map entries => uptoBulkEntries entries + 1
  | .held _ => 1
def uptoBulkAll {H : Type} : List (DataW H) → Nat
  | [] => 0
  | d :: r => uptoBulk d + uptoBulkAll r
def uptoBulkEntries {H : Type} : List (Lit × DataW H) → Nat
  | [] => 0
  | x :: r => uptoBulkEntry x + uptoBulkEntries r
def uptoBulkEntry {H : Type} : Lit × DataW H → Nat
  | (.string bytes, d) => bytes.length + uptoBulk d + 1
  | (_, d) => uptoBulk d + 1
 end
def uptoSmall : (H : Type) → List (DataW H) → Bool := fun _ ds => decide (uptoBulkAll ds ≤ 1048576)
def OpenSpec.upto (s : _root_.Go.ChangeSpec) : _root_.Go.OpenSpec := { _root_.Go.OpenSpec.ofChange s with cond := some uptoSmall }

/-- 'daisychainlaw11.EntryDoes', WHERE WHAT IT READS IS OF BULK AT MOST 1048576: true; the input reads as it did. -/
def entryDoesUptoRow : OpenClaim := { program := "ytmmddkddjiodbaa", sum := "672cdb25d19045f8d85759e8df4364527bf9aafe87b726df193fc8e9f14feb4f", func := "daisychain/daisychainlaw11.EntryDoes", spec := "entryDoes", apart := false, narrowed := true }
def EntryDoesUptoSaid : Prop := entryDoesUptoRow.holds Try.pinned (OpenSpec.upto entryDoesSpec)

/-- 'daisychainlaw11.EntryFrom', WHERE WHAT IT READS IS OF BULK AT MOST 1048576: true; the input reads as it did. -/
def entryFromUptoRow : OpenClaim := { program := "ytmmddkddjiodbaa", sum := "672cdb25d19045f8d85759e8df4364527bf9aafe87b726df193fc8e9f14feb4f", func := "daisychain/daisychainlaw11.EntryFrom", spec := "entryFrom", apart := false, narrowed := true }
def EntryFromUptoSaid : Prop := entryFromUptoRow.holds Try.pinned (OpenSpec.upto entryFromSpec)

/-- 'daisychainlaw11.EntryNewer', WHERE WHAT IT READS IS OF BULK AT MOST 1048576: true; the input reads as it did. -/
def entryNewerUptoRow : OpenClaim := { program := "ytmmddkddjiodbaa", sum := "672cdb25d19045f8d85759e8df4364527bf9aafe87b726df193fc8e9f14feb4f", func := "daisychain/daisychainlaw11.EntryNewer", spec := "entryNewer", apart := false, narrowed := true }
def EntryNewerUptoSaid : Prop := entryNewerUptoRow.holds Try.pinned (OpenSpec.upto entryNewerSpec)

/-- 'daisychainlaw11.EntryMatches', WHERE WHAT IT READS IS OF BULK AT MOST 1048576: true; the input reads as it did. -/
def entryMatchesUptoRow : OpenClaim := { program := "ytmmddkddjiodbaa", sum := "672cdb25d19045f8d85759e8df4364527bf9aafe87b726df193fc8e9f14feb4f", func := "daisychain/daisychainlaw11.EntryMatches", spec := "entryMatches", apart := false, narrowed := true }
def EntryMatchesUptoSaid : Prop := entryMatchesUptoRow.holds Try.pinned (OpenSpec.upto entryMatchesSpec)

/-- 'daisychainlaw11.EntryAdds', WHERE WHAT IT READS IS OF BULK AT MOST 1048576: true; the input reads as it did. -/
def entryAddsUptoRow : OpenClaim := { program := "ytmmddkddjiodbaa", sum := "672cdb25d19045f8d85759e8df4364527bf9aafe87b726df193fc8e9f14feb4f", func := "daisychain/daisychainlaw11.EntryAdds", spec := "entryAdds", apart := false, narrowed := true }
def EntryAddsUptoSaid : Prop := entryAddsUptoRow.holds Try.pinned (OpenSpec.upto entryAddsSpec)

/-- 'daisychainlaw11.EntryCopies', WHERE WHAT IT READS IS OF BULK AT MOST 1048576: true; the input reads as it did. -/
def entryCopiesUptoRow : OpenClaim := { program := "ytmmddkddjiodbaa", sum := "672cdb25d19045f8d85759e8df4364527bf9aafe87b726df193fc8e9f14feb4f", func := "daisychain/daisychainlaw11.EntryCopies", spec := "entryCopies", apart := false, narrowed := true }
def EntryCopiesUptoSaid : Prop := entryCopiesUptoRow.holds Try.pinned (OpenSpec.upto entryCopiesSpec)

end Rows
end Go.Proofs.Ytmmddkddjiodbaa
