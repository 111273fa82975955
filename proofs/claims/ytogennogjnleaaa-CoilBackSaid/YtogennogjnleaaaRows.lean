/-
  No cell of these rows narrows 'for every input' (looked for: loops, veiled, ifaces, maps, wideKeys, modest, calm, conditions, laid).
  DERIVED. THE GIVEN ROWS OF THIS SEAT. 4 by the template 'for every input the law returns true; each argument reads behind the call as it read before'; 0 by the template 'total and deterministic' (their statements: YtogennogjnleaaaTotals.lean).
  GIVEN WITH THE SEED: the statements are not yours to turn. If you find one false, say at which input.
  Laid BY PROGRAM, IN A SANDBOX (cutbox-rows.mjs): the forced cells as the released guide's own fill.sh prints them over the translation 98a190cc2e253654… (all of the seat's roots in one cut). By AI agents, Wed Nov 11 2026. No macro, syntax, notation, axiom, sorry.
-/
import Derived.Test.YtogennogjnleaaaChecked
import GoSem.Claim
import GoSem.ClaimJoined
import GoSem.ClaimMapViews
import Derived.JoinedTies
import Derived.KernelRfl
namespace Go.Proofs.Ytogennogjnleaaa
/- THE CELL 'sum', in the pinned program and in every row, IS THE sha256 OF THE DUMP (.gsa) THAT YtogennogjnleaaaProg.lean LOADS. Nothing in Lean hashes anything: it is a label: what it is worth is what the hold of that sum in a sandbox is worth. -/
noncomputable def Try.pinned : Pinned := { name := "ytogennogjnleaaa", sum := "98a190cc2e2536543429c1619beffb147dfb8e254a652b49f2ef3b18660c899f", checked := Try.checked }
namespace Rows
def none {H : Type} : Left H := { results := [], args := [] }

/-- 'daisychainlaw01.CoilWrites': WHATEVER THE INPUT: true; the input reads as it did. -/
def coilWritesSpec : ChangeSpec := { name := "coilWrites", fn := fun _ => fun
  | [d1, d2, d3, d4] => { results := [.lit (.bool true)], args := [d1, d2, d3, d4] }
  | _ => none }
def coilWritesRow : OpenClaim := { program := "ytogennogjnleaaa", sum := "98a190cc2e2536543429c1619beffb147dfb8e254a652b49f2ef3b18660c899f", func := "daisychain/daisychainlaw01.CoilWrites", spec := "coilWrites", unfollowed := true, recurses := true, apart := false }
def CoilWritesSaid : Prop := coilWritesRow.holds Try.pinned (OpenSpec.ofChange coilWritesSpec)

/-- ITS FALSE NEIGHBOUR: 'it returns false'. Refute it at one input. -/
def coilWritesWrong : ChangeSpec := { name := "coilWrites", fn := fun _ => fun
  | [d1, d2, d3, d4] => { results := [.lit (.bool false)], args := [d1, d2, d3, d4] }
  | _ => none }
def CoilWritesWrongFalsely : Prop := coilWritesRow.holds Try.pinned (OpenSpec.ofChange coilWritesWrong)

/-- 'daisychainlaw01.CoilBack': WHATEVER THE INPUT: true; the input reads as it did. -/
def coilBackSpec : ChangeSpec := { name := "coilBack", fn := fun _ => fun
  | [d1, d2, d3] => { results := [.lit (.bool true)], args := [d1, d2, d3] }
  | _ => none }
def coilBackRow : OpenClaim := { program := "ytogennogjnleaaa", sum := "98a190cc2e2536543429c1619beffb147dfb8e254a652b49f2ef3b18660c899f", func := "daisychain/daisychainlaw01.CoilBack", spec := "coilBack", unfollowed := true, recurses := true, apart := false }
def CoilBackSaid : Prop := coilBackRow.holds Try.pinned (OpenSpec.ofChange coilBackSpec)

/-- ITS FALSE NEIGHBOUR: 'it returns false'. Refute it at one input. -/
def coilBackWrong : ChangeSpec := { name := "coilBack", fn := fun _ => fun
  | [d1, d2, d3] => { results := [.lit (.bool false)], args := [d1, d2, d3] }
  | _ => none }
def CoilBackWrongFalsely : Prop := coilBackRow.holds Try.pinned (OpenSpec.ofChange coilBackWrong)

/-- 'daisychainlaw01.CoilApart': WHATEVER THE INPUT: true; the input reads as it did. -/
def coilApartSpec : ChangeSpec := { name := "coilApart", fn := fun _ => fun
  | [d1, d2, d3, d4] => { results := [.lit (.bool true)], args := [d1, d2, d3, d4] }
  | _ => none }
def coilApartRow : OpenClaim := { program := "ytogennogjnleaaa", sum := "98a190cc2e2536543429c1619beffb147dfb8e254a652b49f2ef3b18660c899f", func := "daisychain/daisychainlaw01.CoilApart", spec := "coilApart", unfollowed := true, recurses := true, apart := false }
def CoilApartSaid : Prop := coilApartRow.holds Try.pinned (OpenSpec.ofChange coilApartSpec)

/-- ITS FALSE NEIGHBOUR: 'it returns false'. Refute it at one input. -/
def coilApartWrong : ChangeSpec := { name := "coilApart", fn := fun _ => fun
  | [d1, d2, d3, d4] => { results := [.lit (.bool false)], args := [d1, d2, d3, d4] }
  | _ => none }
def CoilApartWrongFalsely : Prop := coilApartRow.holds Try.pinned (OpenSpec.ofChange coilApartWrong)

/-- 'daisychainlaw01.CoilRows': WHATEVER THE INPUT: true; the input reads as it did. -/
def coilRowsSpec : ChangeSpec := { name := "coilRows", fn := fun _ => fun
  | [d] => { results := [.lit (.bool true)], args := [d] }
  | _ => none }
def coilRowsRow : OpenClaim := { program := "ytogennogjnleaaa", sum := "98a190cc2e2536543429c1619beffb147dfb8e254a652b49f2ef3b18660c899f", func := "daisychain/daisychainlaw01.CoilRows", spec := "coilRows", unfollowed := true, recurses := true, apart := false }
def CoilRowsSaid : Prop := coilRowsRow.holds Try.pinned (OpenSpec.ofChange coilRowsSpec)

/-- ITS FALSE NEIGHBOUR: 'it returns false'. Refute it at one input. -/
def coilRowsWrong : ChangeSpec := { name := "coilRows", fn := fun _ => fun
  | [d] => { results := [.lit (.bool false)], args := [d] }
  | _ => none }
def CoilRowsWrongFalsely : Prop := coilRowsRow.holds Try.pinned (OpenSpec.ofChange coilRowsWrong)

/- THE SECOND FORM. 'bulk': how many values and letters a reading holds, each counted each time it is reached (what is shared counts as often as it is met; a slice's spare places count too). A statement '..UptoSaid' is the law's where the arguments, and the package variables that the reading takes, are together of bulk at most 1048576: NARROWER than '..Said'. Prove '..Said' where nothing that the law and all that it calls make is longer than what came in: it says more and counts as full. Else prove '..UptoSaid'. A law counts once. -/
mutual
def uptoBulk {H : Type} : DataW H → Nat
  | .lit (.string bytes) => bytes.length + 1
  | .lit _ => 1
  | .nil => 1
  | .ptr d => uptoBulk d + 1
  | .slice elems spare => uptoBulkAll elems + uptoBulkAll spare + 1
  | .agg parts => uptoBulkAll parts + 1
  | .iface _ d => uptoBulk d + 1
  | .map entries => uptoBulkEntries entries + 1
  | .held _ => 1
def uptoBulkAll {H : Type} : List (DataW H) → Nat
  | [] => 0
  | d :: r => uptoBulk d + uptoBulkAll r
def uptoBulkEntries {H : Type} : List (Lit × DataW H) → Nat
  | [] => 0
  | x :: r => uptoBulkEntry x + uptoBulkEntries r
def uptoBulkEntry {H : Type} : Lit × DataW H → Nat
  | (.string bytes, d) => bytes.length + uptoBulk d + 1
  | (_, d) => uptoBulk d + 1
 end
def uptoSmall : (H : Type) → List (DataW H) → Bool := fun _ ds => decide (uptoBulkAll ds ≤ 1048576)
def OpenSpec.upto (s : _root_.Go.ChangeSpec) : _root_.Go.OpenSpec := { _root_.Go.OpenSpec.ofChange s with cond := some uptoSmall }

/-- 'daisychainlaw01.CoilWrites', WHERE WHAT IT READS IS OF BULK AT MOST 1048576: true; the input reads as it did. -/
def coilWritesUptoRow : OpenClaim := { program := "ytogennogjnleaaa", sum := "98a190cc2e2536543429c1619beffb147dfb8e254a652b49f2ef3b18660c899f", func := "daisychain/daisychainlaw01.CoilWrites", spec := "coilWrites", unfollowed := true, recurses := true, apart := false, narrowed := true }
def CoilWritesUptoSaid : Prop := coilWritesUptoRow.holds Try.pinned (OpenSpec.upto coilWritesSpec)

/-- 'daisychainlaw01.CoilBack', WHERE WHAT IT READS IS OF BULK AT MOST 1048576: true; the input reads as it did. -/
def coilBackUptoRow : OpenClaim := { program := "ytogennogjnleaaa", sum := "98a190cc2e2536543429c1619beffb147dfb8e254a652b49f2ef3b18660c899f", func := "daisychain/daisychainlaw01.CoilBack", spec := "coilBack", unfollowed := true, recurses := true, apart := false, narrowed := true }
def CoilBackUptoSaid : Prop := coilBackUptoRow.holds Try.pinned (OpenSpec.upto coilBackSpec)

/-- 'daisychainlaw01.CoilApart', WHERE WHAT IT READS IS OF BULK AT MOST 1048576: true; the input reads as it did. -/
def coilApartUptoRow : OpenClaim := { program := "ytogennogjnleaaa", sum := "98a190cc2e2536543429c1619beffb147dfb8e254a652b49f2ef3b18660c899f", func := "daisychain/daisychainlaw01.CoilApart", spec := "coilApart", unfollowed := true, recurses := true, apart := false, narrowed := true }
def CoilApartUptoSaid : Prop := coilApartUptoRow.holds Try.pinned (OpenSpec.upto coilApartSpec)

/-- 'daisychainlaw01.CoilRows', WHERE WHAT IT READS IS OF BULK AT MOST 1048576: true; the input reads as it did. -/
def coilRowsUptoRow : OpenClaim := { program := "ytogennogjnleaaa", sum := "98a190cc2e2536543429c1619beffb147dfb8e254a652b49f2ef3b18660c899f", func := "daisychain/daisychainlaw01.CoilRows", spec := "coilRows", unfollowed := true, recurses := true, apart := false, narrowed := true }
def CoilRowsUptoSaid : Prop := coilRowsUptoRow.holds Try.pinned (OpenSpec.upto coilRowsSpec)

end Rows
end Go.Proofs.Ytogennogjnleaaa
