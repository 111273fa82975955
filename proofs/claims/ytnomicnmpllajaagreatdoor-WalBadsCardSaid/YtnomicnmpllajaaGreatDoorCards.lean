/-
  DERIVED. GIVEN WITH THE SEED: THE CARDS: each row of YtnomicnmpllajaaGreatDoorRows.lean that lists a variable, with what it lists TIED to the program's text (the seventh form; the later family's looks); each row that meets fmt, with fmt's text TOLD by the authors' own Lean function (tested against real Go, not proved from fmt's source: count such statements apart). THE CARD IS WHAT COUNTS. Prove the row's statement (the work); the ties are given (YtnomicnmpllajaaGreatDoorTie.lean); close each card by the builder's one call (the guide's Derived/Test/ToyasCard.lean, 'card_holds'). Laid BY PROGRAM, IN A SANDBOX (cutbox-door.mjs). By AI agents, Wed Nov 11 2026. No macro, syntax, notation, axiom, sorry.
-/
import Derived.Test.YtnomicnmpllajaaGreatDoorRows
import GoSem.ClaimSeven
namespace Go.Proofs.YtnomicnmpllajaaGreatDoor
namespace Rows

/-- THE TIED CARD OF 'daisychainlaw04.WalDoes'. -/
def walDoesCard : Claim7 := { stood := { row := walDoesRow, standIns := [], harness := (true, "5b747ba09a85ac51f5a8361be0661f6ca79641b5486b2e4769696669df879cec"), looks := true }, kinds := [], alts := [], laidByText := true, laidKinds := [.data, .data, .data], laidTests := true, laidLooks := .later }
def WalDoesCardSaid : Prop := Claim7.holds Tryz.pinned (.plain (OpenSpec.ofChange walDoesSpec)) walDoesCard

/-- THE TIED CARD OF 'daisychainlaw04.WalCrashes'. -/
def walCrashesCard : Claim7 := { stood := { row := walCrashesRow, standIns := [], harness := (true, "5b747ba09a85ac51f5a8361be0661f6ca79641b5486b2e4769696669df879cec"), looks := true }, kinds := [], alts := [], laidByText := true, laidKinds := [.data, .data, .data], laidTests := true, laidLooks := .later }
def WalCrashesCardSaid : Prop := Claim7.holds Tryz.pinned (.plain (OpenSpec.ofChange walCrashesSpec)) walCrashesCard

/-- THE TIED CARD OF 'daisychainlaw04.WalGoes'. -/
def walGoesCard : Claim7 := { stood := { row := walGoesRow, standIns := [], harness := (true, "5b747ba09a85ac51f5a8361be0661f6ca79641b5486b2e4769696669df879cec"), looks := true }, kinds := [], alts := [], laidByText := true, laidKinds := [.data, .data, .data], laidTests := true, laidLooks := .later }
def WalGoesCardSaid : Prop := Claim7.holds Tryz.pinned (.plain (OpenSpec.ofChange walGoesSpec)) walGoesCard

/-- THE TIED CARD OF 'daisychainlaw04.WalFull'. -/
def walFullCard : Claim7 := { stood := { row := walFullRow, standIns := [], harness := (true, "5b747ba09a85ac51f5a8361be0661f6ca79641b5486b2e4769696669df879cec"), looks := true }, kinds := [], alts := [], laidByText := true, laidKinds := [.data, .data, .data], laidTests := true, laidLooks := .later }
def WalFullCardSaid : Prop := Claim7.holds Tryz.pinned (.plain (OpenSpec.ofChange walFullSpec)) walFullCard

/-- THE TIED CARD OF 'daisychainlaw04.WalBads'. -/
def walBadsCard : Claim7 := { stood := { row := walBadsRow, standIns := [], harness := (true, "5b747ba09a85ac51f5a8361be0661f6ca79641b5486b2e4769696669df879cec"), looks := true }, kinds := [], alts := [], laidByText := true, laidKinds := [.data, .data, .data, .handle], laidTests := true, laidLooks := .later }
def WalBadsCardSaid : Prop := Claim7.holds Tryz.pinned (.plain (OpenSpec.ofChange walBadsSpec)) walBadsCard

/-- THE TIED CARD OF 'daisychainlaw04.WalCuts'. -/
def walCutsCard : Claim7 := { stood := { row := walCutsRow, standIns := [], harness := (true, "5b747ba09a85ac51f5a8361be0661f6ca79641b5486b2e4769696669df879cec"), looks := true }, kinds := [], alts := [], laidByText := true, laidKinds := [.data, .data, .data], laidTests := true, laidLooks := .later }
def WalCutsCardSaid : Prop := Claim7.holds Tryz.pinned (.plain (OpenSpec.ofChange walCutsSpec)) walCutsCard

/-- THE TIED CARD OF 'daisychainlaw04.WalSnaps'. -/
def walSnapsCard : Claim7 := { stood := { row := walSnapsRow, standIns := [], harness := (true, "5b747ba09a85ac51f5a8361be0661f6ca79641b5486b2e4769696669df879cec"), looks := true }, kinds := [], alts := [], laidByText := true, laidKinds := [.data, .data, .data], laidTests := true, laidLooks := .later }
def WalSnapsCardSaid : Prop := Claim7.holds Tryz.pinned (.plain (OpenSpec.ofChange walSnapsSpec)) walSnapsCard

/-- THE TIED CARD OF 'daisychainlaw04.WalSame'. -/
def walSameCard : Claim7 := { stood := { row := walSameRow, standIns := [], harness := (true, "5b747ba09a85ac51f5a8361be0661f6ca79641b5486b2e4769696669df879cec"), looks := true }, kinds := [], alts := [], laidByText := true, laidKinds := [.data, .data, .data], laidTests := true, laidLooks := .later }
def WalSameCardSaid : Prop := Claim7.holds Tryz.pinned (.plain (OpenSpec.ofChange walSameSpec)) walSameCard

/-- THE SECOND FORM's CARD OF 'daisychainlaw04.WalDoes'. -/
def walDoesUptoCard : Claim7 := { stood := { row := walDoesUptoRow, standIns := [], harness := (true, "5b747ba09a85ac51f5a8361be0661f6ca79641b5486b2e4769696669df879cec"), looks := true }, kinds := [], alts := [], laidByText := true, laidKinds := [.data, .data, .data], laidTests := true, laidLooks := .later }
def WalDoesUptoCardSaid : Prop := Claim7.holds Tryz.pinned (.plain (OpenSpec.upto walDoesSpec)) walDoesUptoCard

/-- THE SECOND FORM's CARD OF 'daisychainlaw04.WalCrashes'. -/
def walCrashesUptoCard : Claim7 := { stood := { row := walCrashesUptoRow, standIns := [], harness := (true, "5b747ba09a85ac51f5a8361be0661f6ca79641b5486b2e4769696669df879cec"), looks := true }, kinds := [], alts := [], laidByText := true, laidKinds := [.data, .data, .data], laidTests := true, laidLooks := .later }
def WalCrashesUptoCardSaid : Prop := Claim7.holds Tryz.pinned (.plain (OpenSpec.upto walCrashesSpec)) walCrashesUptoCard

/-- THE SECOND FORM's CARD OF 'daisychainlaw04.WalGoes'. -/
def walGoesUptoCard : Claim7 := { stood := { row := walGoesUptoRow, standIns := [], harness := (true, "5b747ba09a85ac51f5a8361be0661f6ca79641b5486b2e4769696669df879cec"), looks := true }, kinds := [], alts := [], laidByText := true, laidKinds := [.data, .data, .data], laidTests := true, laidLooks := .later }
def WalGoesUptoCardSaid : Prop := Claim7.holds Tryz.pinned (.plain (OpenSpec.upto walGoesSpec)) walGoesUptoCard

/-- THE SECOND FORM's CARD OF 'daisychainlaw04.WalFull'. -/
def walFullUptoCard : Claim7 := { stood := { row := walFullUptoRow, standIns := [], harness := (true, "5b747ba09a85ac51f5a8361be0661f6ca79641b5486b2e4769696669df879cec"), looks := true }, kinds := [], alts := [], laidByText := true, laidKinds := [.data, .data, .data], laidTests := true, laidLooks := .later }
def WalFullUptoCardSaid : Prop := Claim7.holds Tryz.pinned (.plain (OpenSpec.upto walFullSpec)) walFullUptoCard

/-- THE SECOND FORM's CARD OF 'daisychainlaw04.WalBads'. -/
def walBadsUptoCard : Claim7 := { stood := { row := walBadsUptoRow, standIns := [], harness := (true, "5b747ba09a85ac51f5a8361be0661f6ca79641b5486b2e4769696669df879cec"), looks := true }, kinds := [], alts := [], laidByText := true, laidKinds := [.data, .data, .data, .handle], laidTests := true, laidLooks := .later }
def WalBadsUptoCardSaid : Prop := Claim7.holds Tryz.pinned (.plain (OpenSpec.upto walBadsSpec)) walBadsUptoCard

/-- THE SECOND FORM's CARD OF 'daisychainlaw04.WalCuts'. -/
def walCutsUptoCard : Claim7 := { stood := { row := walCutsUptoRow, standIns := [], harness := (true, "5b747ba09a85ac51f5a8361be0661f6ca79641b5486b2e4769696669df879cec"), looks := true }, kinds := [], alts := [], laidByText := true, laidKinds := [.data, .data, .data], laidTests := true, laidLooks := .later }
def WalCutsUptoCardSaid : Prop := Claim7.holds Tryz.pinned (.plain (OpenSpec.upto walCutsSpec)) walCutsUptoCard

/-- THE SECOND FORM's CARD OF 'daisychainlaw04.WalSnaps'. -/
def walSnapsUptoCard : Claim7 := { stood := { row := walSnapsUptoRow, standIns := [], harness := (true, "5b747ba09a85ac51f5a8361be0661f6ca79641b5486b2e4769696669df879cec"), looks := true }, kinds := [], alts := [], laidByText := true, laidKinds := [.data, .data, .data], laidTests := true, laidLooks := .later }
def WalSnapsUptoCardSaid : Prop := Claim7.holds Tryz.pinned (.plain (OpenSpec.upto walSnapsSpec)) walSnapsUptoCard

/-- THE SECOND FORM's CARD OF 'daisychainlaw04.WalSame'. -/
def walSameUptoCard : Claim7 := { stood := { row := walSameUptoRow, standIns := [], harness := (true, "5b747ba09a85ac51f5a8361be0661f6ca79641b5486b2e4769696669df879cec"), looks := true }, kinds := [], alts := [], laidByText := true, laidKinds := [.data, .data, .data], laidTests := true, laidLooks := .later }
def WalSameUptoCardSaid : Prop := Claim7.holds Tryz.pinned (.plain (OpenSpec.upto walSameSpec)) walSameUptoCard
end Rows
end Go.Proofs.YtnomicnmpllajaaGreatDoor
