/-
  DERIVED. GIVEN WITH THE SEED: THE CARDS: each row of YtdjieapobodakaaGreatDoorRows.lean that lists a variable, with what it lists TIED to the program's text (the seventh form; the later family's looks); each row that meets fmt, with fmt's text TOLD by the authors' own Lean function (tested against real Go, not proved from fmt's source: count such statements apart). THE CARD IS WHAT COUNTS. Prove the row's statement (the work); the ties are given (YtdjieapobodakaaGreatDoorTie.lean); close each card by the builder's one call (the guide's Derived/Test/ToyasCard.lean, 'card_holds'). Laid BY PROGRAM, IN A SANDBOX (cutbox-door.mjs). By AI agents, Wed Nov 11 2026. No macro, syntax, notation, axiom, sorry.
-/
import Derived.Test.YtdjieapobodakaaGreatDoorRows
import GoSem.ClaimSeven
namespace Go.Proofs.YtdjieapobodakaaGreatDoor
namespace Rows

/-- THE TIED CARD OF 'daisychainlaw08.QueueDoes'. -/
def queueDoesCard : Claim7 := { stood := { row := queueDoesRow, standIns := [], harness := (true, "5a14c09dac1a6c016026e0611c54f2adc20eac1b30646d60d46e13f3c5ad882f"), looks := true }, kinds := [], alts := [], laidByText := true, laidKinds := [.data, .data, .data, .sentinel, .sentinel], laidTests := true, laidLooks := .later }
def QueueDoesCardSaid : Prop := Claim7.holds Tryz.pinned (.plain (OpenSpec.ofChange queueDoesSpec)) queueDoesCard

/-- THE TIED CARD OF 'daisychainlaw08.QueueFifo'. -/
def queueFifoCard : Claim7 := { stood := { row := queueFifoRow, standIns := [], harness := (true, "5a14c09dac1a6c016026e0611c54f2adc20eac1b30646d60d46e13f3c5ad882f"), looks := true }, kinds := [], alts := [], laidByText := true, laidKinds := [.data, .data, .data, .sentinel, .sentinel], laidTests := true, laidLooks := .later }
def QueueFifoCardSaid : Prop := Claim7.holds Tryz.pinned (.plain (OpenSpec.ofChange queueFifoSpec)) queueFifoCard

/-- THE TIED CARD OF 'daisychainlaw08.QueueOnce'. -/
def queueOnceCard : Claim7 := { stood := { row := queueOnceRow, standIns := [], harness := (true, "5a14c09dac1a6c016026e0611c54f2adc20eac1b30646d60d46e13f3c5ad882f"), looks := true }, kinds := [], alts := [], laidByText := true, laidKinds := [.data, .data, .data, .sentinel, .sentinel], laidTests := true, laidLooks := .later }
def QueueOnceCardSaid : Prop := Claim7.holds Tryz.pinned (.plain (OpenSpec.ofChange queueOnceSpec)) queueOnceCard

/-- THE TIED CARD OF 'daisychainlaw08.QueueReceipts'. -/
def queueReceiptsCard : Claim7 := { stood := { row := queueReceiptsRow, standIns := [], harness := (true, "5a14c09dac1a6c016026e0611c54f2adc20eac1b30646d60d46e13f3c5ad882f"), looks := true }, kinds := [], alts := [], laidByText := true, laidKinds := [.data, .data, .data, .sentinel, .sentinel], laidTests := true, laidLooks := .later }
def QueueReceiptsCardSaid : Prop := Claim7.holds Tryz.pinned (.plain (OpenSpec.ofChange queueReceiptsSpec)) queueReceiptsCard

/-- THE TIED CARD OF 'daisychainlaw08.QueueCounts'. -/
def queueCountsCard : Claim7 := { stood := { row := queueCountsRow, standIns := [], harness := (true, "5a14c09dac1a6c016026e0611c54f2adc20eac1b30646d60d46e13f3c5ad882f"), looks := true }, kinds := [], alts := [], laidByText := true, laidKinds := [.data, .data, .data, .sentinel, .sentinel], laidTests := true, laidLooks := .later }
def QueueCountsCardSaid : Prop := Claim7.holds Tryz.pinned (.plain (OpenSpec.ofChange queueCountsSpec)) queueCountsCard

/-- THE TIED CARD OF 'daisychainlaw08.QueueExtends'. -/
def queueExtendsCard : Claim7 := { stood := { row := queueExtendsRow, standIns := [], harness := (true, "5a14c09dac1a6c016026e0611c54f2adc20eac1b30646d60d46e13f3c5ad882f"), looks := true }, kinds := [], alts := [], laidByText := true, laidKinds := [.data, .data, .data, .sentinel, .sentinel], laidTests := true, laidLooks := .later }
def QueueExtendsCardSaid : Prop := Claim7.holds Tryz.pinned (.plain (OpenSpec.ofChange queueExtendsSpec)) queueExtendsCard

/-- THE TIED CARD OF 'daisychainlaw08.QueuePurges'. -/
def queuePurgesCard : Claim7 := { stood := { row := queuePurgesRow, standIns := [], harness := (true, "5a14c09dac1a6c016026e0611c54f2adc20eac1b30646d60d46e13f3c5ad882f"), looks := true }, kinds := [], alts := [], laidByText := true, laidKinds := [.data, .data, .data, .sentinel, .sentinel], laidTests := true, laidLooks := .later }
def QueuePurgesCardSaid : Prop := Claim7.holds Tryz.pinned (.plain (OpenSpec.ofChange queuePurgesSpec)) queuePurgesCard

/-- THE SECOND FORM's CARD OF 'daisychainlaw08.QueueDoes'. -/
def queueDoesUptoCard : Claim7 := { stood := { row := queueDoesUptoRow, standIns := [], harness := (true, "5a14c09dac1a6c016026e0611c54f2adc20eac1b30646d60d46e13f3c5ad882f"), looks := true }, kinds := [], alts := [], laidByText := true, laidKinds := [.data, .data, .data, .sentinel, .sentinel], laidTests := true, laidLooks := .later }
def QueueDoesUptoCardSaid : Prop := Claim7.holds Tryz.pinned (.plain (OpenSpec.upto queueDoesSpec)) queueDoesUptoCard

/-- THE SECOND FORM's CARD OF 'daisychainlaw08.QueueFifo'. -/
def queueFifoUptoCard : Claim7 := { stood := { row := queueFifoUptoRow, standIns := [], harness := (true, "5a14c09dac1a6c016026e0611c54f2adc20eac1b30646d60d46e13f3c5ad882f"), looks := true }, kinds := [], alts := [], laidByText := true, laidKinds := [.data, .data, .data, .sentinel, .sentinel], laidTests := true, laidLooks := .later }
def QueueFifoUptoCardSaid : Prop := Claim7.holds Tryz.pinned (.plain (OpenSpec.upto queueFifoSpec)) queueFifoUptoCard

/-- THE SECOND FORM's CARD OF 'daisychainlaw08.QueueOnce'. -/
def queueOnceUptoCard : Claim7 := { stood := { row := queueOnceUptoRow, standIns := [], harness := (true, "5a14c09dac1a6c016026e0611c54f2adc20eac1b30646d60d46e13f3c5ad882f"), looks := true }, kinds := [], alts := [], laidByText := true, laidKinds := [.data, .data, .data, .sentinel, .sentinel], laidTests := true, laidLooks := .later }
def QueueOnceUptoCardSaid : Prop := Claim7.holds Tryz.pinned (.plain (OpenSpec.upto queueOnceSpec)) queueOnceUptoCard

/-- THE SECOND FORM's CARD OF 'daisychainlaw08.QueueReceipts'. -/
def queueReceiptsUptoCard : Claim7 := { stood := { row := queueReceiptsUptoRow, standIns := [], harness := (true, "5a14c09dac1a6c016026e0611c54f2adc20eac1b30646d60d46e13f3c5ad882f"), looks := true }, kinds := [], alts := [], laidByText := true, laidKinds := [.data, .data, .data, .sentinel, .sentinel], laidTests := true, laidLooks := .later }
def QueueReceiptsUptoCardSaid : Prop := Claim7.holds Tryz.pinned (.plain (OpenSpec.upto queueReceiptsSpec)) queueReceiptsUptoCard

/-- THE SECOND FORM's CARD OF 'daisychainlaw08.QueueCounts'. -/
def queueCountsUptoCard : Claim7 := { stood := { row := queueCountsUptoRow, standIns := [], harness := (true, "5a14c09dac1a6c016026e0611c54f2adc20eac1b30646d60d46e13f3c5ad882f"), looks := true }, kinds := [], alts := [], laidByText := true, laidKinds := [.data, .data, .data, .sentinel, .sentinel], laidTests := true, laidLooks := .later }
def QueueCountsUptoCardSaid : Prop := Claim7.holds Tryz.pinned (.plain (OpenSpec.upto queueCountsSpec)) queueCountsUptoCard

/-- THE SECOND FORM's CARD OF 'daisychainlaw08.QueueExtends'. -/
def queueExtendsUptoCard : Claim7 := { stood := { row := queueExtendsUptoRow, standIns := [], harness := (true, "5a14c09dac1a6c016026e0611c54f2adc20eac1b30646d60d46e13f3c5ad882f"), looks := true }, kinds := [], alts := [], laidByText := true, laidKinds := [.data, .data, .data, .sentinel, .sentinel], laidTests := true, laidLooks := .later }
def QueueExtendsUptoCardSaid : Prop := Claim7.holds Tryz.pinned (.plain (OpenSpec.upto queueExtendsSpec)) queueExtendsUptoCard

/-- THE SECOND FORM's CARD OF 'daisychainlaw08.QueuePurges'. -/
def queuePurgesUptoCard : Claim7 := { stood := { row := queuePurgesUptoRow, standIns := [], harness := (true, "5a14c09dac1a6c016026e0611c54f2adc20eac1b30646d60d46e13f3c5ad882f"), looks := true }, kinds := [], alts := [], laidByText := true, laidKinds := [.data, .data, .data, .sentinel, .sentinel], laidTests := true, laidLooks := .later }
def QueuePurgesUptoCardSaid : Prop := Claim7.holds Tryz.pinned (.plain (OpenSpec.upto queuePurgesSpec)) queuePurgesUptoCard
end Rows
end Go.Proofs.YtdjieapobodakaaGreatDoor
