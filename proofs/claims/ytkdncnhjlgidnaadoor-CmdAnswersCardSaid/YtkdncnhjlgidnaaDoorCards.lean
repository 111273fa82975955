/-
  DERIVED. GIVEN WITH THE SEED: THE CARDS: each row of YtkdncnhjlgidnaaDoorRows.lean that lists a variable, with what it lists TIED to the program's text (the seventh form; the later family's looks); each row that meets fmt, with fmt's text TOLD by the authors' own Lean function (tested against real Go, not proved from fmt's source: count such statements apart). THE CARD IS WHAT COUNTS. Prove the row's statement (the work); the ties are given (YtkdncnhjlgidnaaDoorTie.lean); close each card by the builder's one call (the guide's Derived/Test/ToyasCard.lean, 'card_holds'). Laid BY PROGRAM, IN A SANDBOX (cutbox-door.mjs). By AI agents, Wed Nov 11 2026. No macro, syntax, notation, axiom, sorry.
-/
import Derived.Test.YtkdncnhjlgidnaaDoorRows
import GoSem.ClaimSeven
namespace Go.Proofs.YtkdncnhjlgidnaaDoor
namespace Rows

/-- THE TIED CARD OF 'daisychainlaw10.CmdWrites'. -/
def cmdWritesCard : Claim7 := { stood := { row := cmdWritesRow, standIns := [], harness := (true, "898955b1e3f8af48a85e9d52c051855db728aa443a2ce60ac11aa64524ef7b80"), looks := true }, kinds := [], alts := [], laidByText := true, laidKinds := [.handle], laidTests := true, laidLooks := .later }
def CmdWritesCardSaid : Prop := Claim7.holds Tryd.pinned (.plain (OpenSpec.ofChange cmdWritesSpec)) cmdWritesCard

/-- THE TIED CARD OF 'daisychainlaw10.CmdReads'. -/
def cmdReadsCard : Claim7 := { stood := { row := cmdReadsRow, standIns := [], harness := (true, "898955b1e3f8af48a85e9d52c051855db728aa443a2ce60ac11aa64524ef7b80"), looks := true }, kinds := [], alts := [], laidByText := true, laidKinds := [.handle], laidTests := true, laidLooks := .later }
def CmdReadsCardSaid : Prop := Claim7.holds Tryd.pinned (.plain (OpenSpec.ofChange cmdReadsSpec)) cmdReadsCard

/-- THE TIED CARD OF 'daisychainlaw10.CmdAnswers'. -/
def cmdAnswersCard : Claim7 := { stood := { row := cmdAnswersRow, standIns := [], harness := (true, "898955b1e3f8af48a85e9d52c051855db728aa443a2ce60ac11aa64524ef7b80"), looks := true }, kinds := [], alts := [], laidByText := true, laidKinds := [.handle], laidTests := true, laidLooks := .later }
def CmdAnswersCardSaid : Prop := Claim7.holds Tryd.pinned (.plain (OpenSpec.ofChange cmdAnswersSpec)) cmdAnswersCard

/-- THE SECOND FORM's CARD OF 'daisychainlaw10.CmdWrites'. -/
def cmdWritesUptoCard : Claim7 := { stood := { row := cmdWritesUptoRow, standIns := [], harness := (true, "898955b1e3f8af48a85e9d52c051855db728aa443a2ce60ac11aa64524ef7b80"), looks := true }, kinds := [], alts := [], laidByText := true, laidKinds := [.handle], laidTests := true, laidLooks := .later }
def CmdWritesUptoCardSaid : Prop := Claim7.holds Tryd.pinned (.plain (OpenSpec.upto cmdWritesSpec)) cmdWritesUptoCard

/-- THE SECOND FORM's CARD OF 'daisychainlaw10.CmdReads'. -/
def cmdReadsUptoCard : Claim7 := { stood := { row := cmdReadsUptoRow, standIns := [], harness := (true, "898955b1e3f8af48a85e9d52c051855db728aa443a2ce60ac11aa64524ef7b80"), looks := true }, kinds := [], alts := [], laidByText := true, laidKinds := [.handle], laidTests := true, laidLooks := .later }
def CmdReadsUptoCardSaid : Prop := Claim7.holds Tryd.pinned (.plain (OpenSpec.upto cmdReadsSpec)) cmdReadsUptoCard

/-- THE SECOND FORM's CARD OF 'daisychainlaw10.CmdAnswers'. -/
def cmdAnswersUptoCard : Claim7 := { stood := { row := cmdAnswersUptoRow, standIns := [], harness := (true, "898955b1e3f8af48a85e9d52c051855db728aa443a2ce60ac11aa64524ef7b80"), looks := true }, kinds := [], alts := [], laidByText := true, laidKinds := [.handle], laidTests := true, laidLooks := .later }
def CmdAnswersUptoCardSaid : Prop := Claim7.holds Tryd.pinned (.plain (OpenSpec.upto cmdAnswersSpec)) cmdAnswersUptoCard
end Rows
end Go.Proofs.YtkdncnhjlgidnaaDoor
