/- What is proved here: the bounds of a number that fits its kind. No program is named. -/
import Derived.Test.YtlkegpcnmjbfeaaGreatDoorRows
section
namespace Go.Proofs.YtlkegpcnmjbfeaaGreatDoor
open Go
theorem int_wf {n : Int} (h : (Lit.int .i64 n).wf = true) : -9223372036854775808 ≤ n ∧ n ≤ 9223372036854775807 := by
  have e1 : IntKind.i64.min = -9223372036854775808 := by decide
  have e2 : IntKind.i64.max = 9223372036854775807 := by decide
  simp [Lit.wf] at h
  exact ⟨by omega, by omega⟩
end Go.Proofs.YtlkegpcnmjbfeaaGreatDoor
end
