/- What is proved here: a slice of numbers that came in as an argument reads as a list. -/
import Derived.Test.YtogennogjnleaaaDoorBase
import Derived.OpenShut
namespace Go.Proofs.YtogennogjnleaaaDoor
open Go Go.RowKit

/-- What came in as a row reads as a list. -/
theorem Rd.of_row {w : World} {k : IntKind} {a : Option Addr} {len cap : Nat} {zs : List Int}
    (h : (a = none ∧ len = 0 ∧ cap = 0 ∧ zs = []) ∨ ∃ x, a = some x ∧ len ≤ cap ∧ cap ≤ maxLen ∧ zs.length = cap ∧ (∀ i, i < zs.length → w.cell? (x.add i) = some (.int k (zs.getD i 0))) ∧ ∀ n ∈ zs, (Lit.int k n).wf = true) :
    Rd w w.heap.size k a len cap (zs.take len) ∧ ∀ n ∈ zs.take len, (Lit.int k n).wf = true := by
  rcases h with ⟨rfl, rfl, rfl, rfl⟩ | ⟨x, rfl, hl, hm, hz, hc, hw⟩
  · exact ⟨Rd.none_ _ _ _, fun n hn => by simp at hn⟩
  · refine ⟨⟨by rw [List.length_take, hz]; omega, hl, hm, (fun h => by cases h), fun j u hu => ?_⟩, fun n hn => hw n (List.mem_of_mem_take hn)⟩
    have hj : j < zs.length := by
      have := (List.getElem?_eq_some_iff.1 hu).1
      rw [List.length_take] at this
      omega
    obtain ⟨b, o, rfl, hcell⟩ := ints_at hc (by omega)
    have h1 := hcell j hj
    refine ⟨b, o, rfl, World.block_lt_of_cell? w _ h1, ?_⟩
    rw [h1]
    rw [List.getElem?_take] at hu
    split at hu
    · rw [List.getD_eq_getElem?_getD, hu]
      rfl
    · cases hu
theorem wf_list {zs : List Int} (h : ∀ n ∈ zs, (Lit.int .i64 n).wf = true) : ∀ x ∈ zs, -9223372036854775808 ≤ x ∧ x ≤ 9223372036854775807 := fun x hx => bounds_i64 (h x hx)
theorem wf_bytes {zs : List Int} (h : ∀ n ∈ zs, (Lit.int .u8 n).wf = true) : ∀ x ∈ zs, 0 ≤ x ∧ x < 256 := fun x hx => by
  have := bounds_u8 (h x hx)
  omega

end Go.Proofs.YtogennogjnleaaaDoor
