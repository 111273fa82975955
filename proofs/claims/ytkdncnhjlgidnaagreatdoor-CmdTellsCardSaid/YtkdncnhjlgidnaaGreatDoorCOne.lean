/- What is proved here: plain facts on a command that is boxed, and put into a slice of one. -/
import Derived.Test.YtkdncnhjlgidnaaGreatDoorCRead10
import Derived.Test.YtkdncnhjlgidnaaGreatDoorCAs
import Derived.Great.BuildSlice
namespace Go.Proofs.YtkdncnhjlgidnaaGreatDoor
open Go Go.RowKit Go.Maps

theorem info_cmd2 : (Tryz.prog.info? 50).map (fun i => (i.size, i.zero)) = some (18, some (.agg CM.zero.cells)) := by kernel_rfl
set_option maxRecDepth 100000 in
theorem fill_one (c : CM) : Instr.fill (fun i => some (i * 18, 18)) ((Array.range (1 * 18)).map (fun x => (Value.agg CM.zero.cells).cells[x % (Value.agg CM.zero.cells).cells.size]!)) [(0, .agg c.cells)] = some c.cells := by kernel_rfl
theorem Rd.take {w : World} {B : Nat} {k : IntKind} {A : Option Addr} {n c : Nat} {xs : List Int} (h : Rd w B k A n c xs) {m : Nat} (hm : m ≤ n) : Rd w B k A m c (xs.take m) :=
  ⟨by rw [List.length_take, h.len]; omega, by have := h.cap; omega, h.max, fun e => by have := h.nil e; omega, fun j u hu => by
    rw [List.getElem?_take] at hu
    split at hu
    · exact h.place j u hu
    · cases hu⟩
/-- A command stored in a block of its own. -/
theorem boxed_row (w : World) (cs : Array Value) : Blk ((w.alloc (.cells CM.zero.cells 50)).setRow w.heap.size cs) w.heap.size 50 cs ∧ Below w.heap.size w ((w.alloc (.cells CM.zero.cells 50)).setRow w.heap.size cs) :=
  ⟨setRow_heap _ _ _ cs _ _ (heap_alloc_new w (.cells CM.zero.cells 50)), below_setRow ((Below.refl _ _).alloc (Nat.le_refl _) _) (Nat.le_refl _) _⟩
theorem CM.Good.len {c : CM} {L : List ByteArray} (h : c.Good L) (hl : L.length = c.bn) : (c.bytes L).length ≤ 6000 := by
  rw [← c.e3_all L rfl]
  exact h.len3 (by rw [hl]; exact h.few) _
theorem WrapsC.iface {w : World} {e : Value} {n : Int} (h : WrapsC w e n) : ∃ u x, e = .iface u x := by
  rcases h with ⟨f, a, h, _⟩ | ⟨f, s, h, _⟩
  · exact ⟨_, _, h⟩
  · exact ⟨_, _, h⟩
theorem zero_info : (Tryz.prog.info? 50).map (·.size) = some CM.zero.cells.size := CM.zero.info
end Go.Proofs.YtkdncnhjlgidnaaGreatDoor

