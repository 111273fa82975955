/- What is proved here: plain facts on a command that is boxed, and put into a slice of one. -/
import Derived.Test.YtkdncnhjlgidnaaDoorCFew
import Derived.Test.YtkdncnhjlgidnaaDoorCAs
import Derived.Great.BuildSlice
namespace Go.Proofs.YtkdncnhjlgidnaaDoor
open Go Go.RowKit Go.Maps

theorem info_cmd2 : (Tryd.prog.info? 26).map (fun i => (i.size, i.zero)) = some (18, some (.agg CM.zero.cells)) := by kernel_rfl
set_option maxRecDepth 100000 in
theorem fill_one (c : CM) : Instr.fill (fun i => some (i * 18, 18)) ((Array.range (1 * 18)).map (fun x => (Value.agg CM.zero.cells).cells[x % (Value.agg CM.zero.cells).cells.size]!)) [(0, .agg c.cells)] = some c.cells := by kernel_rfl
theorem build_one {ops : Array Oper} {rest : List Oper} {o : Oper} {a : Act} {w : World} {Q : Exit → Act → World → Prop} (hg : o.guard = none) (x : Operand) (ho : o.op = .buildSlice 28 1 #[(0, x)]) (c : CM) (cs : Array Value) (hcs : cs = c.cells) (hx : a.eval x = .agg cs)
    (h : wpList Tryd.prog ops Q rest (a.put o.dst (.slice (some ⟨w.heap.size, 0, none⟩) 1 1)) (w.alloc (.cells cs 26))) : wpList Tryd.prog ops Q (o :: rest) a w := by
  obtain ⟨ie, hie, hi⟩ := Option.map_eq_some_iff.1 info_cmd2
  simp only [Prod.mk.injEq] at hi
  refine wpList_buildSlice hg _ 26 1 #[(0, x)] ho cs ie (.agg CM.zero.cells) Tryd.underlying28 hie hi.2 (by rw [hi.1]; decide) (by rw [hi.1]; decide) ?_ h
  rw [hi.1]
  have e : (#[(0, x)].map fun (i, x) => (i, a.eval x) : Array (Nat × Value)).toList = [(0, .agg c.cells)] := by simp [hx, hcs]
  rw [e, hcs]
  exact fill_one c

theorem Rd.take {w : World} {B : Nat} {k : IntKind} {A : Option Addr} {n c : Nat} {xs : List Int} (h : Rd w B k A n c xs) {m : Nat} (hm : m ≤ n) : Rd w B k A m c (xs.take m) :=
  ⟨by rw [List.length_take, h.len]; omega, by have := h.cap; omega, h.max, fun e => by have := h.nil e; omega, fun j u hu => by
    rw [List.getElem?_take] at hu
    split at hu
    · exact h.place j u hu
    · cases hu⟩
/-- A command stored in a block of its own. -/
theorem boxed_row (w : World) (cs : Array Value) : Blk ((w.alloc (.cells CM.zero.cells 26)).setRow w.heap.size cs) w.heap.size 26 cs ∧ Below w.heap.size w ((w.alloc (.cells CM.zero.cells 26)).setRow w.heap.size cs) :=
  ⟨setRow_heap _ _ _ cs _ _ (heap_alloc_new w (.cells CM.zero.cells 26)), below_setRow ((Below.refl _ _).alloc (Nat.le_refl _) _) (Nat.le_refl _) _⟩
theorem CM.Good.len {c : CM} {L : List ByteArray} (h : c.Good L) (hl : L.length = c.bn) : (c.bytes L).length ≤ 6000 := by
  rw [← c.e3_all L rfl]
  exact h.len3 (by rw [hl]; exact h.few) _
theorem WrapsC.iface {w : World} {e : Value} {n : Int} (h : WrapsC w e n) : ∃ u x, e = .iface u x := by
  rcases h with ⟨f, a, h, _⟩ | ⟨f, s, h, _⟩
  · exact ⟨_, _, h⟩
  · exact ⟨_, _, h⟩
theorem zero_info : (Tryd.prog.info? 26).map (·.size) = some CM.zero.cells.size := CM.zero.info
end Go.Proofs.YtkdncnhjlgidnaaDoor
