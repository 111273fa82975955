/- What is proved here: errors.As at a target of type *Errno, and the law's own Code: the number that a fault wraps. -/
import Derived.Test.YtkdncnhjlgidnaaGreatDoorAs
namespace Go.Proofs.YtkdncnhjlgidnaaGreatDoor
open Go.RowKit Go.Extern.Stop Go.Stop Go.Extern

/-- What the package's one variable holds: the type error. -/
def ErrType (w : World) : Prop := w.cell? ⟨0, 0, none⟩ = some (.iface 145 (.agg #[.pointer (some ⟨1, 29, none⟩)]))
theorem ErrType.lt {w : World} (h : ErrType w) : 0 < w.heap.size := by
  unfold ErrType at h
  rcases Nat.eq_zero_or_pos w.heap.size with h0 | h1
  · simp [World.cell?, h0] at h
  · exact h1
theorem ErrType.below {w w' : World} (h : ErrType w) (hb : Below w.heap.size w w') : ErrType w' := (hb.cell (p := ⟨0, 0, none⟩) h.lt).trans h
theorem ErrType.alloc {w : World} (h : ErrType w) (o : Obj) : ErrType (w.alloc o) := h.below ((Below.refl _ _).alloc (Nat.le_refl _) _)
theorem ErrType.grow {w w' : World} {g : Nat} (h : ErrType w) (hg : w.grownBy w' (some g)) (hne : 0 < g) : ErrType w' :=
  (World.cell?_of_block (w := w) (a := ⟨0, 0, none⟩) (hg.block 0 h.lt (fun e => by injection e with e; omega))).trans h

/-- An error that wraps a number: the number itself, or a fault with it. -/
def Wraps (w : World) (e : Value) (n : Int) : Prop :=
  e = .iface 35 (.int .i64 n) ∨ ∃ (f : Nat) (at_ : Int), e = .iface 142 (.pointer (some ⟨f, 0, none⟩)) ∧ Blk w f 160 #[.int .i64 at_, .iface 35 (.int .i64 n)]
theorem Wraps.below {w w' : World} {e : Value} {n : Int} (h : Wraps w e n) (hb : Below w.heap.size w w') : Wraps w' e n := by
  rcases h with h | ⟨f, a, h, hf⟩
  · exact .inl h
  · exact .inr ⟨f, a, h, hf.below hb hf.lt⟩

theorem as_any (n : Int) (e : Value) (g : Nat) (a : Addr) (old : Value) (w : World) (he : Wraps w e n) (ht : Blk w g 35 #[old]) (ha : w.cell? a = some (.pointer (some ⟨g, 0, none⟩))) (hal : a.block < w.heap.size) :
    Calls Tryz.prog 52 #[e, .iface 74 (.pointer (some ⟨g, 0, none⟩)), .agg #[.pointer (some ⟨1, 74, none⟩), .pointer (some a), .int .u64 150], .iface 145 (.agg #[.pointer (some ⟨1, 35, none⟩)])] w fun e w' =>
      e = .returned (.bool true) ∧ Blk w' g 35 #[.int .i64 n] ∧ w.grownBy w' (some g) := by
  rcases he with rfl | ⟨f, at_, rfl, hf⟩
  · exact as_errno n g a old w ht ha hal
  · exact as_fault at_ n f g a old w hf ht ha hal

set_option maxHeartbeats 2000000 in
theorem As_any (n : Int) (u : TypeId) (x : Value) (g : Nat) (old : Value) (w : World) (hE : ErrType w) (he : Wraps w (.iface u x) n) (ht : Blk w g 35 #[old]) :
    Calls Tryz.prog 25 #[.iface u x, .iface 74 (.pointer (some ⟨g, 0, none⟩))] w fun e w' =>
      e = .returned (.bool true) ∧ Blk w' g 35 #[.int .i64 n] ∧ w.grownBy w' (some g) := by
  have x25 := @run_callFunc_extern Tryz.prog 49 _ (fun args => ReflectliteValue.unpack (args.getD 0 (.tuple #[]))) Tryz.func49 (by kernel_rfl) (by kernel_rfl) (by kernel_rfl) (by kernel_rfl)
  have x26 := @run_callFunc_extern Tryz.prog 50 _ (ReflectliteValue.methodAny (ReflectliteValue.valueError "reflectlite.Value.Type" 0) (fun t _ _ _ => ReflectliteType.toType t)) Tryz.func50 (by kernel_rfl) (by kernel_rfl) (by kernel_rfl) (by kernel_rfl)
  have x27 := @run_callFunc_extern Tryz.prog 51 _ (ReflectliteValue.method (ReflectliteValue.valueError "reflectlite.Value.IsNil" 0) ReflectliteValue.isNil) Tryz.func51 (by kernel_rfl) (by kernel_rfl) (by kernel_rfl) (by kernel_rfl)
  have x71 := @run_callFunc_extern Tryz.prog 100 _ (ReflectliteType.abiMethod fun t => do pure (.int .u8 (← Rtype.kind t))) Tryz.func100 (by kernel_rfl) (by kernel_rfl) (by kernel_rfl) (by kernel_rfl)
  have x80 := @run_callFunc_extern Tryz.prog 116 _ (ReflectliteType.method ReflectliteType.elem) Tryz.func116 (by kernel_rfl) (by kernel_rfl) (by kernel_rfl) (by kernel_rfl)
  have x81 := @run_callFunc_extern Tryz.prog 117 _ (ReflectliteType.relation "Implements" ReflectliteType.implements_) Tryz.func117 (by kernel_rfl) (by kernel_rfl) (by kernel_rfl) (by kernel_rfl)
  have v1 := valueOf_pe
  have t1 := type_pe
  have mK := method_kind
  have mE := method_elem
  have mI := method_implements
  have k1 := kind_pe
  have k2 := kind_e
  have e1 := elem_pe
  have i1 := implements_e
  have n1 := isNil_pe ⟨w.heap.size, 0, none⟩ ⟨g, 0, none⟩ ((w.alloc (.cells #[.pointer (some ⟨g, 0, none⟩)] 74)).alloc (.cells #[.pointer (some ⟨1, 74, none⟩), .pointer (some ⟨w.heap.size, 0, none⟩), .int .u64 150] 116)) (by simp)
  have hE2 : ErrType ((w.alloc (.cells #[.pointer (some ⟨g, 0, none⟩)] 74)).alloc (.cells #[.pointer (some ⟨1, 74, none⟩), .pointer (some ⟨w.heap.size, 0, none⟩), .int .u64 150] 116)) := (hE.alloc _).alloc _
  have hg2 : ((w.alloc (.cells #[.pointer (some ⟨g, 0, none⟩)] 74)).alloc (.cells #[.pointer (some ⟨1, 74, none⟩), .pointer (some ⟨w.heap.size, 0, none⟩), .int .u64 150] 116)).cell? ⟨0, 0, none⟩ = some (.iface 145 (.agg #[.pointer (some ⟨1, 29, none⟩)])) := hE2
  have hb : Below w.heap.size w ((w.alloc (.cells #[.pointer (some ⟨g, 0, none⟩)] 74)).alloc (.cells #[.pointer (some ⟨1, 74, none⟩), .pointer (some ⟨w.heap.size, 0, none⟩), .int .u64 150] 116)) := ((Below.refl _ _).alloc (Nat.le_refl _) _).alloc (by simp) _
  have H := Lib.hid (as_any n (.iface u x) g ⟨w.heap.size, 0, none⟩ old ((w.alloc (.cells #[.pointer (some ⟨g, 0, none⟩)] 74)).alloc (.cells #[.pointer (some ⟨1, 74, none⟩), .pointer (some ⟨w.heap.size, 0, none⟩), .int .u64 150] 116)) (he.below hb) ((ht.alloc _).alloc _) (by simp) (by simp; omega))
  have hgr : ∀ w', ((w.alloc (.cells #[.pointer (some ⟨g, 0, none⟩)] 74)).alloc (.cells #[.pointer (some ⟨1, 74, none⟩), .pointer (some ⟨w.heap.size, 0, none⟩), .int .u64 150] 116)).grownBy w' (some g) → w.grownBy w' (some g) := fun w' h =>
    ⟨h.os.trans hb.os, h.tape.trans hb.tape, h.output.trans hb.output, Nat.le_trans hb.size h.size, fun k hk hne => (h.block k (Nat.lt_of_lt_of_le hk hb.size) hne).trans (hb.block k hk)⟩
  have HG := Lib.hid hgr
  clear hgr hb hE hE2 he ht
  go_enter Tryz.func25, Tryz.ntmps25
  go_wp2_with (first
    | (go_at_call 52; refine H.out.mono ?_; rintro ev w1 ⟨rfl, h1, h2⟩)
    | go_in)
  go_ret
  exact ⟨rfl, h1, HG.out _ h2⟩

theorem Code_nil (w : World) : Calls Tryz.prog 7 #[.nilIface] w fun e w' => e = .returned (.int .i64 0) ∧ Below w.heap.size w w' := by
  go_enter Tryz.func7, Tryz.ntmps7
  go_wp2
  go_ret
  exact ⟨rfl, (Below.refl _ _).alloc (Nat.le_refl _) _⟩

set_option maxHeartbeats 400000 in
theorem Code_any (n : Int) (u : TypeId) (x : Value) (w : World) (hE : ErrType w) (he : Wraps w (.iface u x) n) :
    Calls Tryz.prog 7 #[.iface u x] w fun e w' => e = .returned (.int .i64 n) ∧ Below w.heap.size w w' := by
  have hb : Below w.heap.size w (w.alloc (.cells #[.int .i64 0] 35)) := (Below.refl _ _).alloc (Nat.le_refl _) _
  have H := Lib.hid (As_any n u x w.heap.size (.int .i64 0) (w.alloc (.cells #[.int .i64 0] 35)) (hE.alloc _) (he.below hb) (Blk.fresh _ _ _))
  have HB := Lib.hid hb
  clear hb hE he
  go_enter Tryz.func7, Tryz.ntmps7
  go_wp2_with (go_at_call 25; refine H.out.mono ?_; rintro ev w1 ⟨rfl, h1, h2⟩
               have c0 := h1.cell 0
               simp at c0)
  go_ret
  exact ⟨rfl, HB.out.grown h2 (by simp) (fun k hk => by injection hk with hk; omega)⟩
end Go.Proofs.YtkdncnhjlgidnaaGreatDoor
