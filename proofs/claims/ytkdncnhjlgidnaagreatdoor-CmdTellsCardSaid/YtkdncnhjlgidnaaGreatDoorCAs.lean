/- What is proved here: errors.As of a refusal of package cmd at a target of type *Errno; and the law's own Code of an error that a reader, or cmd, tells. -/
import Derived.Test.YtkdncnhjlgidnaaGreatDoorAs2
import Derived.Test.YtkdncnhjlgidnaaGreatDoorCExact
namespace Go.Proofs.YtkdncnhjlgidnaaGreatDoor
open Go.RowKit Go.Extern.Stop Go.Stop Go.Extern

theorem typeOf_r (v : Value) (w : World) : (ReflectliteType.typeOf #[.iface 79 v]).run Tryz.prog w = .ok (.iface 145 (.agg #[.pointer (some ⟨1, 79, none⟩)])) w := by kernel_rfl
theorem assignable_re (w : World) : (ReflectliteType.relation "AssignableTo" ReflectliteType.assignableTo #[.agg #[.pointer (some ⟨1, 79, none⟩)], .iface 145 (.agg #[.pointer (some ⟨1, 35, none⟩)])]).run Tryz.prog w = .ok (.bool false) w := by kernel_rfl
theorem ref_no_as (v : Value) (w : World) : (Instr.typeAssert (.iface 79 v) 29 150 true).run Tryz.prog w = .ok (.tuple #[.nilIface, .bool false]) w :=
  run_typeAssert_lacksB Tryz.underlying150 (by kernel_rfl) (by kernel_rfl) v 29 w
theorem ref_unwraps (v : Value) (w : World) : (Instr.typeAssert (.iface 79 v) 29 153 true).run Tryz.prog w = .ok (.tuple #[.iface 79 v, .bool true]) w :=
  run_typeAssert_hasB Tryz.underlying153 (by kernel_rfl) v 29 w
theorem ref_unwrap (f : Addr) (w : World) : (Go.method 294 79 (.pointer (some f)) "Unwrap").run Tryz.prog w = .ok (107, .pointer (some f)) w := by kernel_rfl

set_option maxHeartbeats 2000000 in
theorem as_refusal (st_ : ByteArray) (n : Int) (f g : Nat) (a : Addr) (old : Value) (w : World) (hf : Blk w f 81 #[.string st_, .int .i64 n]) (ht : Blk w g 35 #[old]) (ha : w.cell? a = some (.pointer (some ⟨g, 0, none⟩))) (hal : a.block < w.heap.size) :
    Calls Tryz.prog 52 #[.iface 79 (.pointer (some ⟨f, 0, none⟩)), .iface 74 (.pointer (some ⟨g, 0, none⟩)), .agg #[.pointer (some ⟨1, 74, none⟩), .pointer (some a), .int .u64 150], .iface 145 (.agg #[.pointer (some ⟨1, 35, none⟩)])] w fun e w' =>
      e = .returned (.bool true) ∧ Blk w' g 35 #[.int .i64 n] ∧ w.grownBy w' (some g) := by
  have x25 := @run_callFunc_extern Tryz.prog 49 _ (fun args => ReflectliteValue.unpack (args.getD 0 (.tuple #[]))) Tryz.func49 (by kernel_rfl) (by kernel_rfl) (by kernel_rfl) (by kernel_rfl)
  have x39 := @run_callFunc_extern Tryz.prog 72 _ ReflectliteType.typeOf Tryz.func72 (by kernel_rfl) (by kernel_rfl) (by kernel_rfl) (by kernel_rfl)
  have x78 := @run_callFunc_extern Tryz.prog 114 _ (ReflectliteType.relation "AssignableTo" ReflectliteType.assignableTo) Tryz.func114 (by kernel_rfl) (by kernel_rfl) (by kernel_rfl) (by kernel_rfl)
  have x40 := @run_callFunc_extern Tryz.prog 73 _ (ReflectliteValue.method (ReflectliteValue.valueError "reflectlite.Value.Elem" 0) ReflectliteValue.elem) Tryz.func73 (by kernel_rfl) (by kernel_rfl) (by kernel_rfl) (by kernel_rfl)
  have x41 := @run_callFunc_extern Tryz.prog 74 _ ReflectliteValue.set Tryz.func74 (by kernel_rfl) (by kernel_rfl) (by kernel_rfl) (by kernel_rfl)
  have tO := typeOf_e
  have tF := typeOf_r
  have mA := method_assignable
  have mU := ref_unwrap
  have nA := ref_no_as
  have nU := ref_unwraps
  have aE := assignable_ee
  have aF := assignable_re
  have vE := valueOf_e
  have hgl := ht.lt
  have hfl := hf.lt
  have hb1 := ht.alloc (.cells #[.pointer (some ⟨1, 74, none⟩), .pointer (some a), .int .u64 150] 116)
  have hb2 := hb1.alloc (.cells #[.int .i64 n] 35)
  have hf1 := (hf.alloc (.cells #[.pointer (some ⟨1, 74, none⟩), .pointer (some a), .int .u64 150] 116)).cell 1
  simp at hf1
  have el := elemV_pe a ⟨g, 0, none⟩ (w.alloc (.cells #[.pointer (some ⟨1, 74, none⟩), .pointer (some a), .int .u64 150] 116)) (by rw [World.cell?_alloc_lt _ _ a hal]; exact ha)
  have st := set_e ⟨g, 0, none⟩ ⟨w.heap.size + 1, 0, none⟩ n old ((w.alloc (.cells #[.pointer (some ⟨1, 74, none⟩), .pointer (some a), .int .u64 150] 116)).alloc (.cells #[.int .i64 n] 35))
    (by rw [World.cell?_alloc_at _ _ _ _ (by simp)]; rfl) (by rw [hb2.cell 0]; rfl) (hb2.free 0)
  have hb3 := Lib.hid (((ht.set 0 (.int .i64 n)).alloc (.cells #[.pointer (some ⟨1, 74, none⟩), .pointer (some a), .int .u64 150] 116)).alloc (.cells #[.int .i64 n] 35))
  have hgr := Lib.hid (grow_alloc (grow_alloc (grow_set (g := g) (World.grownBy.refl w (some g)) 0 (.int .i64 n)) (.cells #[.pointer (some ⟨1, 74, none⟩), .pointer (some a), .int .u64 150] 116)) (.cells #[.int .i64 n] 35))
  clear hb1 hb2 ht hf
  go_enter Tryz.func52, Tryz.ntmps52
  go_wp2
  refine wp_loop_rounds 2 ?_
  rw [rounds_succ]
  go_wp2
  rw [rounds_succ]
  go_wp2
  go_ret
  exact ⟨rfl, hb3.out, hgr.out⟩

theorem WrapsC.below {w w' : World} {e : Value} {n : Int} (h : WrapsC w e n) (hb : Below w.heap.size w w') : WrapsC w' e n := by
  rcases h with ⟨f, a, h, hf⟩ | ⟨f, s, h, hf⟩
  · exact .inl ⟨f, a, h, hf.below hb hf.lt⟩
  · exact .inr ⟨f, s, h, hf.below hb hf.lt⟩
theorem asc_any (n : Int) (e : Value) (g : Nat) (a : Addr) (old : Value) (w : World) (he : WrapsC w e n) (ht : Blk w g 35 #[old]) (ha : w.cell? a = some (.pointer (some ⟨g, 0, none⟩))) (hal : a.block < w.heap.size) :
    Calls Tryz.prog 52 #[e, .iface 74 (.pointer (some ⟨g, 0, none⟩)), .agg #[.pointer (some ⟨1, 74, none⟩), .pointer (some a), .int .u64 150], .iface 145 (.agg #[.pointer (some ⟨1, 35, none⟩)])] w fun e w' =>
      e = .returned (.bool true) ∧ Blk w' g 35 #[.int .i64 n] ∧ w.grownBy w' (some g) := by
  rcases he with ⟨f, at_, rfl, hf⟩ | ⟨f, s, rfl, hf⟩
  · exact as_fault at_ n f g a old w hf ht ha hal
  · exact as_refusal s n f g a old w hf ht ha hal

set_option maxHeartbeats 2000000 in
theorem Asc_any (n : Int) (u : TypeId) (x : Value) (g : Nat) (old : Value) (w : World) (hE : ErrType w) (he : WrapsC w (.iface u x) n) (ht : Blk w g 35 #[old]) :
    Calls Tryz.prog 25 #[.iface u x, .iface 74 (.pointer (some ⟨g, 0, none⟩))] w fun e w' =>
      e = .returned (.bool true) ∧ Blk w' g 35 #[.int .i64 n] ∧ w.grownBy w' (some g) := by
  have x25 := @run_callFunc_extern Tryz.prog 49 _ (fun args => ReflectliteValue.unpack (args.getD 0 (.tuple #[]))) Tryz.func49 (by kernel_rfl) (by kernel_rfl) (by kernel_rfl) (by kernel_rfl)
  have x26 := @run_callFunc_extern Tryz.prog 50 _ (ReflectliteValue.methodAny (ReflectliteValue.valueError "reflectlite.Value.Type" 0) (fun t _ _ _ => ReflectliteType.toType t)) Tryz.func50 (by kernel_rfl) (by kernel_rfl) (by kernel_rfl) (by kernel_rfl)
  have x27 := @run_callFunc_extern Tryz.prog 51 _ (ReflectliteValue.method (ReflectliteValue.valueError "reflectlite.Value.IsNil" 0) ReflectliteValue.isNil) Tryz.func51 (by kernel_rfl) (by kernel_rfl) (by kernel_rfl) (by kernel_rfl)
  have x71 := @run_callFunc_extern Tryz.prog 100 _ (ReflectliteType.abiMethod fun t => do pure (.int .u8 (← Rtype.kind t))) Tryz.func100 (by kernel_rfl) (by kernel_rfl) (by kernel_rfl) (by kernel_rfl)
  have x80 := @run_callFunc_extern Tryz.prog 116 _ (ReflectliteType.method ReflectliteType.elem) Tryz.func116 (by kernel_rfl) (by kernel_rfl) (by kernel_rfl) (by kernel_rfl)
  have x81 := @run_callFunc_extern Tryz.prog 117 _ (ReflectliteType.relation "Implements" ReflectliteType.implements_) Tryz.func117 (by kernel_rfl) (by kernel_rfl) (by kernel_rfl) (by kernel_rfl)
  have v1 := valueOf_pe
  have t1 := type_pe
  have mK := method_kind
  have mE := method_elem
  have mI := method_implements
  have k1 := kind_pe
  have k2 := kind_e
  have e1 := elem_pe
  have i1 := implements_e
  have n1 := isNil_pe ⟨w.heap.size, 0, none⟩ ⟨g, 0, none⟩ ((w.alloc (.cells #[.pointer (some ⟨g, 0, none⟩)] 74)).alloc (.cells #[.pointer (some ⟨1, 74, none⟩), .pointer (some ⟨w.heap.size, 0, none⟩), .int .u64 150] 116)) (by simp)
  have hE2 : ErrType ((w.alloc (.cells #[.pointer (some ⟨g, 0, none⟩)] 74)).alloc (.cells #[.pointer (some ⟨1, 74, none⟩), .pointer (some ⟨w.heap.size, 0, none⟩), .int .u64 150] 116)) := (hE.alloc _).alloc _
  have hg2 : ((w.alloc (.cells #[.pointer (some ⟨g, 0, none⟩)] 74)).alloc (.cells #[.pointer (some ⟨1, 74, none⟩), .pointer (some ⟨w.heap.size, 0, none⟩), .int .u64 150] 116)).cell? ⟨0, 0, none⟩ = some (.iface 145 (.agg #[.pointer (some ⟨1, 29, none⟩)])) := hE2
  have hb : Below w.heap.size w ((w.alloc (.cells #[.pointer (some ⟨g, 0, none⟩)] 74)).alloc (.cells #[.pointer (some ⟨1, 74, none⟩), .pointer (some ⟨w.heap.size, 0, none⟩), .int .u64 150] 116)) := ((Below.refl _ _).alloc (Nat.le_refl _) _).alloc (by simp) _
  have H := Lib.hid (asc_any n (.iface u x) g ⟨w.heap.size, 0, none⟩ old ((w.alloc (.cells #[.pointer (some ⟨g, 0, none⟩)] 74)).alloc (.cells #[.pointer (some ⟨1, 74, none⟩), .pointer (some ⟨w.heap.size, 0, none⟩), .int .u64 150] 116)) (he.below hb) ((ht.alloc _).alloc _) (by simp) (by simp; omega))
  have hgr : ∀ w', ((w.alloc (.cells #[.pointer (some ⟨g, 0, none⟩)] 74)).alloc (.cells #[.pointer (some ⟨1, 74, none⟩), .pointer (some ⟨w.heap.size, 0, none⟩), .int .u64 150] 116)).grownBy w' (some g) → w.grownBy w' (some g) := fun w' h =>
    ⟨h.os.trans hb.os, h.tape.trans hb.tape, h.output.trans hb.output, Nat.le_trans hb.size h.size, fun k hk hne => (h.block k (Nat.lt_of_lt_of_le hk hb.size) hne).trans (hb.block k hk)⟩
  have HG := Lib.hid hgr
  clear hgr hb hE hE2 he ht
  go_enter Tryz.func25, Tryz.ntmps25
  go_wp2_with (first
    | (go_at_call 52; refine H.out.mono ?_; rintro ev w1 ⟨rfl, h1, h2⟩)
    | go_in)
  go_ret
  exact ⟨rfl, h1, HG.out _ h2⟩

set_option maxHeartbeats 400000 in
theorem Code_c (n : Int) (u : TypeId) (x : Value) (w : World) (hE : ErrType w) (he : WrapsC w (.iface u x) n) :
    Calls Tryz.prog 7 #[.iface u x] w fun e w' => e = .returned (.int .i64 n) ∧ Below w.heap.size w w' := by
  have hb : Below w.heap.size w (w.alloc (.cells #[.int .i64 0] 35)) := (Below.refl _ _).alloc (Nat.le_refl _) _
  have H := Lib.hid (Asc_any n u x w.heap.size (.int .i64 0) (w.alloc (.cells #[.int .i64 0] 35)) (hE.alloc _) (he.below hb) (Blk.fresh _ _ _))
  have HB := Lib.hid hb
  clear hb hE he
  go_enter Tryz.func7, Tryz.ntmps7
  go_wp2_with (go_at_call 25; refine H.out.mono ?_; rintro ev w1 ⟨rfl, h1, h2⟩
               have c0 := h1.cell 0
               simp at c0)
  go_ret
  exact ⟨rfl, HB.out.grown h2 (by simp) (fun k hk => by injection hk with hk; omega)⟩
end Go.Proofs.YtkdncnhjlgidnaaGreatDoor
