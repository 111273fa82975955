/- What is proved here: errors.As of a fault, and of an error's number, at a target of type *Errno: true, and the target holds the number; nothing else that was there has changed. -/
import Derived.Test.YtkdncnhjlgidnaaGreatDoorAsFacts
namespace Go.Proofs.YtkdncnhjlgidnaaGreatDoor
open Go.RowKit Go.Extern.Stop Go.Stop Go.Extern

theorem fault_no_as (v : Value) (w : World) : (Instr.typeAssert (.iface 142 v) 29 150 true).run Tryz.prog w = .ok (.tuple #[.nilIface, .bool false]) w :=
  run_typeAssert_lacksB Tryz.underlying150 (by kernel_rfl) (by kernel_rfl) v 29 w
theorem fault_unwraps (v : Value) (w : World) : (Instr.typeAssert (.iface 142 v) 29 153 true).run Tryz.prog w = .ok (.tuple #[.iface 142 v, .bool true]) w :=
  run_typeAssert_hasB Tryz.underlying153 (by kernel_rfl) v 29 w
theorem method_unwrap (f : Addr) (w : World) : (Go.method 294 142 (.pointer (some f)) "Unwrap").run Tryz.prog w = .ok (112, .pointer (some f)) w := by kernel_rfl

set_option maxHeartbeats 1000000 in
theorem as_errno (n : Int) (g : Nat) (a : Addr) (old : Value) (w : World) (ht : Blk w g 35 #[old]) (ha : w.cell? a = some (.pointer (some ⟨g, 0, none⟩))) (hal : a.block < w.heap.size) :
    Calls Tryz.prog 52 #[.iface 35 (.int .i64 n), .iface 74 (.pointer (some ⟨g, 0, none⟩)), .agg #[.pointer (some ⟨1, 74, none⟩), .pointer (some a), .int .u64 150], .iface 145 (.agg #[.pointer (some ⟨1, 35, none⟩)])] w fun e w' =>
      e = .returned (.bool true) ∧ Blk w' g 35 #[.int .i64 n] ∧ w.grownBy w' (some g) := by
  have x25 := @run_callFunc_extern Tryz.prog 49 _ (fun args => ReflectliteValue.unpack (args.getD 0 (.tuple #[]))) Tryz.func49 (by kernel_rfl) (by kernel_rfl) (by kernel_rfl) (by kernel_rfl)
  have x39 := @run_callFunc_extern Tryz.prog 72 _ ReflectliteType.typeOf Tryz.func72 (by kernel_rfl) (by kernel_rfl) (by kernel_rfl) (by kernel_rfl)
  have x78 := @run_callFunc_extern Tryz.prog 114 _ (ReflectliteType.relation "AssignableTo" ReflectliteType.assignableTo) Tryz.func114 (by kernel_rfl) (by kernel_rfl) (by kernel_rfl) (by kernel_rfl)
  have x40 := @run_callFunc_extern Tryz.prog 73 _ (ReflectliteValue.method (ReflectliteValue.valueError "reflectlite.Value.Elem" 0) ReflectliteValue.elem) Tryz.func73 (by kernel_rfl) (by kernel_rfl) (by kernel_rfl) (by kernel_rfl)
  have x41 := @run_callFunc_extern Tryz.prog 74 _ ReflectliteValue.set Tryz.func74 (by kernel_rfl) (by kernel_rfl) (by kernel_rfl) (by kernel_rfl)
  have tO := typeOf_e
  have mA := method_assignable
  have aE := assignable_ee
  have vE := valueOf_e
  have hgl := ht.lt
  have hb1 := ht.alloc (.cells #[.pointer (some ⟨1, 74, none⟩), .pointer (some a), .int .u64 150] 116)
  have hb2 := hb1.alloc (.cells #[.int .i64 n] 35)
  have el := elemV_pe a ⟨g, 0, none⟩ (w.alloc (.cells #[.pointer (some ⟨1, 74, none⟩), .pointer (some a), .int .u64 150] 116)) (by rw [World.cell?_alloc_lt _ _ a hal]; exact ha)
  have st := set_e ⟨g, 0, none⟩ ⟨w.heap.size + 1, 0, none⟩ n old ((w.alloc (.cells #[.pointer (some ⟨1, 74, none⟩), .pointer (some a), .int .u64 150] 116)).alloc (.cells #[.int .i64 n] 35))
    (by rw [World.cell?_alloc_at _ _ _ _ (by simp)]; rfl) (by rw [hb2.cell 0]; rfl) (hb2.free 0)
  have hb3 := Lib.hid (((ht.set 0 (.int .i64 n)).alloc (.cells #[.pointer (some ⟨1, 74, none⟩), .pointer (some a), .int .u64 150] 116)).alloc (.cells #[.int .i64 n] 35))
  have hgr := Lib.hid (grow_alloc (grow_alloc (grow_set (g := g) (World.grownBy.refl w (some g)) 0 (.int .i64 n)) (.cells #[.pointer (some ⟨1, 74, none⟩), .pointer (some a), .int .u64 150] 116)) (.cells #[.int .i64 n] 35))
  clear hb1 hb2 ht
  go_enter Tryz.func52, Tryz.ntmps52
  go_wp2
  refine wp_loop_rounds 1 ?_
  rw [rounds_succ]
  go_wp2
  go_ret
  exact ⟨rfl, hb3.out, hgr.out⟩

set_option maxHeartbeats 2000000 in
theorem as_fault (at_ n : Int) (f g : Nat) (a : Addr) (old : Value) (w : World) (hf : Blk w f 160 #[.int .i64 at_, .iface 35 (.int .i64 n)]) (ht : Blk w g 35 #[old]) (ha : w.cell? a = some (.pointer (some ⟨g, 0, none⟩))) (hal : a.block < w.heap.size) :
    Calls Tryz.prog 52 #[.iface 142 (.pointer (some ⟨f, 0, none⟩)), .iface 74 (.pointer (some ⟨g, 0, none⟩)), .agg #[.pointer (some ⟨1, 74, none⟩), .pointer (some a), .int .u64 150], .iface 145 (.agg #[.pointer (some ⟨1, 35, none⟩)])] w fun e w' =>
      e = .returned (.bool true) ∧ Blk w' g 35 #[.int .i64 n] ∧ w.grownBy w' (some g) := by
  have x25 := @run_callFunc_extern Tryz.prog 49 _ (fun args => ReflectliteValue.unpack (args.getD 0 (.tuple #[]))) Tryz.func49 (by kernel_rfl) (by kernel_rfl) (by kernel_rfl) (by kernel_rfl)
  have x39 := @run_callFunc_extern Tryz.prog 72 _ ReflectliteType.typeOf Tryz.func72 (by kernel_rfl) (by kernel_rfl) (by kernel_rfl) (by kernel_rfl)
  have x78 := @run_callFunc_extern Tryz.prog 114 _ (ReflectliteType.relation "AssignableTo" ReflectliteType.assignableTo) Tryz.func114 (by kernel_rfl) (by kernel_rfl) (by kernel_rfl) (by kernel_rfl)
  have x40 := @run_callFunc_extern Tryz.prog 73 _ (ReflectliteValue.method (ReflectliteValue.valueError "reflectlite.Value.Elem" 0) ReflectliteValue.elem) Tryz.func73 (by kernel_rfl) (by kernel_rfl) (by kernel_rfl) (by kernel_rfl)
  have x41 := @run_callFunc_extern Tryz.prog 74 _ ReflectliteValue.set Tryz.func74 (by kernel_rfl) (by kernel_rfl) (by kernel_rfl) (by kernel_rfl)
  have tO := typeOf_e
  have tF := typeOf_f
  have mA := method_assignable
  have mU := method_unwrap
  have nA := fault_no_as
  have nU := fault_unwraps
  have aE := assignable_ee
  have aF := assignable_fe
  have vE := valueOf_e
  have hgl := ht.lt
  have hfl := hf.lt
  have hb1 := ht.alloc (.cells #[.pointer (some ⟨1, 74, none⟩), .pointer (some a), .int .u64 150] 116)
  have hb2 := hb1.alloc (.cells #[.int .i64 n] 35)
  have hf1 := (hf.alloc (.cells #[.pointer (some ⟨1, 74, none⟩), .pointer (some a), .int .u64 150] 116)).cell 1
  simp at hf1
  have el := elemV_pe a ⟨g, 0, none⟩ (w.alloc (.cells #[.pointer (some ⟨1, 74, none⟩), .pointer (some a), .int .u64 150] 116)) (by rw [World.cell?_alloc_lt _ _ a hal]; exact ha)
  have st := set_e ⟨g, 0, none⟩ ⟨w.heap.size + 1, 0, none⟩ n old ((w.alloc (.cells #[.pointer (some ⟨1, 74, none⟩), .pointer (some a), .int .u64 150] 116)).alloc (.cells #[.int .i64 n] 35))
    (by rw [World.cell?_alloc_at _ _ _ _ (by simp)]; rfl) (by rw [hb2.cell 0]; rfl) (hb2.free 0)
  have hb3 := Lib.hid (((ht.set 0 (.int .i64 n)).alloc (.cells #[.pointer (some ⟨1, 74, none⟩), .pointer (some a), .int .u64 150] 116)).alloc (.cells #[.int .i64 n] 35))
  have hgr := Lib.hid (grow_alloc (grow_alloc (grow_set (g := g) (World.grownBy.refl w (some g)) 0 (.int .i64 n)) (.cells #[.pointer (some ⟨1, 74, none⟩), .pointer (some a), .int .u64 150] 116)) (.cells #[.int .i64 n] 35))
  clear hb1 hb2 ht hf
  go_enter Tryz.func52, Tryz.ntmps52
  go_wp2
  refine wp_loop_rounds 2 ?_
  rw [rounds_succ]
  go_wp2
  rw [rounds_succ]
  go_wp2
  go_ret
  exact ⟨rfl, hb3.out, hgr.out⟩
end Go.Proofs.YtkdncnhjlgidnaaGreatDoor
