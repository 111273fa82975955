/- What is proved here: errors.As of a Bad at a target of type **Bad; written by mkwas.py. -/
/- What is proved here: the texts of an error's number and of a Bad; written by mkwerr.py. -/
/- What is proved here: how Open refuses: what it was given, a snapshot, a segment. -/
/- What is proved here: what readSnap does of a snapshot that is amiss. -/
/- What is proved here: how readSegments refuses; the names' calls are written by mknosegs.py. -/
/- What is proved here: how Open refuses the seven disks of 'WalBads'. -/
/- What is proved here: a disk and two rows beside it, as 'WalBads' has them; the law's first calls. -/
import Derived.Test.YtnomicnmpllajaaGreatDoorPFu13
import Derived.Test.YtnomicnmpllajaaGreatDoorPFu4
import Derived.Test.YtnomicnmpllajaaGreatDoorPFu9
import Derived.Defers
import Derived.Recover
import Derived.Deep.RegionHeld3
import Derived.Test.YtnomicnmpllajaaGreatDoorPFu16
import Derived.Test.YtnomicnmpllajaaGreatDoorPFu20
section
namespace Go.Proofs.YtnomicnmpllajaaGreatDoor
open Go Go.RowKit Go.Extern.Stop Go.Stop Go.Extern
set_option linter.unusedVariables false

theorem method_kind (h : Value) (w : World) : (Go.method 341 152 (.agg #[h]) "Kind").run Tryz.prog w = .ok (159, h) w := by kernel_rfl
theorem method_elem (h : Value) (w : World) : (Go.method 341 152 (.agg #[h]) "Elem").run Tryz.prog w = .ok (168, .agg #[h]) w := by kernel_rfl
theorem method_implements (h : Value) (w : World) : (Go.method 341 152 (.agg #[h]) "Implements").run Tryz.prog w = .ok (169, .agg #[h]) w := by kernel_rfl
theorem method_assignable (h : Value) (w : World) : (Go.method 341 152 (.agg #[h]) "AssignableTo").run Tryz.prog w = .ok (166, .agg #[h]) w := by kernel_rfl
theorem typeOf_f (v : Value) (w : World) : (ReflectliteType.typeOf #[.iface 63 v]).run Tryz.prog w = .ok (.iface 152 (.agg #[.pointer (some ⟨5, 63, none⟩)])) w := by kernel_rfl
/-- What the variable of package errors holds: the type error. -/
def ErrType (w : World) : Prop := w.cell? ⟨0, 0, none⟩ = some (.iface 152 (.agg #[.pointer (some ⟨5, 30, none⟩)]))
theorem ErrType.lt {w : World} (h : ErrType w) : 0 < w.heap.size := by
  unfold ErrType at h
  rcases Nat.eq_zero_or_pos w.heap.size with h0 | h1
  · simp [World.cell?, h0] at h
  · exact h1
theorem ErrType.below {w w' : World} (h : ErrType w) (hb : Below w.heap.size w w') : ErrType w' := (hb.cell (p := ⟨0, 0, none⟩) h.lt).trans h
theorem ErrType.alloc {w : World} (h : ErrType w) (o : Obj) : ErrType (w.alloc o) := h.below ((Below.refl _ _).alloc (Nat.le_refl _) _)
theorem ErrType.grow {w w' : World} {g : Nat} (h : ErrType w) (hg : w.grownBy w' (some g)) (hne : 0 < g) : ErrType w' :=
  (World.cell?_of_block (w := w) (a := ⟨0, 0, none⟩) (hg.block 0 h.lt (fun e => by injection e with e; omega))).trans h
theorem valueOf_pf (t : Addr) (w : World) : (ReflectliteValue.unpack (.iface 65 (.pointer (some t)))).run Tryz.prog w
    = .ok (.agg #[.pointer (some ⟨5, 65, none⟩), .pointer (some ⟨w.heap.size, 0, none⟩), .int .u64 150]) (w.alloc (.cells #[.pointer (some t)] 65)) := by kernel_rfl
theorem type_pf (a : Addr) (w : World) : (ReflectliteValue.methodAny (ReflectliteValue.valueError "reflectlite.Value.Type" 0) (fun t _ _ _ => ReflectliteType.toType t) #[.agg #[.pointer (some ⟨5, 65, none⟩), .pointer (some a), .int .u64 150]]).run Tryz.prog w
    = .ok (.iface 152 (.agg #[.pointer (some ⟨5, 65, none⟩)])) w := by kernel_rfl
theorem kind_pf (w : World) : ((ReflectliteType.abiMethod fun t => (fun a : Nat => Value.int IntKind.u8 (a : Int)) <$> Rtype.kind t) #[.pointer (some ⟨5, 65, none⟩)]).run Tryz.prog w = .ok (.int .u8 22) w := by kernel_rfl
theorem kind_f (w : World) : ((ReflectliteType.abiMethod fun t => (fun a : Nat => Value.int IntKind.u8 (a : Int)) <$> Rtype.kind t) #[.pointer (some ⟨5, 63, none⟩)]).run Tryz.prog w = .ok (.int .u8 22) w := by kernel_rfl
theorem parts_pf (a : Addr) (w : World) : (ReflectliteValue.parts (.agg #[.pointer (some ⟨5, 65, none⟩), .pointer (some a), .int .u64 150])).run Tryz.prog w = .ok (some (65, a, 150)) w := by kernel_rfl
theorem isNil_pf (a p : Addr) (W : World) (ha : W.cell? a = some (.pointer (some p))) :
    (ReflectliteValue.method (ReflectliteValue.valueError "reflectlite.Value.IsNil" 0) ReflectliteValue.isNil #[.agg #[.pointer (some ⟨5, 65, none⟩), .pointer (some a), .int .u64 150]]).run Tryz.prog W = .ok (.bool false) W := by
  show Sem.run Tryz.prog (ReflectliteValue.parts (.agg #[.pointer (some ⟨5, 65, none⟩), .pointer (some a), .int .u64 150]) >>= _) W = _
  simp only [Sem.run_bind, parts_pf, Result.andThen]
  simp [ReflectliteValue.isNil, loadVar, isAgg, underlying, Tryz.underlying65, ha, Result.andThen]
theorem elem_pf (w : World) : (ReflectliteType.method ReflectliteType.elem #[.agg #[.pointer (some ⟨5, 65, none⟩)]]).run Tryz.prog w = .ok (.iface 152 (.agg #[.pointer (some ⟨5, 63, none⟩)])) w := by kernel_rfl
theorem implements_f (w : World) : (ReflectliteType.relation "Implements" ReflectliteType.implements_ #[.agg #[.pointer (some ⟨5, 63, none⟩)], .iface 152 (.agg #[.pointer (some ⟨5, 30, none⟩)])]).run Tryz.prog w = .ok (.bool true) w := by kernel_rfl
theorem assignable_ff (w : World) : (ReflectliteType.relation "AssignableTo" ReflectliteType.assignableTo #[.agg #[.pointer (some ⟨5, 63, none⟩)], .iface 152 (.agg #[.pointer (some ⟨5, 63, none⟩)])]).run Tryz.prog w = .ok (.bool true) w := by kernel_rfl
theorem valueOf_f (n : Addr) (w : World) : (ReflectliteValue.unpack (.iface 63 (.pointer (some n)))).run Tryz.prog w
    = .ok (.agg #[.pointer (some ⟨5, 63, none⟩), .pointer (some ⟨w.heap.size, 0, none⟩), .int .u64 150]) (w.alloc (.cells #[.pointer (some n)] 63)) := by kernel_rfl
theorem elemOf_pf (w : World) : (Rtype.elem? 65).run Tryz.prog w = .ok (some 63) w := by kernel_rfl
theorem mk_f (p : Addr) (w : World) : (ReflectliteValue.mk 63 p ReflectliteValue.flagAddr).run Tryz.prog w = .ok (.agg #[.pointer (some ⟨5, 63, none⟩), .pointer (some p), .int .u64 406]) w := by kernel_rfl
theorem elemV_pf (a p : Addr) (W : World) (ha : W.cell? a = some (.pointer (some p))) :
    (ReflectliteValue.method (ReflectliteValue.valueError "reflectlite.Value.Elem" 0) ReflectliteValue.elem #[.agg #[.pointer (some ⟨5, 65, none⟩), .pointer (some a), .int .u64 150]]).run Tryz.prog W
      = .ok (.agg #[.pointer (some ⟨5, 63, none⟩), .pointer (some p), .int .u64 406]) W := by
  show Sem.run Tryz.prog (ReflectliteValue.parts (.agg #[.pointer (some ⟨5, 65, none⟩), .pointer (some a), .int .u64 150]) >>= _) W = _
  simp only [Sem.run_bind, parts_pf, Result.andThen]
  simp [ReflectliteValue.elem, loadVar, isAgg, underlying, Tryz.underlying65, ha, Result.andThen, elemOf_pf, mk_f]
theorem parts_fa (a : Addr) (w : World) : (ReflectliteValue.parts (.agg #[.pointer (some ⟨5, 63, none⟩), .pointer (some a), .int .u64 406])).run Tryz.prog w = .ok (some (63, a, 406)) w := by kernel_rfl
theorem parts_f (a : Addr) (w : World) : (ReflectliteValue.parts (.agg #[.pointer (some ⟨5, 63, none⟩), .pointer (some a), .int .u64 150])).run Tryz.prog w = .ok (some (63, a, 150)) w := by kernel_rfl
theorem direct_f (w : World) : (Rtype.directlyAssignable 63 63).run Tryz.prog w = .ok true w := by kernel_rfl
set_option maxRecDepth 100000 in
theorem set_f (ta b : Addr) (n : Addr) (old : Value) (W : World) (hb : W.cell? b = some (.pointer (some n))) (ht : W.cell? ta = some old) (hf : W.frozen? ta = false) :
    (ReflectliteValue.set #[.agg #[.pointer (some ⟨5, 63, none⟩), .pointer (some ta), .int .u64 406], .agg #[.pointer (some ⟨5, 63, none⟩), .pointer (some b), .int .u64 150]]).run Tryz.prog W
      = .ok (.tuple #[]) (W.setCell ta (.pointer (some n))) := by
  show Sem.run Tryz.prog (ReflectliteValue.parts (.agg #[.pointer (some ⟨5, 63, none⟩), .pointer (some ta), .int .u64 406]) >>= _) W = _
  rw [Sem.run_bind, parts_fa]
  show Sem.run Tryz.prog (ReflectliteValue.parts (.agg #[.pointer (some ⟨5, 63, none⟩), .pointer (some b), .int .u64 150]) >>= _) W = _
  rw [Sem.run_bind, parts_f]
  simp only [Result.andThen]
  simp [ReflectliteValue.flagAddr, loadVar, isAgg, underlying, Tryz.underlying63, hb, Result.andThen, direct_f, storeVar, Value.cells, storeCells, Addr.add]
  rw [run_store Tryz.prog W ta _ _ (by rfl)]
  simp [ht, hf]
set_option maxHeartbeats 1000000 in
theorem as_self (n : Addr) (g : Nat) (a : Addr) (old : Value) (w : World) (ht : Blk w g 63 #[old]) (ha : w.cell? a = some (.pointer (some ⟨g, 0, none⟩))) (hal : a.block < w.heap.size) :
    Calls Tryz.prog 71 #[.iface 63 (.pointer (some n)), .iface 65 (.pointer (some ⟨g, 0, none⟩)), .agg #[.pointer (some ⟨5, 65, none⟩), .pointer (some a), .int .u64 150], .iface 152 (.agg #[.pointer (some ⟨5, 63, none⟩)])] w fun e w' =>
      e = .returned (.bool true) ∧ Blk w' g 63 #[.pointer (some n)] ∧ w.grownBy w' (some g) := by
  have x25 := @run_callFunc_extern Tryz.prog 68 _ (fun args => ReflectliteValue.unpack (args.getD 0 (.tuple #[]))) Tryz.func68 (by kernel_rfl) (by kernel_rfl) (by kernel_rfl) (by kernel_rfl)
  have x39 := @run_callFunc_extern Tryz.prog 72 _ ReflectliteType.typeOf Tryz.func72 (by kernel_rfl) (by kernel_rfl) (by kernel_rfl) (by kernel_rfl)
  have x78 := @run_callFunc_extern Tryz.prog 166 _ (ReflectliteType.relation "AssignableTo" ReflectliteType.assignableTo) Tryz.func166 (by kernel_rfl) (by kernel_rfl) (by kernel_rfl) (by kernel_rfl)
  have x40 := @run_callFunc_extern Tryz.prog 94 _ (ReflectliteValue.method (ReflectliteValue.valueError "reflectlite.Value.Elem" 0) ReflectliteValue.elem) Tryz.func94 (by kernel_rfl) (by kernel_rfl) (by kernel_rfl) (by kernel_rfl)
  have x41 := @run_callFunc_extern Tryz.prog 95 _ ReflectliteValue.set Tryz.func95 (by kernel_rfl) (by kernel_rfl) (by kernel_rfl) (by kernel_rfl)
  have tO := typeOf_f
  have mA := method_assignable
  have aE := assignable_ff
  have vE := valueOf_f
  have hgl := ht.lt
  have hb1 := ht.alloc (.cells #[.pointer (some ⟨5, 65, none⟩), .pointer (some a), .int .u64 150] 114)
  have hb2 := hb1.alloc (.cells #[.pointer (some n)] 63)
  have el := elemV_pf a ⟨g, 0, none⟩ (w.alloc (.cells #[.pointer (some ⟨5, 65, none⟩), .pointer (some a), .int .u64 150] 114)) (by rw [World.cell?_alloc_lt _ _ a hal]; exact ha)
  have st := set_f ⟨g, 0, none⟩ ⟨w.heap.size + 1, 0, none⟩ n old ((w.alloc (.cells #[.pointer (some ⟨5, 65, none⟩), .pointer (some a), .int .u64 150] 114)).alloc (.cells #[.pointer (some n)] 63))
    (by rw [World.cell?_alloc_at _ _ _ _ (by simp)]; rfl) (by rw [hb2.cell 0]; rfl) (hb2.free 0)
  have hb3 := Lib.hid (((ht.set 0 (.pointer (some n))).alloc (.cells #[.pointer (some ⟨5, 65, none⟩), .pointer (some a), .int .u64 150] 114)).alloc (.cells #[.pointer (some n)] 63))
  have hgr := Lib.hid (grow_alloc (grow_alloc (grow_set (g := g) (World.grownBy.refl w (some g)) 0 (.pointer (some n))) (.cells #[.pointer (some ⟨5, 65, none⟩), .pointer (some a), .int .u64 150] 114)) (.cells #[.pointer (some n)] 63))
  clear hb1 hb2 ht
  go_enter Tryz.func71, Tryz.ntmps71
  go_wp2
  refine wp_loop_rounds 1 ?_
  rw [rounds_succ]
  go_wp2
  go_ret
  exact ⟨rfl, hb3.out, hgr.out⟩

set_option maxHeartbeats 2000000 in
theorem As_self (n : Addr) (g : Nat) (old : Value) (w : World) (hE : ErrType w) (ht : Blk w g 63 #[old]) :
    Calls Tryz.prog 34 #[.iface 63 (.pointer (some n)), .iface 65 (.pointer (some ⟨g, 0, none⟩))] w fun e w' =>
      e = .returned (.bool true) ∧ Blk w' g 63 #[.pointer (some n)] ∧ w.grownBy w' (some g) := by
  have x25 := @run_callFunc_extern Tryz.prog 68 _ (fun args => ReflectliteValue.unpack (args.getD 0 (.tuple #[]))) Tryz.func68 (by kernel_rfl) (by kernel_rfl) (by kernel_rfl) (by kernel_rfl)
  have x26 := @run_callFunc_extern Tryz.prog 69 _ (ReflectliteValue.methodAny (ReflectliteValue.valueError "reflectlite.Value.Type" 0) (fun t _ _ _ => ReflectliteType.toType t)) Tryz.func69 (by kernel_rfl) (by kernel_rfl) (by kernel_rfl) (by kernel_rfl)
  have x27 := @run_callFunc_extern Tryz.prog 70 _ (ReflectliteValue.method (ReflectliteValue.valueError "reflectlite.Value.IsNil" 0) ReflectliteValue.isNil) Tryz.func70 (by kernel_rfl) (by kernel_rfl) (by kernel_rfl) (by kernel_rfl)
  have x71 := @run_callFunc_extern Tryz.prog 159 _ (ReflectliteType.abiMethod fun t => do pure (.int .u8 (← Rtype.kind t))) Tryz.func159 (by kernel_rfl) (by kernel_rfl) (by kernel_rfl) (by kernel_rfl)
  have x80 := @run_callFunc_extern Tryz.prog 168 _ (ReflectliteType.method ReflectliteType.elem) Tryz.func168 (by kernel_rfl) (by kernel_rfl) (by kernel_rfl) (by kernel_rfl)
  have x81 := @run_callFunc_extern Tryz.prog 169 _ (ReflectliteType.relation "Implements" ReflectliteType.implements_) Tryz.func169 (by kernel_rfl) (by kernel_rfl) (by kernel_rfl) (by kernel_rfl)
  have v1 := valueOf_pf
  have t1 := type_pf
  have mK := method_kind
  have mE := method_elem
  have mI := method_implements
  have k1 := kind_pf
  have k2 := kind_f
  have e1 := elem_pf
  have i1 := implements_f
  have n1 := isNil_pf ⟨w.heap.size, 0, none⟩ ⟨g, 0, none⟩ ((w.alloc (.cells #[.pointer (some ⟨g, 0, none⟩)] 65)).alloc (.cells #[.pointer (some ⟨5, 65, none⟩), .pointer (some ⟨w.heap.size, 0, none⟩), .int .u64 150] 114)) (by simp)
  have hE2 : ErrType ((w.alloc (.cells #[.pointer (some ⟨g, 0, none⟩)] 65)).alloc (.cells #[.pointer (some ⟨5, 65, none⟩), .pointer (some ⟨w.heap.size, 0, none⟩), .int .u64 150] 114)) := (hE.alloc _).alloc _
  have hg2 : ((w.alloc (.cells #[.pointer (some ⟨g, 0, none⟩)] 65)).alloc (.cells #[.pointer (some ⟨5, 65, none⟩), .pointer (some ⟨w.heap.size, 0, none⟩), .int .u64 150] 114)).cell? ⟨0, 0, none⟩ = some (.iface 152 (.agg #[.pointer (some ⟨5, 30, none⟩)])) := hE2
  have hb : Below w.heap.size w ((w.alloc (.cells #[.pointer (some ⟨g, 0, none⟩)] 65)).alloc (.cells #[.pointer (some ⟨5, 65, none⟩), .pointer (some ⟨w.heap.size, 0, none⟩), .int .u64 150] 114)) := ((Below.refl _ _).alloc (Nat.le_refl _) _).alloc (by simp) _
  have H := Lib.hid (as_self n g ⟨w.heap.size, 0, none⟩ old ((w.alloc (.cells #[.pointer (some ⟨g, 0, none⟩)] 65)).alloc (.cells #[.pointer (some ⟨5, 65, none⟩), .pointer (some ⟨w.heap.size, 0, none⟩), .int .u64 150] 114)) ((ht.alloc _).alloc _) (by simp) (by simp; omega))
  have hgr : ∀ w', ((w.alloc (.cells #[.pointer (some ⟨g, 0, none⟩)] 65)).alloc (.cells #[.pointer (some ⟨5, 65, none⟩), .pointer (some ⟨w.heap.size, 0, none⟩), .int .u64 150] 114)).grownBy w' (some g) → w.grownBy w' (some g) := fun w' h =>
    ⟨h.os.trans hb.os, h.tape.trans hb.tape, h.output.trans hb.output, Nat.le_trans hb.size h.size, fun k hk hne => (h.block k (Nat.lt_of_lt_of_le hk hb.size) hne).trans (hb.block k hk)⟩
  have HG := Lib.hid hgr
  clear hgr hb hE hE2 ht
  go_enter Tryz.func34, Tryz.ntmps34
  go_wp2_with (first
    | (go_at_call 71; refine H.out.mono ?_; rintro ev w1 ⟨rfl, h1, h2⟩)
    | go_in)
  go_ret
  exact ⟨rfl, h1, HG.out _ h2⟩
end Go.Proofs.YtnomicnmpllajaaGreatDoor
end

section
namespace Go.Proofs.YtnomicnmpllajaaGreatDoor
open Go Go.RowKit
set_option linter.unusedVariables false

/-- The digits of a number. -/
def digs (n : Int) : ByteArray := ⟨(Lib.itoa n).toArray⟩
theorem dec_len : ∀ (k u : Nat), u < 10 ^ (k + 1) → (Lib.decDigits u).length ≤ k + 1
  | 0, u, h => by
    rw [Lib.decDigits, dif_pos (by simpa using h)]
    simp
  | k + 1, u, h => by
    rw [Lib.decDigits]
    by_cases hu : u < 10
    · rw [dif_pos hu]; simp
    · rw [dif_neg hu, List.length_append]
      have := dec_len k (u / 10) (by
        rw [Nat.div_lt_iff_lt_mul (by omega)]
        rw [Nat.pow_succ] at h
        exact h)
      simp only [List.length_cons, List.length_nil]
      omega
theorem digs_size (n : Int) (h0 : -9223372036854775808 ≤ n) (h1 : n ≤ 9223372036854775807) : (digs n).size ≤ 20 := by
  have hp : (10 : Nat) ^ (18 + 1) = 10000000000000000000 := by decide
  show (Lib.itoa n).length ≤ 20
  unfold Lib.itoa
  split
  · have := dec_len 18 n.natAbs (by rw [hp]; omega)
    simp only [List.length_cons]
    omega
  · have := dec_len 18 n.toNat (by rw [hp]; omega)
    omega
theorem Itoa_any (n : Int) (w : World) (h0 : -9223372036854775808 ≤ n) (h1 : n ≤ 9223372036854775807) (ht : Tab w) :
    Calls Tryz.prog 75 #[.int .i64 n] w fun e w' => e = .returned (.string (digs n)) ∧ Below w.heap.size w w' :=
  (Tryz.strconv_Itoa n h0 h1 w ht).mono fun _ _ ⟨he, k, os, hw⟩ => ⟨he, hw ▸ Lib.below_grow w.heap.size w (Nat.le_refl _) k os⟩

set_option maxHeartbeats 400000 in
theorem ErrnoError_any (n : Int) (w : World) (h0 : -9223372036854775808 ≤ n) (h1 : n ≤ 9223372036854775807) (ht : Tab w) :
    Calls Tryz.prog 37 #[.int .i64 n] w fun e w' => e = .returned (.string (ByteArray.mk #[100, 97, 105, 115, 121, 99, 104, 97, 105, 110, 32] ++ digs n)) ∧ Below w.heap.size w w' := by
  have H := Lib.hid (Itoa_any n w h0 h1 ht)
  have hd := digs_size n h0 h1
  generalize digs n = D at *
  go_enter Tryz.func37, Tryz.ntmps37
  go_wp2_with (go_at_call 75; refine H.out.mono ?_; rintro e w1 ⟨rfl, hb⟩)
  go_ret
  exact ⟨rfl, hb⟩

theorem catch_idle (w : World) : CallsD Tryz.prog 96 #[] .returning w fun e u' w' => e = .returned (.tuple #[]) ∧ u' = .returning ∧ w' = w := by
  refine callsD_of_wpS Tryz.func96 rfl fun c₀ cs hu => ?_
  apply wpS_region
  cases c₀
  simp_all [wpOpsS, go_sem, recoverD, Tryz.ntmps96, bodyPostS, results, Tryz.results96]

/-- An error that has a text: none, or a number. -/
theorem method_error (n : Int) (w : World) : (Go.method 341 49 (.int .i64 n) "Error").run Tryz.prog w = .ok (37, .int .i64 n) w := by kernel_rfl
set_option maxHeartbeats 400000 in
theorem textOf_nil (w : World) : Calls Tryz.prog 74 #[.nilIface] w fun e w' => e = .returned (.string ⟨#[]⟩) ∧ w' = w := by
  go_enter_defers Tryz.func74, Tryz.ntmps74
  go_wp2
  exact ⟨_, results_tmp rfl _ _ _, rfl, rfl⟩
set_option maxHeartbeats 400000 in
theorem textOf_num (n : Int) (w : World) (h0 : -9223372036854775808 ≤ n) (h1 : n ≤ 9223372036854775807) (ht : Tab w) :
    Calls Tryz.prog 74 #[.iface 49 (.int .i64 n)] w fun e w' => e = .returned (.string (ByteArray.mk #[100, 97, 105, 115, 121, 99, 104, 97, 105, 110, 32] ++ digs n)) ∧ Below w.heap.size w w' := by
  have H := Lib.hid (ErrnoError_any n w h0 h1 ht)
  have mE := method_error
  generalize digs n = D at *
  go_enter_defers Tryz.func74, Tryz.ntmps74
  go_wp2_with (go_at_call 37; refine H.out.mono ?_; rintro e w1 ⟨rfl, hb⟩)
  refine leaves_cons (f := 96) (args := #[]) (by simp) (by simp [go_sem]) ?_
  refine (catch_idle _).mono ?_
  rintro e u' w'' ⟨rfl, rfl, rfl⟩
  exact ⟨_, results_tmp rfl _ _ _, rfl, hb⟩
/-- The text of a Bad: its file, and the text of what it wraps. -/
def badText (F T : ByteArray) : ByteArray := F ++ ByteArray.mk #[58, 32] ++ T
set_option maxHeartbeats 1000000 in
theorem BadError_any (f : Nat) (F : ByteArray) (E : Value) (T : ByteArray) (w : World) (hf : Blk w f 67 #[.string F, E]) (hF : F.size ≤ 100) (hts : T.size ≤ 100)
    (hT : ∀ W, Below w.heap.size w W → Calls Tryz.prog 74 #[E] W fun e w' => e = .returned (.string T) ∧ Below W.heap.size W w') :
    Calls Tryz.prog 36 #[.pointer (some ⟨f, 0, none⟩)] w fun e w' => e = .returned (.string (badText F T)) ∧ Below w.heap.size w w' := by
  have HT : Hid (∀ W, Below w.heap.size w W → Calls Tryz.prog 74 #[E] W fun e w' => e = .returned (.string T) ∧ w'.cell? ⟨f, 0, none⟩ = some (.string F) ∧ w'.cell? ⟨f, 1, none⟩ = some E ∧ Below w.heap.size w w') := Lib.hid fun W hW => (hT W hW).mono fun e w' ⟨he, hb⟩ => by
    have hb2 := hW.trans (hb.mono hW.size)
    have hk := hf.below hb2 hf.lt
    have c0 := hk.cell 0
    have c1 := hk.cell 1
    simp at c0 c1
    exact ⟨he, c0, c1, hb2⟩
  have HST := Lib.hid (Below.refl w.heap.size w)
  have c0 := hf.cell 0
  have c1 := hf.cell 1
  simp at c0 c1
  have q1 : ¬ 9223372036854775807 < F.size + 2 := by omega
  have q2 : ¬ 9223372036854775807 < F.size + 2 + T.size := by omega
  unfold badText
  clear hf hT
  go_enter Tryz.func36, Tryz.ntmps36
  go_wp2_with fail
  go_region_held3 (fun w' => w'.cell? ⟨f, 0, none⟩ = some (.string F) ∧ w'.cell? ⟨f, 1, none⟩ = some E ∧ Below w.heap.size w w')
    (first | exact ⟨by assumption, by assumption, by assumption⟩ | exact ⟨c0, c1, HST.out⟩ | exact ⟨by assumption, by assumption, Below.drew (by assumption)⟩ | exact ⟨c0, c1, HST.out.drew⟩)
    (first
      | (go_at_call 74; refine (HT.out _ (by first | assumption | exact HST.out | exact HST.out.drew)).mono ?_; rintro e w' ⟨rfl, h1, h2, h3⟩))
  all_goals
    go_wp2_with fail
    go_ret
    exact ⟨rfl, by assumption⟩
end Go.Proofs.YtnomicnmpllajaaGreatDoor
end

section
namespace Go.Proofs.YtnomicnmpllajaaGreatDoor
open Go Go.RowKit
set_option linter.unusedVariables false

/-- A Bad with this file and this number, in a world behind w0. -/
def NoOpen (w0 : World) (F : ByteArray) (E : Int) (e : Ending) (w' : World) : Prop :=
  ∃ b, e = .returned (.tuple #[.pointer none, .iface 63 (.pointer (some ⟨b, 0, none⟩))]) ∧ Hid (Blk w' b 67 #[.string F, .iface 49 (.int .i64 E)]) ∧ Hid (Below w0.heap.size w0 w')
section
variable {w0 w : World} {d : Nat} {n E : Int}
set_option maxHeartbeats 800000 in
theorem Open_arg (hb : Below w0.heap.size w0 w) (hn : ¬ (16 ≤ n ∧ n ≤ 65536)) :
    Calls Tryz.prog 15 #[.pointer (some ⟨d, 0, none⟩), .int .i64 n] w (NoOpen w0 ⟨#[]⟩ 1) := by
  have HB := Lib.hid hb
  by_cases h1 : n < 16
  · have d1 : decide (n < 16) = true := decide_eq_true h1
    clear hb hn h1
    go_enter Tryz.func15, Tryz.ntmps15
    go_wp2_with fail
    go_ret2
    exact ⟨_, rfl, Lib.hid (Blk.fresh _ _ _), Lib.hid (HB.out.alloc HB.out.size _)⟩
  · have d1 : decide (n < 16) = false := decide_eq_false h1
    have d2 : decide (65536 < n) = true := decide_eq_true (by omega)
    clear hb hn h1
    go_enter Tryz.func15, Tryz.ntmps15
    go_wp2_with fail
    go_ret2
    exact ⟨_, rfl, Lib.hid (Blk.fresh _ _ _), Lib.hid (HB.out.alloc HB.out.size _)⟩
set_option maxHeartbeats 800000 in
/-- The snapshot is amiss. -/
theorem Open_snapno {n : Nat} (h1 : 16 ≤ n) (h2 : n ≤ 65536) (hE : ¬ E = 0) (H : Calls Tryz.prog 42 #[.pointer (some ⟨w.heap.size, 0, none⟩)] (w.alloc (.cells (newCells d n) 82)) fun e w2 => e = .returned (.int .i64 E) ∧ Below w0.heap.size w0 w2) :
    Calls Tryz.prog 15 #[.pointer (some ⟨d, 0, none⟩), .int .i64 n] w (NoOpen w0 ⟨#[115, 110, 97, 112]⟩ E) := by
  have HS := Lib.hid H
  have d1 : decide ((n : Int) < 16) = false := decide_eq_false (by omega)
  have d2 : decide ((65536 : Int) < n) = false := decide_eq_false (by omega)
  have d3 : decide (E = 0) = false := decide_eq_false hE
  have d4 : (E == 0) = false := beq_eq_false_iff_ne.2 hE
  unfold newCells at HS
  clear H h1 h2
  go_enter Tryz.func15, Tryz.ntmps15
  go_wp2_with (go_at_call 42; refine HS.out.mono ?_; rintro e w2 ⟨rfl, hb2⟩)
  go_ret2
  exact ⟨_, rfl, Lib.hid (Blk.fresh _ _ _), Lib.hid (hb2.alloc hb2.size _)⟩
set_option maxHeartbeats 800000 in
/-- A segment is amiss. -/
theorem Open_segno {n : Nat} {F : ByteArray} (h1 : 16 ≤ n) (h2 : n ≤ 65536) (hE : ¬ E = 0) (H : Calls Tryz.prog 42 #[.pointer (some ⟨w.heap.size, 0, none⟩)] (w.alloc (.cells (newCells d n) 82)) fun e w2 => e = .returned (.int .i64 0) ∧
      Hid (Calls Tryz.prog 43 #[.pointer (some ⟨w.heap.size, 0, none⟩)] w2 fun e w3 => e = .returned (.tuple #[.string F, .int .i64 E]) ∧ Below w0.heap.size w0 w3)) :
    Calls Tryz.prog 15 #[.pointer (some ⟨d, 0, none⟩), .int .i64 n] w (NoOpen w0 F E) := by
  have HS := Lib.hid H
  have d1 : decide ((n : Int) < 16) = false := decide_eq_false (by omega)
  have d2 : decide ((65536 : Int) < n) = false := decide_eq_false (by omega)
  have d3 : decide (E = 0) = false := decide_eq_false hE
  have d4 : (E == 0) = false := beq_eq_false_iff_ne.2 hE
  unfold newCells at HS
  clear H h1 h2
  go_enter Tryz.func15, Tryz.ntmps15
  go_wp2_with (first
    | (go_at_call 42; refine HS.out.mono ?_; rintro e w2 ⟨rfl, HG⟩)
    | (go_at_call 43; refine HG.out.mono ?_; rintro e w3 ⟨rfl, hb2⟩))
  go_ret2
  exact ⟨_, rfl, Lib.hid (Blk.fresh _ _ _), Lib.hid (hb2.alloc hb2.size _)⟩
end
end Go.Proofs.YtnomicnmpllajaaGreatDoor
end

section
namespace Go.Proofs.YtnomicnmpllajaaGreatDoor
open Go Go.RowKit
set_option linter.unusedVariables false
section
variable {w0 w w' : World} {Kp : Nat → Prop} {lb d : Nat} {R : Int} {S : List RF} {M : LogM} {V : LogV}
set_option maxHeartbeats 1600000 in
set_option maxRecDepth 100000 in
/-- It is no frame. -/
theorem readSnap_why (h : WPair w0 Kp lb d R S M V w) {f : RF} (hf : findN S snapN = some f) (hl : f.b.length ≤ 1000000) (hw : ¬ whyF f.b = 0) :
    Calls Tryz.prog 42 #[.pointer (some ⟨lb, 0, none⟩)] w fun e w' => e = .returned (.int .i64 (whyF f.b)) ∧ Below w0.heap.size w0 w' := by
  obtain ⟨_, l0, _⟩ := h.cells
  have HC : Hid (Calls Tryz.prog 41 #[.pointer (some ⟨d, 0, none⟩), .string ⟨#[115, 110, 97, 112]⟩] w fun e w2 => ∃ A n c, e = .returned (.tuple #[.slice A n c, .int .i64 0]) ∧ Hid (Calls Tryz.prog 78 #[.slice A n c] w2 fun e w3 => ∃ v1 v2, e = .returned (.tuple #[v1, v2, .int .i64 (whyF f.b)]) ∧ Hid (Below w0.heap.size w0 w3))) := Lib.hid (by
    refine (h.dread ⟨#[115, 110, 97, 112]⟩ (by show (4 : Nat) ≤ maxLen; unfold maxLen; omega)).mono ?_
    rintro e w2 ⟨hb2, h1⟩
    have hf' : findN S (ByteArray.mk #[115, 110, 97, 112]).data.toList = some f := hf
    rcases h1 with ⟨h2, _⟩ | ⟨f', A, c, h2, rfl, ho⟩
    · rw [hf'] at h2; cases h2
    rw [hf'] at h2
    obtain rfl := Option.some.inj h2
    refine ⟨A, f.b.length, c, rfl, Lib.hid ?_⟩
    obtain ⟨A', c', e1, hrd⟩ := Rd.of_own ho
    cases e1
    have hby : ∀ x ∈ f.b, 0 ≤ x ∧ x < 256 := by
      obtain ⟨Φ, Λ, _, hd, _⟩ := h.ex
      exact hd.file (findN_mem hf).1
    refine (Next_own A f.b.length c f.b w2 hrd hby hl).mono ?_
    rintro e w3 ⟨hb3, ⟨_, he⟩ | ⟨h0, _⟩⟩
    · have hb := h.below
      have hs := hb.size
      have h23 := hb2.trans (hb3.mono hb2.size)
      subst he
      exact ⟨_, _, rfl, Lib.hid (hb.trans (h23.mono hs))⟩
    · exact absurd h0 hw)
  obtain ⟨E, hE⟩ : ∃ E, E = whyF f.b := ⟨_, rfl⟩
  rw [← hE] at HC hw ⊢
  have hw1 : ¬ (E : Int) = 0 := by omega
  have hw2 : decide ((E : Int) = 0) = false := decide_eq_false hw1
  have HI := Lib.hid fun W => isNum_any 0 6 W
  clear h hf hl hE hw
  go_enter Tryz.func42, Tryz.ntmps42
  go_wp2_with (first
    | (go_at_call 41; refine HC.out.mono ?_; rintro e w2 ⟨A, n, c, rfl, HN⟩; clear l0)
    | (go_at_call 35; refine (HI.out _).mono ?_; rintro e w2b ⟨rfl, rfl⟩)
    | (go_at_call 78; refine HN.out.mono ?_; rintro e w3 ⟨v1, v2, rfl, HO⟩))
  go_ret
  exact ⟨rfl, HO.out⟩
/-- The calls of readSnap, one behind the other. -/
theorem rest_calls (h : WPair w0 Kp lb d R S M V w) {f : RF} (hf : findN S snapN = some f) {k m : Nat} {xs : List Int} {z : List Int} (hfb : f.b = sealF (enc k ++ xs) ++ z) (hz : z.length ≤ 1000) (hk : k < 100000000) (hx : ∀ x ∈ enc k ++ xs, 0 ≤ x ∧ x < 256) (hm : m = (enc k ++ xs).length) (hl : m ≤ 4096) :
    Calls Tryz.prog 41 #[.pointer (some ⟨d, 0, none⟩), .string ⟨#[115, 110, 97, 112]⟩] w fun e w2 => ∃ A n c, e = .returned (.tuple #[.slice A n c, .int .i64 0]) ∧ Hid (Calls Tryz.prog 78 #[.slice A n c] w2 fun e w3 => ∃ A1 c1 A2 c2, e = .returned (.tuple #[.slice A1 m c1, .slice A2 z.length c2, .int .i64 0]) ∧
      Hid (Calls Tryz.prog 79 #[.slice A1 m c1] w3 fun e w4 => ∃ g, e = .returned (.pointer (some ⟨g, 0, none⟩)) ∧ w.heap.size ≤ g ∧ Hid (Calls Tryz.prog 80 #[.pointer (some ⟨g, 0, none⟩)] w4 fun e w5 => e = .returned (.int .i64 k) ∧
        Hid (∃ A' c', Rdr w5 g A' m c' (enc k ++ xs) (enc k).length 0 ∧ w5.ownsRow w.heap.size 5 1 (.slice A1 m c1) m ((enc k ++ xs).map (Value.int .u8)) ∧ Below w.heap.size w w5)))) := by
  refine (h.dread ⟨#[115, 110, 97, 112]⟩ (by show (4 : Nat) ≤ maxLen; unfold maxLen; omega)).mono ?_
  rintro e w2 ⟨hb2, h1⟩
  have hf' : findN S (ByteArray.mk #[115, 110, 97, 112]).data.toList = some f := hf
  rcases h1 with ⟨h2, _⟩ | ⟨f', A, c, h2, rfl, ho⟩
  · rw [hf'] at h2; cases h2
  rw [hf'] at h2
  obtain rfl := Option.some.inj h2
  refine ⟨A, f.b.length, c, rfl, Lib.hid ?_⟩
  obtain ⟨A', c', e1, hrd⟩ := Rd.of_own ho
  cases e1
  have hyl : (enc k ++ xs).length ≤ 4096 := by omega
  have hfl : f.b.length = 6 + m + z.length := by
    rw [hfb, List.length_append, sealF_length, ← hm]
    omega
  have hby : ∀ x ∈ f.b, 0 ≤ x ∧ x < 256 := by
    obtain ⟨Φ, Λ, _, hd, _⟩ := h.ex
    exact hd.file (findN_mem hf).1
  have hwhy : whyF f.b = 0 := by
    have := seal_why hyl hx z
    rwa [← hfb] at this
  have hsz : sizeF f.b = m := by
    have := seal_size (xs := enc k ++ xs) (by omega) z
    rw [← hfb] at this
    rw [this, hm]
  have hbody : (f.b.drop 6).take (sizeF f.b) = enc k ++ xs := by
    have := seal_body (xs := enc k ++ xs) (by omega) z
    rwa [← hfb] at this
  refine (Next_own A f.b.length c f.b w2 hrd hby (by omega)).mono ?_
  rintro e w3 ⟨hb3, ⟨hw, _⟩ | ⟨_, _, A1, c1, A2, c2, rfl, ho1, _⟩⟩
  · exact absurd hwhy hw
  rw [hsz, hfl, show 6 + m + z.length - (6 + m) = z.length by omega]
  rw [hbody, hsz] at ho1
  refine ⟨A1, c1, A2, c2, rfl, Lib.hid ?_⟩
  have hb23 : Below w.heap.size w w3 := hb2.trans (hb3.mono hb2.size)
  obtain ⟨A', c', e1, hrd1⟩ := Rd.of_own ho1
  cases e1
  refine (Of_any A1 m c1 (enc k ++ xs) w3 hrd1 (by omega)).mono ?_
  rintro e w4 ⟨g, Ag, cg, rfl, hg, hrdr, hb4⟩
  refine ⟨g, rfl, by have := hb23.size; omega, Lib.hid ?_⟩
  have hgn : goNum (enc k ++ xs) 0 0 = (k, (enc k).length, 0) := by
    unfold goNum
    rw [if_pos rfl, List.drop_zero, numF_enc9 k xs (by omega), if_pos rfl, Nat.zero_add]
  refine (ReaderNum_any g Ag m cg (enc k ++ xs) 0 0 w4 hrdr (.inl rfl) hx (by omega) (Nat.zero_le _)).mono ?_
  rintro e w5 ⟨rfl, hr5, hg5⟩
  rw [hgn] at hr5 ⊢
  have hs23 := hb23.size
  have hs2 := hb2.size
  have hs4 := hb4.size
  refine ⟨rfl, Lib.hid ⟨Ag, cg, hr5, ?_, ?_⟩⟩
  · have ho4 := own_below ho1 hb4
    have ho5 := (Chg.of_grown hg5).own ho4 fun q hq e => by
      have h5 := (ho1.lt q hq).2
      have := Option.some.inj e
      omega
    exact Go.Joins.ownsRow_le ho5 (by omega)
  · exact (hb23.trans (hb4.mono hs23)).trans ((Chg.of_grown hg5).below (by omega) fun q e => by have := Option.some.inj e; omega)
set_option maxHeartbeats 1600000 in
set_option maxRecDepth 100000 in
/-- Something follows the frame. -/
theorem readSnap_rest (h : WPair w0 Kp lb d R S M V w) {f : RF} (hf : findN S snapN = some f) {k : Nat} {xs z : List Int} (hfb : f.b = sealF (enc k ++ xs) ++ z) (hz : z.length ≤ 1000) (hz0 : 0 < z.length) (hk : k < 100000000) (hx : ∀ x ∈ enc k ++ xs, 0 ≤ x ∧ x < 256) (hl : (enc k ++ xs).length ≤ 4096) :
    Calls Tryz.prog 42 #[.pointer (some ⟨lb, 0, none⟩)] w fun e w' => e = .returned (.int .i64 2) ∧ Below w0.heap.size w0 w' := by
  obtain ⟨_, l0, _⟩ := h.cells
  obtain ⟨m, hm⟩ : ∃ m, m = (enc k ++ xs).length := ⟨_, rfl⟩
  rw [← hm] at hl
  have HC := Lib.hid (rest_calls h hf hfb hz hk hx hm hl)
  have HW := Lib.hid h.below
  obtain ⟨q, hq⟩ : ∃ q, q = z.length := ⟨_, rfl⟩
  rw [← hq] at HC hz0
  have hq1 : decide ((0 : Int) < (q : Int)) = true := decide_eq_true (by omega)
  have HI := Lib.hid fun W => isNum_any 0 6 W
  have HE := Lib.hid (fun g A n c xs p W hr => Err_fine g A n c xs p W hr)
  clear h hf hfb hx hm hz hq
  go_enter Tryz.func42, Tryz.ntmps42
  go_upto_region 9 with (first
    | (go_at_call 41; refine HC.out.mono ?_; rintro e w2 ⟨A, n, c, rfl, HN⟩; clear l0)
    | (go_at_call 35; refine (HI.out _).mono ?_; rintro e w2b ⟨rfl, rfl⟩)
    | (go_at_call 78; refine HN.out.mono ?_; rintro e w3 ⟨A1, c1, A2, c2, rfl, HO⟩)
    | (go_at_call 79; refine HO.out.mono ?_; rintro e w4 ⟨g, rfl, hgw, HU⟩)
    | (go_at_call 80; refine HU.out.mono ?_; rintro e w5 ⟨rfl, HG⟩))
  obtain ⟨Ag, cg, hr5, ho5, hb5⟩ := HG.out
  have HR5 := Lib.hid hr5; have HB5 := Lib.hid hb5
  clear hr5 ho5 hb5 HG HC HN HO HU HI hgw
  go_wp2_with (go_at_call 81; refine (HE.out _ _ _ _ _ _ _ HR5.out).mono ?_; rintro e w6 ⟨rfl, rfl⟩)
  go_ret
  have hs := HW.out.size
  exact ⟨rfl, HW.out.trans (HB5.out.mono hs)⟩
end
end Go.Proofs.YtnomicnmpllajaaGreatDoor
end

section
namespace Go.Proofs.YtnomicnmpllajaaGreatDoor
open Go Go.RowKit
set_option linter.unusedVariables false
section
variable {w0 w w' : World} {Kp : Nat → Prop} {lb d : Nat} {R : Int} {S : List RF} {M : LogM} {V : LogV}
def NmRowX (X : List (List UInt8)) (A : Option Addr) (W : World) : Prop := ∀ (i : Nat) (s : List UInt8), X[i]? = some s → ∃ rb o, A = some ⟨rb, o, none⟩ ∧ rb < W.heap.size ∧ W.cell? ⟨rb, o + i, none⟩ = some (encStr s)
theorem NmRowX.kept {X : List (List UInt8)} {A : Option Addr} {W W' : World} (h : NmRowX X A W) (hk : Kept (RowK Kp A) W W') : NmRowX X A W' := fun i s hs => by
  obtain ⟨rb, o, e, h1, h2⟩ := h i s hs
  exact ⟨rb, o, e, Nat.lt_of_lt_of_le h1 hk.2, (World.cell?_of_block (hk.1 rb (.inr ⟨_, e, rfl⟩))).trans h2⟩
def NamesGotX (w0 : World) (Kp : Nat → Prop) (lb d : Nat) (R : Int) (S : List RF) (M : LogM) (V : LogV) (X : List (List UInt8)) (w : World) (A : Option Addr) (w3 : World) : Prop :=
  WPair w0 (RowK Kp A) lb d R S M V w3 ∧ Kept Kp w w3 ∧ (∀ k, RowK Kp A k → k < w3.heap.size) ∧ NmRowX X A w3
theorem names_callsX (h : WPair w0 Kp lb d R S M V w) (hKp : ∀ k, Kp k → k < w.heap.size) (hS : S.length ≤ 1000000) {X : List (List UInt8)} (hP : logN (S.map RF.nm) = X) :
    Calls Tryz.prog 40 #[.pointer (some ⟨d, 0, none⟩)] w fun e w2 => ∃ A c, e = .returned (.slice A S.length c) ∧
      Hid (Calls Tryz.prog 83 #[.slice A S.length c, .func (.func 84) #[] #[]] w2 fun e w3 => ∃ A' c', e = .returned (.slice A' X.length c') ∧ X.length ≤ c' ∧ c' ≤ 9223372036854775807 ∧ Hid (NamesGotX w0 Kp lb d R S M V X w A' w3)) := by
  have hl : (logN (S.map RF.nm)).length = X.length := by
    rw [hP]
  have hPl : logN (S.map RF.nm) = X := hP
  have hd : Calls Tryz.prog 40 #[.pointer (some ⟨d, 0, none⟩)] w (NamesSaid S w) := by
    obtain ⟨Φ, Λ, _, hd, _⟩ := h.ex
    exact Names_any hd hS
  refine hd.mono ?_
  rintro e w2 ⟨A, c, rfl, ho, hb⟩
  refine ⟨A, c, rfl, Lib.hid ?_⟩
  have h2 := h.later hb
  have k2 : Kept Kp w w2 := Kept.of_below hb hKp
  rcases ho.2 with ⟨e1, e2⟩ | ⟨g, cap, cur, e1, hg0, hg, hcap, hmax, _⟩
  · obtain ⟨rfl, _, rfl⟩ := Value.slice.inj e1
    have hS0 : S = [] := List.eq_nil_of_length_eq_zero e2
    subst hS0
    obtain rfl : X = [] := hPl.symm
    refine (delEmpty none 0 _ w2).mono ?_
    rintro e w3 ⟨rfl, rfl⟩
    refine ⟨none, 0, rfl, Nat.le_refl _, by omega, Lib.hid ⟨h2.keepK fun k _ hk => ?_, k2, fun k hk => ?_, fun i s hs => by simp at hs⟩⟩
    · rcases hk with hk | ⟨a, e, _⟩
      · exact hk
      · cases e
    · rcases hk with hk | ⟨a, e, _⟩
      · exact Nat.lt_of_lt_of_le (hKp k hk) hb.size
      · cases e
  · obtain ⟨rfl, _, rfl⟩ := Value.slice.inj e1
    have ho' : w2.ownsRow w.heap.size 9 1 (.slice (some ⟨g, 0, none⟩) (S.map RF.nm).length c) (S.map RF.nm).length ((S.map RF.nm).map encStr) := by
      rw [List.length_map, List.map_map]
      exact ho
    have hdel := delNames hg0 ho'
    rw [List.length_map] at hdel
    refine hdel.mono ?_
    rintro e w3 ⟨rfl, ho3, hc3⟩
    rw [hl] at ho3 ⊢
    unfold maxLen at hmax
    have hgw : w.heap.size ≤ g := hg0
    have hglt : g < w2.heap.size := (Array.getElem?_eq_some_iff.1 hg).1
    have hPl' : X.length ≤ c := by
      rcases ho3.2 with ⟨e3, _⟩ | ⟨_, _, _, e3, _, _, h5, _⟩
      · cases e3
      · cases e3; exact h5
    refine ⟨some ⟨g, 0, none⟩, c, rfl, hPl', by omega, Lib.hid ⟨?_, ?_, fun k hk => ?_, fun i s hs => ⟨g, 0, rfl, by have := hc3.size; omega, ?_⟩⟩⟩
    · obtain ⟨Φ, Λ, q1, q2, q3, q4⟩ := h.ex
      have hne : ∀ k, Φ k ∨ Λ k → k ≠ g := fun k hk e => by have := (q4 k hk).2.2; omega
      have hb0 := h.below.size
      have hbs := hb.size
      have hcs := hc3.size
      refine ⟨h2.below.trans (hc3.below h2.below.size fun k e => by rw [show k = g from e]; omega), Φ, Λ, (q1.later hb).keep hc3 fun k hk e => hne k (.inr hk) e, (q2.later hb).keep hc3 fun k hk e => hne k (.inl hk) e, q3, fun k hk => ⟨(q4 k hk).1, ?_, by have := (q4 k hk).2.2; omega⟩⟩
      rintro (h5 | ⟨a, e, h5⟩)
      · exact (q4 k hk).2.1 h5
      · cases e
        exact hne k hk h5.symm
    · exact k2.trans ⟨fun k hk => hc3.block k (by have := hKp k hk; have := hb.size; omega) (fun e => by have := hKp k hk; have e' : k = g := e; omega), hc3.size⟩
    · have hcs := hc3.size
      rcases hk with hk | ⟨a, e, h5⟩
      · have := hKp k hk; have := hb.size; omega
      · cases e
        have h6 : g = k := h5
        omega
    · have := ho3.cells (g := g) rfl i (encStr s) (by rw [hPl, List.getElem?_map, hs]; rfl)
      rw [Addr.add_lit] at this
      exact this
set_option maxHeartbeats 1600000 in
set_option maxRecDepth 100000 in
/-- The first name is amiss. -/
theorem segs_first (h : WPair w0 Kp lb d R S M V w) (hKp : ∀ k, Kp k → k < w.heap.size) (hB : M.base < 100000000) (hS : S.length ≤ 1000000) {nm : List UInt8} (hP : logN (S.map RF.nm) = [nm]) (hn3 : 3 ≤ nm.length) (hn4 : nm.length ≤ 100) {k : Nat} {v : Bool} (hF : firstF (nm.drop 3) = (k, v)) (hk : k ≤ 1000000000) (hbad : v = false ∨ (v = true ∧ M.base + 1 < k)) :
    Calls Tryz.prog 43 #[.pointer (some ⟨lb, 0, none⟩)] w fun e w' => e = .returned (.tuple #[.string ⟨nm.toArray⟩, .int .i64 2]) ∧ Below w0.heap.size w0 w' := by
  have HN := Lib.hid (names_callsX h hKp hS hP)
  obtain ⟨_, l0, _⟩ := h.cells
  have HFI : Hid (∀ W, Calls Tryz.prog 86 #[.string ⟨nm.toArray⟩] W fun e w' => e = .returned (.tuple #[.int .i64 k, .bool v]) ∧ Below W.heap.size W w') := Lib.hid fun W => by
    have h1 := firstOf_any ⟨nm.toArray⟩ W (by show 3 ≤ nm.length; omega) (by show nm.length ≤ 1000000; omega)
    rw [show (ByteArray.mk nm.toArray).data.toList = nm by simp, hF] at h1
    exact h1
  have HBASE := Lib.hid hB
  clear h hKp hS hP hF hn3 hn4
  go_enter Tryz.func43, Tryz.ntmps43
  go_wp2_with (first
    | (go_at_call 40; refine HN.out.mono ?_; rintro e w2 ⟨A, c, rfl, HD⟩)
    | (go_at_call 83; refine HD.out.mono ?_; rintro e w3 ⟨A', c', rfl, hc1, hc2, HG⟩))
  clear l0 HN HD
  obtain ⟨rb, o, rfl, _, c0⟩ := HG.out.2.2.2 0 nm rfl
  have b3 := HG.out.1.cells.2.2.2.2.1
  have HBW : Hid (∀ W, Below w3.heap.size w3 W → W.cell? ⟨lb, 3, none⟩ = some (.int .i64 M.base) ∧ Below w0.heap.size w0 W) := Lib.hid fun W hW => ⟨(HG.out.1.later hW).cells.2.2.2.2.1, (HG.out.1.later hW).below⟩
  unfold encStr at c0
  rw [Nat.add_zero] at c0
  rcases hbad with rfl | ⟨rfl, hbk⟩
  · refine wp_loop_rounds 1 ?_
    rw [rounds_succ]
    go_wp2_with (go_at_call 86; refine (HFI.out _).mono ?_; rintro e w5 ⟨rfl, hb5⟩)
    go_ret2
    exact ⟨rfl, (HBW.out _ hb5).2⟩
  · have d1 : ((k : Int) == 0) = false := by
      rw [beq_eq_false_iff_ne]
      omega
    have wb : IntKind.i64.wrap ((M.base : Int) + 1) = (M.base : Int) + 1 := IntWalk.i64_in _ (by have := HBASE.out; omega)
    have d2 : decide ((M.base : Int) + 1 < k) = true := decide_eq_true (by omega)
    refine wp_loop_rounds 1 ?_
    rw [rounds_succ]
    go_wp2_with (go_at_call 86; refine (HFI.out _).mono ?_; rintro e w5 ⟨rfl, hb5⟩; obtain ⟨b5, hw5⟩ := HBW.out _ hb5; have HW5 := Lib.hid hw5; clear hw5 hb5)
    go_ret2
    exact ⟨rfl, HW5.out⟩
/-- One segment is read. -/
theorem seg_call (h : WPair w0 Kp lb d R S M V w) (hKp : ∀ k, Kp k → k < w.heap.size) (ht : Tab w0) (hk : LogOk M) (hM : M.segs = [] ∧ M.recs = []) {k : Nat} (hk1 : k < 100000000) {f : RF} (hf : findN S (segName k) = some f) (hfn : f.b.length ≤ 1000) {l : List (List Int)} {u er : Nat} (hp : Parsed f.b l u) (her : (if u = f.b.length then 0 else whyF (f.b.drop u)) = er) :
    Calls Tryz.prog 87 #[.pointer (some ⟨lb, 0, none⟩), .agg #[.int .i64 k, .int .i64 0]] w fun e w' => e = .returned (.tuple #[.int .i64 l.length, .int .i64 er]) ∧ ∃ V' M', M'.base = M.base ∧ WPair w0 Kp lb d R S M' V' w' ∧ Kept Kp w w' := by
  refine (readSegment_any h hKp ht hk hk1 hf (by omega) (by rw [hM.1]; show 0 < 1000000; omega) (by rw [hM.2]; show 0 + _ ≤ _; omega)).mono ?_
  rintro e w' ⟨l', u', g1, g2, g3, rfl, V', g4, g5⟩
  obtain ⟨rfl, rfl⟩ := (show Parsed f.b l' u' from ⟨g1, g2, g3⟩).same hp
  rw [her]
  exact ⟨rfl, V', { M with segs := M.segs ++ [(k, u')], recs := M.recs ++ l'.drop (M.base + 1 - k) }, rfl, g4, g5⟩
/-- What the walks of one segment, and then of what is amiss, share. -/
structure OneSeg (w0 : World) (Kp : Nat → Prop) (lb d : Nat) (R : Int) (S : List RF) (M : LogM) (X : List (List UInt8)) (k cnt er : Nat) (A : Option Addr) (w3 : World) : Prop where
  cell : ∀ W, Below w3.heap.size w3 W → W.cell? ⟨lb, 3, none⟩ = some (.int .i64 M.base)
  call : ∀ W, Below w3.heap.size w3 W → Calls Tryz.prog 87 #[.pointer (some ⟨lb, 0, none⟩), .agg #[.int .i64 k, .int .i64 0]] W fun e w' => e = .returned (.tuple #[.int .i64 cnt, .int .i64 er]) ∧ Hid (Below w0.heap.size w0 w') ∧ Hid (∀ W2, Below w'.heap.size w' W2 → W2.cell? ⟨lb, 3, none⟩ = some (.int .i64 M.base) ∧ NmRowX X A W2 ∧ Below w0.heap.size w0 W2)
theorem NmRowX.below {X : List (List UInt8)} {A : Option Addr} {W W' : World} (h : NmRowX X A W) (hb : Below W.heap.size W W') : NmRowX X A W' := fun i s hs => by
  obtain ⟨rb, o, e, h1, h2⟩ := h i s hs
  exact ⟨rb, o, e, Nat.lt_of_lt_of_le h1 hb.size, (hb.cell (p := ⟨rb, o + i, none⟩) h1).trans h2⟩
theorem one_seg {w3 : World} {X : List (List UInt8)} {A : Option Addr} (hG : NamesGotX w0 Kp lb d R S M V X w A w3) (ht : Tab w0) (hk : LogOk M) (hM : M.segs = [] ∧ M.recs = []) {k : Nat} (hk1 : k < 100000000) {f : RF} (hf : findN S (segName k) = some f) (hfn : f.b.length ≤ 1000) {l : List (List Int)} {u er : Nat} (hp : Parsed f.b l u) (her : (if u = f.b.length then 0 else whyF (f.b.drop u)) = er) : OneSeg w0 Kp lb d R S M X k l.length er A w3 := by
  obtain ⟨g1, g2, g3, g4⟩ := hG
  refine ⟨fun W hW => (g1.later hW).cells.2.2.2.2.1, fun W hW => ?_⟩
  refine (seg_call (g1.later hW) (fun j hj => Nat.lt_of_lt_of_le (g3 j hj) hW.size) ht hk hM hk1 hf hfn hp her).mono ?_
  rintro e w' ⟨rfl, V', M', hb, h5, k5⟩
  refine ⟨rfl, Lib.hid h5.below, Lib.hid fun W2 hW2 => ⟨?_, ?_, (h5.later hW2).below⟩⟩
  · rw [← hb]
    exact (h5.later hW2).cells.2.2.2.2.1
  · exact ((g4.below hW).kept k5).below hW2
--ARMS
set_option maxHeartbeats 1600000 in
set_option maxRecDepth 100000 in
/-- A segment ahead of the last one is amiss behind its frames. -/
theorem segs_mid (h : WPair w0 Kp lb d R S M V w) (hKp : ∀ k, Kp k → k < w.heap.size) (ht : Tab w0) (hk : LogOk M) (hM : M.segs = [] ∧ M.recs = []) (hS : S.length ≤ 1000000) {k : Nat} (hk1 : k < 100000000) (hk2 : 0 < k ∧ k ≤ M.base + 1) {f : RF} (hf : findN S (segName k) = some f) (hfn : f.b.length ≤ 1000) {l : List (List Int)} {u er : Nat} (hp : Parsed f.b l u) (hl : l.length ≤ 1000) (her : (if u = f.b.length then 0 else whyF (f.b.drop u)) = er) {X : List (List UInt8)} (hP : logN (S.map RF.nm) = X) {nm : List UInt8} (hX : X = [segName k, nm]) (he : ¬ er = 0) :
    Calls Tryz.prog 43 #[.pointer (some ⟨lb, 0, none⟩)] w fun e w' => e = .returned (.tuple #[.string (nameS k), .int .i64 er]) ∧ Below w0.heap.size w0 w' := by
  have HN := Lib.hid (names_callsX h hKp hS hP)
  have HO : Hid (∀ A w3, NamesGotX w0 Kp lb d R S M V X w A w3 → OneSeg w0 Kp lb d R S M X k l.length er A w3) := Lib.hid fun A w3 hG => one_seg hG ht hk hM hk1 hf hfn hp her
  obtain ⟨_, l0, _⟩ := h.cells
  have HFI : Hid (∀ W, Calls Tryz.prog 86 #[.string ⟨(segName k).toArray⟩] W fun e w' => e = .returned (.tuple #[.int .i64 k, .bool true]) ∧ Below W.heap.size W w') := Lib.hid fun W => firstSeg_any hk1 W
  have hb := hk.base
  clear h hKp hS hP ht hk hM hf hfn hp her
  generalize l.length = cnt at *
  subst hX
  go_enter Tryz.func43, Tryz.ntmps43
  go_wp2_with (first
    | (go_at_call 40; refine HN.out.mono ?_; rintro e w2 ⟨A, c, rfl, HD⟩)
    | (go_at_call 83; refine HD.out.mono ?_; rintro e w3 ⟨A', c', rfl, hc1, hc2, HG⟩))
  clear l0 HN HD
  have HOS := HO.out _ _ HG.out
  obtain ⟨rb, o, rfl, _, c0⟩ := HG.out.2.2.2 0 _ rfl
  have HC := Lib.hid HOS.cell
  have HR := Lib.hid HOS.call
  clear HOS HO HG
  unfold encStr at c0
  rw [Nat.add_zero] at c0
  have d1 : ((k : Int) == 0) = false := by
    rw [beq_eq_false_iff_ne]
    omega
  have wb : IntKind.i64.wrap ((M.base : Int) + 1) = (M.base : Int) + 1 := IntWalk.i64_in _ (by omega)
  have d2 : decide ((M.base : Int) + 1 < k) = false := decide_eq_false (by omega)
  have wk : IntKind.i64.wrap ((k : Int) + cnt) = k + cnt := IntWalk.i64_in _ (by omega)
  have wx : IntKind.i64.wrap ((k : Int) + cnt - 1) = k + cnt - 1 := IntWalk.i64_in _ (by omega)
  have d3 : decide ((er : Int) = 0) = false := decide_eq_false (by omega)
  have d4 : ((er : Int) == 0) = false := beq_eq_false_iff_ne.2 (by omega)
  refine wp_loop_rounds 1 ?_
  rw [rounds_succ]
  go_wp2_with (first
    | (go_at_call 86; refine (HFI.out _).mono ?_; rintro e w5 ⟨rfl, hb5⟩; have b5 := HC.out _ hb5; have HR5 := Lib.hid (HR.out _ hb5); clear hb5)
    | (go_at_call 87; refine HR5.out.mono ?_; rintro e w6 ⟨rfl, HB6, HX6⟩))
  go_ret2
  exact ⟨rfl, HB6.out⟩
set_option maxHeartbeats 1600000 in
set_option maxRecDepth 100000 in
/-- The last segment ends ahead of the snapshot's number. -/
theorem segs_last (h : WPair w0 Kp lb d R S M V w) (hKp : ∀ k, Kp k → k < w.heap.size) (ht : Tab w0) (hk : LogOk M) (hM : M.segs = [] ∧ M.recs = []) (hS : S.length ≤ 1000000) {k : Nat} (hk1 : k < 100000000) (hk2 : 0 < k ∧ k ≤ M.base + 1) {f : RF} (hf : findN S (segName k) = some f) (hfn : f.b.length ≤ 1000) {l : List (List Int)} {u er : Nat} (hp : Parsed f.b l u) (hl : l.length ≤ 1000) (her : (if u = f.b.length then 0 else whyF (f.b.drop u)) = er) {X : List (List UInt8)} (hP : logN (S.map RF.nm) = X) (hX : X = [segName k]) (he0 : er = 0) (he : k + l.length ≤ M.base) :
    Calls Tryz.prog 43 #[.pointer (some ⟨lb, 0, none⟩)] w fun e w' => e = .returned (.tuple #[.string (nameS k), .int .i64 2]) ∧ Below w0.heap.size w0 w' := by
  have HN := Lib.hid (names_callsX h hKp hS hP)
  have HO : Hid (∀ A w3, NamesGotX w0 Kp lb d R S M V X w A w3 → OneSeg w0 Kp lb d R S M X k l.length er A w3) := Lib.hid fun A w3 hG => one_seg hG ht hk hM hk1 hf hfn hp her
  obtain ⟨_, l0, _⟩ := h.cells
  have HFI : Hid (∀ W, Calls Tryz.prog 86 #[.string ⟨(segName k).toArray⟩] W fun e w' => e = .returned (.tuple #[.int .i64 k, .bool true]) ∧ Below W.heap.size W w') := Lib.hid fun W => firstSeg_any hk1 W
  have hb := hk.base
  clear h hKp hS hP ht hk hM hf hfn hp her
  generalize l.length = cnt at *
  subst hX
  go_enter Tryz.func43, Tryz.ntmps43
  go_wp2_with (first
    | (go_at_call 40; refine HN.out.mono ?_; rintro e w2 ⟨A, c, rfl, HD⟩)
    | (go_at_call 83; refine HD.out.mono ?_; rintro e w3 ⟨A', c', rfl, hc1, hc2, HG⟩))
  clear l0 HN HD
  have HOS := HO.out _ _ HG.out
  obtain ⟨rb, o, rfl, _, c0⟩ := HG.out.2.2.2 0 _ rfl
  have HC := Lib.hid HOS.cell
  have HR := Lib.hid HOS.call
  clear HOS HO HG
  unfold encStr at c0
  rw [Nat.add_zero] at c0
  have d1 : ((k : Int) == 0) = false := by
    rw [beq_eq_false_iff_ne]
    omega
  have wb : IntKind.i64.wrap ((M.base : Int) + 1) = (M.base : Int) + 1 := IntWalk.i64_in _ (by omega)
  have d2 : decide ((M.base : Int) + 1 < k) = false := decide_eq_false (by omega)
  have wk : IntKind.i64.wrap ((k : Int) + cnt) = k + cnt := IntWalk.i64_in _ (by omega)
  have wx : IntKind.i64.wrap ((k : Int) + cnt - 1) = k + cnt - 1 := IntWalk.i64_in _ (by omega)
  subst he0
  have d5 : decide ((k : Int) + cnt - 1 < M.base) = true := decide_eq_true (by omega)
  refine wp_loop_rounds 2 ?_
  rw [rounds_succ]
  go_wp2_with (first
    | (go_at_call 86; refine (HFI.out _).mono ?_; rintro e w5 ⟨rfl, hb5⟩; have b5 := HC.out _ hb5; have HR5 := Lib.hid (HR.out _ hb5); clear hb5)
    | (go_at_call 87; refine HR5.out.mono ?_; rintro e w6 ⟨rfl, HB6, HX6⟩; obtain ⟨b6, hn6, _⟩ := HX6.out _ (Below.refl _ _); obtain ⟨rb', o', e', _, c6⟩ := hn6 0 _ rfl; cases e'; clear hn6; unfold encStr at c6; rw [Nat.add_zero] at c6))
  rw [rounds_succ]
  go_wp2_with fail
  go_ret2
  exact ⟨rfl, HB6.out⟩
set_option maxHeartbeats 1600000 in
set_option maxRecDepth 100000 in
/-- The second segment does not begin where the first one ends. -/
theorem segs_gap (h : WPair w0 Kp lb d R S M V w) (hKp : ∀ k, Kp k → k < w.heap.size) (ht : Tab w0) (hk : LogOk M) (hM : M.segs = [] ∧ M.recs = []) (hS : S.length ≤ 1000000) {k : Nat} (hk1 : k < 100000000) (hk2 : 0 < k ∧ k ≤ M.base + 1) {f : RF} (hf : findN S (segName k) = some f) (hfn : f.b.length ≤ 1000) {l : List (List Int)} {u er : Nat} (hp : Parsed f.b l u) (hl : l.length ≤ 1000) (her : (if u = f.b.length then 0 else whyF (f.b.drop u)) = er) {X : List (List UInt8)} (hP : logN (S.map RF.nm) = X) {k2 : Nat} (hX : X = [segName k, segName k2]) (he0 : er = 0) (hk3 : k2 < 100000000) (he : ¬ k2 = k + l.length) :
    Calls Tryz.prog 43 #[.pointer (some ⟨lb, 0, none⟩)] w fun e w' => e = .returned (.tuple #[.string (nameS k2), .int .i64 2]) ∧ Below w0.heap.size w0 w' := by
  have HN := Lib.hid (names_callsX h hKp hS hP)
  have HO : Hid (∀ A w3, NamesGotX w0 Kp lb d R S M V X w A w3 → OneSeg w0 Kp lb d R S M X k l.length er A w3) := Lib.hid fun A w3 hG => one_seg hG ht hk hM hk1 hf hfn hp her
  obtain ⟨_, l0, _⟩ := h.cells
  have HFI : Hid (∀ W, Calls Tryz.prog 86 #[.string ⟨(segName k).toArray⟩] W fun e w' => e = .returned (.tuple #[.int .i64 k, .bool true]) ∧ Below W.heap.size W w') := Lib.hid fun W => firstSeg_any hk1 W
  have hb := hk.base
  clear h hKp hS hP ht hk hM hf hfn hp her
  generalize l.length = cnt at *
  subst hX
  go_enter Tryz.func43, Tryz.ntmps43
  go_wp2_with (first
    | (go_at_call 40; refine HN.out.mono ?_; rintro e w2 ⟨A, c, rfl, HD⟩)
    | (go_at_call 83; refine HD.out.mono ?_; rintro e w3 ⟨A', c', rfl, hc1, hc2, HG⟩))
  clear l0 HN HD
  have HOS := HO.out _ _ HG.out
  obtain ⟨rb, o, rfl, _, c0⟩ := HG.out.2.2.2 0 _ rfl
  have HC := Lib.hid HOS.cell
  have HR := Lib.hid HOS.call
  clear HOS HO HG
  unfold encStr at c0
  rw [Nat.add_zero] at c0
  have d1 : ((k : Int) == 0) = false := by
    rw [beq_eq_false_iff_ne]
    omega
  have wb : IntKind.i64.wrap ((M.base : Int) + 1) = (M.base : Int) + 1 := IntWalk.i64_in _ (by omega)
  have d2 : decide ((M.base : Int) + 1 < k) = false := decide_eq_false (by omega)
  have wk : IntKind.i64.wrap ((k : Int) + cnt) = k + cnt := IntWalk.i64_in _ (by omega)
  have wx : IntKind.i64.wrap ((k : Int) + cnt - 1) = k + cnt - 1 := IntWalk.i64_in _ (by omega)
  subst he0
  have HFJ : Hid (∀ W, Calls Tryz.prog 86 #[.string ⟨(segName k2).toArray⟩] W fun e w' => e = .returned (.tuple #[.int .i64 k2, .bool true]) ∧ Below W.heap.size W w') := Lib.hid fun W => firstSeg_any hk3 W
  have d5 : ((k2 : Int) == (k : Int) + cnt) = false := beq_eq_false_iff_ne.2 (by omega)
  refine wp_loop_rounds 2 ?_
  rw [rounds_succ]
  go_wp2_with (first
    | (go_at_call 86; refine (HFI.out _).mono ?_; rintro e w5 ⟨rfl, hb5⟩; have b5 := HC.out _ hb5; have HR5 := Lib.hid (HR.out _ hb5); clear hb5)
    | (go_at_call 87; refine HR5.out.mono ?_; rintro e w6 ⟨rfl, HB6, HX6⟩; obtain ⟨b6, hn6, _⟩ := HX6.out _ (Below.refl _ _); obtain ⟨rb', o', e', _, c6⟩ := hn6 1 _ rfl; cases e'; clear hn6; unfold encStr at c6))
  rw [rounds_succ]
  go_wp2_with (go_at_call 86; refine (HFJ.out _).mono ?_; rintro e w7 ⟨rfl, hb7⟩; obtain ⟨b7, _, hw7⟩ := HX6.out _ hb7; have HW7 := Lib.hid hw7; clear hw7 hb7)
  go_ret2
  exact ⟨rfl, HW7.out⟩
end
end Go.Proofs.YtnomicnmpllajaaGreatDoor
end

section
namespace Go.Proofs.YtnomicnmpllajaaGreatDoor
open Go Go.RowKit
set_option linter.unusedVariables false

/-- A disk that is new since w0. -/
def DIn (w0 : World) (d : Nat) (R : Int) (S : List RF) (W : World) : Prop := Below w0.heap.size w0 W ∧ ∃ Φ, DiskAt W d R S Φ ∧ ∀ k, Φ k → w0.heap.size ≤ k ∧ k < W.heap.size
def x2 : List Int := sealF [2]
def xB : List Int := sealF [120]
def lg7 : List UInt8 := [108, 111, 103, 48, 48, 48, 48, 48, 48, 49]
section
variable {w0 w W W' : World} {d : Nat} {R : Int} {S : List RF}
theorem DIn.later (h : DIn w0 d R S W) (hb : Below W.heap.size W W') : DIn w0 d R S W' := by
  obtain ⟨h1, Φ, h2, h3⟩ := h
  exact ⟨h1.trans (hb.mono h1.size), Φ, h2.later hb, fun k hk => ⟨(h3 k hk).1, Nat.lt_of_lt_of_le (h3 k hk).2 hb.size⟩⟩
theorem DIn.fresh (h : DIn w0 d R S W) (n : Nat) : WPair w0 (fun _ => False) W.heap.size d R S (newM n) newV (W.alloc (.cells (newCells d n) 82)) := by
  obtain ⟨h1, Φ, h2, h3⟩ := h
  exact (WPair.fresh h1 h2 (fun k hk => ⟨(h3 k hk).1, id, (h3 k hk).2⟩) (fun k hk => hk.elim) n).1
theorem enc2 : enc 2 ++ [] = [2] := by rw [enc_small (by omega)]; rfl
theorem parsed_xB : Parsed xB [[120]] 7 := ⟨⟨by kernel_rfl, by kernel_rfl, 0, by kernel_rfl, rfl⟩, by decide, fun h => absurd h (by decide)⟩
theorem parsed_xB9 : Parsed (xB ++ [9]) [[120]] 7 := ⟨⟨by kernel_rfl, by kernel_rfl, 0, by kernel_rfl, rfl⟩, by decide, fun _ => by decide⟩
theorem fresh_snap (h : DIn w0 d R S W) (n : Nat) (hn : n ≤ 65536) {f : RF} (hf : findN S snapN = some f) (hfb : f.b = x2) :
    Calls Tryz.prog 42 #[.pointer (some ⟨W.heap.size, 0, none⟩)] (W.alloc (.cells (newCells d n) 82)) fun e w2 => e = .returned (.int .i64 0) ∧ Hid (∃ V, WPair w0 (fun _ => False) W.heap.size d R S { newM n with base := 2, shot := [] } V w2) := by
  refine (readSnap_some (h.fresh n) (fun _ hk => hk.elim) hf (k := 2) (xs := []) (by rw [hfb, enc2]; rfl) (by omega) (by rw [enc2]; decide) (by rw [enc2]; decide)).mono ?_
  rintro e w2 ⟨rfl, V', h5, _⟩
  exact ⟨rfl, Lib.hid ⟨V', h5⟩⟩
theorem ok2 (n : Nat) (hn : n ≤ 65536) : LogOk { newM n with base := 2, shot := [] } := ⟨hn, Nat.zero_le _, Nat.zero_le _, by show (2 : Nat) < _; omega, (fun s hs => by simp [newM] at hs), Nat.zero_le _⟩
variable {n : Nat} (ht : Tab w0) (h1 : 16 ≤ n) (h2 : n ≤ 65536)
include h1 h2 in
theorem open_0 (h : DIn w0 d R [⟨snapN, x2.take 3, 0⟩] W) : Calls Tryz.prog 15 #[.pointer (some ⟨d, 0, none⟩), .int .i64 n] W (NoOpen w0 ⟨#[115, 110, 97, 112]⟩ 3) := by
  have e : whyF (x2.take 3) = 3 := by kernel_rfl
  refine Open_snapno h1 h2 (by decide) ?_
  have := readSnap_why (h.fresh n) (f := ⟨snapN, x2.take 3, 0⟩) rfl (by decide) (by rw [e]; decide)
  rw [e] at this
  exact this
include h1 h2 in
theorem open_1 (h : DIn w0 d R [⟨snapN, x2 ++ [1], 0⟩] W) : Calls Tryz.prog 15 #[.pointer (some ⟨d, 0, none⟩), .int .i64 n] W (NoOpen w0 ⟨#[115, 110, 97, 112]⟩ 2) :=
  Open_snapno h1 h2 (by decide) (readSnap_rest (h.fresh n) (f := ⟨snapN, x2 ++ [1], 0⟩) rfl (k := 2) (xs := []) (z := [1]) (by rw [enc2]; rfl) (by decide) (by decide) (by omega) (by rw [enc2]; decide) (by rw [enc2]; decide))
include h1 h2 in
theorem open_2 (h : DIn w0 d R [⟨segName 5, xB, 0⟩, ⟨snapN, x2, 0⟩] W) : Calls Tryz.prog 15 #[.pointer (some ⟨d, 0, none⟩), .int .i64 n] W (NoOpen w0 (nameS 5) 2) := by
  refine Open_segno h1 h2 (by decide) ?_
  refine (fresh_snap h n h2 (f := ⟨snapN, x2, 0⟩) (by kernel_rfl) rfl).mono ?_
  rintro e w2 ⟨rfl, hV⟩
  refine ⟨rfl, Lib.hid ?_⟩
  obtain ⟨V, h5⟩ := hV.out
  exact segs_first h5 (fun _ hk => hk.elim) (by show (2 : Nat) < _; omega) (by simp) (nm := segName 5) (by kernel_rfl) (by decide) (by decide) (k := 5) (v := true) (by kernel_rfl) (by omega) (.inr ⟨rfl, by show 2 + 1 < 5; omega⟩)
include h1 h2 in
theorem open_3 (h : DIn w0 d R [⟨lg7, xB, 0⟩] W) : Calls Tryz.prog 15 #[.pointer (some ⟨d, 0, none⟩), .int .i64 n] W (NoOpen w0 ⟨lg7.toArray⟩ 2) := by
  refine Open_segno h1 h2 (by decide) ?_
  refine (readSnap_none (h.fresh n) (by kernel_rfl)).mono ?_
  rintro e w2 ⟨rfl, h5, _⟩
  refine ⟨rfl, Lib.hid ?_⟩
  exact segs_first h5 (fun _ hk => hk.elim) (by show (0 : Nat) < _; omega) (by simp) (nm := lg7) (by kernel_rfl) (by decide) (by decide) (k := (firstF (lg7.drop 3)).1) (v := false) (by kernel_rfl) (by decide) (.inl rfl)
include ht h1 h2 in
theorem open_4 (h : DIn w0 d R [⟨segName 1, xB, 0⟩, ⟨segName 3, xB, 0⟩] W) : Calls Tryz.prog 15 #[.pointer (some ⟨d, 0, none⟩), .int .i64 n] W (NoOpen w0 (nameS 3) 2) := by
  refine Open_segno h1 h2 (by decide) ?_
  refine (readSnap_none (h.fresh n) (by kernel_rfl)).mono ?_
  rintro e w2 ⟨rfl, h5, _⟩
  refine ⟨rfl, Lib.hid ?_⟩
  exact segs_gap h5 (fun _ hk => hk.elim) ht (newM_ok h2) ⟨rfl, rfl⟩ (by simp) (k := 1) (by omega) ⟨by omega, by show 1 ≤ 0 + 1; omega⟩ (f := ⟨segName 1, xB, 0⟩) (by kernel_rfl) (by decide) parsed_xB (by decide) (er := 0) (by decide) (by kernel_rfl) (k2 := 3) rfl rfl (by omega) (by decide)
include ht h1 h2 in
theorem open_5 (h : DIn w0 d R [⟨segName 1, xB ++ [9], 0⟩, ⟨segName 2, xB, 0⟩] W) : Calls Tryz.prog 15 #[.pointer (some ⟨d, 0, none⟩), .int .i64 n] W (NoOpen w0 (nameS 1) 3) := by
  refine Open_segno h1 h2 (by decide) ?_
  refine (readSnap_none (h.fresh n) (by kernel_rfl)).mono ?_
  rintro e w2 ⟨rfl, h5, _⟩
  refine ⟨rfl, Lib.hid ?_⟩
  exact segs_mid h5 (fun _ hk => hk.elim) ht (newM_ok h2) ⟨rfl, rfl⟩ (by simp) (k := 1) (by omega) ⟨by omega, by show 1 ≤ 0 + 1; omega⟩ (f := ⟨segName 1, xB ++ [9], 0⟩) (by kernel_rfl) (by decide) parsed_xB9 (by decide) (er := 3) (by decide) (by kernel_rfl) (nm := segName 2) rfl (by decide)
include ht h1 h2 in
theorem open_6 (h : DIn w0 d R [⟨segName 1, xB, 0⟩, ⟨snapN, x2, 0⟩] W) : Calls Tryz.prog 15 #[.pointer (some ⟨d, 0, none⟩), .int .i64 n] W (NoOpen w0 (nameS 1) 2) := by
  refine Open_segno h1 h2 (by decide) ?_
  refine (fresh_snap h n h2 (f := ⟨snapN, x2, 0⟩) (by kernel_rfl) rfl).mono ?_
  rintro e w2 ⟨rfl, hV⟩
  refine ⟨rfl, Lib.hid ?_⟩
  obtain ⟨V, h5⟩ := hV.out
  exact segs_last h5 (fun _ hk => hk.elim) ht (ok2 n h2) ⟨rfl, rfl⟩ (by simp) (k := 1) (by omega) ⟨by omega, by show 1 ≤ 2 + 1; omega⟩ (f := ⟨segName 1, xB, 0⟩) (by kernel_rfl) (by decide) parsed_xB (by decide) (er := 0) (by decide) (by kernel_rfl) rfl rfl (by show 1 + 1 ≤ 2; omega)
end
end Go.Proofs.YtnomicnmpllajaaGreatDoor
end

section
namespace Go.Proofs.YtnomicnmpllajaaGreatDoor
open Go Go.RowKit
set_option linter.unusedVariables false

/-- A literal's row, marked or not. -/
theorem Rd.litF (w : World) (k : IntKind) (t : TypeId) (xs : List Int) (fr : Nat × Nat) (hl : xs.length ≤ maxLen) (n : Nat) (hn : xs.length = n) (cs : Array Value) (hcs : cs = (xs.map (Value.int k)).toArray) :
    Rd (w.alloc (.cells cs t fr)) (w.alloc (.cells cs t fr)).heap.size k (some ⟨w.heap.size, 0, none⟩) n n xs := by
  subst hn hcs
  exact ⟨rfl, Nat.le_refl _, hl, (fun h => by cases h), fun j u hu => ⟨w.heap.size, 0, rfl, by simp, by
    rw [Nat.zero_add, cell_of_row _ _ _ _ _ _ (heap_alloc_new w _)]
    simp [hu]⟩⟩
theorem BadUnwrap_any (b : Nat) (F : ByteArray) (E : Value) (W : World) (h : Blk W b 67 #[.string F, E]) : Calls Tryz.prog 38 #[.pointer (some ⟨b, 0, none⟩)] W fun e w' => e = .returned E ∧ w' = W := by
  have c1 := h.cell 1
  simp at c1
  clear h
  go_enter Tryz.func38, Tryz.ntmps38
  go_wp2
  go_ret
  exact ⟨rfl, rfl⟩
def dText (E : Int) : ByteArray := ByteArray.mk #[100, 97, 105, 115, 121, 99, 104, 97, 105, 110, 32] ++ digs E
theorem dText_size (E : Int) (h0 : 0 ≤ E) (h1 : E ≤ 20) : (dText E).size ≤ 31 := by
  have := digs_size E (by omega) (by omega)
  unfold dText
  rw [ByteArray.size_append]
  show 11 + _ ≤ _
  omega
theorem badErr (b : Nat) (F : ByteArray) (E : Int) (h0 : 0 ≤ E) (h1 : E ≤ 20) (W : World) (h : Blk W b 67 #[.string F, .iface 49 (.int .i64 E)]) (hF : F.size ≤ 100) (ht : Tab W) :
    Calls Tryz.prog 36 #[.pointer (some ⟨b, 0, none⟩)] W fun e w' => e = .returned (.string (F ++ ByteArray.mk #[58, 32] ++ dText E)) ∧ Below W.heap.size W w' :=
  BadError_any b F _ (dText E) W h hF (by have := dText_size E h0 h1; omega) fun W' hW' => textOf_num E W' (by omega) (by omega) (ht.below hW')
theorem badErr0 (b : Nat) (F : ByteArray) (W : World) (h : Blk W b 67 #[.string F, .nilIface]) (hF : F.size ≤ 100) :
    Calls Tryz.prog 36 #[.pointer (some ⟨b, 0, none⟩)] W fun e w' => e = .returned (.string (F ++ ByteArray.mk #[58, 32])) ∧ Below W.heap.size W w' := by
  refine (BadError_any b F .nilIface ⟨#[]⟩ W h hF (by decide) fun W' hW' => (textOf_nil W').mono fun e w' ⟨h1, h2⟩ => ⟨h1, by rw [h2]; exact Below.refl _ _⟩).mono ?_
  rintro e w' ⟨rfl, hb⟩
  refine ⟨?_, hb⟩
  unfold badText
  rw [show (ByteArray.mk #[] : ByteArray) = ByteArray.empty from rfl, ByteArray.append_empty]
def BSt (w0 : World) (d : Nat) (S : List RF) (A1 : Option Addr) (c1 : Nat) (A2 : Option Addr) (c2 : Nat) (W : World) : Prop :=
  Below w0.heap.size w0 W ∧ ∃ Φ, DiskAt W d 65536 S Φ ∧ (∀ k, Φ k → w0.heap.size ≤ k ∧ k < W.heap.size) ∧ Rd W W.heap.size .u8 A1 7 c1 x2 ∧ Rd W W.heap.size .u8 A2 7 c2 xB ∧ (∀ a, A1 = some a → a.block < W.heap.size ∧ ¬ Φ a.block) ∧ (∀ a, A2 = some a → a.block < W.heap.size ∧ ¬ Φ a.block)
section
variable {w0 w W W' : World} {d c1 c2 : Nat} {S S' : List RF} {A1 A2 : Option Addr}
theorem BSt.later (h : BSt w0 d S A1 c1 A2 c2 W) (hb : Below W.heap.size W W') : BSt w0 d S A1 c1 A2 c2 W' := by
  obtain ⟨h1, Φ, h2, h3, h4, h5, h6, h7⟩ := h
  have hs := hb.size
  exact ⟨h1.trans (hb.mono h1.size), Φ, h2.later hb, fun k hk => ⟨(h3 k hk).1, Nat.lt_of_lt_of_le (h3 k hk).2 hs⟩, (h4.below hb).more hs, (h5.below hb).more hs, fun a e => ⟨Nat.lt_of_lt_of_le (h6 a e).1 hs, (h6 a e).2⟩, fun a e => ⟨Nat.lt_of_lt_of_le (h7 a e).1 hs, (h7 a e).2⟩⟩
theorem BSt.din (h : BSt w0 d S A1 c1 A2 c2 W) : DIn w0 d 65536 S W := by
  obtain ⟨h1, Φ, h2, h3, _⟩ := h
  exact ⟨h1, Φ, h2, h3⟩
theorem BSt.row1 (h : BSt w0 d S A1 c1 A2 c2 W) : Rd W W.heap.size .u8 A1 7 c1 x2 := by
  obtain ⟨_, Φ, _, _, h4, _⟩ := h
  exact h4
theorem BSt.row2 (h : BSt w0 d S A1 c1 A2 c2 W) : Rd W W.heap.size .u8 A2 7 c2 xB := by
  obtain ⟨_, Φ, _, _, _, h5, _⟩ := h
  exact h5
theorem BSt.append (h : BSt w0 d S A1 c1 A2 c2 W) (s : ByteArray) (hs : s.size ≤ maxLen) {A : Option Addr} {n c : Nat} {ys : List Int} (hr : Rd W W.heap.size .u8 A n c ys) (hy : ∀ y ∈ ys, 0 ≤ y ∧ y < 256) (hL : S.length ≤ 1000000) (he : appendF 65536 S s.data.toList ys = (S', 0)) :
    Calls Tryz.prog 33 #[.pointer (some ⟨d, 0, none⟩), .string s, .slice A n c] W fun e W' => e = .returned (.int .i64 0) ∧ Hid (BSt w0 d S' A1 c1 A2 c2 W') := by
  obtain ⟨h1, Φ, h2, h3, h4, h5, h6, h7⟩ := h
  refine (Append_any h2 s hs A n c ys hr hy hL).mono ?_
  rw [he]
  rintro e W' ⟨rfl, hc, hd⟩
  have hz := hc.size
  have hK : Kept (fun k => k < W.heap.size ∧ ¬ Φ k) W W' := ⟨fun k hk => hc.block k hk.1 hk.2, hz⟩
  refine ⟨rfl, Lib.hid ⟨h1.trans (hc.below h1.size fun k hk => (h3 k hk).1), _, hd, fun k hk => ?_, h4.kept hK fun a e _ => h6 a e, h5.kept hK fun a e _ => h7 a e, fun a e => ⟨Nat.lt_of_lt_of_le (h6 a e).1 hz, fun hg => ?_⟩, fun a e => ⟨Nat.lt_of_lt_of_le (h7 a e).1 hz, fun hg => ?_⟩⟩⟩
  · have hs1 := h1.size
    rcases hk with hk | hk
    · exact ⟨(h3 k hk).1, Nat.lt_of_lt_of_le (h3 k hk).2 hz⟩
    · exact ⟨by omega, hk.2⟩
  · rcases hg with hg | hg
    · exact (h6 a e).2 hg
    · have := (h6 a e).1
      omega
  · rcases hg with hg | hg
    · exact (h7 a e).2 hg
    · have := (h7 a e).1
      omega
theorem BSt.app1 (h : BSt w0 d S A1 c1 A2 c2 W) (s : ByteArray) (hs : s.size ≤ 1000) (m : Nat) (hm : m ≤ 7) (hL : S.length ≤ 1000) (he : appendF 65536 S s.data.toList (x2.take m) = (S', 0)) :
    Calls Tryz.prog 33 #[.pointer (some ⟨d, 0, none⟩), .string s, .slice A1 m c1] W fun e W' => e = .returned (.int .i64 0) ∧ Hid (BSt w0 d S' A1 c1 A2 c2 W') := by
  have h2 := h
  obtain ⟨h1, Φ, _, h3, h4, h5, h6, h7⟩ := h2
  exact h.append s (by unfold maxLen; omega) (h4.take hm) (fun y hy => by
    have : ∀ y ∈ x2, 0 ≤ y ∧ y < 256 := by decide
    exact this y (List.mem_of_mem_take hy)) (by omega) he
theorem BSt.app2 (h : BSt w0 d S A1 c1 A2 c2 W) (s : ByteArray) (hs : s.size ≤ 1000) (hL : S.length ≤ 1000) (he : appendF 65536 S s.data.toList xB = (S', 0)) :
    Calls Tryz.prog 33 #[.pointer (some ⟨d, 0, none⟩), .string s, .slice A2 7 c2] W fun e W' => e = .returned (.int .i64 0) ∧ Hid (BSt w0 d S' A1 c1 A2 c2 W') := by
  have h2 := h
  obtain ⟨h1, Φ, _, h3, h4, h5, h6, h7⟩ := h2
  exact h.append s (by unfold maxLen; omega) h5 (by decide) (by omega) he
/-- A row that lies above. -/
theorem own_above {w2 : World} {B n : Nat} {v : Value} {xs : List Int} (ho : w2.ownsRow B 5 1 v n (xs.map (Value.int .u8))) : ∃ A c, v = .slice A n c ∧ n ≤ c ∧ c ≤ 9223372036854775807 ∧ Rd w2 w2.heap.size .u8 A n c xs ∧ (∀ a, A = some a → B ≤ a.block ∧ a.block < w2.heap.size) := by
  obtain ⟨A, c, rfl, hr⟩ := Rd.of_own ho
  have hm := hr.max
  unfold maxLen at hm
  refine ⟨A, c, rfl, hr.cap, by omega, hr, fun a e => ?_⟩
  rcases ho.2 with ⟨e1, _⟩ | ⟨g, cap, cur, e1, hb, hg, _⟩
  · cases e1; cases e
  · obtain ⟨rfl, _, rfl⟩ := Value.slice.inj e1
    cases e
    exact ⟨hb, (Array.getElem?_eq_some_iff.1 hg).1⟩
theorem bads_head (w : World) : Calls Tryz.prog 14 #[.int .i64 65536] w fun e w1 => e = .returned (.pointer (some ⟨w.heap.size + 1, 0, none⟩)) ∧
    Hid (Calls Tryz.prog 32 #[.slice none 0 0, .int .i64 2] w1 fun e w2 => ∃ A c, e = .returned (.slice A 1 c) ∧
    Hid (Calls Tryz.prog 31 #[.slice A 1 c] w2 fun e w3 => ∃ A1 c1, e = .returned (.tuple #[.slice A1 7 c1, .int .i64 0]) ∧ 7 ≤ c1 ∧ c1 ≤ 9223372036854775807 ∧
    Hid (∀ (W : World) (A : Option Addr) (c : Nat), Below w3.heap.size w3 W → Rd W W.heap.size .u8 A 1 c [120] → Calls Tryz.prog 31 #[.slice A 1 c] W fun e w4 => ∃ A2 c2, e = .returned (.tuple #[.slice A2 7 c2, .int .i64 0]) ∧ 7 ≤ c2 ∧ c2 ≤ 9223372036854775807 ∧ Hid (BSt w (w.heap.size + 1) [] A1 c1 A2 c2 w4)))) := by
  refine (New_any 65536 w).mono ?_
  rintro e w1 ⟨rfl, hb1, hs1, hd1⟩
  rw [show clampR 65536 = 65536 by decide] at hd1
  refine ⟨rfl, Lib.hid ?_⟩
  refine (Num_any none 0 0 [] 2 w1 ⟨rfl, Nat.le_refl _, Nat.zero_le _, fun _ => ⟨rfl, rfl⟩, fun j u hu => by simp at hu⟩ (by omega) (by omega) (by omega)).mono ?_
  rintro e w2 ⟨v, rfl, ho2, hb2⟩
  have e2 : ([] : List Int) ++ enc (2 : Int).toNat = [2] := by
    show [] ++ enc 2 = [2]
    rw [enc_small (by omega)]
    rfl
  rw [e2] at ho2
  obtain ⟨A, c, rfl, _, _, hr2, _⟩ := own_above ho2
  refine ⟨A, c, rfl, Lib.hid ?_⟩
  refine (Seal_any A 1 c [2] w2 hr2 (by decide) (by omega)).mono ?_
  rintro e w3 ⟨v, rfl, ho3, hb3⟩
  obtain ⟨A1, c1, rfl, q1, q2, hr3, hi3⟩ := own_above ho3
  refine ⟨A1, c1, rfl, q1, q2, Lib.hid fun W A' c' hW hr => ?_⟩
  refine (Seal_any A' 1 c' [120] W hr (by decide) (by omega)).mono ?_
  rintro e w4 ⟨v, rfl, ho4, hb4⟩
  obtain ⟨A2, c2, rfl, q3, q4, hr4, hi4⟩ := own_above ho4
  have s2 := hb2.size; have s3 := hb3.size; have sW := hW.size; have s4 := hb4.size
  have b3 := hb2.trans (hb3.mono s2)
  have b4 := hW.trans (hb4.mono sW)
  have b14 := b3.trans (b4.mono (by omega))
  refine ⟨A2, c2, rfl, q3, q4, Lib.hid ⟨hb1.trans (b14.mono (by omega)), _, hd1.later b14, fun k hk => by omega, (hr3.below b4).more b4.size, hr4, fun a e => ?_, fun a e => ?_⟩⟩
  · have := hi3 a e
    exact ⟨by omega, by omega⟩
  · have := hi4 a e
    exact ⟨by omega, by omega⟩
end
end Go.Proofs.YtnomicnmpllajaaGreatDoor
end
