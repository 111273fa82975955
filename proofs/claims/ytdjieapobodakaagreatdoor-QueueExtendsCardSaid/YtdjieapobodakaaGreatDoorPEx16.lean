/- What is proved here: plain facts on entries: each a key, a value, and a time; a row of them that rises by the keys. -/
/- What is proved here: what it is that memory holds a ledger; what New, Len, Get, Until, Put and Drop make of it. -/
/- What is proved here: what slices.SortFunc does with one text, or with none. -/
import Derived.Test.YtdjieapobodakaaGreatDoorPEx1
import Derived.Test.YtdjieapobodakaaGreatDoorPEx2
import Derived.Laws.OwnMore
import Derived.Deep.AppendLies
import Derived.StillTailTactics
import Derived.Deep.QuietTactic
import Derived.BigQuiet
import Derived.StringKeys
import Derived.Outline
import Derived.BigRegion
import Derived.Sort.Grow
section
namespace Go.Proofs.YtdjieapobodakaaGreatDoor.Led
open Go
set_option maxRecDepth 100000

structure En where
  k : ByteArray
  v : Value
  t : Int
def En.nm (x : En) : List UInt8 := x.k.data.toList
def findE (L : List En) (s : ByteArray) : Option En := L.find? fun x => decide (x.k = s)
def dropE (L : List En) (s : ByteArray) : List En := delN En.nm s.data.toList L
def putE (L : List En) (x : En) : List En := putN En.nm x L
def valE (x : En) : Value := .agg #[x.v, .int .i64 x.t]
def strK (s : ByteArray) : Lit := .string s.data.toList
theorem data_inj {s t : ByteArray} (h : s.data.toList = t.data.toList) : s = t := by
  have h2 : s.data = t.data := by
    rw [← Array.toArray_toList (xs := s.data), h, Array.toArray_toList]
  cases s
  cases t
  exact congrArg ByteArray.mk h2
theorem strK_inj {s t : ByteArray} (h : strK s = strK t) : s = t := by
  unfold strK at h
  exact data_inj (Lit.string.inj h)
theorem str_eq (a b : ByteArray) : (a.toList == b.toList) = decide (a = b) := by
  have e : ∀ x y : ByteArray, x.toList = y.toList ↔ x = y := fun x y => by
    rw [ByteArray.toList_eq, ByteArray.toList_eq]
    exact ⟨fun h => data_inj h, fun h => by rw [h]⟩
  rw [Bool.eq_iff_iff]
  simp [e]
theorem nm_eq {x : En} {s : ByteArray} : x.nm = s.data.toList ↔ x.k = s := ⟨fun h => data_inj h, fun h => by rw [← h]; rfl⟩

theorem findE_none {L : List En} {s : ByteArray} : findE L s = none ↔ ∀ x ∈ L, x.k ≠ s := by simp [findE, List.find?_eq_none]
theorem findE_some {L : List En} {s : ByteArray} {x : En} (h : findE L s = some x) : x ∈ L ∧ x.k = s := by
  have h1 := List.mem_of_find?_eq_some h
  have h2 := List.find?_some h
  exact ⟨h1, by simpa using h2⟩
theorem findE_mem {L : List En} (hR : Rising En.nm L) {x : En} (hx : x ∈ L) : findE L x.k = some x := by
  cases h : findE L x.k with
  | none => exact absurd rfl (findE_none.1 h x hx)
  | some y =>
    obtain ⟨h1, h2⟩ := findE_some h
    rw [hR.one h1 hx (by unfold En.nm; rw [h2])]
theorem rise_nodup {L : List En} (hR : Rising En.nm L) : L.Nodup := hR.imp fun {a b} hab e => by
  rw [e, WideAt.bytes_irrefl] at hab
  cases hab
theorem rise_put {L : List En} (hR : Rising En.nm L) (x : En) : Rising En.nm (putE L x) := hR.putN x
theorem rise_drop {L : List En} (hR : Rising En.nm L) (s : ByteArray) : Rising En.nm (dropE L s) := hR.delN _
theorem mem_put {L : List En} {x y : En} : y ∈ putE L x ↔ y = x ∨ (y ∈ L ∧ y.k ≠ x.k) := by
  unfold putE
  rw [mem_putN]
  exact or_congr Iff.rfl (and_congr Iff.rfl (not_congr (nm_eq (s := x.k))))
theorem mem_drop {L : List En} {s : ByteArray} {y : En} : y ∈ dropE L s ↔ y ∈ L ∧ y.k ≠ s := by
  unfold dropE
  rw [mem_delN]
  exact and_congr Iff.rfl (not_congr nm_eq)
theorem find_put_same {L : List En} (hR : Rising En.nm L) (x : En) : findE (putE L x) x.k = some x := findE_mem (rise_put hR x) (mem_put.2 (.inl rfl))
theorem find_put_other {L : List En} (hR : Rising En.nm L) {x : En} {s : ByteArray} (h : s ≠ x.k) : findE (putE L x) s = findE L s := by
  cases h2 : findE L s with
  | none =>
    rw [findE_none] at h2 ⊢
    intro y hy
    rcases mem_put.1 hy with rfl | ⟨hy, _⟩
    · exact fun e => h e.symm
    · exact h2 y hy
  | some y =>
    obtain ⟨hy, rfl⟩ := findE_some h2
    exact findE_mem (rise_put hR x) (mem_put.2 (.inr ⟨hy, h⟩))
theorem find_drop_same (L : List En) (s : ByteArray) : findE (dropE L s) s = none := findE_none.2 fun _ hy => (mem_drop.1 hy).2
theorem find_drop_other {L : List En} (hR : Rising En.nm L) {s t : ByteArray} (h : t ≠ s) : findE (dropE L s) t = findE L t := by
  cases h2 : findE L t with
  | none =>
    rw [findE_none] at h2 ⊢
    exact fun y hy => h2 y (mem_drop.1 hy).1
  | some y =>
    obtain ⟨hy, rfl⟩ := findE_some h2
    exact findE_mem (rise_drop hR s) (mem_drop.2 ⟨hy, h⟩)
theorem dropE_none {L : List En} {s : ByteArray} (h : findE L s = none) : dropE L s = L :=
  delN_none fun y hy e => findE_none.1 h y hy (nm_eq.1 e)
theorem length_drop {L : List En} (hR : Rising En.nm L) {s : ByteArray} {x : En} (h : findE L s = some x) : (dropE L s).length + 1 = L.length := by
  obtain ⟨hx, hs⟩ := findE_some h
  have hp : L.Perm (x :: dropE L s) := by
    refine (List.perm_ext_iff_of_nodup (rise_nodup hR) (List.nodup_cons.2 ⟨fun h => (mem_drop.1 h).2 hs, rise_nodup (rise_drop hR s)⟩)).2 fun y => ?_
    rw [List.mem_cons, mem_drop]
    constructor
    · intro hy
      by_cases e : y.k = s
      · exact .inl (hR.one hy hx (by unfold En.nm; rw [e, hs]))
      · exact .inr ⟨hy, e⟩
    · rintro (rfl | ⟨hy, _⟩)
      · exact hx
      · exact hy
  have := hp.length_eq
  simp at this
  omega
theorem length_put {L : List En} (hR : Rising En.nm L) (x : En) : (putE L x).length = if (findE L x.k).isSome then L.length else L.length + 1 := by
  have e : (putE L x).length = (dropE L x.k).length + 1 := by
    unfold putE putN
    rw [length_insN]
    rfl
  rw [e]
  cases h : findE L x.k with
  | none => rw [dropE_none h]; rfl
  | some y => rw [length_drop hR h]; rfl
end Go.Proofs.YtdjieapobodakaaGreatDoor.Led
end

section
namespace Go.Proofs.YtdjieapobodakaaGreatDoor.Led
open Go Go.RowKit Go.Maps Go.WideMaps
set_option maxRecDepth 100000

theorem two_cells' {w : World} {b : Nat} {x y : Value} {t : TypeId} (h : w.heap[b]? = some (.cells #[x, y] t (0, 0))) :
    w.cell? ⟨b, 0, none⟩ = some x ∧ w.cell? ⟨b, 1, none⟩ = some y := ⟨(two_cells h).1, (two_cells h).2.1⟩
theorem lt_of_block {w : World} {b : Nat} {o : Obj} (h : w.heap[b]? = some o) : b < w.heap.size := (Array.getElem?_eq_some_iff.1 h).1
theorem keyed_str : Keyed Tryz.prog 9 := string_keyed Tryz.underlying9
theorem key_str {s : ByteArray} (h : s.size ≤ maxLen) : keyOf Tryz.prog 9 (.string s) = some (strK s) := keyOf_string_mk Tryz.underlying9 h
/-- A row that rises, of entries that may be. -/
structure RowOk (L : List En) : Prop where
  srt : Rising En.nm L
  wf : ∀ x ∈ L, x.k.size ≤ maxLen
theorem RowOk.nil : RowOk [] := ⟨List.Pairwise.nil, fun x hx => by cases hx⟩
theorem RowOk.put {L : List En} (h : RowOk L) {x : En} (hx : x.k.size ≤ maxLen) : RowOk (putE L x) := ⟨rise_put h.srt x, fun y hy => by
  rcases mem_put.1 hy with rfl | ⟨hy, _⟩
  · exact hx
  · exact h.wf y hy⟩
theorem RowOk.drop {L : List En} (h : RowOk L) (s : ByteArray) : RowOk (dropE L s) := ⟨rise_drop h.srt s, fun y hy => h.wf y (mem_drop.1 hy).1⟩

/-- What Put answers, and leaves. -/
def full (room : Nat) (L : List En) (s : ByteArray) : Bool := (findE L s).isNone && decide (room ≤ L.length)
def putR (room : Nat) (L : List En) (x : En) : List En := if full room L x.k then L else putE L x
def putA (room : Nat) (L : List En) (s : ByteArray) : Int := if full room L s then 5 else 0

/-- 'delete(m, k)', by what its run gives. -/
theorem wpList_delete_run {P : Program} {w : World} {ops : Array Oper} {rest : List Oper} {o : Oper} {a : Act} {Q : Exit → Act → World → Prop} (hgd : o.guard = none) (m x : Operand) (t k : TypeId) (hop : o.op = .call { callee := .builtin .delete, args := #[m, x], argTypes := #[t, k] })
    (vm vx : Value) (hm : a.eval m = vm) (hx : a.eval x = vx) {v : Value} {w' : World} (hrun : (Builtin.delete_ #[t, k] o.type #[vm, vx]).run P w = .ok v w') (h : wpList P ops Q rest (a.put o.dst v) w') : wpList P ops Q (o :: rest) a w := by
  refine wpList_plain hgd fun K' hK' => ?_
  unfold Oper.wp
  simp [execOp, hop, resolve, invoke, builtin, hm, hx, hrun, Result.andThen]
  exact hK' _ _ h

/-! ### ledgers of int -/
theorem zero_known (w : World) : (zeroValue 136).run Tryz.prog w = .ok (.agg #[.int .i64 0, .int .i64 0]) w := by kernel_rfl
def IsV (v : Value) : Prop := ∃ n : Int, v = Value.int .i64 n
/-- Memory holds a ledger. -/
structure LedL (w : World) (l m : Nat) (room : Nat) (L : List En) (f : Lit → Option Value) (Φ : Nat → Prop) : Prop where
  blk : w.heap[l]? = some (.cells #[.int .i64 room, .map (some m)] 118 (0, 0))
  mp : MapV Tryz.prog 9 w m L.length f
  ok : RowOk L
  pl : ∀ s, f (strK s) = (findE L s).map valE
  vs : ∀ x ∈ L, IsV x.v
  roomB : room ≤ 9223372036854775807
  inn : Φ l ∧ Φ m
def LedAt (w : World) (l : Nat) (room : Nat) (L : List En) (Φ : Nat → Prop) : Prop := ∃ m f, LedL w l m room L f Φ

section
variable {w w' : World} {l m room : Nat} {L : List En} {f : Lit → Option Value} {Φ Ψ : Nat → Prop}
theorem LedL.keep (h : LedL w l m room L f Φ) (hc : Chg Ψ w w') (hs : ∀ k, Φ k → ¬ Ψ k) : LedL w' l m room L f Φ :=
  ⟨hc.heap h.blk (hs _ h.inn.1), h.mp.keep hc (hs _ h.inn.2), h.ok, h.pl, h.vs, h.roomB, h.inn⟩
theorem LedL.mono (h : LedL w l m room L f Φ) (hs : ∀ k, k < w.heap.size → Φ k → Ψ k) : LedL w l m room L f Ψ :=
  ⟨h.blk, h.mp, h.ok, h.pl, h.vs, h.roomB, hs _ (lt_of_block h.blk) h.inn.1, hs _ h.mp.lt h.inn.2⟩
theorem LedAt.keep (h : LedAt w l room L Φ) (hc : Chg Ψ w w') (hs : ∀ k, Φ k → ¬ Ψ k) : LedAt w' l room L Φ := by
  obtain ⟨m, f, h⟩ := h
  exact ⟨m, f, h.keep hc hs⟩
theorem LedAt.mono (h : LedAt w l room L Φ) (hs : ∀ k, k < w.heap.size → Φ k → Ψ k) : LedAt w l room L Ψ := by
  obtain ⟨m, f, h⟩ := h
  exact ⟨m, f, h.mono hs⟩
theorem LedAt.below (h : LedAt w l room L Φ) (hb : Below w.heap.size w w') : LedAt w' l room L Φ := h.keep (Ψ := fun _ => False) (Chg.of_below hb) fun _ _ => id
theorem LedAt.lt (h : LedAt w l room L Φ) : l < w.heap.size := by
  obtain ⟨m, f, h⟩ := h
  exact lt_of_block h.blk
theorem LedAt.ok (h : LedAt w l room L Φ) : RowOk L := by
  obtain ⟨m, f, h⟩ := h
  exact h.ok
theorem LedL.l_m (h : LedL w l m room L f Φ) : l ≠ m := fun e => by
  obtain ⟨es, c, hb⟩ := h.mp.blk
  rw [← e, h.blk] at hb
  cases hb
theorem LedL.look (h : LedL w l m room L f Φ) {s : ByteArray} (hs : s.size ≤ maxLen) : (Instr.lookup 116 (.map (some m)) (.string s) true).run Tryz.prog w = .ok (.tuple #[((findE L s).map valE).getD (.agg #[.int .i64 0, .int .i64 0]), .bool (findE L s).isSome]) w := by
  have := h.mp.look_ok keyed_str Tryz.underlying116 (zero_known w) (key_str hs)
  rw [h.pl] at this
  rw [this]
  simp
end

theorem New_any (w : World) {room : Int} (hr : -9223372036854775808 ≤ room ∧ room ≤ 9223372036854775807) : Calls Tryz.prog 31 #[.int .i64 room] w fun e w' => e = .returned (.pointer (some ⟨w.heap.size + 1, 0, none⟩)) ∧ Below w.heap.size w w' ∧ LedAt w' (w.heap.size + 1) room.toNat [] (fun k => w.heap.size ≤ k) := by
  have HM : Hid (∀ r : Int, r = room.toNat → LedAt ((w.alloc (.map #[] 0)).alloc (.cells #[.int .i64 r, .map (some w.heap.size)] 118)) (w.heap.size + 1) room.toNat [] (fun k => w.heap.size ≤ k)) := Lib.hid (by
    rintro r rfl
    have hb := heap_alloc_new (w.alloc (.map #[] 0)) (.cells #[.int .i64 room.toNat, .map (some w.heap.size)] 118)
    rw [show (w.alloc (.map #[] 0)).heap.size = w.heap.size + 1 by simp] at hb
    have m1 := MapV.made Tryz.prog 9 w
    exact ⟨w.heap.size, fun _ => none, hb, m1.keep (Chg.alloc (Φ := fun _ => False) _ _) id, RowOk.nil, fun _ => rfl, (fun x hx => by cases hx), by omega, by omega, Nat.le_refl _⟩)
  have hmm := @run_makeMap Tryz.prog
  clear hr
  go_enter Tryz.func31, Tryz.ntmps31
  go_wp2
  all_goals
    go_ret
    exact ⟨by simp, (((Below.refl _ _).alloc (Nat.le_refl _) _).alloc (by simp) _), HM.out _ (by omega)⟩

/-- What Get, and Until, answer. -/
def getE (o : Option En) : Ending := .returned (.tuple #[(o.map En.v).getD (.int .i64 0), .bool o.isSome])
def untilE (o : Option En) : Ending := .returned (.tuple #[.int .i64 ((o.map En.t).getD 0), .bool o.isSome])

set_option maxHeartbeats 800000 in
theorem Get_any {w : World} {l room : Nat} {L : List En} {Φ : Nat → Prop} (h : LedAt w l room L Φ) {s : ByteArray} (hs : s.size ≤ maxLen) : Calls Tryz.prog 38 #[.pointer (some ⟨l, 0, none⟩), .string s] w fun e w' => e = getE (findE L s) ∧ Below w.heap.size w w' := by
  obtain ⟨m, f, h⟩ := h
  obtain ⟨c0, c1⟩ := two_cells' h.blk
  have hlk := h.look hs
  have hll := lt_of_block h.blk
  have hvs : ∀ x, findE L s = some x → IsV x.v := fun x hx => h.vs x (findE_some hx).1
  generalize findE L s = o at *
  clear h
  cases o with
  | none =>
    clear hvs
    have hlk' : (Instr.lookup 116 (.map (some m)) (.string s) true).run Tryz.prog w = .ok (.tuple #[.agg #[.int .i64 0, .int .i64 0], .bool false]) w := hlk
    clear hlk
    go_enter Tryz.func38, Tryz.ntmps38
    go_wp2
    go_ret2
    exact ⟨rfl, (Below.refl _ _).alloc (Nat.le_refl _) _⟩
  | some x =>
    obtain ⟨k, v, t⟩ := x
    obtain ⟨n, rfl⟩ : IsV v := hvs _ rfl
    clear hvs
    have hlk' : (Instr.lookup 116 (.map (some m)) (.string s) true).run Tryz.prog w = .ok (.tuple #[.agg #[Value.int .i64 n, .int .i64 t], .bool true]) w := hlk
    clear hlk
    go_enter Tryz.func38, Tryz.ntmps38
    go_wp2
    go_ret2
    exact ⟨rfl, (Below.refl _ _).alloc (Nat.le_refl _) _⟩

set_option maxHeartbeats 1600000 in
set_option maxRecDepth 100000 in
theorem Put_any {w : World} {l room : Nat} {L : List En} {Φ : Nat → Prop} (h : LedAt w l room L Φ) (hL : L.length < 900000) {x : En} (hx : x.k.size ≤ maxLen) (hv : IsV x.v) : Calls Tryz.prog 39 #[.pointer (some ⟨l, 0, none⟩), .string x.k, x.v, .int .i64 x.t] w fun e w' => e = .returned (.int .i64 (putA room L x.k)) ∧ Hid (LedAt w' l room (putR room L x) Φ ∧ Chg Φ w w') := by
  have h0 := h
  obtain ⟨m, f, h⟩ := h
  obtain ⟨c0, c1⟩ := two_cells' h.blk
  have hlk := h.look hx
  have hll := lt_of_block h.blk
  have hrB := h.roomB
  have HP : Hid (∀ W, Chg (fun _ => False) w W → ∃ w2, (Instr.mapUpdate 116 (.map (some m)) (.string x.k) (.agg #[x.v, .int .i64 x.t])).run Tryz.prog W = .ok () w2 ∧ W.cell? ⟨l, 0, none⟩ = some (.int .i64 room) ∧ W.cell? ⟨l, 1, none⟩ = some (.map (some m)) ∧ Hid (LedAt w2 l room (putE L x) Φ ∧ Chg Φ w w2)) := Lib.hid (by
    intro W hW
    have h1 := h.keep hW fun _ _ => id
    obtain ⟨e0, e1⟩ := two_cells' h1.blk
    obtain ⟨w2, hr, m2, c2⟩ := h1.mp.put keyed_str Tryz.underlying116 (by unfold maxLen; omega) (key_str hx) (.agg #[x.v, .int .i64 x.t])
    refine ⟨w2, hr, e0, e1, Lib.hid ⟨⟨m, putV f (strK x.k) (.agg #[x.v, .int .i64 x.t]), c2.heap h1.blk h1.l_m, ?_, h.ok.put hx, fun s => ?_, (fun y hy => by
      rcases mem_put.1 hy with rfl | ⟨hy, _⟩
      · exact hv
      · exact h.vs y hy), h.roomB, h.inn⟩, (hW.mono (Ψ := Φ) fun _ _ e => e.elim).trans (c2.mono (Ψ := Φ) fun i _ e => by rw [e]; exact h.inn.2) fun _ _ e => e⟩⟩
    · rw [h1.pl, Option.isSome_map] at m2
      rw [length_put h.ok.srt]
      exact m2
    · by_cases e : s = x.k
      · subst e
        rw [putV_same, find_put_same h.ok.srt]
        rfl
      · rw [putV_other _ _ fun e2 => e (strK_inj e2), find_put_other h.ok.srt e, h.pl])
  have HLEN : Hid (∀ W, Chg (fun _ => False) w W → ∀ ty, (Builtin.len_ #[116] ty #[.map (some m)]).run Tryz.prog W = .ok (.int .i64 L.length) W) := Lib.hid fun W hW ty => (h.mp.keep hW id).len Tryz.underlying116 ty
  obtain ⟨k, v, t⟩ := x
  have hvs : ∀ y, findE L k = some y → IsV y.v := fun y hy => h.vs y (findE_some hy).1
  simp only at *
  obtain ⟨vn, rfl⟩ := hv
  clear h
  cases ho : findE L k with
  | some y =>
    obtain ⟨yk, yv, yt⟩ := y
    obtain ⟨yn, rfl⟩ : IsV yv := hvs _ ho
    clear hvs
    have e1 : full room L k = false := by unfold full; rw [ho]; rfl
    rw [ho] at hlk
    unfold putA putR
    rw [e1]
    simp only [Bool.false_eq_true, if_false]
    have hlk' : (Instr.lookup 116 (.map (some m)) (.string k) true).run Tryz.prog w = .ok (.tuple #[.agg #[Value.int .i64 yn, .int .i64 yt], .bool true]) w := hlk
    clear hlk ho h0 e1 HLEN
    go_enter Tryz.func39, Tryz.ntmps39
    go_wp2_with fail
    go_quiet (fail)
    have hW1 := Chg.drewN (Φ := fun _ => False) (w.alloc (.cells #[Value.int .i64 yn, .int .i64 yt] 136)) nq
    have hW : Chg (fun _ => False) w ((w.alloc (.cells #[Value.int .i64 yn, .int .i64 yt] 136)).drewN nq) := (Chg.alloc _ _).trans hW1 fun _ _ e => e
    have HW := Lib.hid hW
    clear hW1 hW
    generalize (w.alloc (.cells #[Value.int .i64 yn, .int .i64 yt] 136)).drewN nq = W at *
    obtain ⟨w2, hrun, d0, d1, HX⟩ := HP.out W HW.out
    clear c0 c1 HP hlk'
    go_wp2
    go_ret
    exact ⟨rfl, HX⟩

  | none =>
    clear hvs
    rw [ho] at hlk
    have hlk' : (Instr.lookup 116 (.map (some m)) (.string k) true).run Tryz.prog w = .ok (.tuple #[.agg #[.int .i64 0, .int .i64 0], .bool false]) w := hlk
    have hln : ∀ q ty, (Builtin.len_ #[116] ty #[.map (some m)]).run Tryz.prog ((w.alloc (.cells #[.int .i64 0, .int .i64 0] 136)).drewN q) = .ok (.int .i64 L.length) ((w.alloc (.cells #[.int .i64 0, .int .i64 0] 136)).drewN q) := fun q ty => HLEN.out _ ((Chg.alloc (Φ := fun _ => False) w _).trans (Chg.drewN (Φ := fun _ => False) _ q) fun _ _ e => e) ty
    clear hlk HLEN
    unfold putA putR
    by_cases hf : room ≤ L.length
    · have e1 : full room L k = true := by unfold full; rw [ho]; simpa using hf
      rw [e1]
      simp only [if_true]
      have hd : decide ((room : Int) ≤ (L.length : Int)) = true := by simpa using hf
      have HB : Hid (∀ q, LedAt ((w.alloc (.cells #[.int .i64 0, .int .i64 0] 136)).drewN q) l room L Φ ∧ Chg Φ w ((w.alloc (.cells #[.int .i64 0, .int .i64 0] 136)).drewN q)) := Lib.hid fun q => ⟨(h0.keep (Ψ := fun _ => False) (Chg.alloc _ _) fun _ _ => id).keep (Ψ := fun _ => False) (Chg.drewN _ q) fun _ _ => id, (Chg.alloc (Φ := Φ) w _).trans (Chg.drewN (Φ := Φ) _ q) fun _ _ e => e⟩
      clear ho h0 e1 HP hL
      generalize L.length = n at *
      go_enter Tryz.func39, Tryz.ntmps39
      go_wp2_with fail
      go_quiet (fail)
      go_wp2
      go_ret
      exact ⟨rfl, Lib.hid (HB.out _)⟩
    · have e1 : full room L k = false := by unfold full; rw [ho]; simpa using hf
      rw [e1]
      simp only [Bool.false_eq_true, if_false]
      have hd : decide ((room : Int) ≤ (L.length : Int)) = false := by simp; omega
      clear ho h0 e1 hL
      generalize L.length = n at *
      go_enter Tryz.func39, Tryz.ntmps39
      go_wp2_with fail
      go_quiet (fail)
      have hW1 := Chg.drewN (Φ := fun _ => False) (w.alloc (.cells #[.int .i64 0, .int .i64 0] 136)) nq
      have hW : Chg (fun _ => False) w ((w.alloc (.cells #[.int .i64 0, .int .i64 0] 136)).drewN nq) := (Chg.alloc _ _).trans hW1 fun _ _ e => e
      have HW := Lib.hid hW
      clear hW1 hW
      generalize (w.alloc (.cells #[.int .i64 0, .int .i64 0] 136)).drewN nq = W at *
      obtain ⟨w2, hrun, d0, d1, HX⟩ := HP.out W HW.out
      clear c0 c1 HP hlk'
      go_wp2
      go_ret
      exact ⟨rfl, HX⟩

end Go.Proofs.YtdjieapobodakaaGreatDoor.Led
end

section
namespace Go.Proofs.YtdjieapobodakaaGreatDoor.Led
open Go Go.RowKit Go.Maps Go.WideMaps Go.Sort
set_option maxRecDepth 100000

set_option maxRecDepth 100000 in
theorem bits0 (w : World) : Calls Tryz.prog 93 #[.int .u64 0] w fun e w' => e = .returned (.int .i64 0) ∧ w' = w := by
  go_enter Tryz.func93, Tryz.ntmps93
  go_wp2
  go_ret
  exact ⟨by kernel_rfl, rfl⟩
set_option maxRecDepth 100000 in
theorem bits1 (w : World) : Calls Tryz.prog 93 #[.int .u64 1] w fun e w' => e = .returned (.int .i64 1) ∧ w' = w := by
  go_enter Tryz.func93, Tryz.ntmps93
  go_wp2
  go_ret
  exact ⟨by kernel_rfl, rfl⟩

set_option maxHeartbeats 800000 in
set_option maxRecDepth 100000 in
theorem ins0 (A : Option Addr) (c : Nat) (fv : Value) (w : World) : Calls Tryz.prog 122 #[.slice A 0 c, .int .i64 0, .int .i64 0, fv] w fun e w' => e = .returned (.tuple #[]) ∧ w' = w := by
  go_enter Tryz.func122, Tryz.ntmps122
  go_wp2
  refine wp_loop_rounds 1 ?_
  simp only [rounds_succ]
  go_wp2
  go_end0
  exact ⟨rfl, rfl⟩
set_option maxHeartbeats 800000 in
set_option maxRecDepth 100000 in
theorem pdq0 (A : Option Addr) (c : Nat) (fv : Value) (w : World) : Calls Tryz.prog 94 #[.slice A 0 c, .int .i64 0, .int .i64 0, .int .i64 0, fv] w fun e w' => e = .returned (.tuple #[]) ∧ w' = w := by
  have HI := Lib.hid (ins0 A c fv w)
  go_enter Tryz.func94, Tryz.ntmps94
  go_wp2
  refine wp_loop_rounds 1 ?_
  simp only [rounds_succ]
  go_wp2_with (go_at_call 122; refine HI.out.mono ?_; rintro e w2 ⟨rfl, rfl⟩)
  refine bodyPost_ret (results_none rfl _ _ _) rfl ?_
  exact ⟨rfl, rfl⟩
set_option maxHeartbeats 800000 in
set_option maxRecDepth 100000 in
theorem sortT0 (A : Option Addr) (c : Nat) (fv : Value) (w : World) : Calls Tryz.prog 74 #[.slice A 0 c, fv] w fun e w' => e = .returned (.tuple #[]) ∧ w' = w := by
  have HI := Lib.hid (pdq0 A c fv w)
  have HL := Lib.hid (bits0 w)
  go_enter Tryz.func74, Tryz.ntmps74
  go_wp2_with (first
    | (go_at_call 93; refine HL.out.mono ?_; rintro e w1 ⟨rfl, rfl⟩)
    | (go_at_call 94; refine HI.out.mono ?_; rintro e w2 ⟨rfl, rfl⟩))
  go_end0
  exact ⟨rfl, rfl⟩

set_option maxHeartbeats 800000 in
set_option maxRecDepth 100000 in
theorem ins1 (A : Option Addr) (c : Nat) (fv : Value) (w : World) : Calls Tryz.prog 122 #[.slice A 1 c, .int .i64 0, .int .i64 1, fv] w fun e w' => e = .returned (.tuple #[]) ∧ w' = w := by
  go_enter Tryz.func122, Tryz.ntmps122
  go_wp2
  refine wp_loop_rounds 1 ?_
  simp only [rounds_succ]
  go_wp2
  go_end0
  exact ⟨rfl, rfl⟩
set_option maxHeartbeats 800000 in
set_option maxRecDepth 100000 in
theorem pdq1 (A : Option Addr) (c : Nat) (fv : Value) (w : World) : Calls Tryz.prog 94 #[.slice A 1 c, .int .i64 0, .int .i64 1, .int .i64 1, fv] w fun e w' => e = .returned (.tuple #[]) ∧ w' = w := by
  have HI := Lib.hid (ins1 A c fv w)
  go_enter Tryz.func94, Tryz.ntmps94
  go_wp2
  refine wp_loop_rounds 1 ?_
  simp only [rounds_succ]
  go_wp2_with (go_at_call 122; refine HI.out.mono ?_; rintro e w2 ⟨rfl, rfl⟩)
  refine bodyPost_ret (results_none rfl _ _ _) rfl ?_
  exact ⟨rfl, rfl⟩
set_option maxHeartbeats 800000 in
set_option maxRecDepth 100000 in
theorem sortT1 (A : Option Addr) (c : Nat) (fv : Value) (w : World) : Calls Tryz.prog 74 #[.slice A 1 c, fv] w fun e w' => e = .returned (.tuple #[]) ∧ w' = w := by
  have HI := Lib.hid (pdq1 A c fv w)
  have HL := Lib.hid (bits1 w)
  go_enter Tryz.func74, Tryz.ntmps74
  go_wp2_with (first
    | (go_at_call 93; refine HL.out.mono ?_; rintro e w1 ⟨rfl, rfl⟩)
    | (go_at_call 94; refine HI.out.mono ?_; rintro e w2 ⟨rfl, rfl⟩))
  go_end0
  exact ⟨rfl, rfl⟩

def keyV (x : En) : Value := .string x.k
/-- Which one goes first. -/
def befE (a b : En) : Prop := a.t < b.t ∨ (a.t = b.t ∧ bytesBefore a.nm b.nm = true)
/-- What SortFunc leaves of a row of keys. -/
def SortSaid (rb cap : Nat) (xs : List En) (w : World) (e : Ending) (w' : World) : Prop :=
  e = .returned (.tuple #[]) ∧ ∃ ys : List En, ys.Perm xs ∧ ys.Pairwise (fun a b => ¬ befE b a) ∧ w'.ownsRow 0 9 1 (.slice (some ⟨rb, 0, none⟩) xs.length cap) xs.length (ys.map keyV) ∧ Chg (fun i => i = rb) w w'
def SortOK (n : Nat) : Prop := ∀ (w : World) (l room : Nat) (L : List En) (Φ : Nat → Prop) (rb cap : Nat) (xs : List En), LedAt w l room L Φ → xs.length = n → (∀ x ∈ xs, x ∈ L) → ¬ Φ rb → w.ownsRow 0 9 1 (.slice (some ⟨rb, 0, none⟩) xs.length cap) xs.length (xs.map keyV) →
  Calls Tryz.prog 74 #[.slice (some ⟨rb, 0, none⟩) xs.length cap, .func (.func 75) #[.pointer (some ⟨l, 0, none⟩)] #[]] w (SortSaid rb cap xs w)
theorem sort1 : SortOK 1 := by
  intro w l room L Φ rb cap xs _ hn _ _ ho
  obtain ⟨x, rfl⟩ : ∃ x, xs = [x] := by
    match xs, hn with
    | [x], _ => exact ⟨x, rfl⟩
  refine (sortT1 (some ⟨rb, 0, none⟩) cap _ w).mono ?_
  rintro e w' ⟨rfl, rfl⟩
  exact ⟨rfl, [x], List.Perm.refl _, by simp, ho, Chg.refl _ _⟩
end Go.Proofs.YtdjieapobodakaaGreatDoor.Led
end
