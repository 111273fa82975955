/- What is proved here: what it is that of what was there certain blocks alone have turned; blocks of two and three cells. No program's type is named. -/
/- What is proved here: a map in memory as a function from keys to values, whatever its elements' type. No program's type is named. -/
import Derived.Test.YtdjieapobodakaaGreatDoorPEx1
import Derived.Maps.OwnSet
import Derived.Deep.Draws
import Derived.Maps.OwnOps
import Derived.Maps.Views
import Derived.Maps.RangeWalk
section
namespace Go.Proofs.YtdjieapobodakaaGreatDoor
open Go Go.RowKit Go.Maps Go.ChangeMaps Go.MapKept Go.WideMaps Go.WideShapes

/-- Of what was there nothing has turned but blocks of which Φ speaks. -/
structure Chg (Φ : Nat → Prop) (w w' : World) : Prop where
  os : w'.os = w.os
  tape : w'.tape = w.tape
  output : w'.output = w.output
  size : w.heap.size ≤ w'.heap.size
  block : ∀ k, k < w.heap.size → ¬ Φ k → w'.heap[k]? = w.heap[k]?

section
variable {Φ Ψ : Nat → Prop} {a b c w w' : World}
theorem Chg.refl (Φ : Nat → Prop) (w : World) : Chg Φ w w := ⟨rfl, rfl, rfl, Nat.le_refl _, fun _ _ _ => rfl⟩
theorem Chg.trans (h : Chg Φ a b) (k : Chg Ψ b c) (hs : ∀ i, i < a.heap.size → Ψ i → Φ i) : Chg Φ a c :=
  ⟨k.os.trans h.os, k.tape.trans h.tape, k.output.trans h.output, Nat.le_trans h.size k.size, fun i hi hn =>
    (k.block i (Nat.lt_of_lt_of_le hi h.size) fun hp => hn (hs i hi hp)).trans (h.block i hi hn)⟩
theorem Chg.mono (h : Chg Φ a b) (hs : ∀ i, i < a.heap.size → Φ i → Ψ i) : Chg Ψ a b :=
  ⟨h.os, h.tape, h.output, h.size, fun i hi hn => h.block i hi fun hp => hn (hs i hi hp)⟩
theorem Chg.of_below (h : Below a.heap.size a b) : Chg Φ a b := ⟨h.os, h.tape, h.output, h.size, fun i hi _ => h.block i hi⟩
theorem Chg.below {B : Nat} (h : Chg Φ a b) (hB : B ≤ a.heap.size) (hs : ∀ i, Φ i → B ≤ i) : Below B a b :=
  ⟨h.os, h.tape, h.output, h.size, fun i hi => h.block i (by omega) fun hp => by have := hs i hp; omega⟩
theorem Chg.setCell (w : World) (p : Addr) (u : Value) : Chg (fun k => k = p.block) w (w.setCell p u) :=
  ⟨rfl, rfl, rfl, by simp [World.setCell], fun i _ hn => Below.heap_setCell _ _ _ _ hn⟩
theorem Chg.set (w : World) (p i : Nat) (u : Value) : Chg (fun k => k = p) w (w.setCell ⟨p, i, none⟩ u) := Chg.setCell w ⟨p, i, none⟩ u
theorem Chg.alloc (w : World) (o : Obj) : Chg Φ w (w.alloc o) := Chg.of_below ((Below.refl _ _).alloc (Nat.le_refl _) o)
theorem Chg.drewN (w : World) (n : Nat) : Chg Φ w (w.drewN n) := ⟨rfl, rfl, rfl, Nat.le_refl _, fun _ _ _ => rfl⟩
theorem Chg.drew (w : World) : Chg Φ w w.drew := ⟨rfl, rfl, rfl, Nat.le_refl _, fun _ _ _ => rfl⟩
theorem Chg.of_grown {row : Option Nat} (h : a.grownBy b row) : Chg (fun k => row = some k) a b :=
  ⟨h.os, h.tape, h.output, h.size, fun i hi hn => h.block i hi fun e => hn e.symm⟩
theorem Chg.of_turned {m : Nat} (h : a.mapTurned b m) : Chg (fun k => k = m) a b :=
  (Chg.of_grown h.grown).mono fun _ _ e => (Option.some.inj e).symm
theorem Chg.heap (h : Chg Φ w w') {k : Nat} {o : Obj} (hk : w.heap[k]? = some o) (hn : ¬ Φ k) : w'.heap[k]? = some o :=
  (h.block k (Array.getElem?_eq_some_iff.1 hk).1 hn).trans hk
theorem Chg.cell (h : Chg Φ w w') {p : Addr} (hp : p.block < w.heap.size) (hn : ¬ Φ p.block) : w'.cell? p = w.cell? p := World.cell?_of_block (h.block _ hp hn)
theorem Chg.own {base e size n : Nat} {v : Value} {xs : List Value} (h : Chg Φ w w') (ho : w.ownsRow base e size v n xs) (hn : ∀ g, v.ownBlock = some g → ¬ Φ g) : w'.ownsRow base e size v n xs := by
  refine ⟨ho.1, ?_⟩
  rcases ho.2 with h1 | ⟨g, cap, cur, rfl, hb, hg, r⟩
  · exact .inl h1
  · exact .inr ⟨g, cap, cur, rfl, hb, h.heap hg (hn g rfl), r⟩
theorem Chg.rd {B n q : Nat} {k : IntKind} {A : Option Addr} {xs : List Int} (h : Chg Φ w w') (hr : Rd w B k A n q xs) (hB : B ≤ w.heap.size) (hn : ∀ i, i < B → ¬ Φ i) : Rd w' B k A n q xs :=
  hr.keep fun p hp => h.cell (by omega) (hn _ hp)
end

/-! ### blocks of two and three cells -/
section
variable {w : World} {b : Nat} {x y z : Value} {t : TypeId}
theorem two_cells (h : w.heap[b]? = some (.cells #[x, y] t (0, 0))) :
    w.cell? ⟨b, 0, none⟩ = some x ∧ w.cell? ⟨b, 1, none⟩ = some y ∧ w.frozen? ⟨b, 0, none⟩ = false ∧ w.frozen? ⟨b, 1, none⟩ = false := by
  simp [World.cell?, World.frozen?, h]
theorem three_cells (h : w.heap[b]? = some (.cells #[x, y, z] t (0, 0))) :
    w.cell? ⟨b, 0, none⟩ = some x ∧ w.cell? ⟨b, 1, none⟩ = some y ∧ w.cell? ⟨b, 2, none⟩ = some z ∧ w.frozen? ⟨b, 0, none⟩ = false ∧ w.frozen? ⟨b, 1, none⟩ = false ∧ w.frozen? ⟨b, 2, none⟩ = false := by
  simp [World.cell?, World.frozen?, h]
theorem heap_setCell_same {cs : Array Value} {fr : Nat × Nat} (h : w.heap[b]? = some (.cells cs t fr)) (i : Nat) (u : Value) : (w.setCell ⟨b, i, none⟩ u).heap[b]? = some (.cells (cs.setIfInBounds i u) t fr) := by
  obtain ⟨hlt, h'⟩ := Array.getElem?_eq_some_iff.1 h
  show (w.heap.modify b _)[b]? = _
  rw [Array.getElem?_eq_getElem (by simpa using hlt), Array.getElem_modify_self, h']
  rfl
theorem two_set0 (h : w.heap[b]? = some (.cells #[x, y] t (0, 0))) (u : Value) : (w.setCell ⟨b, 0, none⟩ u).heap[b]? = some (.cells #[u, y] t (0, 0)) := heap_setCell_same h 0 u
theorem two_set1 (h : w.heap[b]? = some (.cells #[x, y] t (0, 0))) (u : Value) : (w.setCell ⟨b, 1, none⟩ u).heap[b]? = some (.cells #[x, u] t (0, 0)) := heap_setCell_same h 1 u
theorem three_set1 (h : w.heap[b]? = some (.cells #[x, y, z] t (0, 0))) (u : Value) : (w.setCell ⟨b, 1, none⟩ u).heap[b]? = some (.cells #[x, u, z] t (0, 0)) := heap_setCell_same h 1 u
theorem heap_setCell_but {cs : Array Value} {fr : Nat × Nat} {p : Nat} (h : w.heap[b]? = some (.cells cs t fr)) (hp : b ≠ p) (i : Nat) (u : Value) : (w.setCell ⟨p, i, none⟩ u).heap[b]? = some (.cells cs t fr) := by
  rw [Below.heap_setCell _ _ _ _ hp]; exact h
end

theorem ownsMap_tight {H : Type} {w : World} {P : Program} {k : TypeId} {R : Value → Option (DataW H × List MemPlace)} {b n : Nat} {D : DataW H} (h : w.ownsMap P k R b n D) : w.ownsMap P k R b (Maps.size D) D := by
  obtain ⟨es, clock, hb, F, _, rfl⟩ := h
  exact ⟨es, clock, hb, F, by simp [Maps.size, length_sorted], rfl⟩

end Go.Proofs.YtdjieapobodakaaGreatDoor
end

section
namespace Go.Proofs.YtdjieapobodakaaGreatDoor
open Go Go.RowKit Go.Maps

def anyV (v : Value) : Option (DataW Value × List MemPlace) := some (.held v, [])
/-- A datum says what a function does. -/
def ViewV (D : DataW Value) (f : Lit → Option Value) : Prop := ∀ kl, Maps.has D kl = (f kl).isSome ∧ ∀ v, f kl = some v → ∀ z, D.atKey kl z = .held v
/-- Block b is a map of N entries that has at each key what f says. -/
def MapV (P : Program) (k : TypeId) (w : World) (b N : Nat) (f : Lit → Option Value) : Prop :=
  ∃ D : DataW Value, w.ownsMap P k anyV b N D ∧ Maps.size D = N ∧ ViewV D f
noncomputable def putV (f : Lit → Option Value) (k : Lit) (v : Value) : Lit → Option Value := open Classical in fun x => if x = k then some v else f x
noncomputable def delV (f : Lit → Option Value) (k : Lit) : Lit → Option Value := open Classical in fun x => if x = k then none else f x
theorem putV_same (f : Lit → Option Value) (k : Lit) (v : Value) : putV f k v k = some v := by simp [putV]
theorem putV_other (f : Lit → Option Value) {k x : Lit} (v : Value) (h : x ≠ k) : putV f k v x = f x := by simp [putV, h]
theorem delV_same (f : Lit → Option Value) (k : Lit) : delV f k k = none := by simp [delV]
theorem delV_other (f : Lit → Option Value) {k x : Lit} (h : x ≠ k) : delV f k x = f x := by simp [delV, h]
theorem ViewV.at {D : DataW Value} {f : Lit → Option Value} (h : ViewV D f) {kl : Lit} {c : Value} (hat : ∀ z, D.atKey kl z = .held c) : f kl = some c := by
  have h1 := (h kl).1
  rw [has_true_of_atKey hat] at h1
  cases hf : f kl with
  | none => rw [hf] at h1; cases h1
  | some v =>
    have := ((h kl).2 v hf .nil).symm.trans (hat .nil)
    rw [DataW.held.inj this]

section
variable {P : Program} {k t e : TypeId} {w w' : World} {b N : Nat} {f : Lit → Option Value}
theorem MapV.lt (h : MapV P k w b N f) : b < w.heap.size := by
  obtain ⟨D, h1, _⟩ := h
  exact h1.lt
theorem MapV.blk (h : MapV P k w b N f) : ∃ es c, w.heap[b]? = some (.map es c) := by
  obtain ⟨D, ⟨es, c, hb, _⟩, _⟩ := h
  exact ⟨es, c, hb⟩
theorem MapV.keep {Φ : Nat → Prop} (h : MapV P k w b N f) (hc : Chg Φ w w') (hn : ¬ Φ b) : MapV P k w' b N f := by
  obtain ⟨D, ⟨es, clock, hb, r⟩, h2⟩ := h
  exact ⟨D, ⟨es, clock, hc.heap hb hn, r⟩, h2⟩
theorem MapV.made (P : Program) (k : TypeId) (w : World) : MapV P k (w.alloc (.map #[] 0)) w.heap.size 0 fun _ => none :=
  ⟨.map [], World.ownsMap_made w _ _ _, rfl, fun kl => ⟨rfl, fun v h => by cases h⟩⟩
theorem MapV.same {f' : Lit → Option Value} (h : MapV P k w b N f) (hf : ∀ kl, f kl = f' kl) : MapV P k w b N f' := by
  obtain rfl : f = f' := funext hf
  exact h
theorem viewV_val {D : DataW Value} (h2 : ViewV D f) {kl : Lit} {z v : Value} {ps : List MemPlace} (hv : anyV v = some (D.atKey kl (.held z), ps)) : v = (f kl).getD z := by
  have hv' : DataW.held v = D.atKey kl (.held z) := by
    have := congrArg Prod.fst (Option.some.inj hv)
    exact this
  cases hf : f kl with
  | none =>
    have hh : Maps.has D kl = false := by rw [(h2 kl).1, hf]; rfl
    rw [atKey_of_not_has hh] at hv'
    exact DataW.held.inj hv'
  | some u =>
    rw [(h2 kl).2 u hf] at hv'
    exact DataW.held.inj hv'
theorem MapV.look_ok (h : MapV P k w b N f) (K : Keyed P k) (ht : P.underlying t = some (.map k e)) {z : Value} (hz : (zeroValue e).run P w = .ok z w) {key : Value} {kl : Lit} (hkey : keyOf P k key = some kl) :
    (Instr.lookup t (.map (some b)) key true).run P w = .ok (.tuple #[(f kl).getD z, .bool (f kl).isSome]) w := by
  obtain ⟨D, h1, _, h2⟩ := h
  obtain ⟨v, ps, hrun, hv⟩ := World.ownsMap.look_ok h1 K ht hz (zd := .held z) (zp := []) rfl hkey
  rw [hrun, (h2 kl).1, viewV_val h2 hv]
theorem MapV.look (h : MapV P k w b N f) (K : Keyed P k) (ht : P.underlying t = some (.map k e)) {z : Value} (hz : (zeroValue e).run P w = .ok z w) {key : Value} {kl : Lit} (hkey : keyOf P k key = some kl) :
    (Instr.lookup t (.map (some b)) key false).run P w = .ok ((f kl).getD z) w := by
  obtain ⟨D, h1, _, h2⟩ := h
  obtain ⟨v, ps, hrun, hv⟩ := World.ownsMap.lookup h1 K ht hz (zd := .held z) (zp := []) rfl hkey
  rw [hrun, viewV_val h2 hv]
theorem MapV.len (h : MapV P k w b N f) (ht : P.underlying t = some (.map k e)) (ty : TypeId) : (Builtin.len_ #[t] ty #[.map (some b)]).run P w = .ok (.int .i64 N) w := by
  obtain ⟨D, h1, h3, _⟩ := h
  rw [World.ownsMap.len h1 ht ty, h3]
theorem MapV.put (h : MapV P k w b N f) (K : Keyed P k) (ht : P.underlying t = some (.map k e)) (hN : N < maxLen) {key : Value} {kl : Lit} (hkey : keyOf P k key = some kl) (v : Value) :
    ∃ w', (Instr.mapUpdate t (.map (some b)) key v).run P w = .ok () w' ∧ MapV P k w' b (if (f kl).isSome then N else N + 1) (putV f kl v) ∧ Chg (fun i => i = b) w w' := by
  obtain ⟨D, h1, h3, h2⟩ := h
  have hT := h1.tidy K
  obtain ⟨w', hrun, r1, r2⟩ := World.ownsMap.store h1 K ht hN hkey (val := v) (d := .held v) (ps := []) rfl
  have hs : Maps.size (D.put kl (.held v)) = if (f kl).isSome then N else N + 1 := by rw [size_put hT, (h2 kl).1, h3]
  refine ⟨w', hrun, ⟨D.put kl (.held v), ?_, hs, fun x => ?_⟩, Chg.of_turned r2⟩
  · have := ownsMap_tight r1
    rwa [hs] at this
  · by_cases hx : x = kl
    · subst hx
      refine ⟨?_, fun u hu z => ?_⟩
      · rw [has_put_same hT.isMap (K.key hkey), putV_same]
        rfl
      · rw [putV_same] at hu
        obtain rfl := Option.some.inj hu
        exact atKey_put_same hT.isMap (K.key hkey) _ _
    · rw [has_put_other hx, putV_other _ _ hx]
      refine ⟨(h2 x).1, fun u hu z => ?_⟩
      rw [atKey_put_other hx]
      exact (h2 x).2 u hu z
theorem MapV.drop (h : MapV P k w b N f) (K : Keyed P k) (ht : P.underlying t = some (.map k e)) {key : Value} {kl : Lit} (hkey : keyOf P k key = some kl) (hf : (f kl).isSome = true) (ty : TypeId) :
    ∃ w', (Builtin.delete_ #[t, k] ty #[.map (some b), key]).run P w = .ok (.tuple #[]) w' ∧ MapV P k w' b (N - 1) (delV f kl) ∧ 0 < N ∧ Chg (fun i => i = b) w w' := by
  obtain ⟨D, h1, h3, h2⟩ := h
  have hT := h1.tidy K
  obtain ⟨w', hrun, r1, r2⟩ := World.ownsMap.drop h1 K ht hkey ty
  have hs := size_del (k := kl) hT
  rw [(h2 kl).1, hf, if_pos rfl, h3] at hs
  refine ⟨w', hrun, ⟨D.del kl, ?_, by omega, fun x => ?_⟩, by omega, Chg.of_turned r2⟩
  · have := ownsMap_tight r1
    rwa [show Maps.size (D.del kl) = N - 1 by omega] at this
  · by_cases hx : x = kl
    · subst hx
      rw [has_del_same, delV_same]
      exact ⟨rfl, fun v hv => by cases hv⟩
    · rw [has_del_other hx, delV_other _ hx]
      refine ⟨(h2 x).1, fun u hu z => ?_⟩
      rw [atKey_del_other hx]
      exact (h2 x).2 u hu z
/-- 'delete', whether the key is there or not. -/
theorem MapV.cut (h : MapV P k w b N f) (K : Keyed P k) (ht : P.underlying t = some (.map k e)) {key : Value} {kl : Lit} (hkey : keyOf P k key = some kl) (ty : TypeId) :
    ∃ w', (Builtin.delete_ #[t, k] ty #[.map (some b), key]).run P w = .ok (.tuple #[]) w' ∧ MapV P k w' b (if (f kl).isSome then N - 1 else N) (delV f kl) ∧ Chg (fun i => i = b) w w' := by
  obtain ⟨D, h1, h3, h2⟩ := h
  have hT := h1.tidy K
  obtain ⟨w', hrun, r1, r2⟩ := World.ownsMap.drop h1 K ht hkey ty
  have hs := size_del (k := kl) hT
  rw [(h2 kl).1] at hs
  have hsz : Maps.size (D.del kl) = if (f kl).isSome then N - 1 else N := by
    split at hs
    · rename_i hc
      rw [if_pos hc]
      omega
    · rename_i hc
      rw [if_neg hc]
      omega
  refine ⟨w', hrun, ⟨D.del kl, ?_, hsz, fun x => ?_⟩, Chg.of_turned r2⟩
  · have := ownsMap_tight r1
    rwa [hsz] at this
  · by_cases hx : x = kl
    · subst hx
      rw [has_del_same, delV_same]
      exact ⟨rfl, fun v hv => by cases hv⟩
    · rw [has_del_other hx, delV_other _ hx]
      refine ⟨(h2 x).1, fun u hu z => ?_⟩
      rw [atKey_del_other hx]
      exact (h2 x).2 u hu z
end
end Go.Proofs.YtdjieapobodakaaGreatDoor
end
