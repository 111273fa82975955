/- What is proved here: what it is that memory holds a disk: definitions, and plain facts on them. -/
import Derived.Test.YtpolkhippblcmaaCommon
import Derived.Test.YtpolkhippblcmaaList
import Derived.Maps.OwnSet
import Derived.Deep.Draws
import Derived.StringKeys
namespace Go.Proofs.Ytpolkhippblcmaa
open Go Go.RowKit Go.Maps Go.ChangeMaps Go.MapKept Go.WideMaps Go.WideShapes

/-- A file: its name, its bytes, how many are synced. -/
structure RF where
  nm : List UInt8
  b : List Int
  s : Nat
/-- A file in memory: where its struct lies, and its bytes' slice. -/
structure Fil where
  f : RF
  p : Nat
  v : Value
abbrev Fil.nm (x : Fil) : List UInt8 := x.f.nm
def usedN (S : List RF) : Nat := (S.map fun f => f.b.length).sum
theorem usedN_nil : usedN [] = 0 := rfl
theorem usedN_cons (x : RF) (S : List RF) : usedN (x :: S) = x.b.length + usedN S := by simp [usedN]
theorem usedN_perm {S T : List RF} (h : S.Perm T) : usedN S = usedN T := (h.map _).sum_nat
theorem usedN_ins (x : RF) (S : List RF) : usedN (insN RF.nm x S) = x.b.length + usedN S := by
  rw [usedN_perm (perm_insN x S), usedN_cons]
theorem usedN_mem {S : List RF} {x : RF} (h : x ∈ S) : x.b.length ≤ usedN S := by
  induction S with
  | nil => cases h
  | cons y r ih =>
    rw [usedN_cons]
    rcases List.mem_cons.1 h with rfl | h
    · omega
    · have := ih h; omega
theorem usedN_del {S : List RF} (h : Rising RF.nm S) {x : RF} (hx : x ∈ S) : usedN (delN RF.nm x.nm S) + x.b.length = usedN S := by
  induction S with
  | nil => cases hx
  | cons y r ih =>
    obtain ⟨h1, h2⟩ := List.pairwise_cons.1 h
    have hne : ∀ z ∈ r, z.nm ≠ y.nm := fun z hz e => by
      have := h1 z hz
      rw [e, WideAt.bytes_irrefl] at this
      cases this
    by_cases hxy : x = y
    · subst hxy
      have e : delN RF.nm x.nm (x :: r) = r := by
        show List.filter _ (x :: r) = r
        rw [List.filter_cons_of_neg (by simp)]
        exact delN_none hne
      rw [e, usedN_cons]
      omega
    · have hx' : x ∈ r := by
        rcases List.mem_cons.1 hx with e | e
        · exact absurd e hxy
        · exact e
      have e : delN RF.nm x.nm (y :: r) = y :: delN RF.nm x.nm r := by
        show List.filter _ (y :: r) = _
        rw [List.filter_cons_of_pos (by simpa using (fun e => hne x hx' e.symm))]
        rfl
      rw [e, usedN_cons, usedN_cons]
      have := ih h2 hx'
      omega
theorem usedN_put {S : List RF} (h : Rising RF.nm S) {x y : RF} (hx : x ∈ S) (hn : x.nm = y.nm) : usedN (putN RF.nm y S) + x.b.length = usedN S + y.b.length := by
  unfold putN
  rw [usedN_ins, ← hn]
  have := usedN_del h hx
  omega

/-- Of what was there nothing has turned but blocks of which Φ speaks. -/
structure Chg (Φ : Nat → Prop) (w w' : World) : Prop where
  os : w'.os = w.os
  tape : w'.tape = w.tape
  output : w'.output = w.output
  size : w.heap.size ≤ w'.heap.size
  block : ∀ k, k < w.heap.size → ¬ Φ k → w'.heap[k]? = w.heap[k]?

section
variable {Φ Ψ : Nat → Prop} {a b c w w' : World}
theorem Chg.refl (Φ : Nat → Prop) (w : World) : Chg Φ w w := ⟨rfl, rfl, rfl, Nat.le_refl _, fun _ _ _ => rfl⟩
theorem Chg.trans (h : Chg Φ a b) (k : Chg Ψ b c) (hs : ∀ i, i < a.heap.size → Ψ i → Φ i) : Chg Φ a c :=
  ⟨k.os.trans h.os, k.tape.trans h.tape, k.output.trans h.output, Nat.le_trans h.size k.size, fun i hi hn =>
    (k.block i (Nat.lt_of_lt_of_le hi h.size) fun hp => hn (hs i hi hp)).trans (h.block i hi hn)⟩
theorem Chg.mono (h : Chg Φ a b) (hs : ∀ i, i < a.heap.size → Φ i → Ψ i) : Chg Ψ a b :=
  ⟨h.os, h.tape, h.output, h.size, fun i hi hn => h.block i hi fun hp => hn (hs i hi hp)⟩
theorem Chg.of_below (h : Below a.heap.size a b) : Chg Φ a b := ⟨h.os, h.tape, h.output, h.size, fun i hi _ => h.block i hi⟩
theorem Chg.below {B : Nat} (h : Chg Φ a b) (hB : B ≤ a.heap.size) (hs : ∀ i, Φ i → B ≤ i) : Below B a b :=
  ⟨h.os, h.tape, h.output, h.size, fun i hi => h.block i (by omega) fun hp => by have := hs i hp; omega⟩
theorem Chg.setCell (w : World) (p : Addr) (u : Value) : Chg (fun k => k = p.block) w (w.setCell p u) :=
  ⟨rfl, rfl, rfl, by simp [World.setCell], fun i _ hn => Below.heap_setCell _ _ _ _ hn⟩
theorem Chg.set (w : World) (p i : Nat) (u : Value) : Chg (fun k => k = p) w (w.setCell ⟨p, i, none⟩ u) := Chg.setCell w ⟨p, i, none⟩ u
theorem Chg.alloc (w : World) (o : Obj) : Chg Φ w (w.alloc o) := Chg.of_below ((Below.refl _ _).alloc (Nat.le_refl _) o)
theorem Chg.drewN (w : World) (n : Nat) : Chg Φ w (w.drewN n) := ⟨rfl, rfl, rfl, Nat.le_refl _, fun _ _ _ => rfl⟩
theorem Chg.drew (w : World) : Chg Φ w w.drew := ⟨rfl, rfl, rfl, Nat.le_refl _, fun _ _ _ => rfl⟩
theorem Chg.of_grown {row : Option Nat} (h : a.grownBy b row) : Chg (fun k => row = some k) a b :=
  ⟨h.os, h.tape, h.output, h.size, fun i hi hn => h.block i hi fun e => hn e.symm⟩
theorem Chg.of_turned {m : Nat} (h : a.mapTurned b m) : Chg (fun k => k = m) a b :=
  (Chg.of_grown h.grown).mono fun _ _ e => (Option.some.inj e).symm
theorem Chg.heap (h : Chg Φ w w') {k : Nat} {o : Obj} (hk : w.heap[k]? = some o) (hn : ¬ Φ k) : w'.heap[k]? = some o :=
  (h.block k (Array.getElem?_eq_some_iff.1 hk).1 hn).trans hk
theorem Chg.cell (h : Chg Φ w w') {p : Addr} (hp : p.block < w.heap.size) (hn : ¬ Φ p.block) : w'.cell? p = w.cell? p := World.cell?_of_block (h.block _ hp hn)
theorem Chg.own {base e size n : Nat} {v : Value} {xs : List Value} (h : Chg Φ w w') (ho : w.ownsRow base e size v n xs) (hn : ∀ g, v.ownBlock = some g → ¬ Φ g) : w'.ownsRow base e size v n xs := by
  refine ⟨ho.1, ?_⟩
  rcases ho.2 with h1 | ⟨g, cap, cur, rfl, hb, hg, r⟩
  · exact .inl h1
  · exact .inr ⟨g, cap, cur, rfl, hb, h.heap hg (hn g rfl), r⟩
theorem Chg.rd {B n q : Nat} {k : IntKind} {A : Option Addr} {xs : List Int} (h : Chg Φ w w') (hr : Rd w B k A n q xs) (hB : B ≤ w.heap.size) (hn : ∀ i, i < B → ¬ Φ i) : Rd w' B k A n q xs :=
  hr.keep fun p hp => h.cell (by omega) (hn _ hp)
end

/-! ### blocks of two and three cells -/
section
variable {w : World} {b : Nat} {x y z : Value} {t : TypeId}
theorem two_cells (h : w.heap[b]? = some (.cells #[x, y] t (0, 0))) :
    w.cell? ⟨b, 0, none⟩ = some x ∧ w.cell? ⟨b, 1, none⟩ = some y ∧ w.frozen? ⟨b, 0, none⟩ = false ∧ w.frozen? ⟨b, 1, none⟩ = false := by
  simp [World.cell?, World.frozen?, h]
theorem three_cells (h : w.heap[b]? = some (.cells #[x, y, z] t (0, 0))) :
    w.cell? ⟨b, 0, none⟩ = some x ∧ w.cell? ⟨b, 1, none⟩ = some y ∧ w.cell? ⟨b, 2, none⟩ = some z ∧ w.frozen? ⟨b, 0, none⟩ = false ∧ w.frozen? ⟨b, 1, none⟩ = false ∧ w.frozen? ⟨b, 2, none⟩ = false := by
  simp [World.cell?, World.frozen?, h]
theorem heap_setCell_same {cs : Array Value} {fr : Nat × Nat} (h : w.heap[b]? = some (.cells cs t fr)) (i : Nat) (u : Value) : (w.setCell ⟨b, i, none⟩ u).heap[b]? = some (.cells (cs.setIfInBounds i u) t fr) := by
  obtain ⟨hlt, h'⟩ := Array.getElem?_eq_some_iff.1 h
  show (w.heap.modify b _)[b]? = _
  rw [Array.getElem?_eq_getElem (by simpa using hlt), Array.getElem_modify_self, h']
  rfl
theorem two_set0 (h : w.heap[b]? = some (.cells #[x, y] t (0, 0))) (u : Value) : (w.setCell ⟨b, 0, none⟩ u).heap[b]? = some (.cells #[u, y] t (0, 0)) := heap_setCell_same h 0 u
theorem two_set1 (h : w.heap[b]? = some (.cells #[x, y] t (0, 0))) (u : Value) : (w.setCell ⟨b, 1, none⟩ u).heap[b]? = some (.cells #[x, u] t (0, 0)) := heap_setCell_same h 1 u
theorem three_set1 (h : w.heap[b]? = some (.cells #[x, y, z] t (0, 0))) (u : Value) : (w.setCell ⟨b, 1, none⟩ u).heap[b]? = some (.cells #[x, u, z] t (0, 0)) := heap_setCell_same h 1 u
theorem heap_setCell_but {cs : Array Value} {fr : Nat × Nat} {p : Nat} (h : w.heap[b]? = some (.cells cs t fr)) (hp : b ≠ p) (i : Nat) (u : Value) : (w.setCell ⟨p, i, none⟩ u).heap[b]? = some (.cells cs t fr) := by
  rw [Below.heap_setCell _ _ _ _ hp]; exact h
end

/-! ### the map -/
/-- How a pointer in a map reads: as its block's number. -/
def ptrElem : Value → Option (DataW Unit × List MemPlace)
  | .pointer none => some (.nil, [])
  | .pointer (some a) => if a.off = 0 ∧ a.spot = none then some (.lit (.int .i64 a.block), []) else none
  | _ => none
theorem ptrElem_at (p : Nat) : ptrElem (.pointer (some ⟨p, 0, none⟩)) = some (.lit (.int .i64 p), []) := by simp [ptrElem]
theorem ptrElem_nil_inv {v : Value} {ps : List MemPlace} (h : ptrElem v = some (.nil, ps)) : v = .pointer none := by
  unfold ptrElem at h
  split at h
  · rfl
  · split at h
    · simp at h
    · cases h
  · cases h
theorem ptrElem_at_inv {v : Value} {p : Nat} {ps : List MemPlace} (h : ptrElem v = some (.lit (.int .i64 p), ps)) : v = .pointer (some ⟨p, 0, none⟩) := by
  unfold ptrElem at h
  split at h
  · simp at h
  · rename_i a
    split at h
    · rename_i hc
      simp at h
      obtain ⟨h1, _⟩ := h
      obtain ⟨b, o, sp⟩ := a
      simp at hc h1
      obtain ⟨rfl, rfl⟩ := hc
      obtain rfl : b = p := by omega
      rfl
    · cases h
  · cases h

/-- What the map of files reads as. -/
def entryOf (x : Fil) : Lit × DataW Unit := (.string x.nm, .lit (.int .i64 x.p))
def datOf (L : List Fil) : DataW Unit := .map (L.map entryOf)
theorem dat_atKey (k : List UInt8) : ∀ L : List Fil, (datOf L).atKey (.string k) .nil = match L.find? (fun x => x.nm == k) with | some x => .lit (.int .i64 x.p) | none => .nil
  | [] => rfl
  | y :: r => by
    have ih := dat_atKey k r
    unfold datOf DataW.atKey at ih ⊢
    simp only [List.map_cons, List.find?_cons]
    have e : (entryOf y).1.sameKey (.string k) = (y.nm == k) := rfl
    rw [e]
    cases hy : y.nm == k
    · exact ih
    · rfl
theorem dat_ins (x : Fil) : ∀ L : List Fil, DataW.insert (entryOf x) (L.map entryOf) = (insN Fil.nm x L).map entryOf
  | [] => rfl
  | y :: r => by
    unfold insN
    simp only [List.map_cons]
    show (if (entryOf x).1.before (entryOf y).1 then _ else _) = _
    have e : (entryOf x).1.before (entryOf y).1 = bytesBefore x.nm y.nm := rfl
    rw [e]
    split
    · rfl
    · rw [dat_ins x r]
      rfl
theorem dat_filter (k : List UInt8) (L : List Fil) : (L.map entryOf).filter (fun p => !p.1.sameKey (.string k)) = (delN Fil.nm k L).map entryOf := by
  unfold delN
  rw [List.filter_map]
  rfl
theorem dat_put (x : Fil) (L : List Fil) : (datOf L).put (.string x.nm) (.lit (.int .i64 x.p)) = datOf (putN Fil.nm x L) := by
  show DataW.map (DataW.insert (entryOf x) ((L.map entryOf).filter fun p => !p.1.sameKey (.string x.nm))) = _
  rw [dat_filter, dat_ins]
  rfl
theorem dat_del (k : List UInt8) (L : List Fil) : (datOf L).del (.string k) = datOf (delN Fil.nm k L) := by
  show DataW.map ((L.map entryOf).filter fun p => !p.1.sameKey (.string k)) = _
  rw [dat_filter]
  rfl
theorem dat_keys (L : List Fil) : strKeys (datOf L) = L.map Fil.nm := by
  show (L.map entryOf).map (fun p => strOf p.1) = _
  rw [List.map_map]
  rfl
theorem dat_size (L : List Fil) : Maps.size (datOf L) = L.length := by
  show (L.map entryOf).length = _
  rw [List.length_map]
theorem dat_has (k : List UInt8) (L : List Fil) : Maps.has (datOf L) (.string k) = L.any fun x => x.nm == k := by
  show (L.map entryOf).any (fun p => p.1.sameKey (.string k)) = _
  rw [List.any_map]
  rfl

theorem ownsMap_tight {H : Type} {w : World} {P : Program} {k : TypeId} {R : Value → Option (DataW H × List MemPlace)} {b n : Nat} {D : DataW H} (h : w.ownsMap P k R b n D) : w.ownsMap P k R b (Maps.size D) D := by
  obtain ⟨es, clock, hb, F, _, rfl⟩ := h
  exact ⟨es, clock, hb, F, by simp [Maps.size, length_sorted], rfl⟩

theorem keyed_str : Keyed Try.prog 9 := string_keyed Try.underlying9
theorem zero_file (w : World) : (zeroValue 66).run Try.prog w = .ok (.pointer none) w := by kernel_rfl

abbrev DMap (w : World) (m : Nat) (L : List Fil) : Prop := w.ownsMap Try.prog 9 ptrElem m L.length (datOf L)
theorem DMap.keep {Φ : Nat → Prop} {w w' : World} {m : Nat} {L : List Fil} (h : DMap w m L) (hc : Chg Φ w w') (hn : ¬ Φ m) : DMap w' m L := by
  obtain ⟨es, clock, hb, r⟩ := h
  exact ⟨es, clock, hc.heap hb hn, r⟩
/-- What a name leads to. -/
def ptrTo (L : List Fil) (k : List UInt8) : Value := match L.find? (fun x => x.nm == k) with | some x => .pointer (some ⟨x.p, 0, none⟩) | none => .pointer none
theorem DMap.look {w : World} {m : Nat} {L : List Fil} (h : DMap w m L) (s : ByteArray) (hs : s.size ≤ maxLen) :
    (Instr.lookup 55 (.map (some m)) (.string s) false).run Try.prog w = .ok (ptrTo L s.data.toList) w := by
  obtain ⟨v, ps, hrun, hv⟩ := World.ownsMap.lookup h keyed_str Try.underlying55 (zero_file w) (zd := .nil) (zp := []) rfl (keyOf_string_mk Try.underlying9 hs)
  rw [hrun]
  rw [dat_atKey] at hv
  unfold ptrTo
  cases hf : L.find? (fun x => x.nm == s.data.toList) with
  | none =>
    rw [hf] at hv
    rw [ptrElem_nil_inv hv]
  | some x =>
    rw [hf] at hv
    rw [ptrElem_at_inv hv]
theorem ptrTo_none {L : List Fil} {k : List UInt8} (h : ∀ x ∈ L, x.nm ≠ k) : ptrTo L k = .pointer none := by
  unfold ptrTo
  rw [List.find?_eq_none.2 fun x hx => by simpa using h x hx]
theorem ptrTo_some {L : List Fil} {x : Fil} (h : Rising Fil.nm L) (hx : x ∈ L) : ptrTo L x.nm = .pointer (some ⟨x.p, 0, none⟩) := by
  unfold ptrTo
  cases hf : L.find? (fun y => y.nm == x.nm) with
  | none =>
    have := List.find?_eq_none.1 hf x hx
    simp at this
  | some y =>
    have h1 := List.find?_some hf
    have h2 := List.mem_of_find?_eq_some hf
    rw [h.one h2 hx (by simpa using h1)]

/-! ### a disk in memory -/
structure FileAt (w : World) (x : Fil) : Prop where
  blk : w.heap[x.p]? = some (.cells #[x.v, .int .i64 x.f.s] 69 (0, 0))
  own : w.ownsRow 0 5 1 x.v x.f.b.length (x.f.b.map (Value.int .u8))
  syn : x.f.s ≤ x.f.b.length
  byt : ∀ y ∈ x.f.b, 0 ≤ y ∧ y < 256
  len : x.f.nm.length ≤ 32
theorem FileAt.keep {Φ : Nat → Prop} {w w' : World} {x : Fil} (h : FileAt w x) (hc : Chg Φ w w') (hp : ¬ Φ x.p) (hv : ∀ g, x.v.ownBlock = some g → ¬ Φ g) : FileAt w' x :=
  ⟨hc.heap h.blk hp, hc.own h.own hv, h.syn, h.byt, h.len⟩
theorem FileAt.row {w : World} {x : Fil} (h : FileAt w x) {g : Nat} (hg : x.v.ownBlock = some g) : ∃ cur, w.heap[g]? = some (.cells cur 5 (0, 0)) := by
  rcases h.own.2 with ⟨e, _⟩ | ⟨g', cap, cur, e, _, hh, _⟩
  · rw [e] at hg; cases hg
  · rw [e] at hg
    obtain rfl : g' = g := by simpa [Value.ownBlock] using hg
    exact ⟨cur, hh⟩
def Apart (x y : Fil) : Prop := x.p ≠ y.p ∧ ∀ g, x.v.ownBlock = some g → y.v.ownBlock ≠ some g
structure DiskL (w : World) (d m : Nat) (room : Int) (L : List Fil) (Φ : Nat → Prop) : Prop where
  blk : w.heap[d]? = some (.cells #[.int .i64 room, .int .i64 (usedN (L.map Fil.f)), .map (some m)] 57 (0, 0))
  map : DMap w m L
  file : ∀ x ∈ L, FileAt w x
  srt : Rising Fil.nm L
  apart : L.Pairwise Apart
  rm : 0 ≤ room ∧ room ≤ 1048576
  used : (usedN (L.map Fil.f) : Int) ≤ room
  inn : Φ d ∧ Φ m ∧ ∀ x ∈ L, Φ x.p ∧ ∀ g, x.v.ownBlock = some g → Φ g
/-- Memory holds a disk at block d: its room, its files; Φ speaks of all its blocks. -/
def DiskAt (w : World) (d : Nat) (room : Int) (S : List RF) (Φ : Nat → Prop) : Prop := ∃ m L, L.map Fil.f = S ∧ DiskL w d m room L Φ

section
variable {w w' : World} {d m : Nat} {room : Int} {L : List Fil} {Φ Ψ : Nat → Prop}
theorem DiskL.mono (h : DiskL w d m room L Φ) (hs : ∀ k, k < w.heap.size → Φ k → Ψ k) : DiskL w d m room L Ψ :=
  ⟨h.blk, h.map, h.file, h.srt, h.apart, h.rm, h.used, hs _ (Array.getElem?_eq_some_iff.1 h.blk).1 h.inn.1, hs _ h.map.lt h.inn.2.1, fun x hx =>
    ⟨hs _ (Array.getElem?_eq_some_iff.1 (h.file x hx).blk).1 (h.inn.2.2 x hx).1, fun g hg => hs _ ((h.file x hx).own.lt g hg).2 ((h.inn.2.2 x hx).2 g hg)⟩⟩
theorem DiskL.keep (h : DiskL w d m room L Φ) (hc : Chg Ψ w w') (hs : ∀ k, Φ k → ¬ Ψ k) : DiskL w' d m room L Φ :=
  ⟨hc.heap h.blk (hs _ h.inn.1), h.map.keep hc (hs _ h.inn.2.1), fun x hx => (h.file x hx).keep hc (hs _ (h.inn.2.2 x hx).1) fun g hg => hs _ ((h.inn.2.2 x hx).2 g hg), h.srt, h.apart, h.rm, h.used, h.inn⟩
theorem DiskL.d_p (h : DiskL w d m room L Φ) {x : Fil} (hx : x ∈ L) : x.p ≠ d := fun e => by
  have h1 := (h.file x hx).blk
  rw [e, h.blk] at h1
  simp at h1
theorem DiskL.m_d (h : DiskL w d m room L Φ) : m ≠ d := fun e => by
  obtain ⟨es, clock, hb, _⟩ := h.map
  rw [e, h.blk] at hb
  cases hb
theorem DiskL.m_p (h : DiskL w d m room L Φ) {x : Fil} (hx : x ∈ L) : x.p ≠ m := fun e => by
  obtain ⟨es, clock, hb, _⟩ := h.map
  rw [← e, (h.file x hx).blk] at hb
  cases hb
theorem DiskL.v_d (h : DiskL w d m room L Φ) {x : Fil} (hx : x ∈ L) : x.v.ownBlock ≠ some d := fun e => by
  obtain ⟨cur, hg⟩ := (h.file x hx).row e
  rw [h.blk] at hg
  simp at hg
theorem DiskL.v_m (h : DiskL w d m room L Φ) {x : Fil} (hx : x ∈ L) : x.v.ownBlock ≠ some m := fun e => by
  obtain ⟨cur, hg⟩ := (h.file x hx).row e
  obtain ⟨es, clock, hb, _⟩ := h.map
  rw [hb] at hg
  cases hg
theorem DiskL.v_p (h : DiskL w d m room L Φ) {x y : Fil} (hx : x ∈ L) (hy : y ∈ L) : x.v.ownBlock ≠ some y.p := fun e => by
  obtain ⟨cur, hg⟩ := (h.file x hx).row e
  rw [(h.file y hy).blk] at hg
  simp at hg
theorem Apart.symm {x y : Fil} (h : Apart x y) : Apart y x := ⟨h.1.symm, fun g hg e => h.2 g e hg⟩
theorem DiskL.two (h : DiskL w d m room L Φ) {x y : Fil} (hx : x ∈ L) (hy : y ∈ L) (hne : x.nm ≠ y.nm) : Apart x y := by
  obtain ⟨i, hi⟩ := List.getElem?_of_mem hx
  obtain ⟨j, hj⟩ := List.getElem?_of_mem hy
  obtain ⟨hi1, rfl⟩ := List.getElem?_eq_some_iff.1 hi
  obtain ⟨hj1, rfl⟩ := List.getElem?_eq_some_iff.1 hj
  rcases Nat.lt_trichotomy i j with h1 | h1 | h1
  · exact List.pairwise_iff_getElem.1 h.apart i j hi1 hj1 h1
  · subst h1; exact absurd rfl hne
  · exact (List.pairwise_iff_getElem.1 h.apart j i hj1 hi1 h1).symm
end
end Go.Proofs.Ytpolkhippblcmaa
