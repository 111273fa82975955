/- What is proved here: what a round of LaneDoes makes of the lanes and of the document's row; what its end asks. -/
import Derived.Test.YticmdeepfeiobaaPair
import Derived.Test.YticmdeepfeiobaaAll
import Derived.Test.YticmdeepfeiobaaOf
import Derived.Test.YticmdeepfeiobaaSame
import Derived.Test.YticmdeepfeiobaaRefHeads
import Derived.Test.YticmdeepfeiobaaCopy
namespace Go.Proofs.Yticmdeepfeiobaa
open Go Go.RowKit Go.Maps Go.WideMaps

section
variable {w0 w w' V : World} {l N n c : Nat} {A : Option Addr} {L R : List Th}
/-- .. where the document's row has turned ahead of it. -/
theorem LT.step2 {L' R3 : List Th} {N' n3 c3 : Nat} {A3 : Option Addr} {V2 : World} (h : LT w0 w l L N A n c R) (hb : Below w.heap.size w V) (hb2 : Below V.heap.size V V2) (hr : TRow V2 w0.heap.size A3 n3 c3 R3) (ho : ∀ g, (Value.slice A3 n3 c3).ownBlock = some g → (Value.slice A n c).ownBlock = some g ∨ V.heap.size ≤ g) :
    ∃ Φ, LaneAt V2 l L N Φ ∧ ∀ w' Ψ, LaneAt w' l L' N' Ψ → (∀ k, Ψ k → Φ k ∨ V2.heap.size ≤ k) → Chg Φ V2 w' → (∀ p : Addr, w.heap.size ≤ p.block → p.block < V2.heap.size → w'.cell? p = V2.cell? p) ∧ LT w0 w' l L' N' A3 n3 c3 R3 := by
  obtain ⟨Φ, h1, h2, h3, h4, h5⟩ := h
  have hs := hb.size
  have hs2 := hb2.size
  have hbb : Below w.heap.size w V2 := hb.trans (hb2.mono hs)
  refine ⟨Φ, h1.below hbb, fun w' Ψ ha hΨ hc => ⟨fun p hp hp2 => hc.cell hp2 fun e => by have := (h2 _ e).2; omega, ?_⟩⟩
  have hsz := hc.size
  have hng : ∀ g, (Value.slice A3 n3 c3).ownBlock = some g → ¬ Φ g := fun g hg hp => by
    rcases ho g hg with h9 | h9
    · exact h4 g h9 hp
    · have := (h2 g hp).2; omega
  refine ⟨fun k => Ψ k ∧ k < w'.heap.size, ha.mono fun k hk hp => ⟨hp, hk⟩, fun k hk => ⟨?_, hk.2⟩, hc.own hr hng, fun g hg hp => ?_, (h5.trans (hbb.mono h5.size)).trans (hc.below (by have := h5.size; omega) fun i hi => (h2 i hi).1)⟩
  · rcases hΨ k hk.1 with h9 | h9
    · exact (h2 k h9).1
    · have := h5.size; omega
  · rcases hΨ g hp.1 with h9 | h9
    · exact hng g hg h9
    · have h10 : V2.ownsRow w0.heap.size 36 2 (.slice A3 n3 c3) n3 (flatT R3) := hr
      have := (h10.lt g hg).2
      omega
abbrev boxT (p : OpM) : Obj := .cells #[.int .i64 p.kind, .int .i64 p.id, .string p.g] 28
/-- Add, the document's first. -/
theorem add_does {p : OpM} {bx : Nat} (h : LT w0 w l L N A n c L) (hV : V = w.alloc (boxT p)) (hbx : bx = w.heap.size) (hN : N < 900000) (hn : n < 900000) (hk : wfk p.id) (hs : p.g.size ≤ maxLen) :
    Calls Try.prog 10 #[.slice A n c, .string p.g, .int .i64 p.id] V fun e w2 => ∃ A3 n3 c3, e = .returned (.tuple #[.slice A3 n3 c3, .bool (at_ L p.id).isNone]) ∧ w2.cell? ⟨bx, 1, none⟩ = some (.int .i64 p.id) ∧ w2.cell? ⟨bx, 2, none⟩ = some (.string p.g) ∧ Hid (n3 = (addT L p.g p.id N).length) ∧
      Hid (Calls Try.prog 11 #[.pointer (some ⟨l, 0, none⟩), .string p.g, .int .i64 p.id] w2 fun e w3 => e = .returned (.bool (at_ L p.id).isNone) ∧ w3.cell? ⟨bx, 2, none⟩ = some (.string p.g) ∧ Hid (LT w0 w3 l (addT L p.g p.id N) (addN L p.id N) A3 n3 c3 (addT L p.g p.id N) ∧ bx < w3.heap.size)) := by
  have hb : Below w.heap.size w V := by rw [hV]; exact (Below.refl _ _).alloc (Nat.le_refl _) _
  have hbv : bx < V.heap.size := by rw [hV, hbx]; simp
  have v1 : V.cell? ⟨bx, 1, none⟩ = some (.int .i64 p.id) := by rw [hV, hbx]; simp
  have v2 : V.cell? ⟨bx, 2, none⟩ = some (.string p.g) := by rw [hV, hbx]; simp
  have hl := h.row.len
  refine (refAdd_any (N := N) (h.row.below hb) (Nat.le_trans h.low.size hb.size) hn p.g p.id).mono ?_
  rintro e w2 ⟨A3, n3, c3, rfl, hr, hb2, ho⟩
  obtain ⟨Φ, h1, h2⟩ := h.step2 (L' := addT L p.g p.id N) (N' := addN L p.id N) hb hb2 hr ho
  refine ⟨A3, n3, c3, rfl, (hb2.cell (p := ⟨bx, 1, none⟩) hbv).trans v1, (hb2.cell (p := ⟨bx, 2, none⟩) hbv).trans v2, Lib.hid hr.len.symm, Lib.hid ?_⟩
  have hc2 := (hb2.cell (p := ⟨bx, 2, none⟩) hbv).trans v2
  have hb2s := hb2.size
  cases hx : at_ L p.id with
  | some x =>
    refine (Add_old h1 p.g hk hx).mono ?_
    rintro e w' ⟨rfl, hb3⟩
    have e1 : addT L p.g p.id N = L := by unfold addT; rw [hx]; rfl
    have e2 : addN L p.id N = N := by unfold addN; rw [hx]; rfl
    obtain ⟨h3, h4⟩ := h2 w' Φ (by rw [e1, e2]; exact h1.below hb3) (fun k hk => .inl hk) (Chg.of_below hb3)
    exact ⟨rfl, (h3 ⟨bx, 2, none⟩ (by rw [hbx]; exact Nat.le_refl _) (by show bx < _; omega)).trans hc2, Lib.hid ⟨h4, by have := hb3.size; omega⟩⟩
  | none =>
    refine (Add_new h1 hN hs hk hx (by omega)).mono ?_
    rintro e w' ⟨rfl, h5, h6⟩
    have e1 : addT L p.g p.id N = L ++ [⟨p.g, p.id, N + 1⟩] := by unfold addT; rw [hx]; rfl
    have e2 : addN L p.id N = N + 1 := by unfold addN; rw [hx]; rfl
    obtain ⟨h3, h4⟩ := h2 w' (more Φ w2) (by rw [e1, e2]; exact h5) (fun k hk => hk) h6
    exact ⟨rfl, (h3 ⟨bx, 2, none⟩ (by rw [hbx]; exact Nat.le_refl _) (by show bx < _; omega)).trans hc2, Lib.hid ⟨h4, by have := h6.size; omega⟩⟩
theorem drop_does {p : OpM} {bx : Nat} (h : LT w0 w l L N A n c L) (hV : V = w.alloc (boxT p)) (hbx : bx = w.heap.size) (hN : N < 900000) (hn : n < 900000) (hk : wfk p.id) :
    Calls Try.prog 12 #[.slice A n c, .int .i64 p.id] V fun e w2 => ∃ A3 n3 c3, e = .returned (.tuple #[.slice A3 n3 c3, .bool (at_ L p.id).isSome]) ∧ w2.cell? ⟨bx, 1, none⟩ = some (.int .i64 p.id) ∧ Hid (n3 = (dropT L p.id).length) ∧
      Hid (Calls Try.prog 13 #[.pointer (some ⟨l, 0, none⟩), .int .i64 p.id] w2 fun e w3 => e = .returned (.bool (at_ L p.id).isSome) ∧ w3.cell? ⟨bx, 2, none⟩ = some (.string p.g) ∧ Hid (LT w0 w3 l (dropT L p.id) N A3 n3 c3 (dropT L p.id) ∧ bx < w3.heap.size)) := by
  have hb : Below w.heap.size w V := by rw [hV]; exact (Below.refl _ _).alloc (Nat.le_refl _) _
  have hbv : bx < V.heap.size := by rw [hV, hbx]; simp
  have v1 : V.cell? ⟨bx, 1, none⟩ = some (.int .i64 p.id) := by rw [hV, hbx]; simp
  have v2 : V.cell? ⟨bx, 2, none⟩ = some (.string p.g) := by rw [hV, hbx]; simp
  refine (refDrop_any (h.row.below hb) (Nat.le_trans h.low.size hb.size) hn p.id).mono ?_
  rintro e w2 ⟨A3, n3, c3, rfl, hr, hb2, ho⟩
  obtain ⟨Φ, h1, h2⟩ := h.step2 (L' := dropT L p.id) (N' := N) hb hb2 hr ho
  refine ⟨A3, n3, c3, rfl, (hb2.cell (p := ⟨bx, 1, none⟩) hbv).trans v1, Lib.hid hr.len.symm, Lib.hid ?_⟩
  have hc2 := (hb2.cell (p := ⟨bx, 2, none⟩) hbv).trans v2
  have hb2s := hb2.size
  refine (Drop_any h1 hN hk).mono ?_
  rintro e w' ⟨rfl, h5, h6⟩
  obtain ⟨h3, h4⟩ := h2 w' Φ h5 (fun k hk => .inl hk) h6
  exact ⟨rfl, (h3 ⟨bx, 2, none⟩ (by rw [hbx]; exact Nat.le_refl _) (by show bx < _; omega)).trans hc2, Lib.hid ⟨h4, by have := h6.size; omega⟩⟩
/-- A copy, which goes on; and what is done to the old lanes. -/
theorem copy_does {p : OpM} {bx : Nat} (h : LT w0 w l L N A n c L) (hV : V = w.alloc (boxT p)) (hbx : bx = w.heap.size) (hN : N < 800000) (hn : n < 900000) (hk : wfk p.id) (hs : p.g.size ≤ maxLen) :
    Calls Try.prog 14 #[.pointer (some ⟨l, 0, none⟩)] V fun e w2 => ∃ b : Nat, e = .returned (.pointer (some ⟨b, 0, none⟩)) ∧ w2.cell? ⟨bx, 1, none⟩ = some (.int .i64 p.id) ∧ w2.cell? ⟨bx, 2, none⟩ = some (.string p.g) ∧
      Hid (Calls Try.prog 11 #[.pointer (some ⟨l, 0, none⟩), .string p.g, .int .i64 1000] w2 fun e w3 => (∃ q, e = .returned (.bool q)) ∧ w3.cell? ⟨bx, 1, none⟩ = some (.int .i64 p.id) ∧
        Hid (Calls Try.prog 13 #[.pointer (some ⟨l, 0, none⟩), .int .i64 p.id] w3 fun e w4 => (∃ q, e = .returned (.bool q)) ∧ w4.cell? ⟨bx, 2, none⟩ = some (.string p.g) ∧ Hid (LT w0 w4 b L N A n c L ∧ bx < w4.heap.size))) := by
  have hb : Below w.heap.size w V := by rw [hV]; exact (Below.refl _ _).alloc (Nat.le_refl _) _
  have hbv : bx < V.heap.size := by rw [hV, hbx]; simp
  have v1 : V.cell? ⟨bx, 1, none⟩ = some (.int .i64 p.id) := by rw [hV, hbx]; simp
  have v2 : V.cell? ⟨bx, 2, none⟩ = some (.string p.g) := by rw [hV, hbx]; simp
  have hl := h.row.len
  obtain ⟨Φ, h1, h2, h3, h4, h5⟩ := h
  have hs1 := hb.size
  have h10 : w.ownsRow w0.heap.size 36 2 (.slice A n c) n (flatT L) := h3
  refine (Copy_any (h1.below hb) (by omega) (by omega)).mono ?_
  rintro e w2 ⟨b, rfl, hbb, hcp, hb2⟩
  have hs2 := hb2.size
  have hW2 : Below w.heap.size w w2 := hb.trans (hb2.mono hs1)
  have hcp2 : LaneAt w2 b L N (fun k => V.heap.size ≤ k ∧ k < w2.heap.size) := hcp.mono fun k hk hp => ⟨hp, hk⟩
  have c1 := (hb2.cell (p := ⟨bx, 1, none⟩) hbv).trans v1
  have c2 := (hb2.cell (p := ⟨bx, 2, none⟩) hbv).trans v2
  refine ⟨b, rfl, c1, c2, Lib.hid ?_⟩
  have HA : ∀ (q : Bool) (w3 : World) (L' : List Th) (N' : Nat), N' ≤ N + 1 → LaneAt w3 l L' N' (more Φ w2) → Chg Φ w2 w3 → (∃ q', Ending.returned (.bool q) = .returned (.bool q')) ∧ w3.cell? ⟨bx, 1, none⟩ = some (.int .i64 p.id) ∧
        Hid (Calls Try.prog 13 #[.pointer (some ⟨l, 0, none⟩), .int .i64 p.id] w3 fun e w4 => (∃ q, e = .returned (.bool q)) ∧ w4.cell? ⟨bx, 2, none⟩ = some (.string p.g) ∧ Hid (LT w0 w4 b L N A n c L ∧ bx < w4.heap.size)) := fun q w3 L' N' hN' ha hc => by
    have hs3 := hc.size
    have hnb : ¬ Φ bx := fun hp => by have := (h2 _ hp).2; omega
    have d1 : w3.cell? ⟨bx, 1, none⟩ = some (.int .i64 p.id) := (hc.cell (p := ⟨bx, 1, none⟩) (by show bx < _; omega) hnb).trans c1
    have d2 : w3.cell? ⟨bx, 2, none⟩ = some (.string p.g) := (hc.cell (p := ⟨bx, 2, none⟩) (by show bx < _; omega) hnb).trans c2
    refine ⟨⟨q, rfl⟩, d1, Lib.hid ?_⟩
    refine (Drop_any ha (by omega) hk).mono ?_
    rintro e w4 ⟨rfl, h6, h7⟩
    have hs4 := h7.size
    have hnb2 : ¬ more Φ w2 bx := fun hp => by
      rcases hp with hp | hp
      · exact hnb hp
      · omega
    refine ⟨⟨_, rfl⟩, (h7.cell (p := ⟨bx, 2, none⟩) (by show bx < _; omega) hnb2).trans d2, Lib.hid ⟨⟨fun k => V.heap.size ≤ k ∧ k < w2.heap.size, ?_, fun k hk => ⟨by have := h5.size; omega, by omega⟩, ?_, fun g hg hp => ?_, ?_⟩, by omega⟩⟩
    · refine (hcp2.keep hc fun k hk hp => ?_).keep h7 fun k hk hp => ?_
      · have := (h2 k hp).2
        omega
      · rcases hp with hp | hp
        · have := (h2 k hp).2
          omega
        · omega
    · refine h7.own (hc.own (h3.below hW2) h4) fun g hg hp => ?_
      rcases hp with hp | hp
      · exact h4 g hg hp
      · have := (h10.lt g hg).2
        omega
    · have := (h10.lt g hg).2
      omega
    · have hx := h5.size
      exact ((h5.trans (hW2.mono hx)).trans (hc.below (by omega) fun i hi => (h2 i hi).1)).trans (h7.below (by omega) fun i hi => by
        rcases hi with hi | hi
        · exact (h2 i hi).1
        · omega)
  have hz : wfk 1000 := by unfold wfk; decide
  have hlw : LaneAt w2 l L N Φ := h1.below hW2
  cases hx : at_ L 1000 with
  | some x =>
    refine (Add_old hlw p.g hz hx).mono ?_
    rintro e w3 ⟨rfl, hb3⟩
    exact HA _ w3 L N (by omega) ((hlw.below hb3).mono fun k _ hp => .inl hp) (Chg.of_below hb3)
  | none =>
    refine (Add_new hlw (by omega) hs hz hx (by omega)).mono ?_
    rintro e w3 ⟨rfl, h6, h7⟩
    exact HA _ w3 _ _ (Nat.le_refl _) h6 h7
end

/-- A row of numbers in memory. -/
def RowI (w : World) (A : Option Addr) (n c : Nat) (xs : List Int) : Prop := w.ownsRow 0 3 1 (.slice A n c) n (xs.map (Value.int .i64))
theorem RowI.below {w w' : World} {A : Option Addr} {n c : Nat} {xs : List Int} (h : RowI w A n c xs) (hb : Below w.heap.size w w') : RowI w' A n c xs := own_below h hb
/-- A call that gives a row of numbers, in whatever world that lies behind wx. -/
def Gives (wx : World) (f : FuncId) (args : Array Value) (n : Nat) (xs : List Int) : Prop :=
  ∀ wz, Below wx.heap.size wx wz → Calls Try.prog f args wz fun e w' => ∃ A c, e = .returned (.slice A n c) ∧ Hid (Below wx.heap.size wx w' ∧ Below wz.heap.size wz w') ∧ Hid (RowI w' A n c xs)
theorem gives_of {wx : World} {f : FuncId} {args : Array Value} {n : Nat} {xs : List Int} (hn : xs.length = n) (h : ∀ wz, Below wx.heap.size wx wz → Calls Try.prog f args wz (RowSaid xs wz)) : Gives wx f args n xs := by
  intro wz hb
  subst hn
  refine (h wz hb).mono ?_
  rintro e w' ⟨A, c, rfl, ho, hb2⟩
  exact ⟨A, c, rfl, Lib.hid ⟨hb.trans (hb2.mono hb.size), hb2⟩, Lib.hid (own_base ho (Nat.zero_le _))⟩
/-- What the end of a round asks of lanes, of the document's row, and of the row of all numbers. -/
structure Tail (wx : World) (l nn hn on : Nat) (L : List Th) (Ax A4 : Option Addr) (cx c4 : Nat) (g : ByteArray) : Prop where
  len : ∀ wz, Below wx.heap.size wx wz → Calls Try.prog 15 #[.pointer (some ⟨l, 0, none⟩)] wz fun e w' => e = .returned (.int .i64 nn) ∧ wz = w'
  all : Gives wx 17 #[.pointer (some ⟨l, 0, none⟩)] nn (ids L)
  row : ∀ wz, Below wx.heap.size wx wz → RowI wz A4 nn c4 (ids L)
  heads : Gives wx 18 #[.pointer (some ⟨l, 0, none⟩)] hn ((headsT L).map Th.id)
  rheads : Gives wx 19 #[.slice Ax nn cx] hn ((headsT L).map Th.id)
  of : Gives wx 20 #[.pointer (some ⟨l, 0, none⟩), .string g] on (ofG L g)
  rof : Gives wx 21 #[.slice Ax nn cx, .string g] on (ofG L g)
theorem tail_of {w0 wx : World} {l N nn c4 cx : Nat} {L : List Th} {Ax A4 : Option Addr} {g : ByteArray} (h : LT w0 wx l L N Ax nn cx L) (hn : nn = L.length) (hL : nn < 900000) (hr : RowI wx A4 nn c4 (ids L)) (hg : g.size ≤ maxLen) : ∃ hn on, hn < 1000000 ∧ on < 1000000 ∧ Tail wx l nn hn on L Ax A4 cx c4 g := by
  subst hn
  have hnd : (ids L).Nodup := by
    obtain ⟨_, ⟨_, _, _, _, _, h'⟩, _⟩ := h
    exact h'.nodup
  have hhl : (headsT L).length ≤ L.length := List.length_filter_le _ _
  have hol : (ofG L g).length ≤ L.length := ofG_length L g
  refine ⟨((headsT L).map Th.id).length, (ofG L g).length, by rw [List.length_map]; omega, by omega, fun wz hb => (h.later hb).ln.len, gives_of (by simp [ids]) fun wz hb => ?_, fun wz hb => hr.below hb, gives_of rfl fun wz hb => ?_, gives_of rfl fun wz hb => refHeads_any (h.later hb).row hnd hL, gives_of rfl fun wz hb => ?_, gives_of rfl fun wz hb => refOf_any (h.later hb).row hL g⟩
  · exact All_any (h.later hb).ln.1 (by omega)
  · refine Heads_any (h.later hb).ln.1 hL ?_
    by_cases he : headsT L = []
    · exact .inl he
    · exact .inr (sortN (List.length_pos_iff.2 he) (by omega))
  · exact Of_any (h.later hb).ln.1 hg hL
theorem same_rows {wz : World} {A B : Option Addr} {n ca cb : Nat} {xs : List Int} (h1 : RowI wz A n ca xs) (h2 : RowI wz B n cb xs) (hn : n < 1000000) :
    Calls Try.prog 16 #[.slice A n ca, .slice B n cb] wz fun e w' => e = .returned (.bool true) ∧ Hid (Below wz.heap.size wz w') :=
  (same_true ⟨h1, h2⟩ hn).mono fun _ _ ⟨he, q, hq⟩ => ⟨he, Lib.hid (by rw [hq]; exact ⟨rfl, rfl, rfl, Nat.le_refl _, fun _ _ => rfl⟩)⟩
end Go.Proofs.Yticmdeepfeiobaa
