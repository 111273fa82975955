/- What is proved here: ledgers that are new since a world, and what each call makes of them; that the law's 'awake' says yes. -/
import Derived.Test.YtcdjahmnobjpkaaSweep
import Derived.Test.YtcdjahmnobjpkaaLedS
import Derived.Deep.RegionHeld3
import Derived.Deep.DeepCutAuto
namespace Go.Proofs.Ytcdjahmnobjpkaa
open Go Go.RowKit Go.Maps Go.WideMaps

/-- A ledger that is new since w0. -/
def LG (w0 w : World) (l room : Nat) (L : List En) : Prop := LedAt w l room L (fun k => w0.heap.size ≤ k) ∧ Below w0.heap.size w0 w
section
variable {w0 w w' : World} {l room : Nat} {L : List En}
theorem LG.later (h : LG w0 w l room L) (hb : Below w.heap.size w w') : LG w0 w' l room L := ⟨h.1.below hb, h.2.trans (hb.mono h.2.size)⟩
theorem LG.turned {L2 : List En} (h : LG w0 w l room L) (h1 : LedAt w' l room L2 (fun k => w0.heap.size ≤ k)) (h2 : Chg (fun k => w0.heap.size ≤ k) w w') : LG w0 w' l room L2 := ⟨h1, h.2.trans (h2.below h.2.size fun _ hi => hi)⟩
theorem LG.new (hb0 : Below w0.heap.size w0 w) {rm : Int} (hr : -9223372036854775808 ≤ rm ∧ rm ≤ 9223372036854775807) :
    Calls Try.prog 9 #[.int .i64 rm] w fun e w' => ∃ b : Nat, e = .returned (.pointer (some ⟨b, 0, none⟩)) ∧ Hid (LG w0 w' b rm.toNat [] ∧ w.heap.size ≤ b) := by
  refine (New_any w hr).mono ?_
  rintro e w' ⟨rfl, hb, ht⟩
  exact ⟨_, rfl, Lib.hid ⟨⟨ht.mono fun k _ hk => by have := hb0.size; omega, hb0.trans (hb.mono hb0.size)⟩, by omega⟩⟩
theorem LG.put (h : LG w0 w l room L) (hL : L.length < 900000) {k : ByteArray} (hk : k.size ≤ maxLen) (n : Int) (t : Int) :
    Calls Try.prog 11 #[.pointer (some ⟨l, 0, none⟩), .string k, Value.int .i64 n, .int .i64 t] w fun e w' => e = .returned (.int .i64 (putA room L k)) ∧ Hid (LG w0 w' l room (putR room L ⟨k, Value.int .i64 n, t⟩)) :=
  (Put_any h.1 hL (x := ⟨k, Value.int .i64 n, t⟩) hk ⟨n, rfl⟩).mono fun _ _ ⟨he, hx⟩ => ⟨he, Lib.hid (h.turned hx.out.1 hx.out.2)⟩
theorem LG.drop (h : LG w0 w l room L) {k : ByteArray} (hk : k.size ≤ maxLen) :
    Calls Try.prog 13 #[.pointer (some ⟨l, 0, none⟩), .string k] w fun e w' => e = .returned (.bool (findE L k).isSome) ∧ Hid (LG w0 w' l room (dropE L k)) :=
  (Drop_any h.1 hk).mono fun _ _ ⟨he, hx⟩ => ⟨he, Lib.hid (h.turned hx.out.1 hx.out.2)⟩
theorem LG.get (h : LG w0 w l room L) {k : ByteArray} (hk : k.size ≤ maxLen) :
    Calls Try.prog 26 #[.pointer (some ⟨l, 0, none⟩), .string k] w fun e w' => e = getE (findE L k) ∧ Hid (LG w0 w' l room L ∧ Below w.heap.size w w') :=
  (Get_any h.1 hk).mono fun _ _ ⟨he, hb⟩ => ⟨he, Lib.hid ⟨h.later hb, hb⟩⟩
theorem LG.until (h : LG w0 w l room L) {k : ByteArray} (hk : k.size ≤ maxLen) :
    Calls Try.prog 25 #[.pointer (some ⟨l, 0, none⟩), .string k] w fun e w' => e = untilE (findE L k) ∧ Hid (LG w0 w' l room L ∧ Below w.heap.size w w') :=
  (Until_any h.1 hk).mono fun _ _ ⟨he, hb⟩ => ⟨he, Lib.hid ⟨h.later hb, hb⟩⟩
/-- A call that changes the ledger leaves alone what has been made since wr. -/
theorem LG.turnedK {V : World} {L2 : List En} (h : LG w0 w l room L) (hb : Below w.heap.size w V) (h1 : LedAt w' l room L2 (fun k => w0.heap.size ≤ k ∧ k < w.heap.size)) (h2 : Chg (fun k => w0.heap.size ≤ k ∧ k < w.heap.size) V w') :
    LG w0 w' l room L2 ∧ ∀ p : Addr, w.heap.size ≤ p.block → p.block < V.heap.size → w'.cell? p = V.cell? p :=
  ⟨⟨h1.mono fun _ _ hi => hi.1, (h.2.trans (hb.mono h.2.size)).trans (h2.below (Nat.le_trans h.2.size hb.size) fun _ hi => hi.1)⟩, fun p hp hq => h2.cell hq fun hi => by have := hi.2; omega⟩
theorem LG.atK {V : World} (h : LG w0 w l room L) (hb : Below w.heap.size w V) : LedAt V l room L (fun k => w0.heap.size ≤ k ∧ k < w.heap.size) := (h.1.mono fun _ hk hi => ⟨hi, hk⟩).below hb
theorem LG.putK {V : World} (h : LG w0 w l room L) (hb : Below w.heap.size w V) (hL : L.length < 900000) {k : ByteArray} (hk : k.size ≤ maxLen) (n : Int) (t : Int) :
    Calls Try.prog 11 #[.pointer (some ⟨l, 0, none⟩), .string k, Value.int .i64 n, .int .i64 t] V fun e w' => e = .returned (.int .i64 (putA room L k)) ∧ Hid (LG w0 w' l room (putR room L ⟨k, Value.int .i64 n, t⟩) ∧ ∀ p : Addr, w.heap.size ≤ p.block → p.block < V.heap.size → w'.cell? p = V.cell? p) :=
  (Put_any (h.atK hb) hL (x := ⟨k, Value.int .i64 n, t⟩) hk ⟨n, rfl⟩).mono fun _ _ ⟨he, hx⟩ => ⟨he, Lib.hid (h.turnedK hb hx.out.1 hx.out.2)⟩
theorem LG.dropK {V : World} (h : LG w0 w l room L) (hb : Below w.heap.size w V) {k : ByteArray} (hk : k.size ≤ maxLen) :
    Calls Try.prog 13 #[.pointer (some ⟨l, 0, none⟩), .string k] V fun e w' => e = .returned (.bool (findE L k).isSome) ∧ Hid (LG w0 w' l room (dropE L k) ∧ ∀ p : Addr, w.heap.size ≤ p.block → p.block < V.heap.size → w'.cell? p = V.cell? p) :=
  (Drop_any (h.atK hb) hk).mono fun _ _ ⟨he, hx⟩ => ⟨he, Lib.hid (h.turnedK hb hx.out.1 hx.out.2)⟩
end

/-- A ledger that is new since w0. -/
def LGS (w0 w : World) (l room : Nat) (L : List En) : Prop := LedAtS w l room L (fun k => w0.heap.size ≤ k) ∧ Below w0.heap.size w0 w
section
variable {w0 w w' : World} {l room : Nat} {L : List En}
theorem LGS.later (h : LGS w0 w l room L) (hb : Below w.heap.size w w') : LGS w0 w' l room L := ⟨h.1.below hb, h.2.trans (hb.mono h.2.size)⟩
theorem LGS.turned {L2 : List En} (h : LGS w0 w l room L) (h1 : LedAtS w' l room L2 (fun k => w0.heap.size ≤ k)) (h2 : Chg (fun k => w0.heap.size ≤ k) w w') : LGS w0 w' l room L2 := ⟨h1, h.2.trans (h2.below h.2.size fun _ hi => hi)⟩
theorem LGS.new (hb0 : Below w0.heap.size w0 w) {rm : Int} (hr : -9223372036854775808 ≤ rm ∧ rm ≤ 9223372036854775807) :
    Calls Try.prog 20 #[.int .i64 rm] w fun e w' => ∃ b : Nat, e = .returned (.pointer (some ⟨b, 0, none⟩)) ∧ Hid (LGS w0 w' b rm.toNat [] ∧ w.heap.size ≤ b) := by
  refine (New_anyS w hr).mono ?_
  rintro e w' ⟨rfl, hb, ht⟩
  exact ⟨_, rfl, Lib.hid ⟨⟨ht.mono fun k _ hk => by have := hb0.size; omega, hb0.trans (hb.mono hb0.size)⟩, by omega⟩⟩
theorem LGS.put (h : LGS w0 w l room L) (hL : L.length < 900000) {k : ByteArray} (hk : k.size ≤ maxLen) (n : ByteArray) (t : Int) :
    Calls Try.prog 22 #[.pointer (some ⟨l, 0, none⟩), .string k, Value.string n, .int .i64 t] w fun e w' => e = .returned (.int .i64 (putA room L k)) ∧ Hid (LGS w0 w' l room (putR room L ⟨k, Value.string n, t⟩)) :=
  (Put_anyS h.1 hL (x := ⟨k, Value.string n, t⟩) hk ⟨n, rfl⟩).mono fun _ _ ⟨he, hx⟩ => ⟨he, Lib.hid (h.turned hx.out.1 hx.out.2)⟩
theorem LGS.drop (h : LGS w0 w l room L) {k : ByteArray} (hk : k.size ≤ maxLen) :
    Calls Try.prog 21 #[.pointer (some ⟨l, 0, none⟩), .string k] w fun e w' => e = .returned (.bool (findE L k).isSome) ∧ Hid (LGS w0 w' l room (dropE L k)) :=
  (Drop_anyS h.1 hk).mono fun _ _ ⟨he, hx⟩ => ⟨he, Lib.hid (h.turned hx.out.1 hx.out.2)⟩
theorem LGS.get (h : LGS w0 w l room L) {k : ByteArray} (hk : k.size ≤ maxLen) :
    Calls Try.prog 23 #[.pointer (some ⟨l, 0, none⟩), .string k] w fun e w' => e = getES (findE L k) ∧ Hid (LGS w0 w' l room L ∧ Below w.heap.size w w') :=
  (Get_anyS h.1 hk).mono fun _ _ ⟨he, hb⟩ => ⟨he, Lib.hid ⟨h.later hb, hb⟩⟩
theorem LGS.until (h : LGS w0 w l room L) {k : ByteArray} (hk : k.size ≤ maxLen) :
    Calls Try.prog 24 #[.pointer (some ⟨l, 0, none⟩), .string k] w fun e w' => e = untilES (findE L k) ∧ Hid (LGS w0 w' l room L ∧ Below w.heap.size w w') :=
  (Until_anyS h.1 hk).mono fun _ _ ⟨he, hb⟩ => ⟨he, Lib.hid ⟨h.later hb, hb⟩⟩
/-- A call that changes the ledger leaves alone what has been made since wr. -/
theorem LGS.turnedK {V : World} {L2 : List En} (h : LGS w0 w l room L) (hb : Below w.heap.size w V) (h1 : LedAtS w' l room L2 (fun k => w0.heap.size ≤ k ∧ k < w.heap.size)) (h2 : Chg (fun k => w0.heap.size ≤ k ∧ k < w.heap.size) V w') :
    LGS w0 w' l room L2 ∧ ∀ p : Addr, w.heap.size ≤ p.block → p.block < V.heap.size → w'.cell? p = V.cell? p :=
  ⟨⟨h1.mono fun _ _ hi => hi.1, (h.2.trans (hb.mono h.2.size)).trans (h2.below (Nat.le_trans h.2.size hb.size) fun _ hi => hi.1)⟩, fun p hp hq => h2.cell hq fun hi => by have := hi.2; omega⟩
theorem LGS.atK {V : World} (h : LGS w0 w l room L) (hb : Below w.heap.size w V) : LedAtS V l room L (fun k => w0.heap.size ≤ k ∧ k < w.heap.size) := (h.1.mono fun _ hk hi => ⟨hi, hk⟩).below hb
theorem LGS.putK {V : World} (h : LGS w0 w l room L) (hb : Below w.heap.size w V) (hL : L.length < 900000) {k : ByteArray} (hk : k.size ≤ maxLen) (n : ByteArray) (t : Int) :
    Calls Try.prog 22 #[.pointer (some ⟨l, 0, none⟩), .string k, Value.string n, .int .i64 t] V fun e w' => e = .returned (.int .i64 (putA room L k)) ∧ Hid (LGS w0 w' l room (putR room L ⟨k, Value.string n, t⟩) ∧ ∀ p : Addr, w.heap.size ≤ p.block → p.block < V.heap.size → w'.cell? p = V.cell? p) :=
  (Put_anyS (h.atK hb) hL (x := ⟨k, Value.string n, t⟩) hk ⟨n, rfl⟩).mono fun _ _ ⟨he, hx⟩ => ⟨he, Lib.hid (h.turnedK hb hx.out.1 hx.out.2)⟩
theorem LGS.dropK {V : World} (h : LGS w0 w l room L) (hb : Below w.heap.size w V) {k : ByteArray} (hk : k.size ≤ maxLen) :
    Calls Try.prog 21 #[.pointer (some ⟨l, 0, none⟩), .string k] V fun e w' => e = .returned (.bool (findE L k).isSome) ∧ Hid (LGS w0 w' l room (dropE L k) ∧ ∀ p : Addr, w.heap.size ≤ p.block → p.block < V.heap.size → w'.cell? p = V.cell? p) :=
  (Drop_anyS (h.atK hb) hk).mono fun _ _ ⟨he, hx⟩ => ⟨he, Lib.hid (h.turnedK hb hx.out.1 hx.out.2)⟩
end

theorem LG.len {w0 w : World} {l room : Nat} {L : List En} (h : LG w0 w l room L) : Calls Try.prog 28 #[.pointer (some ⟨l, 0, none⟩)] w fun e w' => e = .returned (.int .i64 L.length) ∧ w = w' := Len_any h.1
/-- What Sweep makes of a ledger that is new since w0. -/
def SwpG (w0 : World) (l room : Nat) (L : List En) (now : Int) (w : World) (e : Ending) (w' : World) : Prop :=
  ∃ A c ys, e = .returned (.slice A (List.length ys) c) ∧ Hid (ys.Perm (pastE L now) ∧ ys.Pairwise (fun a b => ¬ befE b a) ∧ w'.ownsRow w.heap.size 9 1 (.slice A ys.length c) ys.length (ys.map keyV) ∧ LG w0 w' l room (leftE L now))
theorem LG.sweep {w0 w : World} {l room : Nat} {L : List En} (h : LG w0 w l room L) (hL : L.length < 900000) {now : Int} (hS : pastE L now = [] ∨ SortOK (pastE L now).length) :
    Calls Try.prog 17 #[.pointer (some ⟨l, 0, none⟩), .int .i64 now] w (SwpG w0 l room L now w) := by
  refine (Sweep_any h.1 hL hS).mono ?_
  rintro e w' ⟨A, c, ys, rfl, h1, h2, h3, h4, h5⟩
  exact ⟨A, c, ys, rfl, Lib.hid ⟨h1, h2, h3, h.turned h4 h5⟩⟩

abbrev strA : ByteArray := ⟨#[97]⟩
abbrev strB : ByteArray := ⟨#[98]⟩
abbrev strC : ByteArray := ⟨#[99]⟩
def LA : List En := [⟨strA, .int .i64 1, 5⟩]
def LB : List En := [⟨strA, .int .i64 1, 5⟩, ⟨strB, .int .i64 2, 3⟩]
theorem aw1 : putR 2 [] ⟨strA, .int .i64 1, 5⟩ = LA := by kernel_rfl
theorem aw2 : putR 2 LA ⟨strB, .int .i64 2, 3⟩ = LB := by kernel_rfl
theorem aw3 : putR 2 LB ⟨strC, .int .i64 3, 9⟩ = LB := by kernel_rfl
theorem ax1 : putA 2 [] strA = 0 := by kernel_rfl
theorem ax2 : putA 2 LA strB = 0 := by kernel_rfl
theorem ax3 : putA 2 LB strC = 5 := by kernel_rfl
theorem aw4 : pastE LB 4 = [⟨strB, .int .i64 2, 3⟩] := by kernel_rfl
theorem aw5 : leftE LB 4 = LA := by kernel_rfl
theorem aw6 : getE (findE LA strA) = .returned (.tuple #[.int .i64 1, .bool true]) := by kernel_rfl

set_option maxHeartbeats 1600000 in
set_option maxRecDepth 100000 in
theorem awake_any (w : World) : Calls Try.prog 8 #[] w fun e w' => e = .returned (.bool true) ∧ Below w.heap.size w w' := by
  have HN := Lib.hid (LG.new (Below.refl w.heap.size w) (rm := 2) (by omega))
  have C1 : Hid (∀ w2 l, LG w w2 l 2 [] → Calls Try.prog 11 #[.pointer (some ⟨l, 0, none⟩), .string strA, .int .i64 1, .int .i64 5] w2 fun e w' => e = .returned (.int .i64 0) ∧ Hid (LG w w' l 2 LA)) := Lib.hid fun w2 l h => by
    have := h.put (by decide) (k := strA) (by unfold maxLen; decide) 1 5
    rwa [aw1, ax1] at this
  have C2 : Hid (∀ w2 l, LG w w2 l 2 LA → Calls Try.prog 11 #[.pointer (some ⟨l, 0, none⟩), .string strB, .int .i64 2, .int .i64 3] w2 fun e w' => e = .returned (.int .i64 0) ∧ Hid (LG w w' l 2 LB)) := Lib.hid fun w2 l h => by
    have := h.put (by decide) (k := strB) (by unfold maxLen; decide) 2 3
    rwa [aw2, ax2] at this
  have C3 : Hid (∀ w2 l, LG w w2 l 2 LB → Calls Try.prog 11 #[.pointer (some ⟨l, 0, none⟩), .string strC, .int .i64 3, .int .i64 9] w2 fun e w' => e = .returned (.int .i64 5) ∧ Hid (LG w w' l 2 LB)) := Lib.hid fun w2 l h => by
    have := h.put (by decide) (k := strC) (by unfold maxLen; decide) 3 9
    rwa [aw3, ax3] at this
  have C4 : Hid (∀ w2 l, LG w w2 l 2 LB → Calls Try.prog 17 #[.pointer (some ⟨l, 0, none⟩), .int .i64 4] w2 fun e w' => ∃ b c, e = .returned (.slice (some ⟨b, 0, none⟩) 1 c) ∧ 1 ≤ c ∧ c ≤ 9223372036854775807 ∧ w'.cell? ⟨b, 0, none⟩ = some (.string strB) ∧ Hid (LG w w' l 2 LA ∧ b < w'.heap.size)) := Lib.hid fun w2 l h => by
    have := h.sweep (by decide) (now := 4) (.inr (by rw [aw4]; exact sort1))
    refine this.mono ?_
    rintro e w' ⟨A, c, ys, rfl, HX⟩
    obtain ⟨h1, _, h3, h4⟩ := HX.out
    rw [aw4] at h1
    obtain rfl := List.perm_singleton.1 h1
    rw [aw5] at h4
    obtain ⟨b, cap, e2, _, hbl⟩ := h3.form (by decide)
    obtain ⟨rfl, rfl⟩ : A = some ⟨b, 0, none⟩ ∧ c = cap := by simpa using e2
    obtain ⟨_, _, q1, q2⟩ := own_cells h3
    unfold maxLen at q2
    refine ⟨b, c, rfl, q1, by omega, ?_, Lib.hid ⟨h4, hbl⟩⟩
    have := h3.cellAt 0 (by decide)
    simpa [keyV] using this
  have C5 : Hid (∀ w2 l, LG w w2 l 2 LA → Calls Try.prog 26 #[.pointer (some ⟨l, 0, none⟩), .string strA] w2 fun e w' => e = .returned (.tuple #[.int .i64 1, .bool true]) ∧ Hid (LG w w' l 2 LA ∧ Below w2.heap.size w2 w')) := Lib.hid fun w2 l h => by
    have := h.get (k := strA) (by unfold maxLen; decide)
    rwa [aw6] at this
  have C6 : Hid (∀ w2 l, LG w w2 l 2 LA → Calls Try.prog 28 #[.pointer (some ⟨l, 0, none⟩)] w2 fun e w' => e = .returned (.int .i64 1) ∧ w2 = w') := Lib.hid fun w2 l h => h.len
  go_enter Try.func8, Try.ntmps8
  go_upto_region 7 with (first
    | (go_at_call 9; refine HN.out.mono ?_; rintro e w1 ⟨l, rfl, HT⟩; have D1 := Lib.hid (C1.out _ l HT.out.1); clear HN C1)
    | (go_at_call 11; refine D1.out.mono ?_; rintro e w2 ⟨rfl, HT2⟩; have D2 := Lib.hid (C2.out _ l HT2.out); clear D1)
    | (go_at_call 11; refine D2.out.mono ?_; rintro e w3 ⟨rfl, HT3⟩; have D3 := Lib.hid (C3.out _ l HT3.out); clear D2)
    | (go_at_call 11; refine D3.out.mono ?_; rintro e w4 ⟨rfl, HT4⟩; have D4 := Lib.hid (C4.out _ l HT4.out); clear D3)
    | (go_at_call 17; refine D4.out.mono ?_; rintro e w5 ⟨b, c, rfl, q1, q2, q3, HT5⟩; have D5 := Lib.hid (C5.out _ l HT5.out.1); clear D4)
    | (go_at_call 26; refine D5.out.mono ?_; rintro e w6 ⟨rfl, HT6⟩; have D6 := Lib.hid (C6.out _ l HT6.out.1); have q4 := (HT6.out.2.cell (p := ⟨b, 0, none⟩) HT5.out.2).trans q3; clear D5 q3))
  go_wp2_with (go_at_call 28; refine D6.out.mono ?_; rintro e w8 ⟨rfl, rfl⟩)
  go_ret
  exact ⟨rfl, HT6.out.1.2⟩
end Go.Proofs.Ytcdjahmnobjpkaa
