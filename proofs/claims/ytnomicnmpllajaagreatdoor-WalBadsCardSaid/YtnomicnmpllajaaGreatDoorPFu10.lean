/- What is proved here: what a log's Get and Snapshot answer. -/
/- What is proved here: a log and its disk side by side; what a log's Sync does. -/
/- What is proved here: what becomes of a log in memory where its segments, or its records, are others. -/
/- What is proved here: the calls of which a log's changes consist, each with the log and the disk behind it; Sync where there is no segment. -/
import Derived.Test.YtnomicnmpllajaaGreatDoorPFu9
import Derived.StillTailTactics
section
namespace Go.Proofs.YtnomicnmpllajaaGreatDoor
open Go Go.RowKit

section
variable {w w' : World} {Φ Λ Λ' : Nat → Prop} {lb d : Nat} {M : LogM} {V : LogV}
theorem Byt.more {A : Option Addr} {c : Nat} {xs : List Int} (h : Byt w Λ A c xs) (hb : Below w.heap.size w w') : Byt w' Λ A c xs := h.keep (Φ := fun _ => False) (Chg.of_below hb) fun _ _ => id
set_option maxHeartbeats 400000 in
theorem Snapshot_any (h : LogAt w lb d M V Λ) : Calls Tryz.prog 39 #[.pointer (some ⟨lb, 0, none⟩)] w fun e w' => ∃ v, e = .returned v ∧ w'.ownsRow w.heap.size 5 1 v M.shot.length (M.shot.map (Value.int .u8)) ∧ Below w.heap.size w w' := by
  obtain ⟨_, _, _, _, c4, _⟩ := h.cells
  have HC := Lib.hid (Clone_any V.tA M.shot.length V.tC M.shot w h.shot.rd (by have := h.shot.len; omega))
  clear h
  go_enter Tryz.func39, Tryz.ntmps39
  go_wp2_with (go_at_call 55; refine HC.out.mono ?_; rintro e w1 ⟨v, rfl, ho, hb⟩; have HO := Lib.hid ho; have HB := Lib.hid hb; clear ho hb)
  go_ret
  exact ⟨v, rfl, HO.out, HB.out⟩

/-- What Get answers. -/
def GetSaid (M : LogM) (k : Int) (w : World) (e : Ending) (w' : World) : Prop :=
  (¬ ((M.base : Int) < k ∧ k ≤ M.last) ∧ e = .returned (.tuple #[.slice none 0 0, .bool false]) ∧ Below w.heap.size w w') ∨
    ∃ (j : Nat) (xs : List Int) (v : Value), k = M.base + j + 1 ∧ M.recs[j]? = some xs ∧ e = .returned (.tuple #[v, .bool true]) ∧ w'.ownsRow w.heap.size 5 1 v xs.length (xs.map (Value.int .u8)) ∧ Below w.heap.size w w'
theorem recC_at {rv : List (Option Addr × Nat)} {l : List (List Int)} {j : Nat} {p : Option Addr × Nat} {xs : List Int} (h1 : rv[j]? = some p) (h2 : l[j]? = some xs) : (recC rv l)[j]? = some (.slice p.1 xs.length p.2) := by
  unfold recC
  rw [List.getElem?_zipWith, h1, h2]
theorem own_at {w : World} {base e n j : Nat} {A : Option Addr} {c : Nat} {xs : List Value} {u : Value} (h : w.ownsRow base e 1 (.slice A n c) n xs) (hk : xs[j]? = some u) : ∃ g, A = some ⟨g, 0, none⟩ ∧ base ≤ g ∧ g < w.heap.size ∧ w.cell? ⟨g, j, none⟩ = some u ∧ n ≤ c := by
  obtain ⟨g, e1, h1, h2, h3⟩ := own_cell h hk
  rw [Nat.zero_add] at h3
  refine ⟨g, e1, h1, h2, h3, ?_⟩
  subst e1
  rcases h.2 with ⟨e2, _⟩ | ⟨g', cap, cur, e2, _, _, hnc, _⟩
  · cases e2
  · cases e2; exact hnc
set_option maxHeartbeats 800000 in
set_option maxRecDepth 100000 in
theorem Get_any (h : LogAt w lb d M V Λ) (hk : LogOk M) (k : Int) : Calls Tryz.prog 26 #[.pointer (some ⟨lb, 0, none⟩), .int .i64 k] w (GetSaid M k w) := by
  have HL := Lib.hid (Last_any h hk)
  obtain ⟨_, _, _, c3, _, c5, _⟩ := h.cells
  by_cases hb : k ≤ (M.base : Int)
  · have HB : Hid (¬ ((M.base : Int) < k ∧ k ≤ M.last)) := Lib.hid (by omega)
    clear h hk
    go_enter Tryz.func26, Tryz.ntmps26
    go_wp2_with fail
    go_ret2
    exact .inl ⟨HB.out, rfl, Below.refl _ _⟩
  · by_cases hl : (M.last : Int) < k
    · have HB : Hid (¬ ((M.base : Int) < k ∧ k ≤ M.last)) := Lib.hid (by omega)
      have hb' : decide (k ≤ (M.base : Int)) = false := decide_eq_false hb
      clear h hk
      go_enter Tryz.func26, Tryz.ntmps26
      go_wp2_with (go_at_call 21; refine HL.out.mono ?_; rintro e w1 ⟨rfl, q, rfl⟩)
      go_ret2
      exact .inl ⟨HB.out, rfl, (Below.refl _ _).trans ⟨rfl, rfl, rfl, Nat.le_refl _, fun _ _ => rfl⟩⟩
    · obtain ⟨j, hj⟩ : ∃ j : Nat, k = M.base + j + 1 := ⟨(k - M.base - 1).toNat, by omega⟩
      have hlast : M.last = M.base + M.recs.length := rfl
      have hjn : j < M.recs.length := by omega
      obtain ⟨xs, hxs⟩ : ∃ xs, M.recs[j]? = some xs := ⟨_, List.getElem?_eq_getElem hjn⟩
      obtain ⟨p, hp⟩ : ∃ p, V.rv[j]? = some p := ⟨_, List.getElem?_eq_getElem (by rw [h.rlen]; exact hjn)⟩
      have hby := h.each j p xs hp hxs
      obtain ⟨g, hrA, _, hg, hcell, hcap⟩ := own_at h.recs (recC_at hp hxs)
      have hn1 := hk.recn
      have hb1 := hk.base
      have HX := Lib.hid hxs
      have HCL : Hid (∀ q, Calls Tryz.prog 55 #[.slice p.1 xs.length p.2] ((w.drewN q).drew) fun e w' => ∃ v, e = .returned v ∧ Hid (w'.ownsRow w.heap.size 5 1 v xs.length (xs.map (Value.int .u8))) ∧ Hid (Below w.heap.size w w')) := Lib.hid fun q => by
        have hb' : Below w.heap.size w ((w.drewN q).drew) := ⟨rfl, rfl, rfl, Nat.le_refl _, fun _ _ => rfl⟩
        refine (Clone_any p.1 xs.length p.2 xs _ (hby.more hb').rd (by have := hby.len; omega)).mono ?_
        rintro e w' ⟨v, rfl, ho, hb⟩
        exact ⟨v, rfl, Lib.hid ho, Lib.hid (hb'.trans hb)⟩
      rw [hrA] at c5
      have HJ := Lib.hid hj
      clear hxs hp hby h hk hrA
      generalize M.last = lst at *
      generalize hbb : M.base = b at *
      have HBB := Lib.hid hbb
      clear hbb
      generalize M.recs.length = n at *
      generalize p.1 = pA at *
      generalize p.2 = pC at *
      generalize hxn : xs.length = xn at *
      have HXN := Lib.hid hxn
      clear hxn
      generalize V.rC = rC at *
      have hb' : decide (k ≤ (b : Int)) = false := decide_eq_false hb
      have hl' : decide ((lst : Int) < k) = false := decide_eq_false hl
      have hw1 : IntKind.i64.wrap (k - (b : Int)) = (j : Int) + 1 := by rw [IntWalk.i64_in _ (by omega)]; omega
      have hw2 : IntKind.i64.wrap ((j : Int) + 1 - 1) = (j : Int) := by rw [IntWalk.i64_in _ (by omega)]; omega
      have hw3 : IntKind.i64.wrap (j : Int) = (j : Int) := IntWalk.i64_in _ (by omega)
      have hj' : (j : Int) < n := by omega
      have hj0 : (0 : Int) ≤ (j : Int) := by omega
      clear hj hlast
      go_enter Tryz.func26, Tryz.ntmps26
      go_wp2_with (go_at_call 21; refine HL.out.mono ?_; rintro e w1 ⟨rfl, q, hq⟩; have d3 : w1.cell? ⟨lb, 3, none⟩ = some (.int .i64 b) := (by rw [hq]; exact c3); have d5 : w1.cell? ⟨lb, 5, none⟩ = some (.slice (some ⟨g, 0, none⟩) n rC) := (by rw [hq]; exact c5); have dc : w1.cell? ⟨g, j, none⟩ = some (.slice pA xn pC) := (by rw [hq]; exact hcell); have HCL1 := Lib.hid (HCL.out q); rw [← hq] at HCL1; clear hq c3 c5 hcell)
      go_still_tail 13, (by kernel_rfl)
      change wpList _ _ _ _ _ w1.drew
      clear hw1 hw2 hw3
      go_wp2_with (go_at_call 55; refine (HCL1.out).mono ?_; rintro e w2 ⟨v, rfl, HO, HB⟩)
      go_ret2
      exact .inr ⟨j, xs, v, by rw [HBB.out]; exact HJ.out, HX.out, rfl, by rw [HXN.out]; exact HO.out, HB.out⟩
end
end Go.Proofs.YtnomicnmpllajaaGreatDoor
end

section
namespace Go.Proofs.YtnomicnmpllajaaGreatDoor
open Go Go.RowKit

theorem DiskAt.keep {w w' : World} {d : Nat} {room : Int} {S : List RF} {Φ Ψ : Nat → Prop} (h : DiskAt w d room S Φ) (hc : Chg Ψ w w') (hs : ∀ k, Φ k → ¬ Ψ k) : DiskAt w' d room S Φ := by
  obtain ⟨m, L, e, hD⟩ := h
  exact ⟨m, L, e, hD.keep hc hs⟩
theorem DiskAt.mono {w : World} {d : Nat} {room : Int} {S : List RF} {Φ Ψ : Nat → Prop} (h : DiskAt w d room S Φ) (hs : ∀ k, k < w.heap.size → Φ k → Ψ k) : DiskAt w d room S Ψ := by
  obtain ⟨m, L, e, hD⟩ := h
  exact ⟨m, L, e, hD.mono hs⟩
theorem DiskAt.later {w w' : World} {d : Nat} {room : Int} {S : List RF} {Φ : Nat → Prop} (h : DiskAt w d room S Φ) (hb : Below w.heap.size w w') : DiskAt w' d room S Φ := h.keep (Ψ := fun _ => False) (Chg.of_below hb) fun _ _ => id
theorem bdrewN {w w' : World} {B : Nat} (h : Below B w w') (q : Nat) : Below B w (w'.drewN q) := ⟨h.os, h.tape, h.output, h.size, h.block⟩
theorem segC_len (l : List (Nat × Nat)) : (segC l).length = l.length * 2 := by
  induction l with
  | nil => rfl
  | cons x r ih =>
    show ([_, _] ++ segC r).length = _
    rw [List.length_append, ih]
    simp; omega
theorem segC_at : ∀ {l : List (Nat × Nat)} {k : Nat} {s : Nat × Nat}, l[k]? = some s → (segC l)[k * 2]? = some (.int .i64 s.1) ∧ (segC l)[k * 2 + 1]? = some (.int .i64 s.2)
  | x :: r, 0, s, h => by
    simp at h
    subst h
    exact ⟨rfl, rfl⟩
  | x :: r, k + 1, s, h => by
    obtain ⟨h1, h2⟩ := segC_at (l := r) (k := k) (s := s) (by simpa using h)
    have e : segC (x :: r) = [.int .i64 x.1, .int .i64 x.2] ++ segC r := rfl
    rw [e]
    constructor
    · rw [List.getElem?_append_right (by simp; omega)]
      rw [show (k + 1) * 2 - [Value.int .i64 (x.1 : Int), .int .i64 (x.2 : Int)].length = k * 2 by simp; omega]
      exact h1
    · rw [List.getElem?_append_right (by simp; omega)]
      rw [show (k + 1) * 2 + 1 - [Value.int .i64 (x.1 : Int), .int .i64 (x.2 : Int)].length = k * 2 + 1 by simp; omega]
      exact h2

section
variable {w w' : World} {Λ : Nat → Prop} {lb d : Nat} {M : LogM} {V : LogV}
/-- The rows lie in other blocks than the log itself. -/
theorem LogAt.apart (h : LogAt w lb d M V Λ) : (∀ a, V.sA = some a → a.block ≠ lb) ∧ (∀ a, V.rA = some a → a.block ≠ lb) ∧ (∀ a, V.tA = some a → a.block ≠ lb) ∧ ∀ (j : Nat) (p : Option Addr × Nat), V.rv[j]? = some p → ∀ a, p.1 = some a → a.block ≠ lb := by
  have hrow : ∀ {e size n : Nat} {A : Option Addr} {c : Nat} {xs : List Value}, w.ownsRow 0 e size (.slice A n c) n xs → e ≠ 82 → ∀ a, A = some a → a.block ≠ lb := fun {e size n A c xs} ho he a ha hb => by
    rcases ho.2 with ⟨e1, _⟩ | ⟨g, cap, cur, e1, _, hg, _⟩
    · cases e1; cases ha
    · cases e1
      cases ha
      have hb' : g = lb := hb
      rw [hb', h.blk] at hg
      simp at hg
      exact he hg.2.symm
  have hbyt : ∀ {A : Option Addr} {c : Nat} {xs : List Int}, Byt w Λ A c xs → ∀ a, A = some a → a.block ≠ lb := fun {A c xs} hb a ha e => by
    obtain ⟨_, cur, hc⟩ := hb.inn a ha
    rw [e, h.blk] at hc
    simp at hc
  refine ⟨hrow h.segs (by decide), hrow h.recs (by decide), hbyt h.shot, fun j p hp => ?_⟩
  have hlt : j < M.recs.length := by rw [← h.rlen]; exact (List.getElem?_eq_some_iff.1 hp).1
  exact hbyt (h.each j p _ hp (List.getElem?_eq_getElem hlt))
/-- Another number in the log's last field. -/
theorem LogAt.setSynced (h : LogAt w lb d M V Λ) (s : Nat) : LogAt (w.setCell ⟨lb, 6, none⟩ (.int .i64 s)) lb d { M with synced := s } V Λ := by
  obtain ⟨h1, h2, h3, h4⟩ := h.apart
  have hc : Chg (fun i => i = lb) w (w.setCell ⟨lb, 6, none⟩ (.int .i64 s)) := Chg.set _ _ _ _
  have hbyt : ∀ {A : Option Addr} {c : Nat} {xs : List Int}, Byt w Λ A c xs → (∀ a, A = some a → a.block ≠ lb) → Byt (w.setCell ⟨lb, 6, none⟩ (.int .i64 s)) Λ A c xs := fun {A c xs} hb hn => by
    have := (show Byt w (fun k => Λ k ∧ k ≠ lb) A c xs from ⟨hb.rd, fun a e => ⟨⟨(hb.inn a e).1, hn a e⟩, (hb.inn a e).2⟩, hb.byt, hb.len⟩).keep hc fun k hk => hk.2
    exact this.mono fun k _ hk => hk.1
  refine ⟨heap_setCell_same h.blk 6 _, hc.own h.segs fun g hg => ?_, hbyt h.shot h3, hc.own h.recs fun g hg => ?_, h.rlen, fun j p xs hp hx => hbyt (h.each j p xs hp hx) (h4 j p hp), h.inn⟩
  · obtain ⟨a, e, rfl⟩ := own_block hg
    exact h1 a e
  · obtain ⟨a, e, rfl⟩ := own_block hg
    exact h2 a e
/-- Where the last segment's struct lies. -/
theorem LogAt.seg (h : LogAt w lb d M V Λ) {k : Nat} {s : Nat × Nat} (hs : M.segs[k]? = some s) : ∃ g, V.sA = some ⟨g, 0, none⟩ ∧ g < w.heap.size ∧ w.cell? ⟨g, k * 2, none⟩ = some (.int .i64 s.1) ∧ w.cell? ⟨g, k * 2 + 1, none⟩ = some (.int .i64 s.2) := by
  have hlt : k < M.segs.length := (List.getElem?_eq_some_iff.1 hs).1
  obtain ⟨c0, c1⟩ := segC_at hs
  rcases h.segs.2 with ⟨e1, e2⟩ | ⟨g, cap, cur, e1, _, hg, _⟩
  · omega
  · cases hsA : V.sA with
    | none => rw [hsA] at e1; cases e1
    | some a =>
      rw [hsA] at e1
      cases e1
      have hown := h.segs
      rw [hsA] at hown
      have hc := fun i u hu => hown.cells (g := g) rfl i u hu
      refine ⟨g, rfl, lt_of_block hg, ?_, ?_⟩
      · have := hc (k * 2) _ c0
        rwa [Addr.add_lit, Nat.zero_add] at this
      · have := hc (k * 2 + 1) _ c1
        rwa [Addr.add_lit, Nat.zero_add] at this
end

/-- A log and its disk, since w0; neither lies in the blocks of which Kp speaks. -/
structure WPair (w0 : World) (Kp : Nat → Prop) (lb d : Nat) (R : Int) (S : List RF) (M : LogM) (V : LogV) (wr : World) : Prop where
  below : Below w0.heap.size w0 wr
  ex : ∃ Φ Λ, LogAt wr lb d M V Λ ∧ DiskAt wr d R S Φ ∧ (∀ k, Φ k → ¬ Λ k) ∧ ∀ k, Φ k ∨ Λ k → w0.heap.size ≤ k ∧ ¬ Kp k ∧ k < wr.heap.size
/-- What of another world is kept. -/
def Kept (Kp : Nat → Prop) (w w' : World) : Prop := (∀ k, Kp k → w'.heap[k]? = w.heap[k]?) ∧ w.heap.size ≤ w'.heap.size
theorem Kept.trans {Kp : Nat → Prop} {a b c : World} (h : Kept Kp a b) (h2 : Kept Kp b c) : Kept Kp a c := ⟨fun k hk => (h2.1 k hk).trans (h.1 k hk), Nat.le_trans h.2 h2.2⟩
theorem Kept.of_below {Kp : Nat → Prop} {a b : World} (h : Below a.heap.size a b) (hK : ∀ k, Kp k → k < a.heap.size) : Kept Kp a b := ⟨fun k hk => h.block k (hK k hk), h.size⟩
section
variable {w0 w wr w' : World} {Kp Kp' : Nat → Prop} {lb d : Nat} {R : Int} {S : List RF} {M : LogM} {V : LogV}
theorem WPair.later (h : WPair w0 Kp lb d R S M V wr) (hb : Below wr.heap.size wr w') : WPair w0 Kp lb d R S M V w' := by
  obtain ⟨Φ, Λ, hl, hd, ha, hK⟩ := h.ex
  exact ⟨h.below.trans (hb.mono h.below.size), Φ, Λ, hl.later hb, hd.later hb, ha, fun k hk => ⟨(hK k hk).1, (hK k hk).2.1, Nat.lt_of_lt_of_le (hK k hk).2.2 hb.size⟩⟩
theorem WPair.drewN (h : WPair w0 Kp lb d R S M V wr) (q : Nat) : WPair w0 Kp lb d R S M V (wr.drewN q) := h.later (bdrewN (Below.refl _ _) q)
theorem WPair.keepK (h : WPair w0 Kp lb d R S M V wr) (hK : ∀ k, k < wr.heap.size → Kp' k → Kp k) : WPair w0 Kp' lb d R S M V wr := by
  obtain ⟨Φ, Λ, hl, hd, ha, hK2⟩ := h.ex
  exact ⟨h.below, Φ, Λ, hl, hd, ha, fun k hk => ⟨(hK2 k hk).1, fun hk' => (hK2 k hk).2.1 (hK k (hK2 k hk).2.2 hk'), (hK2 k hk).2.2⟩⟩
end

set_option maxHeartbeats 800000 in
set_option maxRecDepth 100000 in
theorem Sync_some {w0 w : World} {Kp : Nat → Prop} {lb d : Nat} {R : Int} {S : List RF} {M : LogM} {V : LogV} (h : WPair w0 Kp lb d R S M V w) (hKp : ∀ k, Kp k → k < w.heap.size) (ht : Tab w0) (hk : LogOk M) {k : Nat} {s : Nat × Nat} (hn : M.segs.length = k + 1) (hs : M.segs[k]? = some s) {f : RF} (hf : findN S (segName s.1) = some f) :
    Calls Tryz.prog 25 #[.pointer (some ⟨lb, 0, none⟩)] w fun e w' => e = .returned (.int .i64 0) ∧ WPair w0 Kp lb d R (syncF S (segName s.1)).1 { M with synced := M.last } V w' ∧ Kept Kp w w' := by
  obtain ⟨Φ, Λ, hl, hd, ha, hK⟩ := h.ex
  obtain ⟨g, hg, hgw, s0, s1⟩ := hl.seg hs
  obtain ⟨l0, _, _, _, _, _, l6, lf⟩ := hl.cells
  have hs1 := (hk.segs s (List.mem_of_getElem? hs)).1
  have htab : Tab w := ht.below h.below
  have hsz := nameS_size s.1
  have hnl := nameS_list s.1
  have HLA := Lib.hid (last_some hl hk hn hg)
  have HNM : Hid (∀ q, Calls Tryz.prog 54 #[.agg #[.int .i64 s.1, .int .i64 s.2]] (w.drewN q).drew fun e w2 => e = .returned (.string (nameS s.1)) ∧ w2.cell? ⟨lb, 0, none⟩ = some (.pointer (some ⟨d, 0, none⟩)) ∧ w2.cell? ⟨g, k * 2, none⟩ = some (.int .i64 s.1) ∧ w2.cell? ⟨g, k * 2 + 1, none⟩ = some (.int .i64 s.2) ∧ Hid (Calls Tryz.prog 56 #[.pointer (some ⟨d, 0, none⟩), .string (nameS s.1)] w2 fun e w3 => e = .returned (.int .i64 0) ∧ w3.cell? ⟨lb, 0, none⟩ = some (.pointer (some ⟨d, 0, none⟩)) ∧ w3.cell? ⟨g, k * 2, none⟩ = some (.int .i64 s.1) ∧ w3.cell? ⟨g, k * 2 + 1, none⟩ = some (.int .i64 s.2) ∧
      Hid (Calls Tryz.prog 21 #[.pointer (some ⟨lb, 0, none⟩)] w3 fun e w4 => e = .returned (.int .i64 M.last) ∧ w4.cell? ⟨lb, 6, none⟩ = some (.int .i64 M.synced) ∧ w4.frozen? ⟨lb, 6, none⟩ = false ∧
        Hid (WPair w0 Kp lb d R (syncF S (segName s.1)).1 { M with synced := M.last } V (w4.setCell ⟨lb, 6, none⟩ (.int .i64 M.last)) ∧ Kept Kp w (w4.setCell ⟨lb, 6, none⟩ (.int .i64 M.last)))))) := Lib.hid fun q => by
    have hb1 : Below w.heap.size w ((w.drewN q).drew) := ⟨rfl, rfl, rfl, Nat.le_refl _, fun _ _ => rfl⟩
    refine (name_any s.1 s.2 _ hs1 (htab.below hb1)).mono ?_
    rintro e w2 ⟨rfl, hb2⟩
    have hb12 : Below w.heap.size w w2 := hb1.trans hb2
    have hl2 := hl.later hb12
    obtain ⟨g', hg', _, p0, p1⟩ := hl2.seg hs
    rw [hg] at hg'
    cases hg'
    refine ⟨rfl, hl2.cells.1, p0, p1, Lib.hid ?_⟩
    have hd2 : DiskAt w2 d R S Φ := hd.keep (Ψ := fun _ => False) (Chg.of_below hb12) fun _ _ => id
    refine (Sync_any hd2 (nameS s.1) (by rw [hsz]; unfold maxLen; omega)).mono ?_
    rintro e w3 ⟨rfl, hc3, hd3⟩
    rw [hnl] at hd3 ⊢
    have hl3 := hl2.keep hc3 fun k h1 h2 => ha k h2 h1
    obtain ⟨g', hg', _, r0, r1⟩ := hl3.seg hs
    rw [hg] at hg'
    cases hg'
    refine ⟨by unfold syncF; rw [hf], hl3.cells.1, r0, r1, Lib.hid ?_⟩
    refine (Last_any hl3 hk).mono ?_
    rintro e w4 ⟨rfl, q4, rfl⟩
    have hl4 : LogAt (w3.drewN q4) lb d M V Λ := hl3.later (bdrewN (Below.refl _ _) q4)
    obtain ⟨_, _, _, _, _, _, m6, mf⟩ := hl4.cells
    refine ⟨rfl, m6, mf 6, Lib.hid ?_⟩
    have hlb := hl3.lt
    have hc5 : Chg (fun i => i = lb) (w3.drewN q4) ((w3.drewN q4).setCell ⟨lb, 6, none⟩ (.int .i64 M.last)) := Chg.set _ _ _ _
    have hd5 : DiskAt ((w3.drewN q4).setCell ⟨lb, 6, none⟩ (.int .i64 M.last)) d R (syncF S (segName s.1)).1 (fun i => grow Φ w2 w3 i ∧ i < w3.heap.size) := by
      have h1 : DiskAt (w3.drewN q4) d R (syncF S (segName s.1)).1 (fun i => grow Φ w2 w3 i ∧ i < w3.heap.size) := (hd3.mono fun i hi h1 => ⟨h1, hi⟩).keep (Ψ := fun _ => False) (Chg.drewN w3 q4) fun _ _ => id
      refine h1.keep hc5 fun i hi e => ?_
      have e' : i = lb := e
      subst e'
      rcases hi.1 with h2 | h2
      · exact ha _ h2 hl.inn.1
      · have := (hK _ (.inr hl.inn.1)).2.2
        have := hb12.size
        omega
    have hs5 := hc5.size
    have hs3 := hc3.size
    have hs2 := hb12.size
    have e3 : (w3.drewN q4).heap.size = w3.heap.size := rfl
    have hkept : Kept Kp w ((w3.drewN q4).setCell ⟨lb, 6, none⟩ (.int .i64 M.last)) := ⟨fun i hi => by
      have hi2 := hKp i hi
      rw [hc5.block i (by omega) (fun e => (hK _ (.inr hl.inn.1)).2.1 (by have e' : i = lb := e; rw [← e']; exact hi))]
      exact (hc3.block i (by omega) fun h1 => (hK i (.inl h1)).2.1 hi).trans (hb12.block i hi2), by omega⟩
    refine ⟨⟨h.below.trans ((hb12.mono h.below.size).trans (((hc3.below (by have := h.below.size; omega) fun i hi => (hK i (.inl hi)).1).trans (bdrewN (Below.refl _ _) q4)).trans (hc5.below (by have := h.below.size; omega) fun i hi => by rw [hi]; exact (hK _ (.inr hl.inn.1)).1))), _, Λ, hl4.setSynced M.last, hd5, fun i hi h1 => ?_, fun i hi => ?_⟩, hkept⟩
    · rcases hi.1 with h2 | h2
      · exact ha i h2 h1
      · have := (hK i (.inr h1)).2.2
        omega
    · rcases hi with ⟨hi | hi, hi2⟩ | hi
      · exact ⟨(hK i (.inl hi)).1, (hK i (.inl hi)).2.1, by omega⟩
      · have := h.below.size
        exact ⟨by omega, fun h9 => by have := hKp i h9; omega, by omega⟩
      · have := hK i (.inr hi)
        exact ⟨this.1, this.2.1, by omega⟩
  clear hs hf hd ha hK h hKp ht hk hn htab hsz hnl hl hg
  go_enter Tryz.func25, Tryz.ntmps25
  go_wp2_with (go_at_call 53; refine HLA.out.mono ?_; rintro e w1 ⟨rfl, q, hq⟩; have d0 : w1.cell? ⟨lb, 0, none⟩ = some (.pointer (some ⟨d, 0, none⟩)) := (by rw [hq]; exact l0); have d1 : w1.cell? ⟨g, k * 2, none⟩ = some (.int .i64 s.1) := (by rw [hq]; exact s0); have d2 : w1.cell? ⟨g, k * 2 + 1, none⟩ = some (.int .i64 s.2) := (by rw [hq]; exact s1); have HNM1 := Lib.hid (HNM.out q); rw [← hq] at HNM1; clear hq l0 s0 s1 l6 lf)
  go_region_held3 (fun w' => w'.cell? ⟨lb, 0, none⟩ = some (.pointer (some ⟨d, 0, none⟩)) ∧ w'.cell? ⟨g, k * 2, none⟩ = some (.int .i64 s.1) ∧ w'.cell? ⟨g, k * 2 + 1, none⟩ = some (.int .i64 s.2))
    (first | exact ⟨by assumption, by assumption, by assumption⟩ | exact ⟨d0, d1, d2⟩)
    (first
      | (go_at_call 54; refine (HNM1.out).mono ?_; rintro e w2 ⟨rfl, x0, x1, x2, HSY⟩)
      | (go_at_call 56; refine (HSY.out).mono ?_; rintro e w3 ⟨rfl, y0, y1, y2, HLT⟩))
  all_goals
    go_wp2_with (go_at_call 21; refine (HLT.out).mono ?_; rintro e w4 ⟨rfl, m6, mf, HP⟩)
    go_ret
    exact ⟨rfl, HP.out⟩
end Go.Proofs.YtnomicnmpllajaaGreatDoor
end

section
namespace Go.Proofs.YtnomicnmpllajaaGreatDoor
open Go Go.RowKit

theorem ne_of_typ {w : World} {b b' : Nat} {cs cs' : Array Value} {t t' : TypeId} {fr fr' : Nat × Nat} (h : w.heap[b]? = some (.cells cs t fr)) (h' : w.heap[b']? = some (.cells cs' t' fr')) (ht : t ≠ t') : b ≠ b' := fun e => by
  subst e
  rw [h] at h'
  simp at h'
  exact ht h'.2.1
theorem own_typ {w : World} {base e size n : Nat} {A : Option Addr} {c : Nat} {xs : List Value} (h : w.ownsRow base e size (.slice A n c) n xs) {a : Addr} (ha : A = some a) : ∃ cur, w.heap[a.block]? = some (.cells cur e (0, 0)) := by
  subst ha
  rcases h.2 with ⟨e1, _⟩ | ⟨g, cap, cur, e1, _, hg, _⟩
  · cases e1
  · cases e1
    exact ⟨cur, hg⟩
theorem segC_snoc (l : List (Nat × Nat)) (s : Nat × Nat) : segC (l ++ [s]) = segC l ++ [.int .i64 s.1, .int .i64 s.2] := by simp [segC]
theorem segC_set : ∀ (l : List (Nat × Nat)) (k : Nat) (s : Nat × Nat) (v : Nat), l[k]? = some s → segC (l.set k (s.1, v)) = (segC l).set (k * 2 + 1) (.int .i64 v)
  | x :: r, 0, s, v, h => by
    simp at h
    subst h
    rfl
  | x :: r, k + 1, s, v, h => by
    have ih := segC_set r k s v (by simpa using h)
    show [.int .i64 x.1, .int .i64 x.2] ++ segC (r.set k (s.1, v)) = ([Value.int .i64 x.1, Value.int .i64 x.2] ++ segC r).set ((k + 1) * 2 + 1) _
    rw [ih, List.set_append_right _ _ (by simp; omega)]
    rw [show (k + 1) * 2 + 1 - [Value.int .i64 (x.1 : Int), .int .i64 (x.2 : Int)].length = k * 2 + 1 by simp; omega]
theorem recC_snoc {rv : List (Option Addr × Nat)} {l : List (List Int)} (h : rv.length = l.length) (p : Option Addr × Nat) (xs : List Int) : recC (rv ++ [p]) (l ++ [xs]) = recC rv l ++ [.slice p.1 xs.length p.2] := by
  unfold recC
  rw [List.zipWith_append h]
  rfl

section
variable {w w1 : World} {Φ Λ Λ' : Nat → Prop} {lb d : Nat} {M : LogM} {V : LogV}
/-- Bytes stay, where their block does. -/
theorem Byt.but {A : Option Addr} {c : Nat} {xs : List Int} (h : Byt w Λ A c xs) (hc : Chg Φ w w1) (hs : ∀ a, A = some a → ¬ Φ a.block) : Byt w1 Λ A c xs := by
  have := (show Byt w (fun k => Λ k ∧ ¬ Φ k) A c xs from ⟨h.rd, fun a e => ⟨⟨(h.inn a e).1, hs a e⟩, (h.inn a e).2⟩, h.byt, h.len⟩).keep hc fun k hk => hk.2
  exact this.mono fun k _ hk => hk.1
/-- Other segments: of what was there, their old row alone has turned. -/
theorem LogAt.setSegs (h : LogAt w lb d M V Λ) {A' : Option Addr} {c' : Nat} {l : List (Nat × Nat)} (ho : w1.ownsRow 0 99 2 (.slice A' l.length c') l.length (segC l)) (hc : Chg (fun i => ∃ a, V.sA = some a ∧ a.block = i) w w1) (hA : ∀ a, A' = some a → Λ' a.block) (hΛ : ∀ k, k < w.heap.size → Λ k → Λ' k) :
    LogAt (w1.setCell ⟨lb, 2, none⟩ (.slice A' l.length c')) lb d { M with segs := l } { V with sA := A', sC := c' } Λ' := by
  obtain ⟨p1, p2, p3, p4⟩ := h.apart
  have hblk1 : w1.heap[lb]? = _ := (hc.block lb h.lt fun ⟨a, e, hb⟩ => p1 a e hb).trans h.blk
  have hc2 : Chg (fun i => i = lb) w1 (w1.setCell ⟨lb, 2, none⟩ (.slice A' l.length c')) := Chg.set _ _ _ _
  have hby : ∀ {A : Option Addr} {c : Nat} {xs : List Int}, Byt w Λ A c xs → (∀ a, A = some a → a.block ≠ lb) → Byt (w1.setCell ⟨lb, 2, none⟩ (.slice A' l.length c')) Λ' A c xs := fun {A c xs} hb hn => by
    refine (((hb.mono (Λ' := Λ') hΛ).but hc fun a ha ⟨a', e', hb'⟩ => ?_)).but hc2 fun a ha => hn a ha
    obtain ⟨_, cur, h1⟩ := hb.inn a ha
    obtain ⟨cur', h2⟩ := own_typ h.segs e'
    exact ne_of_typ h2 h1 (by decide) hb'
  have hrec1 : w1.ownsRow 0 33 1 (.slice V.rA M.recs.length V.rC) M.recs.length (recC V.rv M.recs) := hc.own h.recs fun g hg ⟨a', e', hb'⟩ => by
    obtain ⟨a, ha, rfl⟩ := own_block hg
    obtain ⟨cur, h1⟩ := own_typ h.recs ha
    obtain ⟨cur', h2⟩ := own_typ h.segs e'
    exact ne_of_typ h2 h1 (by decide) hb'
  refine ⟨heap_setCell_same hblk1 2 _, hc2.own ho fun g hg e => ?_, hby h.shot p3, hc2.own hrec1 fun g hg => ?_, h.rlen, fun j p xs hp hx => hby (h.each j p xs hp hx) (p4 j p hp), hΛ _ h.lt h.inn.1, hA, fun a ha => ?_⟩
  · obtain ⟨a, ha, rfl⟩ := own_block hg
    obtain ⟨cur, h1⟩ := own_typ ho ha
    exact ne_of_typ h1 hblk1 (by decide) e
  · obtain ⟨a, ha, rfl⟩ := own_block hg
    exact p2 a ha
  · obtain ⟨cur, h1⟩ := own_typ h.recs ha
    exact hΛ _ (lt_of_block h1) (h.inn.2.2 a ha)
/-- Another number of bytes in a segment. -/
theorem LogAt.setBytes (h : LogAt w lb d M V Λ) {k g v : Nat} {s : Nat × Nat} (hs : M.segs[k]? = some s) (hg : V.sA = some ⟨g, 0, none⟩) : LogAt (w.setCell ⟨g, k * 2 + 1, none⟩ (.int .i64 v)) lb d { M with segs := M.segs.set k (s.1, v) } V Λ := by
  obtain ⟨p1, p2, p3, p4⟩ := h.apart
  have hc : Chg (fun i => i = g) w (w.setCell ⟨g, k * 2 + 1, none⟩ (.int .i64 v)) := Chg.set _ _ _ _
  obtain ⟨cs, hcs⟩ := own_typ h.segs hg
  have hby : ∀ {A : Option Addr} {c : Nat} {xs : List Int}, Byt w Λ A c xs → Byt (w.setCell ⟨g, k * 2 + 1, none⟩ (.int .i64 v)) Λ A c xs := fun {A c xs} hb => hb.but hc fun a ha e => by
    obtain ⟨_, cur, h1⟩ := hb.inn a ha
    exact ne_of_typ hcs h1 (by decide) e.symm
  have hown := h.segs
  rw [hg] at hown
  have hown2 := (hown.stored (k * 2 + 1) (.int .i64 v)).1
  rw [← segC_set _ _ _ _ hs] at hown2
  refine ⟨(hc.block lb h.lt fun e => p1 _ hg e.symm).trans ?_, ?_, hby h.shot, hc.own h.recs fun g' hg' e => ?_, h.rlen, fun j p xs hp hx => hby (h.each j p xs hp hx), h.inn⟩
  · have := h.blk
    simpa using this
  · show World.ownsRow _ 0 _ 2 (.slice V.sA (M.segs.set k (s.1, v)).length V.sC) (M.segs.set k (s.1, v)).length _
    rw [List.length_set, hg]
    exact hown2
  · obtain ⟨a, ha, rfl⟩ := own_block hg'
    obtain ⟨cur, h1⟩ := own_typ h.recs ha
    exact ne_of_typ hcs h1 (by decide) e.symm
/-- Other records: of what was there, their old row alone has turned. -/
theorem LogAt.setRecs (h : LogAt w lb d M V Λ) {A' : Option Addr} {c' : Nat} {l : List (List Int)} {rv' : List (Option Addr × Nat)} (ho : w1.ownsRow 0 33 1 (.slice A' l.length c') l.length (recC rv' l)) (hl : rv'.length = l.length)
    (hc : Chg (fun i => ∃ a, V.rA = some a ∧ a.block = i) w w1) (hA : ∀ a, A' = some a → Λ' a.block) (hΛ : ∀ k, k < w.heap.size → Λ k → Λ' k) (he : ∀ (j : Nat) (p : Option Addr × Nat) (xs : List Int), rv'[j]? = some p → l[j]? = some xs → Byt w1 Λ' p.1 p.2 xs) :
    LogAt (w1.setCell ⟨lb, 5, none⟩ (.slice A' l.length c')) lb d { M with recs := l } { V with rA := A', rC := c', rv := rv' } Λ' := by
  obtain ⟨p1, p2, p3, p4⟩ := h.apart
  have hblk1 : w1.heap[lb]? = _ := (hc.block lb h.lt fun ⟨a, e, hb⟩ => p2 a e hb).trans h.blk
  have hc2 : Chg (fun i => i = lb) w1 (w1.setCell ⟨lb, 5, none⟩ (.slice A' l.length c')) := Chg.set _ _ _ _
  have hshot : Byt w1 Λ' V.tA V.tC M.shot := (h.shot.mono hΛ).but hc fun a ha ⟨a', e', hb'⟩ => by
    obtain ⟨_, cur, h1⟩ := h.shot.inn a ha
    obtain ⟨cur', h2⟩ := own_typ h.recs e'
    exact ne_of_typ h2 h1 (by decide) hb'
  have hseg1 : w1.ownsRow 0 99 2 (.slice V.sA M.segs.length V.sC) M.segs.length (segC M.segs) := hc.own h.segs fun g hg ⟨a', e', hb'⟩ => by
    obtain ⟨a, ha, rfl⟩ := own_block hg
    obtain ⟨cur, h1⟩ := own_typ h.segs ha
    obtain ⟨cur', h2⟩ := own_typ h.recs e'
    exact ne_of_typ h2 h1 (by decide) hb'
  have hby : ∀ {A : Option Addr} {c : Nat} {xs : List Int}, Byt w1 Λ' A c xs → Byt (w1.setCell ⟨lb, 5, none⟩ (.slice A' l.length c')) Λ' A c xs := fun {A c xs} hb => hb.but hc2 fun a ha e => by
    obtain ⟨_, cur, h1⟩ := hb.inn a ha
    exact ne_of_typ h1 hblk1 (by decide) e
  refine ⟨heap_setCell_same hblk1 5 _, hc2.own hseg1 fun g hg => ?_, hby hshot, hc2.own ho fun g hg e => ?_, hl, fun j p xs hp hx => hby (he j p xs hp hx), hΛ _ h.lt h.inn.1, fun a ha => ?_, hA⟩
  · obtain ⟨a, ha, rfl⟩ := own_block hg
    exact p1 a ha
  · obtain ⟨a, ha, rfl⟩ := own_block hg
    obtain ⟨cur, h1⟩ := own_typ ho ha
    exact ne_of_typ h1 hblk1 (by decide) e
  · obtain ⟨cur, h1⟩ := own_typ h.segs ha
    exact hΛ _ (lt_of_block h1) (h.inn.2.1 a ha)
end
end Go.Proofs.YtnomicnmpllajaaGreatDoor
end

section
namespace Go.Proofs.YtnomicnmpllajaaGreatDoor
open Go Go.RowKit

section
variable {w0 w wr w' : World} {Kp Kp' : Nat → Prop} {lb d : Nat} {R : Int} {S : List RF} {M : LogM} {V : LogV}
theorem WPair.cells (h : WPair w0 Kp lb d R S M V w) : lb < w.heap.size ∧ w.cell? ⟨lb, 0, none⟩ = some (.pointer (some ⟨d, 0, none⟩)) ∧ w.cell? ⟨lb, 1, none⟩ = some (.int .i64 M.size) ∧ w.cell? ⟨lb, 2, none⟩ = some (.slice V.sA M.segs.length V.sC) ∧ w.cell? ⟨lb, 3, none⟩ = some (.int .i64 M.base) ∧
    w.cell? ⟨lb, 4, none⟩ = some (.slice V.tA M.shot.length V.tC) ∧ w.cell? ⟨lb, 5, none⟩ = some (.slice V.rA M.recs.length V.rC) ∧ w.cell? ⟨lb, 6, none⟩ = some (.int .i64 M.synced) ∧ ∀ i, w.frozen? ⟨lb, i, none⟩ = false := by
  obtain ⟨Φ, Λ, hl, _⟩ := h.ex
  exact ⟨hl.lt, hl.cells⟩
theorem WPair.seg (h : WPair w0 Kp lb d R S M V w) {k g : Nat} {s : Nat × Nat} (hs : M.segs[k]? = some s) (hg : V.sA = some ⟨g, 0, none⟩) : g < w.heap.size ∧ w.cell? ⟨g, k * 2, none⟩ = some (.int .i64 s.1) ∧ w.cell? ⟨g, k * 2 + 1, none⟩ = some (.int .i64 s.2) ∧ w.frozen? ⟨g, k * 2 + 1, none⟩ = false := by
  obtain ⟨Φ, Λ, hl, _⟩ := h.ex
  obtain ⟨g', e, h1, h2, h3⟩ := hl.seg hs
  rw [hg] at e
  cases e
  obtain ⟨cur, hc⟩ := own_typ hl.segs hg
  exact ⟨h1, h2, h3, by simp [World.frozen?, show w.heap[g]? = _ from hc]⟩
theorem WPair.row (h : WPair w0 Kp lb d R S M V w) {k : Nat} {s : Nat × Nat} (hs : M.segs[k]? = some s) : ∃ g, V.sA = some ⟨g, 0, none⟩ := by
  obtain ⟨Φ, Λ, hl, _⟩ := h.ex
  obtain ⟨g, e, _⟩ := hl.seg hs
  exact ⟨g, e⟩
theorem drewn_below (w : World) (q : Nat) : Below w.heap.size w (w.drewN q) := bdrewN (Below.refl _ _) q
theorem WPair.Last_ (h : WPair w0 Kp lb d R S M V w) (hk : LogOk M) : Calls Tryz.prog 21 #[.pointer (some ⟨lb, 0, none⟩)] w fun e w' => e = .returned (.int .i64 M.last) ∧ WPair w0 Kp lb d R S M V w' ∧ Below w.heap.size w w' := by
  obtain ⟨Φ, Λ, hl, _⟩ := h.ex
  refine (Last_any hl hk).mono ?_
  rintro e w' ⟨rfl, q, rfl⟩
  exact ⟨rfl, h.drewN q, drewn_below w q⟩
theorem WPair.last_ (h : WPair w0 Kp lb d R S M V w) (hk : LogOk M) {k g : Nat} (hn : M.segs.length = k + 1) (hg : V.sA = some ⟨g, 0, none⟩) : Calls Tryz.prog 53 #[.pointer (some ⟨lb, 0, none⟩)] w fun e w' => e = .returned (.pointer (some ⟨g, k * 2, none⟩)) ∧ WPair w0 Kp lb d R S M V w' ∧ Below w.heap.size w w' := by
  obtain ⟨Φ, Λ, hl, _⟩ := h.ex
  refine (last_some hl hk hn hg).mono ?_
  rintro e w' ⟨rfl, q, rfl⟩
  exact ⟨rfl, h.drewN q, drewn_below w q⟩
theorem WPair.last0_ (h : WPair w0 Kp lb d R S M V w) (hn : M.segs = []) : Calls Tryz.prog 53 #[.pointer (some ⟨lb, 0, none⟩)] w fun e w' => e = .returned (.pointer none) ∧ WPair w0 Kp lb d R S M V w' ∧ Below w.heap.size w w' := by
  obtain ⟨Φ, Λ, hl, _⟩ := h.ex
  refine (last_none hl hn).mono ?_
  rintro e w' ⟨rfl, q, rfl⟩
  exact ⟨rfl, h.drewN q, drewn_below w q⟩
theorem WPair.name_ (h : WPair w0 Kp lb d R S M V w) (ht : Tab w0) (k b : Nat) (hk : k < 100000000) : Calls Tryz.prog 54 #[.agg #[.int .i64 k, .int .i64 b]] w fun e w' => e = .returned (.string (nameS k)) ∧ WPair w0 Kp lb d R S M V w' ∧ Below w.heap.size w w' := by
  refine (name_any k b w hk (ht.below h.below)).mono ?_
  rintro e w' ⟨rfl, hb⟩
  exact ⟨rfl, h.later hb, hb⟩
/-- The disk's Append. -/
theorem WPair.dapp (h : WPair w0 Kp lb d R S M V w) (hKp : ∀ k, Kp k → k < w.heap.size) (s : ByteArray) (hs : s.size ≤ maxLen) (A : Option Addr) (n c : Nat) (ys : List Int) (hr : Rd w w.heap.size .u8 A n c ys) (hy : ∀ y ∈ ys, 0 ≤ y ∧ y < 256) (hL : S.length ≤ 1000000) :
    Calls Tryz.prog 33 #[.pointer (some ⟨d, 0, none⟩), .string s, .slice A n c] w fun e w' => e = .returned (.int .i64 (appendF R S s.data.toList ys).2) ∧ WPair w0 Kp lb d R (appendF R S s.data.toList ys).1 M V w' ∧ Kept Kp w w' := by
  obtain ⟨Φ, Λ, hl, hd, ha, hK⟩ := h.ex
  refine (Append_any hd s hs A n c ys hr hy hL).mono ?_
  rintro e w' ⟨rfl, hc, hd'⟩
  have hsz := h.below.size
  have hcs := hc.size
  refine ⟨rfl, ⟨h.below.trans (hc.below hsz fun i hi => (hK i (.inl hi)).1), (fun i => grow Φ w w' i ∧ i < w'.heap.size), Λ, hl.keep hc fun i h1 h2 => ha i h2 h1, hd'.mono fun i hi h1 => ⟨h1, hi⟩, fun i hi h1 => ?_, fun i hi => ?_⟩, fun i hi => hc.block i (hKp i hi) fun h1 => (hK i (.inl h1)).2.1 hi, hcs⟩
  · rcases hi.1 with h2 | h2
    · exact ha i h2 h1
    · have := (hK i (.inr h1)).2.2
      omega
  · rcases hi with ⟨hi | hi, hi2⟩ | hi
    · exact ⟨(hK i (.inl hi)).1, (hK i (.inl hi)).2.1, hi2⟩
    · exact ⟨by omega, fun h9 => by have := hKp i h9; omega, hi2⟩
    · exact ⟨(hK i (.inr hi)).1, (hK i (.inr hi)).2.1, Nat.lt_of_lt_of_le (hK i (.inr hi)).2.2 hcs⟩
/-- Another number of bytes in a segment. -/
theorem WPair.setBytes (h : WPair w0 Kp lb d R S M V w) {k g v : Nat} {s : Nat × Nat} (hs : M.segs[k]? = some s) (hg : V.sA = some ⟨g, 0, none⟩) : WPair w0 Kp lb d R S { M with segs := M.segs.set k (s.1, v) } V (w.setCell ⟨g, k * 2 + 1, none⟩ (.int .i64 v)) ∧ Kept Kp w (w.setCell ⟨g, k * 2 + 1, none⟩ (.int .i64 v)) := by
  obtain ⟨Φ, Λ, hl, hd, ha, hK⟩ := h.ex
  have hgΛ : Λ g := hl.inn.2.1 _ hg
  have hc : Chg (fun i => i = g) w (w.setCell ⟨g, k * 2 + 1, none⟩ (.int .i64 v)) := Chg.set _ _ _ _
  have hcs := hc.size
  refine ⟨⟨h.below.trans (hc.below h.below.size fun i hi => by rw [hi]; exact (hK g (.inr hgΛ)).1), Φ, Λ, hl.setBytes hs hg, hd.keep hc fun i h1 e => ?_, ha, fun i hi => ⟨(hK i hi).1, (hK i hi).2.1, Nat.lt_of_lt_of_le (hK i hi).2.2 hcs⟩⟩, fun i hi => Below.heap_setCell _ _ _ _ fun e => ?_, hcs⟩
  · have e' : i = g := e
    rw [e'] at h1
    exact ha g h1 hgΛ
  · have e' : i = g := e
    rw [e'] at hi
    exact (hK g (.inr hgΛ)).2.1 hi
set_option maxHeartbeats 400000 in
theorem Sync_none (h : WPair w0 Kp lb d R S M V w) (hKp : ∀ k, Kp k → k < w.heap.size) (hk : LogOk M) (hn : M.segs = []) :
    Calls Tryz.prog 25 #[.pointer (some ⟨lb, 0, none⟩)] w fun e w' => e = .returned (.int .i64 0) ∧ WPair w0 Kp lb d R S { M with synced := M.last } V w' ∧ Kept Kp w w' := by
  have HL0 := Lib.hid (h.last0_ hn)
  have HLA := Lib.hid fun W (hW : WPair w0 Kp lb d R S M V W) => hW.Last_ hk
  have HC := Lib.hid fun W (hW : WPair w0 Kp lb d R S M V W) => hW.cells
  have HFIN : Hid (∀ W, Below w.heap.size w W → WPair w0 Kp lb d R S M V W → WPair w0 Kp lb d R S { M with synced := M.last } V (W.setCell ⟨lb, 6, none⟩ (.int .i64 M.last)) ∧ Kept Kp w (W.setCell ⟨lb, 6, none⟩ (.int .i64 M.last))) := Lib.hid fun W hb hW => by
    obtain ⟨Φ0, Λ0, hl0, hd0, ha0, hK0⟩ := h.ex
    obtain ⟨Φ, Λ, hl, hd, ha, hK⟩ := hW.ex
    have hc : Chg (fun i => i = lb) W (W.setCell ⟨lb, 6, none⟩ (.int .i64 M.last)) := Chg.set _ _ _ _
    have hcs := hc.size
    have hbs := hb.size
    refine ⟨⟨hW.below.trans (hc.below hW.below.size fun i hi => by rw [hi]; exact (hK _ (.inr hl.inn.1)).1), Φ, Λ, hl.setSynced M.last, hd.keep hc fun i h1 e => ?_, ha, fun i hi => ⟨(hK i hi).1, (hK i hi).2.1, Nat.lt_of_lt_of_le (hK i hi).2.2 hcs⟩⟩, fun i hi => ?_, by omega⟩
    · have e' : i = lb := e
      rw [e'] at h1
      exact ha lb h1 hl.inn.1
    · by_cases hlt : i < w.heap.size
      · rw [Below.heap_setCell _ _ _ _ fun e => (hK _ (.inr hl.inn.1)).2.1 (by have e' : i = lb := e; rw [← e']; exact hi)]
        exact hb.block i hlt
      · exact absurd (hKp i hi) hlt
  clear h hk hn hKp
  go_enter Tryz.func25, Tryz.ntmps25
  go_wp2_with (first
    | (go_at_call 53; refine HL0.out.mono ?_; rintro e w1 ⟨rfl, h1, hb1⟩; have HP1 := Lib.hid h1; have HB1 := Lib.hid hb1; clear h1 hb1)
    | (go_at_call 21; refine (HLA.out _ HP1.out).mono ?_; rintro e w2 ⟨rfl, h2, hb2⟩; have HP2 := Lib.hid h2; have HB2 := Lib.hid (HB1.out.trans (hb2.mono HB1.out.size)); obtain ⟨_, _, _, _, _, _, _, m6, mf⟩ := HC.out _ h2; clear h2 hb2))
  go_ret
  exact ⟨rfl, HFIN.out _ HB2.out HP2.out⟩
end
end Go.Proofs.YtnomicnmpllajaaGreatDoor
end
