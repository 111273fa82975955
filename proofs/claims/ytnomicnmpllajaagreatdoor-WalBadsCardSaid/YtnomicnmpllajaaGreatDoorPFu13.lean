/- What is proved here: another base, another snapshot, another last synced one, in a log in memory. -/
/- What is proved here: fewer records in a log in memory: behind Snap (a new row), behind Cut (the same row). -/
/- What is proved here: what a log's Snap does where there is room. -/
/- What is proved here: errors.Is, where an error's number is asked for: of a number, of a Bad that wraps one, of none. -/
import Derived.Test.YtnomicnmpllajaaGreatDoorPFu11
import Derived.Deep.Onto
import Derived.Test.YtnomicnmpllajaaGreatDoorPFu12
import Derived.Test.YtnomicnmpllajaaGreatDoorPFu3
import Derived.Test.YtnomicnmpllajaaGreatDoorPFu7
import Derived.LaidEql
import Derived.Stop.Asserts
import Derived.RowKitTokens
import Derived.Lib.IfaceEq
section
namespace Go.Proofs.YtnomicnmpllajaaGreatDoor
open Go Go.RowKit

section
variable {w w1 : World} {Φ Λ Λ' : Nat → Prop} {lb d : Nat} {M : LogM} {V : LogV}
theorem LogAt.setBase (h : LogAt w lb d M V Λ) (s : Nat) : LogAt (w.setCell ⟨lb, 3, none⟩ (.int .i64 s)) lb d { M with base := s } V Λ := by
  obtain ⟨h1, h2, h3, h4⟩ := h.apart
  have hc : Chg (fun i => i = lb) w (w.setCell ⟨lb, 3, none⟩ (.int .i64 s)) := Chg.set _ _ _ _
  refine ⟨heap_setCell_same h.blk 3 _, hc.own h.segs fun g hg => ?_, h.shot.but hc h3, hc.own h.recs fun g hg => ?_, h.rlen, fun j p xs hp hx => (h.each j p xs hp hx).but hc (h4 j p hp), h.inn⟩
  · obtain ⟨a, e, rfl⟩ := own_block hg
    exact h1 a e
  · obtain ⟨a, e, rfl⟩ := own_block hg
    exact h2 a e
theorem LogAt.setShot (h : LogAt w lb d M V Λ) {A : Option Addr} {c : Nat} {xs : List Int} (hb : Byt w Λ' A c xs) (hΛ : ∀ k, k < w.heap.size → Λ k → Λ' k) : LogAt (w.setCell ⟨lb, 4, none⟩ (.slice A xs.length c)) lb d { M with shot := xs } { V with tA := A, tC := c } Λ' := by
  obtain ⟨h1, h2, h3, h4⟩ := h.apart
  have hc : Chg (fun i => i = lb) w (w.setCell ⟨lb, 4, none⟩ (.slice A xs.length c)) := Chg.set _ _ _ _
  refine ⟨heap_setCell_same h.blk 4 _, hc.own h.segs fun g hg => ?_, hb.but hc fun a ha e => ?_, hc.own h.recs fun g hg => ?_, h.rlen, fun j p xs hp hx => ((h.each j p xs hp hx).mono hΛ).but hc (h4 j p hp), hΛ _ h.lt h.inn.1, fun a ha => ?_, fun a ha => ?_⟩
  · obtain ⟨a, e, rfl⟩ := own_block hg
    exact h1 a e
  · obtain ⟨_, cur, h5⟩ := hb.inn a ha
    exact ne_of_typ h5 h.blk (by decide) e
  · obtain ⟨a, e, rfl⟩ := own_block hg
    exact h2 a e
  · obtain ⟨cur, h5⟩ := own_typ h.segs ha
    exact hΛ _ (lt_of_block h5) (h.inn.2.1 a ha)
  · obtain ⟨cur, h5⟩ := own_typ h.recs ha
    exact hΛ _ (lt_of_block h5) (h.inn.2.2 a ha)
end
section
variable {w0 w w8 w9 : World} {Kp : Nat → Prop} {lb d : Nat} {R : Int} {S : List RF} {M M' : LogM} {V V' : LogV}
/-- A cell of the log's own. -/
theorem WPair.setCell (h : WPair w0 Kp lb d R S M V w) (i : Nat) (v : Value) (hs : ∀ Λ, LogAt w lb d M V Λ → LogAt (w.setCell ⟨lb, i, none⟩ v) lb d M' V' Λ) : WPair w0 Kp lb d R S M' V' (w.setCell ⟨lb, i, none⟩ v) ∧ Kept Kp w (w.setCell ⟨lb, i, none⟩ v) := by
  obtain ⟨Φ, Λ, hlog, hd, ha, hK⟩ := h.ex
  have hc2 : Chg (fun i => i = lb) w (w.setCell ⟨lb, i, none⟩ v) := Chg.set _ _ _ _
  have hcs := hc2.size
  have hlbΛ := hlog.inn.1
  have hb0 := h.below.size
  refine ⟨⟨h.below.trans (hc2.below hb0 fun i hi => by rw [hi]; exact (hK _ (.inr hlbΛ)).1), Φ, Λ, hs Λ hlog, hd.keep hc2 fun i h1 e => ?_, ha, fun i hi => ⟨(hK i hi).1, (hK i hi).2.1, by have := (hK i hi).2.2; omega⟩⟩, fun i hi => ?_, hcs⟩
  · have e' : i = lb := e
    rw [e'] at h1
    exact ha _ h1 hlbΛ
  · exact Below.heap_setCell _ _ _ _ fun e => (hK _ (.inr hlbΛ)).2.1 (by have e' : i = lb := e; rw [← e']; exact hi)
theorem WPair.setBase (h : WPair w0 Kp lb d R S M V w) (s : Nat) : WPair w0 Kp lb d R S { M with base := s } V (w.setCell ⟨lb, 3, none⟩ (.int .i64 s)) ∧ Kept Kp w (w.setCell ⟨lb, 3, none⟩ (.int .i64 s)) := h.setCell 3 _ fun _ hl => hl.setBase s
theorem WPair.setSynced (h : WPair w0 Kp lb d R S M V w) (s : Nat) : WPair w0 Kp lb d R S { M with synced := s } V (w.setCell ⟨lb, 6, none⟩ (.int .i64 s)) ∧ Kept Kp w (w.setCell ⟨lb, 6, none⟩ (.int .i64 s)) := h.setCell 6 _ fun _ hl => hl.setSynced s
/-- A new block of bytes is the log's now. -/
theorem WPair.setShot (h : WPair w0 Kp lb d R S M V w8) (hKp : ∀ k, Kp k → k < w8.heap.size) (hb9 : Below w8.heap.size w8 w9) {A : Option Addr} {c n : Nat} {xs : List Int} (ho9 : w9.ownsRow w8.heap.size 5 1 (.slice A n c) n (xs.map (Value.int .u8))) (hn : xs.length = n) (hx : ∀ x ∈ xs, 0 ≤ x ∧ x < 256) (hl : n ≤ 1048576) :
    WPair w0 Kp lb d R S { M with shot := xs } { V with tA := A, tC := c } (w9.setCell ⟨lb, 4, none⟩ (.slice A n c)) ∧ Kept Kp w8 (w9.setCell ⟨lb, 4, none⟩ (.slice A n c)) := by
  subst hn
  obtain ⟨Φ, Λ, hlog, hd, ha, hK⟩ := h.ex
  have hlog9 := hlog.later hb9
  have hs9 := hb9.size
  obtain ⟨Λ', hΛ'⟩ : ∃ Λ' : Nat → Prop, Λ' = fun i => Λ i ∨ (w8.heap.size ≤ i ∧ i < w9.heap.size) := ⟨_, rfl⟩
  have hΛ : ∀ i, i < w9.heap.size → Λ i → Λ' i := fun i _ h1 => by rw [hΛ']; exact .inl h1
  have hby : Byt w9 Λ' A c xs := Byt.of_new (Φ := fun _ => False) ho9 rfl hx hl (Chg.of_below (Below.refl _ _)) (fun _ _ h => h) fun i h1 h2 => by rw [hΛ']; exact .inr ⟨h1, h2⟩
  have hlogN := hlog9.setShot hby hΛ
  have hc2 : Chg (fun i => i = lb) w9 (w9.setCell ⟨lb, 4, none⟩ (.slice A xs.length c)) := Chg.set _ _ _ _
  have hcs := hc2.size
  have hlbΛ := hlog.inn.1
  have hb0 := h.below.size
  refine ⟨⟨h.below.trans ((hb9.mono hb0).trans (hc2.below (by omega) fun i hi => by rw [hi]; exact (hK _ (.inr hlbΛ)).1)), Φ, Λ', hlogN, (hd.later hb9).keep hc2 fun i h1 e => ?_, fun i h1 h2 => ?_, fun i hi => ?_⟩, fun i hi => ?_, by omega⟩
  · have e' : i = lb := e
    rw [e'] at h1
    exact ha _ h1 hlbΛ
  · rw [hΛ'] at h2
    rcases h2 with h2 | h2
    · exact ha i h1 h2
    · have := (hK i (.inl h1)).2.2
      omega
  · rcases hi with hi | hi
    · exact ⟨(hK i (.inl hi)).1, (hK i (.inl hi)).2.1, by have := (hK i (.inl hi)).2.2; omega⟩
    · rw [hΛ'] at hi
      rcases hi with hi | hi
      · exact ⟨(hK i (.inr hi)).1, (hK i (.inr hi)).2.1, by have := (hK i (.inr hi)).2.2; omega⟩
      · exact ⟨by omega, fun h9 => by have := hKp i h9; omega, by omega⟩
  · rw [Below.heap_setCell _ _ _ _ fun e => (hK _ (.inr hlbΛ)).2.1 (by have e' : i = lb := e; rw [← e']; exact hi)]
    exact hb9.block i (hKp i hi)
end
end Go.Proofs.YtnomicnmpllajaaGreatDoor
end

section
namespace Go.Proofs.YtnomicnmpllajaaGreatDoor
open Go Go.RowKit

section
variable {w0 w w8 w9 w99 : World} {Kp : Nat → Prop} {lb d : Nat} {R : Int} {S : List RF} {M : LogM} {V : LogV}
/-- The records' list is one of a new row, which says a part of what was there. -/
theorem WPair.newRecs (h : WPair w0 Kp lb d R S M V w8) (hKp : ∀ k, Kp k → k < w8.heap.size) (hb9 : Below w8.heap.size w8 w9) {A' : Option Addr} {c' : Nat} {l : List (List Int)} {rv' : List (Option Addr × Nat)} (hl : rv'.length = l.length)
    (ho : w9.ownsRow w8.heap.size 33 1 (.slice A' l.length c') l.length (recC rv' l)) (hsub : ∀ (j : Nat) (p : Option Addr × Nat) (xs : List Int), rv'[j]? = some p → l[j]? = some xs → ∃ i : Nat, V.rv[i]? = some p ∧ M.recs[i]? = some xs) :
    WPair w0 Kp lb d R S { M with recs := l } { V with rA := A', rC := c', rv := rv' } (w9.setCell ⟨lb, 5, none⟩ (.slice A' l.length c')) ∧ Kept Kp w8 (w9.setCell ⟨lb, 5, none⟩ (.slice A' l.length c')) := by
  obtain ⟨Φ, Λ, hlog, hd, ha, hK⟩ := h.ex
  have hlog9 := hlog.later hb9
  have hs9 := hb9.size
  obtain ⟨Λ', hΛ'⟩ : ∃ Λ' : Nat → Prop, Λ' = fun i => Λ i ∨ (w8.heap.size ≤ i ∧ i < w9.heap.size) := ⟨_, rfl⟩
  have hΛ : ∀ i, i < w9.heap.size → Λ i → Λ' i := fun i _ h1 => by rw [hΛ']; exact .inl h1
  have hlogN := hlog9.setRecs (w1 := w9) (l := l) (rv' := rv') (ho.mono (Nat.zero_le _)) hl (Chg.of_below (Below.refl _ _)) (fun a e => by
    have hlt := ho.lt a.block (by rw [e]; rfl)
    rw [hΛ']
    exact .inr hlt) hΛ (fun j p xs hp hx => by
    obtain ⟨i, h1, h2⟩ := hsub j p xs hp hx
    exact (hlog9.each i p xs h1 h2).mono hΛ)
  have hc2 : Chg (fun i => i = lb) w9 (w9.setCell ⟨lb, 5, none⟩ (.slice A' l.length c')) := Chg.set _ _ _ _
  have hcs := hc2.size
  have hlbΛ := hlog.inn.1
  have hb0 := h.below.size
  refine ⟨⟨h.below.trans ((hb9.mono hb0).trans (hc2.below (by omega) fun i hi => by rw [hi]; exact (hK _ (.inr hlbΛ)).1)), Φ, Λ', hlogN, (hd.later hb9).keep hc2 fun i h1 e => ?_, fun i h1 h2 => ?_, fun i hi => ?_⟩, fun i hi => ?_, by omega⟩
  · have e' : i = lb := e
    rw [e'] at h1
    exact ha _ h1 hlbΛ
  · rw [hΛ'] at h2
    rcases h2 with h2 | h2
    · exact ha i h1 h2
    · have := (hK i (.inl h1)).2.2
      omega
  · rcases hi with hi | hi
    · exact ⟨(hK i (.inl hi)).1, (hK i (.inl hi)).2.1, by have := (hK i (.inl hi)).2.2; omega⟩
    · rw [hΛ'] at hi
      rcases hi with hi | hi
      · exact ⟨(hK i (.inr hi)).1, (hK i (.inr hi)).2.1, by have := (hK i (.inr hi)).2.2; omega⟩
      · exact ⟨by omega, fun h9 => by have := hKp i h9; omega, by omega⟩
  · rw [Below.heap_setCell _ _ _ _ fun e => (hK _ (.inr hlbΛ)).2.1 (by have e' : i = lb := e; rw [← e']; exact hi)]
    exact hb9.block i (hKp i hi)
/-- The records' list is one of the row that was there, which has been written. -/
theorem WPair.putRecs {Ψ : Nat → Prop} (h : WPair w0 Kp lb d R S M V w) (hKp : ∀ k, Kp k → k < w.heap.size) {A' : Option Addr} {c' : Nat} {l : List (List Int)} {rv' : List (Option Addr × Nat)} (hl : rv'.length = l.length)
    (ho : w99.ownsRow 0 33 1 (.slice A' l.length c') l.length (recC rv' l)) (hsub : ∀ (j : Nat) (p : Option Addr × Nat) (xs : List Int), rv'[j]? = some p → l[j]? = some xs → ∃ i : Nat, V.rv[i]? = some p ∧ M.recs[i]? = some xs)
    (hc : Chg Ψ w w99) (hΨ : ∀ i, Ψ i → ∃ a, V.rA = some a ∧ a.block = i) (hA : ∀ a, A' = some a → ∃ a2, V.rA = some a2 ∧ a2.block = a.block) :
    WPair w0 Kp lb d R S { M with recs := l } { V with rA := A', rC := c', rv := rv' } (w99.setCell ⟨lb, 5, none⟩ (.slice A' l.length c')) ∧ Kept Kp w (w99.setCell ⟨lb, 5, none⟩ (.slice A' l.length c')) := by
  obtain ⟨Φ, Λ, hlog, hd, ha, hK⟩ := h.ex
  have hc' : Chg (fun i => ∃ a, V.rA = some a ∧ a.block = i) w w99 := hc.mono fun i _ hi => hΨ i hi
  have hrB : ∀ a, V.rA = some a → Λ a.block := fun a e => hlog.inn.2.2 a e
  have hlogN := hlog.setRecs (w1 := w99) (l := l) (rv' := rv') ho hl hc' (fun a e => by obtain ⟨a2, e2, hb⟩ := hA a e; rw [← hb]; exact hrB a2 e2) (fun _ _ h1 => h1) fun j p xs hp hx => by
    obtain ⟨i, h1, h2⟩ := hsub j p xs hp hx
    have hb := hlog.each i p xs h1 h2
    refine hb.but hc' fun a e ⟨a', e', hb'⟩ => ?_
    obtain ⟨_, cur, h3⟩ := hb.inn a e
    obtain ⟨cur', h4⟩ := own_typ hlog.recs e'
    exact ne_of_typ h4 h3 (by decide) hb'
  have hc2 : Chg (fun i => i = lb) w99 (w99.setCell ⟨lb, 5, none⟩ (.slice A' l.length c')) := Chg.set _ _ _ _
  have hcs := hc'.size
  have hcs2 := hc2.size
  have hlbΛ := hlog.inn.1
  have hb0 := h.below.size
  refine ⟨⟨?_, Φ, Λ, hlogN, ?_, ha, fun i hi => ⟨(hK i hi).1, (hK i hi).2.1, by have := (hK i hi).2.2; omega⟩⟩, fun i hi => ?_, by omega⟩
  · exact h.below.trans ((hc'.below hb0 fun i ⟨a, e, hb⟩ => by rw [← hb]; exact (hK _ (.inr (hrB a e))).1).trans (hc2.below (by omega) fun i hi => by rw [hi]; exact (hK _ (.inr hlbΛ)).1))
  · refine (hd.keep hc' fun i h1 ⟨a, e, hb⟩ => ?_).keep hc2 fun i h1 e => ?_
    · rw [← hb] at h1
      exact ha _ h1 (hrB a e)
    · have e' : i = lb := e
      rw [e'] at h1
      exact ha _ h1 hlbΛ
  · rw [Below.heap_setCell _ _ _ _ fun e => (hK _ (.inr hlbΛ)).2.1 (by have e' : i = lb := e; rw [← e']; exact hi)]
    exact hc'.block i (hKp i hi) fun ⟨a, e, hb⟩ => (hK _ (.inr (hrB a e))).2.1 (by rw [hb]; exact hi)
end
end Go.Proofs.YtnomicnmpllajaaGreatDoor
end

section
namespace Go.Proofs.YtnomicnmpllajaaGreatDoor
open Go Go.RowKit

section
variable {w0 w wr w' : World} {Kp Kp' : Nat → Prop} {lb d : Nat} {R : Int} {S S' : List RF} {M : LogM} {V : LogV}
theorem recC_drop : ∀ (rv : List (Option Addr × Nat)) (l : List (List Int)) (q : Nat), recC (rv.drop q) (l.drop q) = (recC rv l).drop q
  | rv, l, 0 => by simp
  | [], l, q + 1 => by simp [recC]
  | x :: rv, [], q + 1 => by simp [recC]
  | x :: rv, y :: l, q + 1 => by
    have := recC_drop rv l q
    simpa [recC] using this
theorem recC_len (rv : List (Option Addr × Nat)) (l : List (List Int)) (h : rv.length = l.length) : (recC rv l).length = l.length := by simp [recC, h]
theorem recC_one (rv : List (Option Addr × Nat)) (l : List (List Int)) : ∀ u ∈ recC rv l, u.oneCell' = true := fun u hu => by
  obtain ⟨i, hi, rfl⟩ := List.mem_iff_getElem.1 hu
  simp [recC, Value.oneCell']
/-- What the list of records becomes: a new row of those behind the first q. -/
theorem WPair.lessRecs {w8 : World} (h : WPair w0 Kp lb d R S M V w8) (hKp : ∀ k, Kp k → k < w8.heap.size) {q r : Nat} (hr : r = M.recs.length) {v9 : Value} {w9 : World}
    (ho : w9.ownsRow w8.heap.size 33 1 v9 (0 + (r - q)) ([] ++ (recC V.rv M.recs).drop q)) (hg : w8.drew.grownBy w9 (Value.slice none 0 0).ownBlock) :
    ∃ A9 c9, v9 = .slice A9 (r - q) c9 ∧ w9.cell? ⟨lb, 5, none⟩ = some (.slice V.rA r V.rC) ∧ w9.frozen? ⟨lb, 5, none⟩ = false ∧
      Hid (∃ V2, WPair w0 Kp lb d R S { M with recs := M.recs.drop q } V2 (w9.setCell ⟨lb, 5, none⟩ (.slice A9 (r - q) c9)) ∧ Kept Kp w8 (w9.setCell ⟨lb, 5, none⟩ (.slice A9 (r - q) c9))) := by
  rw [Nat.zero_add, List.nil_append] at ho
  obtain ⟨A9, c9, rfl⟩ := own_shape ho
  have hb9 : Below w8.heap.size w8 w9 := ((Below.refl w8.heap.size w8).drew).grown hg (Nat.le_refl _) fun i hi => by simp [Value.ownBlock] at hi
  obtain ⟨Φ, Λ, hlog, _⟩ := h.ex
  obtain ⟨_, _, _, _, _, _, c5, _, cf⟩ := (h.later hb9).cells
  have hlen : (M.recs.drop q).length = r - q := by rw [List.length_drop, hr]
  have hp := h.newRecs hKp hb9 (l := M.recs.drop q) (rv' := V.rv.drop q) (A' := A9) (c' := c9) (by rw [List.length_drop, List.length_drop, hlog.rlen]) (by rw [hlen, recC_drop]; exact ho) fun j p xs h1 h2 => ⟨q + j, by rw [List.getElem?_drop] at h1; exact h1, by rw [List.getElem?_drop] at h2; exact h2⟩
  rw [hlen] at hp
  rw [hr]
  rw [hr] at hp
  exact ⟨A9, c9, rfl, c5, cf 5, Lib.hid ⟨_, hp⟩⟩
theorem setCell_comm (w : World) (b i j : Nat) (u v : Value) (h : i ≠ j) : (w.setCell ⟨b, i, none⟩ u).setCell ⟨b, j, none⟩ v = (w.setCell ⟨b, j, none⟩ v).setCell ⟨b, i, none⟩ u := by
  unfold World.setCell
  simp only
  congr 1
  apply Array.ext
  · simp
  · intro k h1 h2
    by_cases hk : k = b
    · subst hk
      simp only [Array.getElem_modify_self]
      have hk' : k < w.heap.size := by simpa using h1
      generalize w.heap[k] = o
      cases o with
      | cells c e f => simp [Array.setIfInBounds_comm u v h]
      | _ => rfl
    · simp [Array.getElem_modify, Ne.symm hk]
def newN : List UInt8 := [115, 110, 97, 112, 46, 110, 101, 119]
def snapN : List UInt8 := [115, 110, 97, 112]
/-- What the disk has when the new snapshot is in its place. -/
def snapF (S' : List RF) : List RF := (renameF (syncF S' newN).1 newN snapN).1
set_option maxHeartbeats 3200000 in
set_option maxRecDepth 100000 in
theorem Snap_ok (h : WPair w0 Kp lb d R S M V w) (hKp : ∀ k, Kp k → k < w.heap.size) (ht : Tab w0) (hk : LogOk M) {A : Option Addr} {n c : Nat} {xs : List Int} (hr : Rd w w.heap.size .u8 A n c xs) (hx : ∀ x ∈ xs, 0 ≤ x ∧ x < 256) (hA : ∀ a, A = some a → 0 < n → Kp a.block)
    (hn : n ≤ 4000) {k : Nat} (hk1 : M.base ≤ k) (hk2 : k ≤ M.synced) (hk3 : k ≤ M.last) (hk4 : k < 100000000) (hS : S.length ≤ 1000000) (hrm : appendF R S newN (sealF (enc k ++ xs)) = (S', 0)) (hS2 : (syncF S' newN).1.length ≤ 1000000) :
    Calls Tryz.prog 29 #[.pointer (some ⟨lb, 0, none⟩), .int .i64 k, .slice A n c] w fun e w' => e = .returned (.int .i64 0) ∧ ∃ V', WPair w0 Kp lb d R (removes (snapF S') (M.segs.take (goneN M.segs k))) { M with recs := M.recs.drop (k - M.base), base := k, shot := xs, segs := M.segs.drop (goneN M.segs k) } V' w' ∧ Kept Kp w w' := by
  obtain ⟨l8, l0, _, _, l3, _, l5, l6, lf⟩ := h.cells
  have hel : (enc k).length ≤ 9 := enc_len9 (by omega)
  have hep := enc_pos k
  obtain ⟨m, hm⟩ : ∃ m, m = (enc k).length := ⟨_, rfl⟩
  rw [← hm] at hel hep
  have HNUM : Hid (Calls Tryz.prog 32 #[.slice none 0 0, .int .i64 k] w fun e w1 => ∃ nA nC, e = .returned (.slice nA m nC) ∧ Hid (w1.ownsRow w.heap.size 5 1 (.slice nA m nC) m ((enc k).map (Value.int .u8))) ∧ Hid (Below w.heap.size w w1 ∧ Rd w1 w1.heap.size .u8 A n c xs) ∧ w.heap.size ≤ w1.heap.size) := Lib.hid (by
    refine (Num_any none 0 0 [] k w (Rd.none_ _ _ _) (by omega) (by omega) (by omega)).mono ?_
    rintro e w1 ⟨v, rfl, ho, hb⟩
    simp only [List.nil_append, Int.toNat_natCast] at ho
    rw [← hm] at ho
    obtain ⟨nA, nC, rfl⟩ := own_shape ho
    exact ⟨nA, nC, rfl, Lib.hid ho, Lib.hid ⟨hb, (hr.below hb).more hb.size⟩, hb.size⟩)
  have HAP : Hid (∀ w1 nA nC v4 w4, w1.ownsRow w.heap.size 5 1 (.slice nA m nC) m ((enc k).map (Value.int .u8)) → Below w.heap.size w w1 → w4.ownsRow w.heap.size 5 1 v4 (m + n) ((enc k).map (Value.int .u8) ++ xs.map (Value.int .u8)) → w1.grownBy w4 (Value.slice nA m nC).ownBlock →
      ∃ A4 c4, v4 = .slice A4 (m + n) c4 ∧ Hid (Calls Tryz.prog 31 #[.slice A4 (m + n) c4] w4 fun e w5 => ∃ vA vC, e = .returned (.tuple #[.slice vA (m + n + 6) vC, .int .i64 0]) ∧ Hid (Rd w5 w5.heap.size .u8 vA (m + n + 6) vC (sealF (enc k ++ xs))) ∧ Hid (Below w.heap.size w w5))) := Lib.hid fun w1 nA nC v4 w4 ho1 hb1 ho4 hg4 => by
    have hb4 := hb1.grown hg4 hb1.size fun i hi => (ho1.lt i hi).1
    rw [← List.map_append] at ho4
    obtain ⟨A4, c4, rfl, hr4⟩ := Rd.of_own ho4
    refine ⟨A4, c4, rfl, Lib.hid ?_⟩
    refine (Seal_any A4 (m + n) c4 (enc k ++ xs) w4 hr4 (fun x h => (List.mem_append.1 h).elim (enc_bytes k x) (hx x)) (by omega)).mono ?_
    rintro e w5 ⟨v, rfl, ho, hb⟩
    obtain ⟨vA, vC, rfl, hrd⟩ := Rd.of_own ho
    exact ⟨vA, vC, rfl, Lib.hid hrd, Lib.hid (hb4.trans (hb.mono hb4.size))⟩
  have HDK : Hid (∀ w5 vA vC, Rd w5 w5.heap.size .u8 vA (m + n + 6) vC (sealF (enc k ++ xs)) → Below w.heap.size w w5 → Calls Tryz.prog 33 #[.pointer (some ⟨d, 0, none⟩), .string ⟨#[115, 110, 97, 112, 46, 110, 101, 119]⟩, .slice vA (m + n + 6) vC] w5 fun e w6 => e = .returned (.int .i64 0) ∧ w6.cell? ⟨lb, 0, none⟩ = some (.pointer (some ⟨d, 0, none⟩)) ∧
      Hid (Calls Tryz.prog 56 #[.pointer (some ⟨d, 0, none⟩), .string ⟨#[115, 110, 97, 112, 46, 110, 101, 119]⟩] w6 fun e w7 => ∃ r : Int, e = .returned (.int .i64 r) ∧ w7.cell? ⟨lb, 0, none⟩ = some (.pointer (some ⟨d, 0, none⟩)) ∧
        Hid (Calls Tryz.prog 57 #[.pointer (some ⟨d, 0, none⟩), .string ⟨#[115, 110, 97, 112, 46, 110, 101, 119]⟩, .string ⟨#[115, 110, 97, 112]⟩] w7 fun e w8 => ∃ r : Int, e = .returned (.int .i64 r) ∧ Hid (WPair w0 Kp lb d R (snapF S') M V w8 ∧ Kept Kp w w8)))) := Lib.hid fun w5 vA vC hrd hb5 => by
    have h5 := h.later hb5
    have hk5 : Kept Kp w w5 := Kept.of_below hb5 hKp
    have hKK : ∀ W, Kept Kp w W → ∀ i, Kp i → i < W.heap.size := fun W hW i hi => Nat.lt_of_lt_of_le (hKp i hi) hW.2
    have hmax : (8 : Nat) ≤ maxLen := by unfold maxLen; omega
    refine (h5.dapp (hKK w5 hk5) ⟨#[115, 110, 97, 112, 46, 110, 101, 119]⟩ hmax vA (m + n + 6) vC _ hrd (sealF_bytes fun x h => (List.mem_append.1 h).elim (enc_bytes k x) (hx x)) hS).mono ?_
    rintro e w6 ⟨rfl, h6, hk6⟩
    have e1 : appendF R S (ByteArray.mk #[115, 110, 97, 112, 46, 110, 101, 119]).data.toList (sealF (enc k ++ xs)) = (S', 0) := hrm
    rw [e1] at h6 ⊢
    have hk6' := hk5.trans hk6
    refine ⟨rfl, h6.cells.2.1, Lib.hid ?_⟩
    refine (h6.dsync (hKK w6 hk6') ⟨#[115, 110, 97, 112, 46, 110, 101, 119]⟩ hmax).mono ?_
    rintro e w7 ⟨rfl, h7, hk7⟩
    have hk7' := hk6'.trans hk7
    refine ⟨_, rfl, h7.cells.2.1, Lib.hid ?_⟩
    refine (h7.drename (hKK w7 hk7') ⟨#[115, 110, 97, 112, 46, 110, 101, 119]⟩ ⟨#[115, 110, 97, 112]⟩ hmax (by show (4 : Nat) ≤ maxLen; unfold maxLen; omega) hS2).mono ?_
    rintro e w8 ⟨rfl, h8, hk8⟩
    exact ⟨_, rfl, Lib.hid ⟨h8, hk7'.trans hk8⟩⟩
  have HCL : Hid (∀ q wx V2, q = k - M.base → WPair w0 Kp lb d R (snapF S') { M with recs := M.recs.drop q } V2 wx → Kept Kp w wx → Calls Tryz.prog 55 #[.slice A n c] wx fun e wc => ∃ cA cC, e = .returned (.slice cA n cC) ∧ wc.cell? ⟨lb, 3, none⟩ = some (.int .i64 M.base) ∧ wc.cell? ⟨lb, 4, none⟩ = some (.slice V2.tA M.shot.length V2.tC) ∧ wc.frozen? ⟨lb, 3, none⟩ = false ∧ wc.frozen? ⟨lb, 4, none⟩ = false ∧
      Hid (Calls Tryz.prog 58 #[.pointer (some ⟨lb, 0, none⟩), .int .i64 k] ((wc.setCell ⟨lb, 3, none⟩ (.int .i64 k)).setCell ⟨lb, 4, none⟩ (.slice cA n cC)) fun e w' => e = .returned (.tuple #[]) ∧ Hid (∃ V', WPair w0 Kp lb d R (removes (snapF S') (M.segs.take (goneN M.segs k))) { M with recs := M.recs.drop (k - M.base), base := k, shot := xs, segs := M.segs.drop (goneN M.segs k) } V' w' ∧ Kept Kp w w'))) := Lib.hid fun q wx V2 hq hp hkx => by
    have hKx : ∀ i, Kp i → i < wx.heap.size := fun i hi => Nat.lt_of_lt_of_le (hKp i hi) hkx.2
    refine (Clone_any A n c xs wx (hr.kept hkx hA) (by omega)).mono ?_
    rintro e wc ⟨v, rfl, ho, hb⟩
    obtain ⟨cA, cC, rfl⟩ := own_shape ho
    obtain ⟨_, _, _, _, c3, c4, _, _, cf⟩ := (hp.later hb).cells
    refine ⟨cA, cC, rfl, c3, c4, cf 3, cf 4, Lib.hid ?_⟩
    obtain ⟨h1, k1⟩ := hp.setShot hKx hb ho hr.len hx (by omega)
    obtain ⟨h2, k2⟩ := h1.setBase k
    rw [setCell_comm _ _ _ _ _ _ (by omega)] at h2 k2
    have hk2 := (hkx.trans k1).trans k2
    have hrn := hk.recn
    refine (removeUpTo_any h2 (fun i hi => Nat.lt_of_lt_of_le (hKp i hi) hk2.2) ht ⟨hk.size, hk.segn, by show (M.recs.drop q).length ≤ _; rw [List.length_drop]; omega, hk4, hk.segs, hk.synced⟩ (a := k) (by omega)).mono ?_
    rintro e w' ⟨rfl, V', h3, k3⟩
    subst hq
    exact ⟨rfl, Lib.hid ⟨V', h3, hk2.trans k3⟩⟩
  obtain ⟨u0, ui, uz0, uz1, uz2⟩ := info_parts info_u8
  have HXL := Lib.hid hr.len
  have d1 : decide ((k : Int) < M.base) = false := decide_eq_false (by omega)
  have d2 : decide ((M.synced : Int) < k) = false := decide_eq_false (by omega)
  have d1' : decide (k < M.base) = false := decide_eq_false (by omega)
  have d2' : decide (M.synced < k) = false := decide_eq_false (by omega)
  have d3 : decide ((4000 : Int) < n) = false := decide_eq_false (by omega)
  have d4 : decide ((100000000 : Int) ≤ k) = false := decide_eq_false (by omega)
  go_enter Tryz.func29, Tryz.ntmps29
  go_upto_region 5 with fail
  clear hm
  go_upto_region 8 with (first
    | (go_at_call 32; refine HNUM.out.mono ?_; rintro e w1 ⟨nA, nC, rfl, HN1, HB1, hw1⟩)
    | (at_builtin; refine wpList_append_src (o := ⟨some 35, _, _, _, _, _⟩) rfl (.tmp 33) (.tmp 34) 33 rfl w.heap.size 5 u0 _ 1 1 Tryz.underlying33 ui uz0 uz1 uz2 rfl (by omega) _ m _ rfl HN1.out A n c (xs.map (Value.int .u8)) rfl (by rw [List.length_map, HXL.out, Nat.mul_one]) HB1.out.2.nil HB1.out.2.news (ints_oneCell _ _) (by unfold maxLen; omega) (by omega) hw1 ?_; intro v4 w4 ho4 hg4; obtain ⟨A4, c4, rfl, HSL⟩ := HAP.out w1 nA nC v4 w4 HN1.out HB1.out.1 ho4 hg4; clear ho4 hg4)
    | (go_at_call 31; refine HSL.out.mono ?_; rintro e w5 ⟨vA, vC, rfl, HR5, HB5⟩))
  have h5 := h.later HB5.out
  obtain ⟨m8, m0, _, _, m3, _, m5, m6, mf⟩ := h5.cells
  have HD5 := Lib.hid (HDK.out w5 vA vC HR5.out HB5.out)
  clear h5 l8 l0 l3 l5 l6 lf HNUM HAP HDK HSL HR5
  go_upto_region 13 with (first
    | (go_at_call 33; refine HD5.out.mono ?_; rintro e w6 ⟨rfl, x0, HD6⟩)
    | (go_at_call 56; refine HD6.out.mono ?_; rintro e w7 ⟨r7, rfl, y0, HD7⟩)
    | (go_at_call 57; refine HD7.out.mono ?_; rintro e w8 ⟨r8, rfl, HP8⟩))
  clear HD5 HD6 HD7 m0 m3 m5 m6 mf m8 x0 y0
  obtain ⟨n8, n0, _, _, n3, _, n5, _, nf⟩ := HP8.out.1.cells
  obtain ⟨q, hq⟩ : ∃ q, q = k - M.base := ⟨_, rfl⟩
  obtain ⟨r, hrr⟩ : ∃ r, r = M.recs.length := ⟨_, rfl⟩
  have hlast : M.last = M.base + M.recs.length := rfl
  have hqr : q ≤ r := by omega
  have hq' : (k : Int) - (M.base : Int) = (q : Int) := by omega
  have HQ := Lib.hid hq
  have HRR := Lib.hid hrr
  rw [← hrr] at n5
  have HLR : Hid (∀ v9 w9, w9.ownsRow w8.heap.size 33 1 v9 (0 + (r - q)) ([] ++ (recC V.rv M.recs).drop q) → w8.drew.grownBy w9 (Value.slice none 0 0).ownBlock → _) := Lib.hid fun v9 w9 h1 h2 => HP8.out.1.lessRecs (fun i hi => Nat.lt_of_lt_of_le (hKp i hi) HP8.out.2.2) hrr h1 h2
  have HRO : Hid (w8.drew.ownsRow 0 33 1 (.slice V.rA r V.rC) r (recC V.rv M.recs)) := Lib.hid (by
    obtain ⟨Φ, Λ, hlog, _⟩ := HP8.out.1.ex
    rw [hrr]
    exact (hlog.later (Below.refl _ _).drew).recs)
  clear hq hrr hlast
  obtain ⟨i0, hi, hz0, hz1, hz2⟩ := info_parts info_row
  cases hrA : V.rA with
  | none =>
    obtain ⟨hr0, hc0⟩ : r = 0 ∧ V.rC = 0 := by
      rcases HRO.out.2 with ⟨e, e2⟩ | ⟨gb, cap, cur, e, _⟩
      · rw [hrA] at e
        exact ⟨e2, (Value.slice.inj e).2.2⟩
      · rw [hrA] at e
        cases e
    obtain rfl : q = 0 := by omega
    subst hr0
    rw [hrA, hc0] at n5
    have HNL : Hid (((recC V.rv M.recs).drop 0).length = 0 * 1) := Lib.hid (by rw [List.drop_zero, HRO.out.1])
    have HN1 : Hid (∀ u ∈ (recC V.rv M.recs).drop 0, u.oneCell' = true) := Lib.hid fun u hu => recC_one _ _ u (List.mem_of_mem_drop hu)
    have hq2 : (k : Int) - (M.base : Int) = 0 := by omega
    have hw : IntKind.i64.wrap 0 = 0 := by decide
    clear hrA hq' hc0
    go_region_law (refine step_append_where (o := ⟨some 73, _, _, _, _, _⟩) rfl (.const (.slice none 0 0)) (.tmp 72) 34 rfl w8.heap.size 33 i0 _ 1 24 Tryz.underlying34 hi hz0 hz1 hz2 rfl (by omega) (.slice none 0 0) 0 [] rfl (World.ownsRow_nil _ _ _ _) none 0 0 ((recC V.rv M.recs).drop 0) (by simp [Act.eval, Act.put]) HNL.out (fun _ => ⟨rfl, rfl⟩) (fun ad e => by cases e) HN1.out (by unfold maxLen; omega) (by omega) (Nat.le_refl _) ?_; intro v9 w9 ho9 hg9 hz9; obtain ⟨A9, c9, rfl, c95, cf9, HP9⟩ := HLR.out v9 w9 ho9 hg9; clear ho9 hg9 hz9)
    all_goals
      clear n0 n3 n5 nf c95 cf9 hw hq2 HNL HN1 HLR HRO
      have HKA := Lib.hid HP8.out.2
      obtain ⟨V2, hp9, hk9⟩ := HP9.out
      have HPX := Lib.hid hp9
      have HKX := Lib.hid (HKA.out.trans hk9)
      clear hp9 hk9 HP9 HP8 HKA
      generalize w9.setCell { block := lb, off := 5 } (Value.slice A9 (0 - 0) c9) = wx at *
      obtain ⟨_, _, _, _, n3, n4, _, _, nf⟩ := HPX.out.cells
      have HCX := Lib.hid (HCL.out 0 wx V2 HQ.out HPX.out HKX.out)
      go_wp2_with (first
        | (go_at_call 55; refine HCX.out.mono ?_; rintro e wc ⟨cA, cC, rfl, z3, z4, zf3, zf4, HRU⟩)
        | (go_at_call 58; refine HRU.out.mono ?_; rintro e we ⟨rfl, HFIN⟩))
      go_ret
      exact ⟨rfl, HFIN.out⟩
  | some g =>
    obtain ⟨gb, hgb, hrc1, hrc2⟩ : ∃ gb, g = ⟨gb, 0, none⟩ ∧ r ≤ V.rC ∧ V.rC ≤ 9223372036854775807 := by
      rcases HRO.out.2 with ⟨e, _⟩ | ⟨gb, cap, cur, e, _, _, h4, h5, _⟩
      · rw [hrA] at e; cases e
      · rw [hrA] at e
        unfold maxLen at h5
        have e1 := Value.slice.inj e
        exact ⟨gb, Option.some.inj e1.1, by rw [e1.2.2]; exact h4, by rw [e1.2.2]; exact h5⟩
    subst hgb
    rw [hrA] at n5 HRO
    obtain ⟨B, hB, HSRC⟩ : ∃ B : Addr, (if V.rC = q then some (⟨gb, 0, none⟩ : Addr) else some ⟨gb, q, none⟩) = some B ∧ Hid (∀ t u, ((recC V.rv M.recs).drop q)[t]? = some u → w8.drew.cell? (B.add t) = some u) := by
      by_cases e : V.rC = q
      · refine ⟨⟨gb, 0, none⟩, by simp [e], Lib.hid fun t u hu => ?_⟩
        have h1 := (List.getElem?_eq_some_iff.1 hu).1
        rw [List.length_drop, HRO.out.1] at h1
        omega
      · refine ⟨⟨gb, q, none⟩, by simp [e], Lib.hid fun t u hu => ?_⟩
        rw [List.getElem?_drop] at hu
        have := HRO.out.cells (g := gb) rfl _ u hu
        rw [Addr.add_lit, Nat.zero_add] at this
        rw [Addr.add_lit]
        exact this
    have HNL : Hid (((recC V.rv M.recs).drop q).length = (r - q) * 1) := Lib.hid (by rw [List.length_drop, HRO.out.1, Nat.mul_one, Nat.mul_one])
    have HN1 : Hid (∀ u ∈ (recC V.rv M.recs).drop q, u.oneCell' = true) := Lib.hid fun u hu => recC_one _ _ u (List.mem_of_mem_drop hu)
    have hrn : r ≤ 1000000 := by rw [HRR.out]; exact hk.recn
    clear hrA
    have hw : IntKind.i64.wrap (q : Int) = (q : Int) := IntWalk.i64_in _ (by omega)
    have hqr' : (q : Int) ≤ (r : Int) := by omega
    have hq0 : (0 : Int) ≤ (q : Int) := by omega
    go_region_law (refine step_append_where (o := ⟨some 73, _, _, _, _, _⟩) rfl (.const (.slice none 0 0)) (.tmp 72) 34 rfl w8.heap.size 33 i0 _ 1 24 Tryz.underlying34 hi hz0 hz1 hz2 rfl (by omega) (.slice none 0 0) 0 [] rfl (World.ownsRow_nil _ _ _ _) (some B) (r - q) (V.rC - q) ((recC V.rv M.recs).drop q) (by simp [Act.eval, Act.put]) HNL.out (fun e => by cases e) (fun ad e t u hu => by cases e; exact HSRC.out t u hu) HN1.out (by unfold maxLen; omega) (by omega) (Nat.le_refl _) ?_; intro v9 w9 ho9 hg9 hz9; obtain ⟨A9, c9, rfl, c95, cf9, HP9⟩ := HLR.out v9 w9 ho9 hg9; clear ho9 hg9 hz9)
    all_goals
      clear n0 n3 n5 nf c95 cf9 hw hq' hB HSRC HNL HN1 HLR HRO
      have HKA := Lib.hid HP8.out.2
      obtain ⟨V2, hp9, hk9⟩ := HP9.out
      have HPX := Lib.hid hp9
      have HKX := Lib.hid (HKA.out.trans hk9)
      clear hp9 hk9 HP9 HP8 HKA
      generalize w9.setCell { block := lb, off := 5 } (Value.slice A9 (r - q) c9) = wx at *
      obtain ⟨_, _, _, _, n3, n4, _, _, nf⟩ := HPX.out.cells
      have HCX := Lib.hid (HCL.out q wx V2 HQ.out HPX.out HKX.out)
      go_wp2_with (first
        | (go_at_call 55; refine HCX.out.mono ?_; rintro e wc ⟨cA, cC, rfl, z3, z4, zf3, zf4, HRU⟩)
        | (go_at_call 58; refine HRU.out.mono ?_; rintro e we ⟨rfl, HFIN⟩))
      go_ret
      exact ⟨rfl, HFIN.out⟩
end
end Go.Proofs.YtnomicnmpllajaaGreatDoor
end

section
namespace Go.Proofs.YtnomicnmpllajaaGreatDoor
open Go Go.RowKit Go.Extern.Stop Go.Stop Go.Extern

theorem isTypeOf (v : Value) (w : World) : (Extern.ReflectliteType.typeOf #[.iface 49 v]).run Tryz.prog w = .ok (.iface 152 (.agg #[.pointer (some ⟨5, 49, none⟩)])) w := by kernel_rfl
/-- The entry of Comparable. -/
noncomputable def entryC : Array Value → Sem Value := Extern.ReflectliteType.method fun t => do Extern.Rtype.noPackHeld "Comparable" t; pure (.bool (← typeInfo t).comparable)
theorem isComparable (w : World) : (entryC #[.agg #[.pointer (some ⟨5, 49, none⟩)]]).run Tryz.prog w = .ok (.bool true) w := by kernel_rfl
theorem isComp : (Tryz.prog.info? 49).map (·.comparable) = some true := by kernel_rfl
theorem noIsE (v : Value) (xT : TypeId) (w : World) : (Instr.typeAssert (.iface 49 v) xT 163 true).run Tryz.prog w = .ok (.tuple #[.nilIface, .bool false]) w := run_typeAssert_lacksB Tryz.underlying163 (by kernel_rfl) (by kernel_rfl) v xT w
theorem noUnwrapE (v : Value) (xT : TypeId) (w : World) : (Instr.typeAssert (.iface 49 v) xT 159 true).run Tryz.prog w = .ok (.tuple #[.nilIface, .bool false]) w := run_typeAssert_lacksB Tryz.underlying159 (by kernel_rfl) (by kernel_rfl) v xT w
theorem noUnwrapsE (v : Value) (xT : TypeId) (w : World) : (Instr.typeAssert (.iface 49 v) xT 160 true).run Tryz.prog w = .ok (.tuple #[.nilIface, .bool false]) w := run_typeAssert_lacksB Tryz.underlying160 (by kernel_rfl) (by kernel_rfl) v xT w
theorem noIsB (v : Value) (xT : TypeId) (w : World) : (Instr.typeAssert (.iface 63 v) xT 163 true).run Tryz.prog w = .ok (.tuple #[.nilIface, .bool false]) w := run_typeAssert_lacksB Tryz.underlying163 (by kernel_rfl) (by kernel_rfl) v xT w
theorem hasUnwrapB (v : Value) (xT : TypeId) (w : World) : (Instr.typeAssert (.iface 63 v) xT 159 true).run Tryz.prog w = .ok (.tuple #[.iface 63 v, .bool true]) w := run_typeAssert_hasB Tryz.underlying159 (by kernel_rfl) v xT w
theorem isMethodComparable (v : Value) (w : World) : (Go.method 341 152 v "Comparable").run Tryz.prog w = .ok (167, v) w := by kernel_rfl

set_option maxHeartbeats 800000 in
set_option maxRecDepth 100000 in
theorem isNum_any (m n : Int) (w : World) :
    Calls Tryz.prog 35 #[.iface 49 (.int .i64 m), .iface 49 (.int .i64 n)] w fun e w' => e = .returned (.bool (m == n)) ∧ w' = w := by
  have h8 := @run_callFunc_extern Tryz.prog 72 _ Extern.ReflectliteType.typeOf Tryz.func72 (by kernel_rfl) (by kernel_rfl) (by kernel_rfl) (by kernel_rfl)
  have h32 := @run_callFunc_extern Tryz.prog 167 _ entryC Tryz.func167 (by kernel_rfl) (by kernel_rfl) (by kernel_rfl) (by kernel_rfl)
  have tT := isTypeOf
  have cT := isComparable
  have mR := isMethodComparable
  have nE := noIsE
  have uE := noUnwrapE
  have vE := noUnwrapsE
  have heq := fun w : World => Lib.run_eql_iface_int (P := Tryz.prog) (k := .i64) w m n Tryz.underlying30 isComp Tryz.underlying49
  cases hmn : (m == n)
  all_goals
    rw [hmn] at heq
    go_enter Tryz.func35, Tryz.ntmps35
    go_wp2
    refine wp_loop_rounds 1 ?_
    rw [rounds_succ]
    go_wp2
    go_ret
    exact ⟨rfl, rfl⟩

/-- A Bad that wraps a number. -/
theorem method_unwrap (b : Addr) (w : World) : (Go.method 341 63 (.pointer (some b)) "Unwrap").run Tryz.prog w = .ok (38, .pointer (some b)) w := by kernel_rfl
set_option maxHeartbeats 800000 in
set_option maxRecDepth 100000 in
theorem isBad_any (b : Nat) (m n : Int) (w : World) (hb : w.cell? ⟨b, 1, none⟩ = some (.iface 49 (.int .i64 m))) :
    Calls Tryz.prog 35 #[.iface 63 (.pointer (some ⟨b, 0, none⟩)), .iface 49 (.int .i64 n)] w fun e w' => e = .returned (.bool (m == n)) ∧ w' = w := by
  have h8 := @run_callFunc_extern Tryz.prog 72 _ Extern.ReflectliteType.typeOf Tryz.func72 (by kernel_rfl) (by kernel_rfl) (by kernel_rfl) (by kernel_rfl)
  have h32 := @run_callFunc_extern Tryz.prog 167 _ entryC Tryz.func167 (by kernel_rfl) (by kernel_rfl) (by kernel_rfl) (by kernel_rfl)
  have tT := isTypeOf
  have cT := isComparable
  have mR := isMethodComparable
  have nE := noIsE
  have uE := noUnwrapE
  have vE := noUnwrapsE
  have nB := noIsB
  have uB := hasUnwrapB
  have mU := method_unwrap
  have hty := run_eql_iface_types (P := Tryz.prog) 63 49 (.pointer (some ⟨b, 0, none⟩)) (.int .i64 n) Tryz.underlying30 (by decide) w
  have heq := fun w : World => Lib.run_eql_iface_int (P := Tryz.prog) (k := .i64) w m n Tryz.underlying30 isComp Tryz.underlying49
  cases hmn : (m == n)
  all_goals
    rw [hmn] at heq
    go_enter Tryz.func35, Tryz.ntmps35
    go_wp2
    refine wp_loop_rounds 2 ?_
    rw [rounds_succ]
    go_wp2
    rw [rounds_succ]
    go_wp2
    go_ret
    exact ⟨rfl, rfl⟩
end Go.Proofs.YtnomicnmpllajaaGreatDoor
end
