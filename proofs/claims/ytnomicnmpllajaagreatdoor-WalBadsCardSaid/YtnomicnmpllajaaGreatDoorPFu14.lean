/- What is proved here: pieces of Open: what readSnap does where there is no snapshot. -/
/- What is proved here: the calls of readSegment, up to the records that it reads. -/
/- What is proved here: what readSegment does of a segment that is there. -/
/- What is proved here: what readSegment does of a segment that is there. -/
import Derived.Test.YtnomicnmpllajaaGreatDoorPFu13
import Derived.Test.YtnomicnmpllajaaGreatDoorPFu10
import Derived.Test.YtnomicnmpllajaaGreatDoorPFu11
import Derived.Test.YtnomicnmpllajaaGreatDoorPFu12
import Derived.Outline
section
namespace Go.Proofs.YtnomicnmpllajaaGreatDoor
open Go Go.RowKit

section
variable {w0 w w' : World} {Kp : Nat → Prop} {lb d : Nat} {R : Int} {S S' : List RF} {M : LogM} {V : LogV}
theorem WPair.dread (h : WPair w0 Kp lb d R S M V w) (s : ByteArray) (hs : s.size ≤ maxLen) : Calls Tryz.prog 41 #[.pointer (some ⟨d, 0, none⟩), .string s] w (ReadSaid S s.data.toList w) := by
  obtain ⟨Φ, Λ, _, hd, _⟩ := h.ex
  exact Read_any hd s hs
set_option maxHeartbeats 800000 in
set_option maxRecDepth 100000 in
/-- No snapshot: nothing is read. -/
theorem readSnap_none (h : WPair w0 Kp lb d R S M V w) (hf : findN S snapN = none) :
    Calls Tryz.prog 42 #[.pointer (some ⟨lb, 0, none⟩)] w fun e w' => e = .returned (.int .i64 0) ∧ WPair w0 Kp lb d R S M V w' ∧ Below w.heap.size w w' := by
  obtain ⟨_, l0, _⟩ := h.cells
  have HR : Hid (Calls Tryz.prog 41 #[.pointer (some ⟨d, 0, none⟩), .string ⟨#[115, 110, 97, 112]⟩] w fun e w2 => e = .returned (.tuple #[.slice none 0 0, .int .i64 6]) ∧ Hid (WPair w0 Kp lb d R S M V w2 ∧ Below w.heap.size w w2)) := Lib.hid (by
    refine (h.dread ⟨#[115, 110, 97, 112]⟩ (by show (4 : Nat) ≤ maxLen; unfold maxLen; omega)).mono ?_
    rintro e w2 ⟨hb, h1⟩
    have hf' : findN S (ByteArray.mk #[115, 110, 97, 112]).data.toList = none := hf
    rcases h1 with ⟨_, h2⟩ | ⟨f, A, c, h2, _⟩
    · exact ⟨h2, Lib.hid ⟨h.later hb, hb⟩⟩
    · rw [hf'] at h2
      cases h2)
  have HI := Lib.hid fun W => isNum_any 6 6 W
  clear h hf
  go_enter Tryz.func42, Tryz.ntmps42
  go_wp2_with (first
    | (go_at_call 41; refine HR.out.mono ?_; rintro e w2 ⟨rfl, HW⟩)
    | (go_at_call 35; refine (HI.out _).mono ?_; rintro e w3 ⟨rfl, rfl⟩))
  go_ret
  exact ⟨rfl, HW.out.1, HW.out.2⟩

set_option maxHeartbeats 400000 in
/-- slices.IndexFunc and DeleteFunc of an empty slice. -/
theorem idxEmpty (A : Option Addr) (c : Nat) (fv : Value) (w : World) : Calls Tryz.prog 105 #[.slice A 0 c, fv] w fun e w' => e = .returned (.int .i64 (-1)) ∧ w' = w := by
  go_enter Tryz.func105, Tryz.ntmps105
  go_wp2
  refine wp_loop_rounds 1 ?_
  rw [rounds_succ]
  go_wp2
  go_ret
  exact ⟨rfl, rfl⟩
set_option maxHeartbeats 400000 in
theorem delEmpty (A : Option Addr) (c : Nat) (fv : Value) (w : World) : Calls Tryz.prog 83 #[.slice A 0 c, fv] w fun e w' => e = .returned (.slice A 0 c) ∧ w' = w := by
  have HX := Lib.hid fun W => idxEmpty A c fv W
  go_enter Tryz.func83, Tryz.ntmps83
  go_wp2_with (go_at_call 105; refine (HX.out _).mono ?_; rintro e w2 ⟨rfl, rfl⟩)
  go_ret
  exact ⟨rfl, rfl⟩
set_option maxHeartbeats 800000 in
set_option maxRecDepth 100000 in
/-- No files: no segments. -/
theorem readSegments_none (h : WPair w0 Kp lb d R [] M V w) :
    Calls Tryz.prog 43 #[.pointer (some ⟨lb, 0, none⟩)] w fun e w' => e = .returned (.tuple #[.string ⟨#[]⟩, .int .i64 0]) ∧ WPair w0 Kp lb d R [] M V w' ∧ Below w.heap.size w w' := by
  obtain ⟨_, l0, _⟩ := h.cells
  have HN : Hid (Calls Tryz.prog 40 #[.pointer (some ⟨d, 0, none⟩)] w fun e w2 => ∃ A c, e = .returned (.slice A 0 c) ∧ Hid (WPair w0 Kp lb d R [] M V w2 ∧ Below w.heap.size w w2)) := Lib.hid (by
    obtain ⟨Φ, Λ, _, hd, _⟩ := h.ex
    refine (Names_any hd (by simp)).mono ?_
    rintro e w2 ⟨A, c, rfl, _, hb⟩
    exact ⟨A, c, rfl, Lib.hid ⟨h.later hb, hb⟩⟩)
  have HD := Lib.hid fun A c fv W => delEmpty A c fv W
  clear h
  go_enter Tryz.func43, Tryz.ntmps43
  go_wp2_with (first
    | (go_at_call 40; refine HN.out.mono ?_; rintro e w2 ⟨A, c, rfl, HW⟩)
    | (go_at_call 83; refine (HD.out _ _ _ _).mono ?_; rintro e w3 ⟨rfl, rfl⟩))
  refine wp_loop_rounds 1 ?_
  rw [rounds_succ]
  go_wp2
  go_ret2
  exact ⟨rfl, HW.out.1, HW.out.2⟩
set_option maxHeartbeats 800000 in
set_option maxRecDepth 100000 in
/-- settle, of a log without segments, on a disk without snapshots. -/
theorem settle_none (h : WPair w0 Kp lb d R S M V w) (hKp : ∀ k, Kp k → k < w.heap.size) (hk : LogOk M) (hs : M.segs = []) (h1 : findN S snapN = none) (h2 : findN S newN = none) :
    Calls Tryz.prog 44 #[.pointer (some ⟨lb, 0, none⟩)] w fun e w' => e = .returned (.tuple #[]) ∧ WPair w0 Kp lb d R S { M with synced := M.last } V w' ∧ Kept Kp w w' := by
  have h0 : M.segs.length = 0 := by rw [hs]; rfl
  have HF : Hid (∀ W, WPair w0 Kp lb d R S M V W → W.cell? ⟨lb, 0, none⟩ = some (.pointer (some ⟨d, 0, none⟩)) ∧ W.cell? ⟨lb, 2, none⟩ = some (.slice V.sA 0 V.sC)) := Lib.hid fun W hW => by
    obtain ⟨_, q0, _, q2, _⟩ := hW.cells
    rw [h0] at q2
    exact ⟨q0, q2⟩
  have HKP : Hid (∀ W, Kept Kp w W → ∀ i, Kp i → i < W.heap.size) := Lib.hid fun W hW i hi => Nat.lt_of_lt_of_le (hKp i hi) hW.2
  have HL : Hid (Calls Tryz.prog 53 #[.pointer (some ⟨lb, 0, none⟩)] w fun e w2 => e = .returned (.pointer none) ∧ w2.cell? ⟨lb, 0, none⟩ = some (.pointer (some ⟨d, 0, none⟩)) ∧
      Hid (Calls Tryz.prog 56 #[.pointer (some ⟨d, 0, none⟩), .string ⟨#[115, 110, 97, 112]⟩] w2 fun e w3 => ∃ r : Int, e = .returned (.int .i64 r) ∧ w3.cell? ⟨lb, 0, none⟩ = some (.pointer (some ⟨d, 0, none⟩)) ∧
      Hid (Calls Tryz.prog 59 #[.pointer (some ⟨d, 0, none⟩), .string ⟨#[115, 110, 97, 112, 46, 110, 101, 119]⟩] w3 fun e w4 => ∃ r : Int, e = .returned (.int .i64 r) ∧ Hid (WPair w0 Kp lb d R S M V w4 ∧ Kept Kp w w4)))) := Lib.hid (by
    refine (h.last0_ hs).mono ?_
    rintro e w2 ⟨rfl, h2', hb2⟩
    have hk2 := Kept.of_below hb2 hKp
    refine ⟨rfl, (HF.out _ h2').1, Lib.hid ?_⟩
    refine (h2'.dsync (HKP.out _ hk2) ⟨#[115, 110, 97, 112]⟩ (by show (4 : Nat) ≤ maxLen; unfold maxLen; omega)).mono ?_
    rintro e w3 ⟨rfl, h3, hk3⟩
    have e1 : syncF S (ByteArray.mk #[115, 110, 97, 112]).data.toList = (S, 6) := by
      show syncF S snapN = _
      unfold syncF
      rw [h1]
    rw [e1] at h3
    have hk3' := hk2.trans hk3
    refine ⟨_, rfl, (HF.out _ h3).1, Lib.hid ?_⟩
    refine (h3.dremove (HKP.out _ hk3') ⟨#[115, 110, 97, 112, 46, 110, 101, 119]⟩ (by show (8 : Nat) ≤ maxLen; unfold maxLen; omega)).mono ?_
    rintro e w4 ⟨rfl, h4, hk4⟩
    have e2 : removeF S (ByteArray.mk #[115, 110, 97, 112, 46, 110, 101, 119]).data.toList = (S, 6) := by
      show removeF S newN = _
      unfold removeF
      rw [h2]
    rw [e2] at h4
    exact ⟨_, rfl, Lib.hid ⟨h4, hk3'.trans hk4⟩⟩)
  have HM := Lib.hid fun W (hW : WPair w0 Kp lb d R S M V W) => hW.Last_ hk
  obtain ⟨_, l0, _, l2, _⟩ := h.cells
  rw [h0] at l2
  clear h h0 h1 h2 hs
  go_enter Tryz.func44, Tryz.ntmps44
  go_wp2
  refine wp_loop_rounds 1 ?_
  rw [rounds_succ]
  go_wp2_with (first
    | (go_at_call 53; refine HL.out.mono ?_; rintro e w2 ⟨rfl, q2, HS⟩)
    | (go_at_call 56; refine HS.out.mono ?_; rintro e w3 ⟨r1, rfl, q3, HR⟩)
    | (go_at_call 59; refine HR.out.mono ?_; rintro e w4 ⟨r2, rfl, HW⟩)
    | (go_at_call 21; refine (HM.out _ HW.out.1).mono ?_; rintro e w5 ⟨rfl, h5, hb5⟩; have HP5 := Lib.hid h5; have HK5 := Lib.hid (HW.out.2.trans (Kept.of_below hb5 (HKP.out _ HW.out.2))); clear h5 hb5; obtain ⟨_, _, _, _, _, _, _, z6, zf⟩ := HP5.out.cells))
  obtain ⟨h9, k9⟩ := HP5.out.setSynced M.last
  have HP9 := Lib.hid h9
  have HK9 := Lib.hid (HK5.out.trans k9)
  clear h9 k9
  go_end0
  exact ⟨rfl, HP9.out, HK9.out⟩
/-- The log that Open makes first. -/
def newM (n : Nat) : LogM := ⟨n, [], 0, [], [], 0⟩
def newV : LogV := ⟨none, 0, none, 0, none, 0, []⟩
def newCells (d : Nat) (n : Nat) : Array Value := #[.pointer (some ⟨d, 0, none⟩), .int .i64 n, .slice none 0 0, .int .i64 0, .slice none 0 0, .slice none 0 0, .int .i64 0]
theorem WPair.fresh {Φ : Nat → Prop} (hb : Below w0.heap.size w0 w) (hd : DiskAt w d R S Φ) (hΦ : ∀ k, Φ k → w0.heap.size ≤ k ∧ ¬ Kp k ∧ k < w.heap.size) (hKp : ∀ k, Kp k → k < w.heap.size) (n : Nat) :
    WPair w0 Kp w.heap.size d R S (newM n) newV (w.alloc (.cells (newCells d n) 82)) ∧ Below w.heap.size w (w.alloc (.cells (newCells d n) 82)) := by
  have hba : Below w.heap.size w (w.alloc (.cells (newCells d n) 82)) := (Below.refl w.heap.size w).alloc (Nat.le_refl _) _
  have hsz : (w.alloc (.cells (newCells d n) 82)).heap.size = w.heap.size + 1 := by simp
  refine ⟨⟨hb.trans (hba.mono hb.size), Φ, fun k => k = w.heap.size, ⟨?_, ?_, ?_, ?_, rfl, ?_, rfl, ?_, ?_⟩, hd.later hba, ?_, ?_⟩, hba⟩
  · exact heap_alloc_new w _
  · exact World.ownsRow_nil _ _ _ _
  · exact ⟨⟨rfl, Nat.le_refl _, Nat.zero_le _, fun _ => ⟨rfl, rfl⟩, fun j u hu => by simp [newM] at hu⟩, fun a e => by simp [newV] at e, fun x hx => by simp [newM] at hx, Nat.zero_le _⟩
  · exact World.ownsRow_nil _ _ _ _
  · intro j p xs h1 h2
    simp [newM] at h2
  · intro a e
    simp [newV] at e
  · intro a e
    simp [newV] at e
  · intro k h1 h2
    have := (hΦ k h1).2.2
    omega
  · intro k hk
    rw [hsz]
    rcases hk with hk | hk
    · have := hΦ k hk
      exact ⟨this.1, this.2.1, by omega⟩
    · subst hk
      exact ⟨hb.size, fun h => absurd (hKp _ h) (Nat.lt_irrefl _), by omega⟩
theorem newM_ok {n : Nat} (h : n ≤ 65536) : LogOk (newM n) := ⟨h, Nat.zero_le _, Nat.zero_le _, by show (0 : Nat) < _; omega, (fun s hs => by simp [newM] at hs), Nat.zero_le _⟩
set_option maxHeartbeats 800000 in
set_option maxRecDepth 100000 in
/-- Open, on a disk without files. -/
theorem Open_empty {Φ : Nat → Prop} (hb : Below w0.heap.size w0 w) (hd : DiskAt w d R [] Φ) (hΦ : ∀ k, Φ k → w0.heap.size ≤ k ∧ ¬ Kp k ∧ k < w.heap.size) (hKp : ∀ k, Kp k → k < w.heap.size) (n : Nat) (h1 : 16 ≤ n) (h2 : n ≤ 65536) :
    Calls Tryz.prog 15 #[.pointer (some ⟨d, 0, none⟩), .int .i64 n] w fun e w' => ∃ lb, e = .returned (.tuple #[.pointer (some ⟨lb, 0, none⟩), .nilIface]) ∧ WPair w0 Kp lb d R [] (newM n) newV w' ∧ Kept Kp w w' := by
  obtain ⟨h3, h4⟩ := WPair.fresh hb hd hΦ hKp n
  have HS : Hid (Calls Tryz.prog 42 #[.pointer (some ⟨w.heap.size, 0, none⟩)] (w.alloc (.cells (newCells d n) 82)) fun e w2 => e = .returned (.int .i64 0) ∧
      Hid (Calls Tryz.prog 43 #[.pointer (some ⟨w.heap.size, 0, none⟩)] w2 fun e w3 => e = .returned (.tuple #[.string ⟨#[]⟩, .int .i64 0]) ∧
      Hid (Calls Tryz.prog 44 #[.pointer (some ⟨w.heap.size, 0, none⟩)] w3 fun e w4 => e = .returned (.tuple #[]) ∧ Hid (WPair w0 Kp w.heap.size d R [] (newM n) newV w4 ∧ Kept Kp w w4)))) := Lib.hid (by
    refine (readSnap_none h3 rfl).mono ?_
    rintro e w2 ⟨rfl, h5, b5⟩
    refine ⟨rfl, Lib.hid ?_⟩
    refine (readSegments_none h5).mono ?_
    rintro e w3 ⟨rfl, h6, b6⟩
    refine ⟨rfl, Lib.hid ?_⟩
    have b3 : Below w.heap.size w w3 := (h4.trans (b5.mono h4.size)).trans (b6.mono (Nat.le_trans h4.size b5.size))
    have k3 : Kept Kp w w3 := Kept.of_below b3 hKp
    refine (settle_none h6 (fun k h => Nat.lt_of_lt_of_le (hKp k h) b3.size) (newM_ok h2) rfl rfl rfl).mono ?_
    rintro e w4 ⟨rfl, h7, k7⟩
    exact ⟨rfl, Lib.hid ⟨h7, k3.trans k7⟩⟩)
  have d1 : decide ((n : Int) < 16) = false := decide_eq_false (by omega)
  have d2 : decide ((65536 : Int) < n) = false := decide_eq_false (by omega)
  unfold newCells at HS
  clear h3 h4 hb hd hΦ hKp h1 h2
  go_enter Tryz.func15, Tryz.ntmps15
  go_wp2_with (first
    | (go_at_call 42; refine HS.out.mono ?_; rintro e w2 ⟨rfl, HG⟩)
    | (go_at_call 43; refine HG.out.mono ?_; rintro e w3 ⟨rfl, HT⟩)
    | (go_at_call 44; refine HT.out.mono ?_; rintro e w4 ⟨rfl, HW⟩))
  go_ret2
  exact ⟨_, rfl, HW.out.1, HW.out.2⟩
end
end Go.Proofs.YtnomicnmpllajaaGreatDoor
end

section
namespace Go.Proofs.YtnomicnmpllajaaGreatDoor
open Go Go.RowKit

theorem Chain.in_ : ∀ (ys : List (List Int)) (xs : List Int) (u : Nat), Chain ys xs u → ∀ y ∈ ys, y.length ≤ xs.length ∧ ∀ x ∈ y, x ∈ xs
  | [], _, _, _ => fun y h => by cases h
  | y :: ys, xs, u, ⟨_, h2, u', _, h4⟩ => fun z hz => by
    rcases List.mem_cons.1 hz with rfl | hz
    · subst h2
      refine ⟨by rw [List.length_take, List.length_drop]; omega, fun x hx => List.mem_of_mem_drop (List.mem_of_mem_take hx)⟩
    · have := Chain.in_ ys _ u' h4 z hz
      refine ⟨by have h1 := this.1; rw [List.length_drop] at h1; omega, fun x hx => List.mem_of_mem_drop (this.2 x hx)⟩
def partV (l : List Part) : List (Option Addr × Nat) := l.map fun p => (p.adr, p.cap)
theorem partV_rec (l : List Part) (h : ∀ p ∈ l, p.len = p.all.length) : l.map Part.val = recC (partV l) (l.map Part.all) := by
  induction l with
  | nil => rfl
  | cons p l ih =>
    have := ih fun q hq => h q (List.mem_cons_of_mem _ hq)
    unfold partV recC at *
    simp only [List.map_cons, List.zipWith_cons_cons]
    rw [this, ← h p (List.mem_cons_self ..)]
    rfl
section
variable {w0 w w' : World} {Kp : Nat → Prop} {lb d : Nat} {R : Int} {S : List RF} {M : LogM} {V : LogV}
theorem DiskAt.file {Φ : Nat → Prop} (h : DiskAt w d R S Φ) {f : RF} (hf : f ∈ S) : ∀ x ∈ f.b, 0 ≤ x ∧ x < 256 := by
  obtain ⟨m, L, rfl, h⟩ := h
  obtain ⟨x, hx, rfl⟩ := List.mem_map.1 hf
  exact (h.file x hx).byt
/-- All's records, apart in new blocks. -/
def SegGot (w0 : World) (Kp : Nat → Prop) (lb d : Nat) (R : Int) (S : List RF) (M : LogM) (V : LogV) (w6 : World) (l : List Part) (A : Option Addr) (c : Nat) (w7 : World) : Prop :=
  WPair w0 (fun i => Kp i ∨ (w6.heap.size ≤ i ∧ i < w7.heap.size)) lb d R S M V w7 ∧ Below w6.heap.size w6 w7 ∧ w7.ownsRow w6.heap.size 33 1 (.slice A l.length c) l.length (recC (partV l) (l.map Part.all)) ∧
  ∀ (j : Nat) (p : Option Addr × Nat) (ys : List Int), (partV l)[j]? = some p → (l.map Part.all)[j]? = some ys → Byt w7 (fun i => w6.heap.size ≤ i ∧ i < w7.heap.size) p.1 p.2 ys
theorem WPair.all_ (h : WPair w0 Kp lb d R S M V w) {A : Option Addr} {n c : Nat} {xs : List Int} (hr : Rd w w.heap.size .u8 A n c xs) (hx : ∀ x ∈ xs, 0 ≤ x ∧ x < 256) (hn : n ≤ 1000000) :
    Calls Tryz.prog 107 #[.slice A n c] w fun e w' => ∃ (l : List Part) (rA : Option Addr) (rC u : Nat), Chain (l.map Part.all) xs u ∧ u ≤ n ∧ l.length ≤ n ∧ (u < n → whyF (xs.drop u) ≠ 0) ∧ e = .returned (.tuple #[.slice rA l.length rC, .int .i64 u, .int .i64 ((if u = n then 0 else whyF (xs.drop u) : Nat) : Int)]) ∧ SegGot w0 Kp lb d R S M V w l rA rC w' := by
  refine (All_any A n c xs w hr hx hn).mono ?_
  rintro e w' ⟨l, v, u, h1, h2, h3, h4, rfl, h5, h6, hb⟩
  obtain ⟨rA, rC, rfl⟩ := own_shape h5
  have hlen : ∀ p ∈ l, p.len = p.all.length := fun p hp => by
    have := (h6 p hp).1
    simpa using this.symm
  refine ⟨l, rA, rC, u, h1, h2, h3, h4, rfl, ?_, hb, ?_, fun j p ys hp hy => ?_⟩
  · exact (h.keepK (Kp' := fun i => Kp i ∨ (w.heap.size ≤ i ∧ i < w'.heap.size)) fun i hi h => by rcases h with h | h; exact h; omega).later hb
  · rw [← partV_rec l hlen]
    exact h5
  · obtain ⟨q, hq⟩ : ∃ q, l[j]? = some q := by
      rw [List.getElem?_map] at hy
      cases hlj : l[j]? with
      | none => rw [hlj] at hy; cases hy
      | some q => exact ⟨q, rfl⟩
    have hqm := List.mem_of_getElem? hq
    unfold partV at hp
    rw [List.getElem?_map, hq] at hp hy
    have e1 : (q.adr, q.cap) = p := by simpa using hp
    have e2 : q.all = ys := by simpa using hy
    subst e1 e2
    have hin := Chain.in_ _ _ _ h1 q.all (List.mem_map_of_mem hqm)
    have hxl := hr.len
    exact Byt.of_new (h6 q hqm) (hlen q hqm).symm (fun x h => hx x (hin.2 x h)) (by have := hlen q hqm; have := hin.1; omega) (Chg.of_below (Φ := fun _ => False) (Below.refl w'.heap.size w')) (fun _ _ h => h) fun i a b => ⟨a, b⟩
end
end Go.Proofs.YtnomicnmpllajaaGreatDoor
end

section
namespace Go.Proofs.YtnomicnmpllajaaGreatDoor
open Go Go.RowKit

section
variable {w0 w w' : World} {Kp : Nat → Prop} {lb d : Nat} {R : Int} {S : List RF} {M : LogM} {V : LogV}
/-- The calls of readSegment, behind the box of the segment. -/
theorem WPair.segCalls (h : WPair w0 Kp lb d R S M V w) (hKp : ∀ k, Kp k → k < w.heap.size) (ht : Tab w0) {k : Nat} (hk1 : k < 100000000) {f : RF} (hf : findN S (segName k) = some f) (hfn : f.b.length ≤ 1000000) {tb : Nat} (htb : tb = w.heap.size) {W2 : World} (hW2 : W2 = (w.alloc (.cells #[.int .i64 k, .int .i64 0] 99)).drew) :
    W2.cell? ⟨lb, 0, none⟩ = some (.pointer (some ⟨d, 0, none⟩)) ∧ W2.cell? ⟨tb, 0, none⟩ = some (.int .i64 k) ∧ W2.cell? ⟨tb, 1, none⟩ = some (.int .i64 0) ∧
    Calls Tryz.prog 54 #[.agg #[.int .i64 k, .int .i64 0]] W2 fun e w5 => e = .returned (.string (nameS k)) ∧ w5.cell? ⟨lb, 0, none⟩ = some (.pointer (some ⟨d, 0, none⟩)) ∧ w5.cell? ⟨tb, 0, none⟩ = some (.int .i64 k) ∧ w5.cell? ⟨tb, 1, none⟩ = some (.int .i64 0) ∧
      Hid (Calls Tryz.prog 41 #[.pointer (some ⟨d, 0, none⟩), .string (nameS k)] w5 fun e w6 => ∃ A c, e = .returned (.tuple #[.slice A f.b.length c, .int .i64 0]) ∧ w6.cell? ⟨lb, 0, none⟩ = some (.pointer (some ⟨d, 0, none⟩)) ∧ w6.cell? ⟨tb, 0, none⟩ = some (.int .i64 k) ∧ w6.cell? ⟨tb, 1, none⟩ = some (.int .i64 0) ∧
        Hid (Calls Tryz.prog 107 #[.slice A f.b.length c] w6 fun e w7 => ∃ (l : List Part) (rA : Option Addr) (rC u z : Nat), Hid (Chain (l.map Part.all) f.b u ∧ (u < f.b.length → whyF (f.b.drop u) ≠ 0) ∧ z = if u = f.b.length then 0 else whyF (f.b.drop u)) ∧ u ≤ f.b.length ∧ l.length ≤ f.b.length ∧
          e = .returned (.tuple #[.slice rA l.length rC, .int .i64 u, .int .i64 (z : Int)]) ∧ w7.cell? ⟨tb, 0, none⟩ = some (.int .i64 k) ∧ w7.cell? ⟨tb, 1, none⟩ = some (.int .i64 0) ∧ w7.frozen? ⟨tb, 1, none⟩ = false ∧
          Hid (SegGot w0 (fun i => Kp i ∨ i = tb) lb d R S M V w6 l rA rC w7 ∧ Kept Kp w w7 ∧ tb < w6.heap.size ∧ w7.heap[tb]? = some (.cells #[.int .i64 k, .int .i64 0] 99 (0, 0))))) := by
  subst htb
  have hbW2 : Below w.heap.size w W2 := by rw [hW2]; exact ((Below.refl _ _).alloc (Nat.le_refl _) _).drew
  have hbox : W2.heap[w.heap.size]? = some (.cells #[.int .i64 k, .int .i64 0] 99 (0, 0)) := by rw [hW2]; exact heap_alloc_new w _
  have hsz2 : w.heap.size < W2.heap.size := lt_of_block hbox
  have hP2 : WPair w0 (fun i => Kp i ∨ i = w.heap.size) lb d R S M V W2 := (h.keepK fun i h1 h2 => by rcases h2 with h2 | h2; exact h2; omega).later hbW2
  have hKp2 : ∀ i, (Kp i ∨ i = w.heap.size) → i < W2.heap.size := fun i hi => by
    rcases hi with hi | hi
    · have := hKp i hi; omega
    · omega
  have hcells : ∀ w', Kept (fun i => Kp i ∨ i = w.heap.size) W2 w' → w'.cell? ⟨w.heap.size, 0, none⟩ = some (.int .i64 k) ∧ w'.cell? ⟨w.heap.size, 1, none⟩ = some (.int .i64 0) ∧ w'.frozen? ⟨w.heap.size, 1, none⟩ = false := fun w' hK => by
    have h1 : w'.heap[w.heap.size]? = _ := (hK.1 w.heap.size (.inr rfl)).trans hbox
    obtain ⟨c0, c1, _⟩ := two_cells h1
    exact ⟨c0, c1, by simp [World.frozen?, h1]⟩
  obtain ⟨t0, t1, _⟩ := hcells W2 ⟨fun _ _ => rfl, Nat.le_refl _⟩
  refine ⟨hP2.cells.2.1, t0, t1, ?_⟩
  refine (hP2.name_ ht k 0 hk1).mono ?_
  rintro e w5 ⟨rfl, h5, hb5⟩
  have hK5 := Kept.of_below hb5 hKp2
  obtain ⟨x0, x1, _⟩ := hcells w5 hK5
  refine ⟨rfl, h5.cells.2.1, x0, x1, Lib.hid ?_⟩
  refine (h5.dread (nameS k) (by rw [nameS_size]; unfold maxLen; omega)).mono ?_
  rintro e w6 ⟨hb6, h6⟩
  rw [nameS_list, hf] at h6
  rcases h6 with ⟨h6, _⟩ | ⟨f', A, c, h6, rfl, ho⟩
  · cases h6
  cases h6
  obtain ⟨A', c', e1, hrd⟩ := Rd.of_own ho
  cases e1
  have hP6 := h5.later hb6
  have hK6 := hK5.trans (Kept.of_below hb6 fun i hi => Nat.lt_of_lt_of_le (hKp2 i hi) hK5.2)
  obtain ⟨v0, v1, _⟩ := hcells w6 hK6
  refine ⟨A, c, rfl, hP6.cells.2.1, v0, v1, Lib.hid ?_⟩
  have hbyt : ∀ x ∈ f.b, 0 ≤ x ∧ x < 256 := by
    obtain ⟨Φ, Λ, _, hd, _⟩ := h.ex
    exact hd.file (findN_mem hf).1
  refine (hP6.all_ hrd hbyt hfn).mono ?_
  rintro e w7 ⟨l, rA, rC, u, g1, g2, g3, g4, rfl, g5⟩
  have hK7 := hK6.trans (Kept.of_below g5.2.1 fun i hi => Nat.lt_of_lt_of_le (hKp2 i hi) hK6.2)
  obtain ⟨y0, y1, y2⟩ := hcells w7 hK7
  have := hK6.2
  exact ⟨l, rA, rC, u, _, Lib.hid ⟨g1, g4, rfl⟩, g2, g3, rfl, y0, y1, y2, Lib.hid ⟨g5, (Kept.of_below hbW2 hKp).trans ⟨fun i hi => hK7.1 i (.inl hi), hK7.2⟩, by omega, (hK7.1 w.heap.size (.inr rfl)).trans hbox⟩⟩
/-- A box of the call's own that is written: the log stays. -/
theorem WPair.putK (h : WPair w0 Kp lb d R S M V w) {tb : Nat} (i : Nat) (v : Value) (ht : Kp tb) (hb : w0.heap.size ≤ tb) : WPair w0 Kp lb d R S M V (w.setCell ⟨tb, i, none⟩ v) := by
  obtain ⟨Φ, Λ, hl, hd, ha, hK⟩ := h.ex
  have hc : Chg (fun i => i = tb) w (w.setCell ⟨tb, i, none⟩ v) := Chg.set _ _ _ _
  have hcs := hc.size
  have h0 := h.below.size
  exact ⟨h.below.trans (hc.below (by omega) fun i hi => by rw [hi]; exact hb), Φ, Λ, hl.keep hc fun k h1 e => (hK k (.inr h1)).2.1 (by rw [show k = tb from e]; exact ht),
    hd.keep hc fun k h1 e => (hK k (.inl h1)).2.1 (by rw [show k = tb from e]; exact ht), ha, fun k hk => ⟨(hK k hk).1, (hK k hk).2.1, by have := (hK k hk).2.2; omega⟩⟩
theorem own_zero {w : World} {B : Nat} {e : TypeId} {z : Nat} {v : Value} {n : Nat} {xs : List Value} (h : w.ownsRow B e z v n xs) : w.ownsRow 0 e z v n xs :=
  ⟨h.1, h.2.imp id fun ⟨g, c, cur, h1, _, h3⟩ => ⟨g, c, cur, h1, Nat.zero_le _, h3⟩⟩
/-- A log beside the box of a segment, and records that are not its own yet (in the blocks D). -/
structure SegIn (w0 : World) (Kp : Nat → Prop) (lb d : Nat) (R : Int) (S : List RF) (M : LogM) (V : LogV) (tb k u : Nat) (D : Nat → Prop) (l : List Part) (rA : Option Addr) (rC : Nat) (W : World) : Prop where
  pair : WPair w0 (fun i => Kp i ∨ i = tb ∨ D i) lb d R S M V W
  box : W.heap[tb]? = some (.cells #[.int .i64 k, .int .i64 u] 99 (0, 0))
  row : W.ownsRow 0 33 1 (.slice rA l.length rC) l.length (recC (partV l) (l.map Part.all))
  rin : ∀ a, rA = some a → D a.block
  each : ∀ (j : Nat) (p : Option Addr × Nat) (ys : List Int), (partV l)[j]? = some p → (l.map Part.all)[j]? = some ys → Byt W D p.1 p.2 ys
  lt : ∀ i, (Kp i ∨ i = tb ∨ D i) → i < W.heap.size
  new : ∀ i, (i = tb ∨ D i) → w0.heap.size ≤ i ∧ ¬ Kp i
theorem SegGot.box {w6 w7 : World} {l : List Part} {rA : Option Addr} {rC tb k u : Nat} (h : SegGot w0 (fun i => Kp i ∨ i = tb) lb d R S M V w6 l rA rC w7) (hKp : ∀ i, Kp i → i < tb) (hw0 : w0.heap.size ≤ tb) (ht6 : tb < w6.heap.size) {v : Value}
    (hbx : w7.heap[tb]? = some (.cells #[.int .i64 k, v] 99 (0, 0))) :
    SegIn w0 Kp lb d R S M V tb k u (fun i => w6.heap.size ≤ i ∧ i < w7.heap.size) l rA rC (w7.setCell ⟨tb, 1, none⟩ (.int .i64 u)) := by
  obtain ⟨h1, h2, h3, h4⟩ := h
  have hc : Chg (fun i => i = tb) w7 (w7.setCell ⟨tb, 1, none⟩ (.int .i64 u)) := Chg.set _ _ _ _
  have hcs := hc.size
  have h26 := h2.size
  have hrin : ∀ a, rA = some a → w6.heap.size ≤ a.block ∧ a.block < w7.heap.size := fun a e => h3.lt a.block (by rw [e]; rfl)
  refine ⟨?_, ?_, ?_, hrin, fun j p ys hp hy => (h4 j p ys hp hy).keep hc fun i hi e => ?_, fun i hi => ?_, fun i hi => ?_⟩
  · have h1' : WPair w0 (fun i => Kp i ∨ i = tb ∨ (w6.heap.size ≤ i ∧ i < w7.heap.size)) lb d R S M V w7 := h1.keepK fun i _ hi => by
      rcases hi with hi | hi | hi
      · exact .inl (.inl hi)
      · exact .inl (.inr hi)
      · exact .inr hi
    exact h1'.putK 1 _ (.inr (.inl rfl)) hw0
  · simp [World.setCell, Array.getElem?_modify, hbx]
  · exact hc.own (own_zero h3) fun g hg e => by
      obtain ⟨a, ha, rfl⟩ := own_block hg
      have := hrin a ha
      have e' : a.block = tb := e
      omega
  · have e' : i = tb := e
    omega
  · rcases hi with hi | hi | hi
    · have := hKp i hi; omega
    · omega
    · omega
  · rcases hi with hi | hi
    · exact ⟨by omega, fun h => by have := hKp i h; omega⟩
    · exact ⟨by omega, fun h => by have := hKp i h; omega⟩
section
variable {M' : LogM} {V' : LogV} {tb k u : Nat} {D : Nat → Prop} {l : List Part} {rA : Option Addr} {rC : Nat} {W w8 w99 : World}
theorem SegIn.kept (h : SegIn w0 Kp lb d R S M V tb k u D l rA rC w8) (h2 : WPair w0 (fun i => Kp i ∨ i = tb ∨ D i) lb d R S M' V' W) (hk : Kept (fun i => Kp i ∨ i = tb ∨ D i) w8 W) : SegIn w0 Kp lb d R S M' V' tb k u D l rA rC W := by
  have b1 := h.pair.below
  have b2 := h2.below
  have hc : Chg (fun i => ¬ (Kp i ∨ i = tb ∨ D i)) w8 W := ⟨b2.os.trans b1.os.symm, b2.tape.trans b1.tape.symm, b2.output.trans b1.output.symm, hk.2, fun k _ hn => hk.1 k (Classical.not_not.1 hn)⟩
  refine ⟨h2, (hk.1 tb (.inr (.inl rfl))).trans h.box, hc.own h.row fun g hg hn => ?_, h.rin, fun j p ys hp hy => (h.each j p ys hp hy).keep hc fun i hi hn => hn (.inr (.inr hi)), fun i hi => Nat.lt_of_lt_of_le (h.lt i hi) hk.2, h.new⟩
  obtain ⟨a, ha, rfl⟩ := own_block hg
  exact hn (.inr (.inr (h.rin a ha)))
/-- The box's segment comes to the log's. -/
theorem SegIn.addSeg (h : SegIn w0 Kp lb d R S M V tb k u D l rA rC w8) {v99 : Value} {o : Obj} (ho : w99.ownsRow 0 99 2 v99 (M.segs.length + 1) (segC M.segs ++ [.int .i64 k, .int .i64 u])) (hg : (w8.alloc o).grownBy w99 (Value.slice V.sA M.segs.length V.sC).ownBlock)
    (hw : v99.ownBlock = (Value.slice V.sA M.segs.length V.sC).ownBlock ∨ v99.ownBlock = some (w8.alloc o).heap.size) :
    ∃ A' c', v99 = .slice A' (M.segs.length + 1) c' ∧ lb < w99.heap.size ∧ w99.cell? ⟨lb, 2, none⟩ = some (.slice V.sA M.segs.length V.sC) ∧ w99.cell? ⟨tb, 0, none⟩ = some (.int .i64 k) ∧ w99.cell? ⟨tb, 1, none⟩ = some (.int .i64 u) ∧ w99.frozen? ⟨lb, 2, none⟩ = false ∧
      Hid (SegIn w0 Kp lb d R S { M with segs := M.segs ++ [(k, u)] } { V with sA := A', sC := c' } tb k u D l rA rC (w99.setCell ⟨lb, 2, none⟩ (.slice A' (M.segs.length + 1) c')) ∧ Kept Kp w8 (w99.setCell ⟨lb, 2, none⟩ (.slice A' (M.segs.length + 1) c'))) := by
  obtain ⟨A', c', rfl, m1, m2, m3, m4, ⟨hp, hk9⟩⟩ := h.pair.addSeg h.lt (Below.refl _ _) (k, u) (v99 := v99) (w99 := w99) (o := o) ho hg hw
  obtain ⟨c0, c1, _⟩ := two_cells ((m4 tb (.inr (.inl rfl))).trans h.box)
  exact ⟨A', c', rfl, m1, m2, c0, c1, m3, Lib.hid ⟨h.kept hp hk9, fun i hi => hk9.1 i (.inl hi), hk9.2⟩⟩
end
end
end Go.Proofs.YtnomicnmpllajaaGreatDoor
end

section
namespace Go.Proofs.YtnomicnmpllajaaGreatDoor
open Go Go.RowKit

section
variable {w0 w w' : World} {Kp : Nat → Prop} {lb d : Nat} {R : Int} {S : List RF} {M : LogM} {V : LogV}
def SegRead (w0 : World) (Kp : Nat → Prop) (lb d : Nat) (R : Int) (S : List RF) (M : LogM) (b : List Int) (k : Nat) (w : World) (e : Ending) (w' : World) : Prop :=
  ∃ (l : List (List Int)) (u : Nat), Chain l b u ∧ u ≤ b.length ∧ (u < b.length → whyF (b.drop u) ≠ 0) ∧
    e = .returned (.tuple #[.int .i64 l.length, .int .i64 ((if u = b.length then 0 else whyF (b.drop u) : Nat) : Int)]) ∧ ∃ V', WPair w0 Kp lb d R S { M with segs := M.segs ++ [(k, u)], recs := M.recs ++ l.drop (M.base + 1 - k) } V' w' ∧ Kept Kp w w'
set_option maxHeartbeats 3200000 in
set_option maxRecDepth 100000 in
theorem readSegment_any (h : WPair w0 Kp lb d R S M V w) (hKp : ∀ k, Kp k → k < w.heap.size) (ht : Tab w0) (hk : LogOk M) {k : Nat} (hk1 : k < 100000000) {f : RF} (hf : findN S (segName k) = some f) (hfn : f.b.length ≤ 1000000) (hsn : M.segs.length < 1000000) (hrn : M.recs.length + f.b.length ≤ 1000000) :
    Calls Tryz.prog 87 #[.pointer (some ⟨lb, 0, none⟩), .agg #[.int .i64 k, .int .i64 0]] w (SegRead w0 Kp lb d R S M f.b k w) := by
  obtain ⟨l0, t0, t1, hnm⟩ := h.segCalls hKp ht hk1 hf hfn rfl rfl
  have HNM := Lib.hid hnm
  have HH := Lib.hid h
  have HKP := Lib.hid hKp
  have HT := Lib.hid ht
  obtain ⟨n, hn⟩ : ∃ n, n = f.b.length := ⟨_, rfl⟩
  rw [← hn] at HNM hfn hrn
  have HFN := Lib.hid hn
  obtain ⟨j0, hj, jz0, jz1, jz2⟩ := info_parts info_seg
  obtain ⟨i0, hi, hz0, hz1, hz2⟩ := info_parts info_row
  clear h hKp ht hf hnm hn
  go_enter Tryz.func87, Tryz.ntmps87
  go_upto_region 1 with fail
  go_region_held3 (fun w' => w'.cell? ⟨lb, 0, none⟩ = some (.pointer (some ⟨d, 0, none⟩)) ∧ w'.cell? ⟨w.heap.size, 0, none⟩ = some (.int .i64 k) ∧ w'.cell? ⟨w.heap.size, 1, none⟩ = some (.int .i64 0))
    (first | exact ⟨by assumption, by assumption, by assumption⟩ | exact ⟨l0, t0, t1⟩)
    (first
      | (go_at_call 54; refine (HNM.out).mono ?_; rintro e w5 ⟨rfl, x0, x1, x2, HRD⟩)
      | (go_at_call 41; refine (HRD.out).mono ?_; rintro e w6 ⟨rdA, rdC, rfl, v0, v1, v2, HAL⟩))
  all_goals
    clear l0 t0 t1 x0 x1 x2 v0 v1 v2 HNM HRD
    go_upto_region 6 with (go_at_call 107; refine HAL.out.mono ?_; rintro e w7 ⟨L, rA, rC, u, z, HCH, hu, hL, rfl, b0, b1, bf, HG⟩)
    have HS8 : Hid (SegIn w0 Kp lb d R S M V w.heap.size k u (fun i => w6.heap.size ≤ i ∧ i < w7.heap.size) L rA rC (w7.setCell ⟨w.heap.size, 1, none⟩ (.int .i64 u)) ∧ Kept Kp w (w7.setCell ⟨w.heap.size, 1, none⟩ (.int .i64 u))) := Lib.hid (by
      obtain ⟨g1, g2, g3, g4⟩ := HG.out
      have hc : Chg (fun i => i = w.heap.size) w7 (w7.setCell ⟨w.heap.size, 1, none⟩ (.int .i64 u)) := Chg.set _ _ _ _
      have h7 := g2.2
      exact ⟨g1.box HKP.out HH.out.below.size g3 g4, g2.trans ⟨fun i hi => hc.block i (by have := HKP.out i hi; omega) fun e => by have := HKP.out i hi; have e' : i = w.heap.size := e; omega, hc.size⟩⟩)
    clear b0 b1 bf HG HAL
    generalize (fun i => w6.heap.size ≤ i ∧ i < w7.heap.size) = D at *
    generalize w7.setCell ⟨w.heap.size, 1, none⟩ (.int .i64 u) = w8 at *
    obtain ⟨_, _, _, z3, _⟩ := HS8.out.1.pair.cells
    obtain ⟨z1, z2, _⟩ := two_cells HS8.out.1.box
    have hS0 : w8.drew.cell? ⟨lb, 2, none⟩ = some (.slice V.sA M.segs.length V.sC) ∧ w8.drew.cell? ⟨w.heap.size, 0, none⟩ = some (.int .i64 k) ∧ w8.drew.cell? ⟨w.heap.size, 1, none⟩ = some (.int .i64 u) := ⟨z3, z1, z2⟩
    clear z1 z2 z3
    have HSD : Hid (SegIn w0 Kp lb d R S M V w.heap.size k u D L rA rC w8.drew ∧ Kept Kp w w8.drew) := Lib.hid (by
      obtain ⟨g1, g2⟩ := HS8.out
      exact ⟨⟨g1.pair.later (Below.refl _ _).drew, g1.box, own_below g1.row (Below.refl _ _).drew, g1.rin, fun j p ys hp hy => (g1.each j p ys hp hy).keep (Chg.of_below (Φ := fun _ => False) (Below.refl _ _).drew) fun _ _ => id, g1.lt, g1.new⟩, g2.1, g2.2⟩)
    clear HS8
    refine wp_region_G (fun w' => w'.cell? ⟨lb, 2, none⟩ = some (.slice V.sA M.segs.length V.sC) ∧ w'.cell? ⟨w.heap.size, 0, none⟩ = some (.int .i64 k) ∧ w'.cell? ⟨w.heap.size, 1, none⟩ = some (.int .i64 u)) 8 (by kernel_rfl) ?_
    generalize w8.drew = wd at *
    refine wpAnyG_take (i := 0) (oi := _) (v := ?_) rfl (by kernel_rfl) (by kernel_rfl) (by kernel_rfl) (by kernel_rfl) (fun _ _ _ h => h) (Or.inl ⟨by rfl, ?_⟩) hS0 ?_
    rotate_left
    · (intro wS hSw; obtain ⟨y1, y2, y3⟩ := hSw; go_simp; try with_reducible rfl)
    try simp only [Act.put]
    refine wpAnyG_take (i := 1) (oi := _) (v := ?_) rfl (by kernel_rfl) (by kernel_rfl) (by kernel_rfl) (by kernel_rfl) (fun _ _ _ h => h) (Or.inl ⟨by rfl, ?_⟩) hS0 ?_
    rotate_left
    · (intro wS hSw; obtain ⟨y1, y2, y3⟩ := hSw; go_simp; try with_reducible rfl)
    try simp only [Act.put]
    refine wpAnyG_take (i := 2) (oi := _) (v := ?_) rfl (by kernel_rfl) (by kernel_rfl) (by kernel_rfl) (by kernel_rfl) (fun _ _ _ h => h) (Or.inl ⟨by rfl, ?_⟩) hS0 ?_
    rotate_left
    · (intro wS hSw; obtain ⟨y1, y2, y3⟩ := hSw; go_simp; try with_reducible rfl)
    try simp only [Act.put]
    refine wpAnyG_take (i := 3) (oi := _) (v := ?_) rfl (by kernel_rfl) (by kernel_rfl) (by kernel_rfl) (by kernel_rfl) (fun _ _ _ h => h) (Or.inl ⟨by rfl, ?_⟩) hS0 ?_
    rotate_left
    · (intro wS hSw; obtain ⟨y1, y2, y3⟩ := hSw; go_simp; try with_reducible rfl)
    try simp only [Act.put]
    refine wpAnyG_take (i := 4) (oi := _) (v := ?_) rfl (by kernel_rfl) (by kernel_rfl) (by kernel_rfl) (by kernel_rfl) (fun _ _ _ h => h) (Or.inl ⟨by rfl, ?_⟩) hS0 ?_
    rotate_left
    · (intro wS hSw; obtain ⟨y1, y2, y3⟩ := hSw; go_simp; try with_reducible rfl)
    try simp only [Act.put]
    refine wpAnyG_take (i := 5) (oi := _) (v := ?_) rfl (by kernel_rfl) (by kernel_rfl) (by kernel_rfl) (by kernel_rfl) (fun _ _ _ h => h) (Or.inl ⟨by rfl, ?_⟩) hS0 ?_
    rotate_left
    · (intro wS hSw; obtain ⟨y1, y2, y3⟩ := hSw; go_simp; try with_reducible rfl)
    try simp only [Act.put]
    obtain ⟨y1, y2, y3⟩ := hS0
    refine wpAnyG_one (i := 6) (o := ⟨some 38, _, _, _, _, _⟩) (by kernel_rfl) rfl (fun K hK => ?_)
    go_simp
    refine hK.out _ _ (fun _ => ⟨by go_keep, by go_keep, by go_keep⟩) ?_
    clear hK K
    try simp only [Act.put]
    have HOWN := Lib.hid (HSD.out.1.pair.ex.elim fun _ h8 => h8.elim fun _ h8 => h8.1.segs)
    refine wpAnyG_one (i := 7) (o := ⟨some 39, _, _, _, _, _⟩) (by kernel_rfl) rfl (fun K hK => ?_)
    refine step_append_where (o := ⟨some 39, _, _, _, _, _⟩) rfl (.tmp 36) (.tmp 38) 80 rfl 0 99 j0 _ 2 16 Tryz.underlying80 hj jz0 jz1 jz2 rfl (by omega) _ M.segs.length _ rfl (HOWN.out.alloc _) (some ⟨wd.heap.size, 0, none⟩) 1 1 [.int .i64 k, .int .i64 u] rfl rfl (fun e => by cases e) (news2 wd _ _ _) (by simp [Value.oneCell']) (by unfold maxLen; omega) (by omega) (Nat.zero_le _) ?_
    intro v99 w99 ho99 hg99 hw99
    obtain ⟨A', c', rfl, l99, m5, m6, m7, mf, HFI⟩ := HSD.out.1.addSeg ho99 hg99 hw99
    clear ho99 hg99 hw99
    refine hK.out _ _ (fun _ => ⟨m5, m6, m7⟩) ?_
    clear hK K
    try simp only [Act.put]
    refine wpAnyG_one (i := 8) (o := ⟨some 40, _, _, _, _, _⟩) (by kernel_rfl) rfl (fun K hK => ?_)
    go_simp
    refine hK.out _ _ (fun h => absurd h (by decide)) ?_
    clear hK K
    try simp only [Act.put]
    refine wpAnyG_one (i := 9) (o := ⟨some 41, _, _, _, _, _⟩) (by kernel_rfl) rfl (fun K hK => ?_)
    go_simp
    refine hK.out _ _ (fun h => absurd h (by decide)) ?_
    clear hK K
    try simp only [Act.put]
    refine wpAnyG_one (i := 10) (o := ⟨none, _, _, _, _, _⟩) (by kernel_rfl) rfl (fun K hK => ?_)
    go_simp
    refine hK.out _ _ (fun h => absurd h (by decide)) ?_
    clear hK K
    try simp only [Act.put]
    refine wpAnyG_done (by kernel_rfl) ?_ _
    have HSE : Hid (SegIn w0 Kp lb d R S { M with segs := M.segs ++ [(k, u)] } { V with sA := A', sC := c' } w.heap.size k u D L rA rC (w99.setCell ⟨lb, 2, none⟩ (.slice A' (M.segs.length + 1) c')) ∧ Kept Kp w (w99.setCell ⟨lb, 2, none⟩ (.slice A' (M.segs.length + 1) c'))) := Lib.hid ⟨HFI.out.1, HSD.out.2.trans HFI.out.2⟩
    clear HFI HSD HOWN y1 y2 y3 m5 m6 m7 mf l99
    generalize w99.setCell ⟨lb, 2, none⟩ (.slice A' (M.segs.length + 1) c') = w9 at *
    obtain ⟨_, _, _, _, q3, _, q5, _, _⟩ := HSE.out.1.pair.cells
    obtain ⟨q1, q2, _⟩ := two_cells HSE.out.1.box
    have hkb := hk.base
    obtain ⟨o, ho⟩ : ∃ o, o = min (M.base + 1 - k) L.length := ⟨_, rfl⟩
    have hmax : max ((M.base : Int) + 1 - k) 0 = ((M.base + 1 - k : Nat) : Int) := by omega
    have hmin : min ((M.base + 1 - k : Nat) : Int) (L.length : Int) = (o : Int) := by omega
    have hwb : IntKind.i64.wrap ((M.base : Int) + 1) = (M.base : Int) + 1 := IntWalk.i64_in _ (by omega)
    have hwk : IntKind.i64.wrap ((M.base : Int) + 1 - k) = (M.base : Int) + 1 - k := IntWalk.i64_in _ (by omega)
    go_upto_region 7 with fail
    have HO := Lib.hid ho
    clear ho
    go_region_with fail
    all_goals
      clear q1 q2 q3 q5 hmax hmin hwb hwk
      try simp only [List.getElem_toArray, List.getElem_cons_succ, List.getElem_cons_zero]
      try simp only [Act.put]
      have HSF : Hid (SegIn w0 Kp lb d R S { M with segs := M.segs ++ [(k, u)] } { V with sA := A', sC := c' } w.heap.size k u D L rA rC w9.drew.drew ∧ Kept Kp w w9.drew.drew) := Lib.hid (by
        obtain ⟨g1, g2⟩ := HSE.out
        have hb : Below w9.heap.size w9 w9.drew.drew := (Below.refl _ _).drew.drew
        exact ⟨⟨g1.pair.later hb, g1.box, own_below g1.row hb, g1.rin, fun j p ys hp hy => (g1.each j p ys hp hy).keep (Chg.of_below (Φ := fun _ => False) hb) fun _ _ => id, g1.lt, g1.new⟩, g2.1, g2.2⟩)
      clear HSE
      obtain ⟨_, _, _, _, _, _, q5, _, qf⟩ := HSF.out.1.pair.cells
      have hoL : o ≤ L.length := by have := HO.out; omega
      have HRW := Lib.hid HSF.out.1.row
      have HOW := Lib.hid (HSF.out.1.pair.ex.elim fun _ h8 => h8.elim fun _ h8 => h8.1.recs)
      have HPV : Hid ((recC (partV L) (L.map Part.all)).length = L.length) := Lib.hid (by rw [HRW.out.1]; omega)
      have q5' : w9.drew.drew.cell? ⟨lb, 5, none⟩ = some (.slice V.rA M.recs.length V.rC) := q5
      have HOW' : Hid (w9.drew.drew.ownsRow 0 33 1 (.slice V.rA M.recs.length V.rC) M.recs.length (recC V.rv M.recs)) := Lib.hid HOW.out
      clear q5 HOW
      obtain ⟨r, hr⟩ : ∃ r, r = M.recs.length := ⟨_, rfl⟩
      have hlm : ((L.map Part.all).drop o).length = L.length - o := by simp
      have HAD : Hid (∀ v99 w99, w99.ownsRow 0 33 1 v99 (M.recs.length + (L.length - o)) (recC V.rv M.recs ++ (recC (partV L) (L.map Part.all)).drop o) → w9.drew.drew.grownBy w99 (Value.slice V.rA M.recs.length V.rC).ownBlock → (v99.ownBlock = (Value.slice V.rA M.recs.length V.rC).ownBlock ∨ v99.ownBlock = some w9.drew.drew.heap.size) →
          ∃ A9 c9, v99 = .slice A9 (M.recs.length + (L.length - o)) c9 ∧ w99.cell? ⟨lb, 5, none⟩ = some (.slice V.rA M.recs.length V.rC) ∧ w99.frozen? ⟨lb, 5, none⟩ = false ∧
            Hid (∃ V', WPair w0 Kp lb d R S { M with segs := M.segs ++ [(k, u)], recs := M.recs ++ (L.map Part.all).drop (M.base + 1 - k) } V' (w99.setCell ⟨lb, 5, none⟩ (.slice A9 (M.recs.length + (L.length - o)) c9)) ∧ Kept Kp w (w99.setCell ⟨lb, 5, none⟩ (.slice A9 (M.recs.length + (L.length - o)) c9)))) := Lib.hid fun v99 w99 g1 g2 g3 => by
        rw [← recC_drop] at g1
        have hdr : (L.map Part.all).drop (M.base + 1 - k) = (L.map Part.all).drop o := by
          rw [HO.out]
          rcases Nat.le_total (M.base + 1 - k) L.length with h | h
          · rw [Nat.min_eq_left h]
          · rw [Nat.min_eq_right h, List.drop_of_length_le (by simpa using h), List.drop_of_length_le (by simp)]
        have g1' := g1
        rw [← hlm] at g1'
        obtain ⟨A9, c9, e9, _, e5, ef, HF⟩ := HSF.out.1.pair.addRecs (Kp := Kp) (D := D) (fun _ h => .inl h) HSF.out.1.lt (fun i h => ⟨(HSF.out.1.new i (.inr h)).1, .inr (.inr h), (HSF.out.1.new i (.inr h)).2⟩) (pv := (partV L).drop o) (nl := (L.map Part.all).drop o) (by simp [partV]) (fun j p ys hp hy => HSF.out.1.each (o + j) p ys (by rw [← List.getElem?_drop]; exact hp) (by rw [← List.getElem?_drop]; exact hy)) g1' g2 g3
        rw [hlm] at e9 HF
        refine ⟨A9, c9, e9, e5, ef, Lib.hid ?_⟩
        obtain ⟨V', p1, p2⟩ := HF.out
        rw [hdr]
        exact ⟨V', p1, HSF.out.2.trans p2⟩
      have HNL : Hid (((recC (partV L) (L.map Part.all)).drop o).length = (L.length - o) * 1) := Lib.hid (by rw [List.length_drop, HPV.out, Nat.mul_one])
      have HN1 : Hid (∀ u ∈ (recC (partV L) (L.map Part.all)).drop o, u.oneCell' = true) := Lib.hid fun u hu => recC_one _ _ u (List.mem_of_mem_drop hu)
      cases hrA : rA with
      | none =>
        obtain ⟨hL0, hc0⟩ : L.length = 0 ∧ rC = 0 := by
          rcases HRW.out.2 with ⟨e, h0⟩ | ⟨gb, cap, cur, e, _⟩
          · exact ⟨h0, (Value.slice.inj e).2.2⟩
          · rw [hrA] at e; cases e
        have h0 : L.length - o = 0 := by omega
        have hoz : o = 0 := by omega
        simp only [h0, Nat.add_zero] at HAD HNL
        have hoi : (o : Int) ≤ L.length := by omega
        have ho0 : (0 : Int) ≤ o := by omega
        go_upto_region 8 with fail
        go_region_law (refine step_append_where (o := ⟨some 62, _, _, _, _, _⟩) rfl (.tmp 58) (.tmp 61) 34 rfl 0 33 i0 _ 1 24 Tryz.underlying34 hi hz0 hz1 hz2 rfl (by omega) (.slice V.rA M.recs.length V.rC) M.recs.length (recC V.rv M.recs) (by simp [Act.eval]) HOW'.out none 0 0 ((recC (partV L) (L.map Part.all)).drop o) (by simp [Act.eval]) HNL.out (fun _ => ⟨rfl, rfl⟩) (fun ad e => by cases e) HN1.out (by unfold maxLen; omega) (by omega) (Nat.zero_le _) ?_; intro v99 w99 ho99 hg99 hw99; obtain ⟨A9, c9, rfl, m5, mf, HFI⟩ := HAD.out v99 w99 ho99 hg99 hw99; clear ho99 hg99 hw99)
        all_goals
          have HE : Hid (SegRead w0 Kp lb d R S M f.b k w (.returned (.tuple #[.int .i64 L.length, .int .i64 (z : Int)])) (w99.setCell ⟨lb, 5, none⟩ (.slice A9 (M.recs.length) c9))) := Lib.hid (by
            obtain ⟨V', p1, p2⟩ := HFI.out
            exact ⟨L.map Part.all, u, HCH.out.1, by have := HFN.out; omega, by rw [← HFN.out]; exact HCH.out.2.1, by rw [List.length_map, ← HFN.out, ← HCH.out.2.2], V', p1, p2⟩)
          clear HFI HCH
          go_wp2_with fail
          go_ret2
          have h9 := HE.out
          rw [hL0] at h9
          exact h9
      | some ra =>
        obtain ⟨gb, hgb, hrc1, hrc2⟩ : ∃ gb, ra = ⟨gb, 0, none⟩ ∧ L.length ≤ rC ∧ rC ≤ 9223372036854775807 := by
          rcases HRW.out.2 with ⟨e, _⟩ | ⟨gb, cap, cur, e, _, _, h4, h5, _⟩
          · rw [hrA] at e; cases e
          · rw [hrA] at e
            unfold maxLen at h5
            have e1 := Value.slice.inj e
            exact ⟨gb, Option.some.inj e1.1, by rw [e1.2.2]; exact h4, by rw [e1.2.2]; exact h5⟩
        subst hgb
        obtain ⟨B, hB, HSRC⟩ : ∃ B : Addr, (if rC = o then some (⟨gb, 0, none⟩ : Addr) else some ⟨gb, o, none⟩) = some B ∧ Hid (∀ t u, ((recC (partV L) (L.map Part.all)).drop o)[t]? = some u → w9.drew.drew.cell? (B.add t) = some u) := by
          by_cases e : rC = o
          · refine ⟨⟨gb, 0, none⟩, by simp [e], Lib.hid fun t u hu => ?_⟩
            have h1 := (List.getElem?_eq_some_iff.1 hu).1
            rw [HNL.out] at h1
            omega
          · refine ⟨⟨gb, o, none⟩, by simp [e], Lib.hid fun t u hu => ?_⟩
            rw [List.getElem?_drop] at hu
            have := HRW.out.cells (g := gb) (by rw [hrA]; rfl) _ u hu
            rw [Addr.add_lit, Nat.zero_add] at this
            rw [Addr.add_lit]
            exact this
        clear hrA
        have hoi : (o : Int) ≤ L.length := by omega
        have ho0 : (0 : Int) ≤ o := by omega
        go_upto_region 8 with fail
        go_region_law (refine step_append_where (o := ⟨some 62, _, _, _, _, _⟩) rfl (.tmp 58) (.tmp 61) 34 rfl 0 33 i0 _ 1 24 Tryz.underlying34 hi hz0 hz1 hz2 rfl (by omega) (.slice V.rA M.recs.length V.rC) M.recs.length (recC V.rv M.recs) (by simp [Act.eval]) HOW'.out (some B) (L.length - o) (rC - o) ((recC (partV L) (L.map Part.all)).drop o) (by simp [Act.eval]) HNL.out (fun e => by cases e) (fun ad e t u hu => by cases e; exact HSRC.out t u hu) HN1.out (by unfold maxLen; omega) (by omega) (Nat.zero_le _) ?_; intro v99 w99 ho99 hg99 hw99; obtain ⟨A9, c9, rfl, m5, mf, HFI⟩ := HAD.out v99 w99 ho99 hg99 hw99; clear ho99 hg99 hw99)
        all_goals
          have HE : Hid (SegRead w0 Kp lb d R S M f.b k w (.returned (.tuple #[.int .i64 L.length, .int .i64 (z : Int)])) (w99.setCell ⟨lb, 5, none⟩ (.slice A9 (M.recs.length + (L.length - o)) c9))) := Lib.hid (by
            obtain ⟨V', p1, p2⟩ := HFI.out
            exact ⟨L.map Part.all, u, HCH.out.1, by have := HFN.out; omega, by rw [← HFN.out]; exact HCH.out.2.1, by rw [List.length_map, ← HFN.out, ← HCH.out.2.2], V', p1, p2⟩)
          clear HFI HCH
          go_wp2_with fail
          go_ret2
          exact HE.out
end
end Go.Proofs.YtnomicnmpllajaaGreatDoor
end
