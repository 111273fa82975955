/- What is proved here: plain facts on a disk's files, by name; and what holds of a log and its files at all times. -/
/- What is proved here: plain facts: what Append and Sync keep of a log and its files. -/
/- What is proved here: what a log's Append does. -/
/- What is proved here: what a log's Append does where a segment begins, in a log that has none. -/
import Derived.Test.YtnomicnmpllajaaGreatDoorPFu16
import Derived.Test.YtnomicnmpllajaaGreatDoorPFu11
import Derived.Outline
import Derived.Test.YtnomicnmpllajaaGreatDoorPFu12
section
namespace Go.Proofs.YtnomicnmpllajaaGreatDoor
open Go Go.RowKit

theorem findN_put {S : List RF} (hS : Rising RF.nm S) (x : RF) (k : List UInt8) : findN (putN RF.nm x S) k = if k = x.nm then some x else findN S k := by
  have hR := hS.putN x
  by_cases h : k = x.nm
  · rw [if_pos h, h]
    exact findN_some hR (mem_putN.2 (.inl rfl))
  · rw [if_neg h]
    cases h1 : findN S k with
    | none =>
      cases h2 : findN (putN RF.nm x S) k with
      | none => rfl
      | some f =>
        obtain ⟨h3, h4⟩ := findN_mem h2
        rcases mem_putN.1 h3 with rfl | ⟨h5, _⟩
        · exact absurd h4.symm h
        · exact absurd h4 (findN_none h1 f h5)
    | some f =>
      obtain ⟨h3, h4⟩ := findN_mem h1
      have h5 : f ∈ putN RF.nm x S := mem_putN.2 (.inr ⟨h3, by rw [h4]; exact h⟩)
      rw [← h4]
      exact findN_some hR h5
theorem findN_del {S : List RF} (hS : Rising RF.nm S) (n k : List UInt8) : findN (delN RF.nm n S) k = if k = n then none else findN S k := by
  have hR := hS.delN n
  by_cases h : k = n
  · rw [if_pos h]
    cases h2 : findN (delN RF.nm n S) k with
    | none => rfl
    | some f =>
      obtain ⟨h3, h4⟩ := findN_mem h2
      exact absurd (h4.trans h) (mem_delN.1 h3).2
  · rw [if_neg h]
    cases h1 : findN S k with
    | none =>
      cases h2 : findN (delN RF.nm n S) k with
      | none => rfl
      | some f =>
        obtain ⟨h3, h4⟩ := findN_mem h2
        exact absurd h4 (findN_none h1 f (mem_delN.1 h3).1)
    | some f =>
      obtain ⟨h3, h4⟩ := findN_mem h1
      have h5 : f ∈ delN RF.nm n S := mem_delN.2 ⟨h3, by rw [h4]; exact h⟩
      rw [← h4]
      exact findN_some hR h5
theorem putN_comm {S : List RF} (hS : Rising RF.nm S) {x y : RF} (h : x.nm ≠ y.nm) : putN RF.nm x (putN RF.nm y S) = putN RF.nm y (putN RF.nm x S) := by
  refine ((hS.putN y).putN x).ext ((hS.putN x).putN y) fun z => ?_
  simp only [mem_putN]
  constructor
  · rintro (rfl | ⟨rfl | ⟨h1, h2⟩, h3⟩)
    · exact .inr ⟨.inl rfl, h⟩
    · exact .inl rfl
    · exact .inr ⟨.inr ⟨h1, h3⟩, h2⟩
  · rintro (rfl | ⟨rfl | ⟨h1, h2⟩, h3⟩)
    · exact .inr ⟨.inl rfl, fun e => h e.symm⟩
    · exact .inl rfl
    · exact .inr ⟨.inr ⟨h1, h3⟩, h2⟩
theorem putN_put {S : List RF} (hS : Rising RF.nm S) {x y : RF} (h : x.nm = y.nm) : putN RF.nm x (putN RF.nm y S) = putN RF.nm x S := by
  refine ((hS.putN y).putN x).ext (hS.putN x) fun z => ?_
  simp only [mem_putN]
  constructor
  · rintro (rfl | ⟨rfl | ⟨h1, h2⟩, h3⟩)
    · exact .inl rfl
    · exact absurd h.symm h3
    · exact .inr ⟨h1, h3⟩
  · rintro (rfl | ⟨h1, h3⟩)
    · exact .inl rfl
    · exact .inr ⟨.inr ⟨h1, by rw [← h]; exact h3⟩, h3⟩
theorem delN_put {S : List RF} (hS : Rising RF.nm S) {x : RF} (h : findN S x.nm = none) : delN RF.nm x.nm (putN RF.nm x S) = S := by
  refine ((hS.putN x).delN x.nm).ext hS fun z => ?_
  rw [mem_delN, mem_putN]
  constructor
  · rintro ⟨rfl | ⟨h1, _⟩, h3⟩
    · exact absurd rfl h3
    · exact h1
  · intro h1
    have := findN_none h z h1
    exact ⟨.inr ⟨h1, this⟩, this⟩
/-- The names of segments that a disk has, in order. -/
def logsOf (S : List RF) : List (List UInt8) := (S.map RF.nm).filter isLog
theorem mem_logs {S : List RF} {n : List UInt8} : n ∈ logsOf S ↔ (∃ f ∈ S, f.nm = n) ∧ isLog n = true := by
  unfold logsOf
  rw [List.mem_filter, List.mem_map]
theorem logs_rising {S : List RF} (hS : Rising RF.nm S) : Rising id (logsOf S) := (hS.map (g := RF.nm) (nm' := id) fun _ => rfl).filter _
theorem logs_ext {S : List RF} {l : List (List UInt8)} (hS : Rising RF.nm S) (hl : Rising id l) (h : ∀ n, ((∃ f ∈ S, f.nm = n) ∧ isLog n = true) ↔ n ∈ l) : logsOf S = l := (logs_rising hS).ext hl fun n => mem_logs.trans (h n)
/-- Another file of a name that is there. -/
theorem logs_put_old {S : List RF} (hS : Rising RF.nm S) {x f : RF} (hf : findN S x.nm = some f) : logsOf (putN RF.nm x S) = logsOf S := by
  refine logs_ext (hS.putN x) (logs_rising hS) fun n => ?_
  rw [mem_logs]
  obtain ⟨h1, h2⟩ := findN_mem hf
  constructor
  · rintro ⟨⟨g, hg, rfl⟩, h3⟩
    rcases mem_putN.1 hg with rfl | ⟨h4, _⟩
    · exact ⟨⟨f, h1, h2⟩, h3⟩
    · exact ⟨⟨g, h4, rfl⟩, h3⟩
  · rintro ⟨⟨g, hg, rfl⟩, h3⟩
    by_cases e : g.nm = x.nm
    · exact ⟨⟨x, mem_putN.2 (.inl rfl), e.symm⟩, h3⟩
    · exact ⟨⟨g, mem_putN.2 (.inr ⟨hg, e⟩), rfl⟩, h3⟩
/-- A file of a name that is no segment's. -/
theorem logs_put_other {S : List RF} (hS : Rising RF.nm S) {x : RF} (hx : isLog x.nm = false) : logsOf (putN RF.nm x S) = logsOf S := by
  refine logs_ext (hS.putN x) (logs_rising hS) fun n => ?_
  rw [mem_logs]
  constructor
  · rintro ⟨⟨g, hg, rfl⟩, h3⟩
    rcases mem_putN.1 hg with rfl | ⟨h4, _⟩
    · rw [hx] at h3; cases h3
    · exact ⟨⟨g, h4, rfl⟩, h3⟩
  · rintro ⟨⟨g, hg, rfl⟩, h3⟩
    refine ⟨⟨g, mem_putN.2 (.inr ⟨hg, fun e => ?_⟩), rfl⟩, h3⟩
    rw [e, hx] at h3
    cases h3
/-- A new segment's file, behind all others. -/
theorem logs_put_new {S : List RF} (hS : Rising RF.nm S) {x : RF} (hx : isLog x.nm = true) (ha : ∀ n ∈ logsOf S, bytesBefore n x.nm = true) : logsOf (putN RF.nm x S) = logsOf S ++ [x.nm] := by
  refine logs_ext (hS.putN x) ?_ fun n => ?_
  · refine List.pairwise_append.2 ⟨logs_rising hS, List.pairwise_singleton _ _, fun a h1 b h2 => ?_⟩
    rw [List.mem_singleton.1 h2]
    exact ha a h1
  rw [List.mem_append, mem_logs, List.mem_singleton]
  constructor
  · rintro ⟨⟨g, hg, rfl⟩, h3⟩
    rcases mem_putN.1 hg with rfl | ⟨h4, _⟩
    · exact .inr rfl
    · exact .inl ⟨⟨g, h4, rfl⟩, h3⟩
  · rintro (⟨⟨g, hg, rfl⟩, h3⟩ | rfl)
    · by_cases e : g.nm = x.nm
      · exact ⟨⟨x, mem_putN.2 (.inl rfl), e.symm⟩, h3⟩
      · exact ⟨⟨g, mem_putN.2 (.inr ⟨hg, e⟩), rfl⟩, h3⟩
    · exact ⟨⟨x, mem_putN.2 (.inl rfl), rfl⟩, hx⟩
theorem logs_del_other {S : List RF} (hS : Rising RF.nm S) {k : List UInt8} (hk : isLog k = false) : logsOf (delN RF.nm k S) = logsOf S := by
  refine logs_ext (hS.delN k) (logs_rising hS) fun n => ?_
  rw [mem_logs]
  constructor
  · rintro ⟨⟨g, hg, rfl⟩, h3⟩
    exact ⟨⟨g, (mem_delN.1 hg).1, rfl⟩, h3⟩
  · rintro ⟨⟨g, hg, rfl⟩, h3⟩
    refine ⟨⟨g, mem_delN.2 ⟨hg, fun e => ?_⟩, rfl⟩, h3⟩
    rw [e, hk] at h3
    cases h3
theorem logs_del {S : List RF} (hS : Rising RF.nm S) (k : List UInt8) : logsOf (delN RF.nm k S) = (logsOf S).filter fun n => !(n == k) := by
  refine logs_ext (hS.delN k) ((logs_rising hS).filter _) fun n => ?_
  rw [List.mem_filter, mem_logs]
  constructor
  · rintro ⟨⟨g, hg, rfl⟩, h3⟩
    refine ⟨⟨⟨g, (mem_delN.1 hg).1, rfl⟩, h3⟩, ?_⟩
    simpa using (mem_delN.1 hg).2
  · rintro ⟨⟨⟨g, hg, rfl⟩, h3⟩, h4⟩
    exact ⟨⟨g, mem_delN.2 ⟨hg, by simpa using h4⟩, rfl⟩, h3⟩
theorem isLog_seg (k : Nat) : isLog (segName k) = true := rfl
theorem isLog_snap : isLog snapN = false := rfl
theorem isLog_new : isLog newN = false := rfl
theorem seg_ne_snap (k : Nat) : segName k ≠ snapN := fun e => by
  have := congrArg isLog e
  rw [isLog_seg, isLog_snap] at this
  cases this
theorem seg_ne_new (k : Nat) : segName k ≠ newN := fun e => by
  have := congrArg isLog e
  rw [isLog_seg, isLog_new] at this
  cases this

/-- A segment, with all records that its file has. -/
structure SegR where
  k : Nat
  rs : List (List Int)
def bytesR (rs : List (List Int)) : List Int := rs.flatMap sealF
theorem bytesR_app (a b : List (List Int)) : bytesR (a ++ b) = bytesR a ++ bytesR b := List.flatMap_append
theorem bytesR_one (x : List Int) : bytesR [x] = sealF x := by simp [bytesR]
theorem sealF_len (x : List Int) : (sealF x).length = 6 + x.length := by
  unfold sealF
  rw [List.length_append, List.length_append, headF_length, lowB_length]
theorem bytesR_len (rs : List (List Int)) : (bytesR rs).length = (rs.map fun xs => 6 + xs.length).sum := by
  induction rs with
  | nil => rfl
  | cons x r ih =>
    have : bytesR (x :: r) = sealF x ++ bytesR r := by simp [bytesR]
    rw [this, List.length_append, ih, sealF_len]
    simp
theorem bytesR_pos {rs : List (List Int)} (h : 0 < (bytesR rs).length) : rs ≠ [] := fun e => by
  rw [e] at h
  simp [bytesR] at h
/-- Segments, one behind the other, from a number to another one. -/
def Runs : List SegR → Nat → Nat → Prop
  | [], s, e => s = e
  | g :: r, s, e => g.k = s ∧ Runs r (s + g.rs.length) e
theorem Runs.app : ∀ {A B : List SegR} {s e : Nat}, Runs (A ++ B) s e ↔ ∃ m, Runs A s m ∧ Runs B m e
  | [], B, s, e => ⟨fun h => ⟨s, rfl, h⟩, fun ⟨m, h, h2⟩ => by
    have h : s = m := h
    rw [h]
    exact h2⟩
  | g :: A, B, s, e => by
    show (g.k = s ∧ Runs (A ++ B) _ e) ↔ ∃ m, (g.k = s ∧ Runs A _ m) ∧ Runs B m e
    rw [Runs.app (A := A)]
    exact ⟨fun ⟨h1, m, h2, h3⟩ => ⟨m, ⟨h1, h2⟩, h3⟩, fun ⟨m, ⟨h1, h2⟩, h3⟩ => ⟨h1, m, h2, h3⟩⟩
def recsR (G : List SegR) : List (List Int) := G.flatMap SegR.rs
theorem Runs.len : ∀ {G : List SegR} {s e : Nat}, Runs G s e → s + (recsR G).length = e
  | [], s, e, h => h
  | g :: G, s, e, ⟨_, h⟩ => by
    have := Runs.len h
    unfold recsR at this ⊢
    rw [List.flatMap_cons, List.length_append]
    omega
theorem Runs.in_ : ∀ {G : List SegR} {s e : Nat}, Runs G s e → ∀ g ∈ G, s ≤ g.k ∧ g.k + g.rs.length ≤ e
  | g :: G, s, e, ⟨h1, h⟩, x, hx => by
    have h2 := Runs.len h
    rcases List.mem_cons.1 hx with rfl | hx
    · omega
    · have := Runs.in_ h x hx
      omega
def segsR (G : List SegR) : List (Nat × Nat) := G.map fun g => (g.k, (bytesR g.rs).length)
/-- The file of a segment, where all up to a record is synced. -/
def FileOf (S : List RF) (syn : Nat) (g : SegR) : Prop := ∃ f, findN S (segName g.k) = some f ∧ f.b = bytesR g.rs ∧ f.s = (bytesR (g.rs.take (syn + 1 - g.k))).length
theorem FileOf.more {S : List RF} {syn syn' : Nat} {g : SegR} (h : FileOf S syn g) (h1 : g.k + g.rs.length ≤ syn + 1) (h2 : syn ≤ syn') : FileOf S syn' g := by
  obtain ⟨f, a, b, c⟩ := h
  rw [List.take_of_length_le (by omega)] at c
  exact ⟨f, a, b, by rw [List.take_of_length_le (by omega)]; exact c⟩
theorem FileOf.put {S : List RF} (hS : Rising RF.nm S) {syn : Nat} {g : SegR} (h : FileOf S syn g) {x : RF} (hx : segName g.k ≠ x.nm) : FileOf (putN RF.nm x S) syn g := by
  obtain ⟨f, a, b⟩ := h
  exact ⟨f, by rw [findN_put hS, if_neg hx]; exact a, b⟩
/-- What holds of a log and its files, behind any calls. -/
structure LI (S : List RF) (M : LogM) (G : List SegR) (st : Nat) : Prop where
  rise : Rising RF.nm S
  size : 16 ≤ M.size ∧ M.size ≤ 65536
  segs : M.segs = segsR G
  runs : Runs G st (M.last + 1)
  start : 0 < st ∧ st ≤ M.base + 1
  full : ∀ g ∈ G.dropLast, g.rs ≠ []
  recs : M.recs = (recsR G).drop (M.base + 1 - st)
  file : ∀ g ∈ G, FileOf S M.synced g
  names : logsOf S = G.map fun g => segName g.k
  other : ∀ f ∈ S, isLog f.nm = true ∨ f.nm = snapN
  snap : (findN S snapN = none ∧ M.base = 0 ∧ M.shot = []) ∨ ∃ f, findN S snapN = some f ∧ f.b = sealF (enc M.base ++ M.shot) ∧ f.s = f.b.length
  sync : M.base ≤ M.synced ∧ M.synced ≤ M.last ∧ ∀ g ∈ G, g.k ≤ M.synced + 1
  many : M.last < 900000
  bytes : ∀ g ∈ G, (bytesR g.rs).length ≤ 65536
  byt : ∀ g ∈ G, ∀ r ∈ g.rs, r.length ≤ 4096 ∧ ∀ x ∈ r, 0 ≤ x ∧ x < 256
  shot : M.shot.length ≤ 4000 ∧ ∀ x ∈ M.shot, 0 ≤ x ∧ x < 256
theorem Rising.of_log {w0 w : World} {Kp : Nat → Prop} {lb d : Nat} {R : Int} {S : List RF} {M : LogM} {V : LogV} (h : WPair w0 Kp lb d R S M V w) : Rising RF.nm S := by
  obtain ⟨Φ, Λ, _, ⟨m, L, rfl, hD⟩, _⟩ := h.ex
  exact hD.srt.map (g := Fil.f) fil_name
section
variable {S : List RF} {M : LogM} {G : List SegR} {st : Nat}
/-- A log without files. -/
theorem LI.new {n : Nat} (h1 : 16 ≤ n) (h2 : n ≤ 65536) : LI [] (newM n) [] 1 where
  rise := List.Pairwise.nil
  size := ⟨h1, h2⟩
  segs := rfl
  runs := rfl
  start := ⟨by decide, Nat.le_refl _⟩
  full := fun g hg => by cases hg
  recs := rfl
  file := fun g hg => by cases hg
  names := rfl
  other := fun f hf => by cases hf
  snap := .inl ⟨rfl, rfl, rfl⟩
  sync := ⟨Nat.le_refl _, Nat.le_refl _, fun g hg => by cases hg⟩
  many := by show 0 < _; decide
  bytes := fun g hg => by cases hg
  byt := fun g hg => by cases hg
  shot := ⟨by show 0 ≤ _; decide, fun x hx => by cases hx⟩
theorem LI.nonew (h : LI S M G st) : findN S newN = none := by
  cases e : findN S newN with
  | none => rfl
  | some f =>
    obtain ⟨h1, h2⟩ := findN_mem e
    rcases h.other f h1 with h3 | h3
    · rw [h2] at h3; cases h3
    · rw [h2] at h3; cases h3
theorem LI.lt (h : LI S M G st) {g : SegR} (hg : g ∈ G) : g.k < 100000000 := by
  have := h.runs.in_ g hg
  have := h.many
  omega
theorem LI.segCount (h : LI S M G st) : G.length ≤ M.last + 1 := by
  have h1 := h.runs.len
  have h2 : ∀ (l : List SegR), (∀ g ∈ l, g.rs ≠ []) → l.length ≤ (recsR l).length := by
    intro l
    induction l with
    | nil => intro _; simp
    | cons g r ih =>
      intro hl
      have h3 := ih fun g hg => hl g (List.mem_cons_of_mem _ hg)
      have h4 := List.length_pos_iff.2 (hl g (List.mem_cons_self ..))
      unfold recsR at h3 ⊢
      rw [List.flatMap_cons, List.length_append, List.length_cons]
      omega
  have h3 := h2 _ h.full
  have h4 : (recsR G.dropLast).length ≤ (recsR G).length := by
    rcases List.eq_nil_or_concat G with rfl | ⟨A, g, rfl⟩
    · simp
    · unfold recsR
      rw [List.concat_eq_append, List.dropLast_concat, List.flatMap_append, List.length_append]
      omega
  rw [List.length_dropLast] at h3
  have h5 := h.start.1
  omega
theorem LI.ok (h : LI S M G st) : LogOk M := by
  have h1 := h.many
  have h2 := h.segCount
  have h3 : M.segs.length = G.length := by rw [h.segs]; simp [segsR]
  have h4 := h.sync
  unfold LogM.last at h1 h2 h4
  refine ⟨h.size.2, by omega, by omega, by omega, fun s hs => ?_, by omega⟩
  rw [h.segs] at hs
  obtain ⟨g, hg, rfl⟩ := List.mem_map.1 hs
  exact ⟨h.lt hg, by have := h.bytes g hg; show (bytesR g.rs).length ≤ _; omega⟩
end
end Go.Proofs.YtnomicnmpllajaaGreatDoor
end

section
namespace Go.Proofs.YtnomicnmpllajaaGreatDoor
open Go Go.RowKit

theorem pad_mem : ∀ (n k : Nat) (c : UInt8), c ∈ pad n k → c ≠ 10
  | 0, _, _, h => by cases h
  | n + 1, k, c, h => by
    rcases List.mem_append.1 h with h | h
    · exact pad_mem n _ c h
    · rw [List.mem_singleton.1 h]
      intro e
      have h1 := congrArg UInt8.toNat e
      rw [dig_nat (Nat.mod_lt k (show 10 > 0 by omega))] at h1
      have : (10 : UInt8).toNat = 10 := rfl
      omega
theorem nameOk_seg (k : Nat) : nameOk (segName k) = true := by
  have h1 : (segName k).contains 10 = false := by
    rw [Bool.eq_false_iff]
    intro h
    have h2 : (10 : UInt8) ∈ segName k := by simpa using h
    rcases List.mem_append.1 h2 with h3 | h3
    · revert h3; decide
    · exact pad_mem 8 k 10 h3 rfl
  unfold nameOk
  rw [h1, segName_len]
  rfl
theorem appendF_put {R : Int} {S S' : List RF} {k : List UInt8} {ys : List Int} (h : appendF R S k ys = (S', 0)) : S' = putN RF.nm ⟨k, (oldRF S k).b ++ ys, (oldRF S k).s⟩ S := by
  unfold appendF at h
  split at h
  · cases h
  · split at h
    · cases h
    · cases h; rfl
/-- An append is done whole, or nothing is: the name may be. -/
theorem appendF_or {R : Int} {S : List RF} {k : List UInt8} {ys : List Int} (hk : nameOk k = true) : (∃ S', appendF R S k ys = (S', 0)) ∨ appendF R S k ys = (S, 5) := by
  unfold appendF
  rw [if_neg (by rw [hk]; simp)]
  split
  · exact .inr rfl
  · exact .inl ⟨_, rfl⟩
theorem oldRF_some {S : List RF} {k : List UInt8} {f : RF} (h : findN S k = some f) : oldRF S k = f := by unfold oldRF; rw [h]; rfl
theorem oldRF_none {S : List RF} {k : List UInt8} (h : findN S k = none) : oldRF S k = ⟨k, [], 0⟩ := by unfold oldRF; rw [h]; rfl
theorem syncF_put {S : List RF} {k : List UInt8} {f : RF} (h : findN S k = some f) : (syncF S k).1 = putN RF.nm ⟨k, f.b, f.b.length⟩ S := by
  unfold syncF
  rw [h]
  show putN RF.nm ⟨f.nm, f.b, f.b.length⟩ S = _
  rw [(findN_mem h).2]

section
variable {S : List RF} {M : LogM} {G G0 : List SegR} {st : Nat} {g : SegR}
/-- The segments ahead of the last one have names of their own, and are synced. -/
theorem LI.ahead (h : LI S M (G0 ++ [g]) st) : (∀ x ∈ G0, x.k + x.rs.length ≤ g.k ∧ x.rs ≠ [] ∧ segName x.k ≠ segName g.k) ∧ g.k + g.rs.length = M.last + 1 ∧ g.k ≤ M.synced + 1 := by
  obtain ⟨m, h1, h2, h3⟩ := Runs.app.1 h.runs
  have hg : g ∈ G0 ++ [g] := List.mem_append.2 (.inr (List.mem_singleton.2 rfl))
  have h3 : m + g.rs.length = M.last + 1 := h3
  refine ⟨fun x hx => ?_, by rw [h2]; exact h3, h.sync.2.2 g hg⟩
  have h4 := (h1.in_ x hx).2
  have h5 : x.rs ≠ [] := h.full x (by rw [List.dropLast_concat]; exact hx)
  have h6 := List.length_pos_iff.2 h5
  refine ⟨by omega, h5, fun e => ?_⟩
  have := (segName_inj (h.lt (List.mem_append.2 (.inl hx))) (h.lt hg)).1 e
  omega
theorem LI.keepOther (h : LI S M G st) {x : RF} (hx : isLog x.nm = true ∨ x.nm = snapN) : ∀ f ∈ putN RF.nm x S, isLog f.nm = true ∨ f.nm = snapN := fun f hf => by
  rcases mem_putN.1 hf with rfl | ⟨h1, _⟩
  · exact hx
  · exact h.other f h1
theorem snap_put {S : List RF} (hS : Rising RF.nm S) {x : RF} {k : Nat} (hx : x.nm = segName k) {b : Nat} {t : List Int} (h : (findN S snapN = none ∧ b = 0 ∧ t = []) ∨ ∃ f, findN S snapN = some f ∧ f.b = sealF (enc b ++ t) ∧ f.s = f.b.length) :
    (findN (putN RF.nm x S) snapN = none ∧ b = 0 ∧ t = []) ∨ ∃ f, findN (putN RF.nm x S) snapN = some f ∧ f.b = sealF (enc b ++ t) ∧ f.s = f.b.length := by
  rw [findN_put hS, if_neg (fun e => seg_ne_snap k (by rw [← hx]; exact e.symm))]
  exact h

theorem LI.sync0 (h : LI S M [] st) : LI S { M with synced := M.last } [] st where
  rise := h.rise
  size := h.size
  segs := h.segs
  runs := h.runs
  start := h.start
  full := h.full
  recs := h.recs
  file := fun g hg => by cases hg
  names := h.names
  other := h.other
  snap := h.snap
  sync := ⟨by show M.base ≤ M.last; unfold LogM.last; omega, Nat.le_refl _, fun g hg => by cases hg⟩
  many := h.many
  bytes := h.bytes
  byt := h.byt
  shot := h.shot
/-- Sync. -/
theorem LI.syncd (h : LI S M (G0 ++ [g]) st) : LI (syncF S (segName g.k)).1 { M with synced := M.last } (G0 ++ [g]) st := by
  obtain ⟨h1, h2, h3⟩ := h.ahead
  have hg : g ∈ G0 ++ [g] := List.mem_append.2 (.inr (List.mem_singleton.2 rfl))
  obtain ⟨f, hf, hb, hs⟩ := h.file g hg
  rw [syncF_put hf]
  exact {
    rise := h.rise.putN _
    size := h.size
    segs := h.segs
    runs := h.runs
    start := h.start
    full := h.full
    recs := h.recs
    file := fun x hx => by
      rcases List.mem_append.1 hx with hx' | hx'
      · obtain ⟨h4, h5, h6⟩ := h1 x hx'
        exact ((h.file x hx).more (by omega) h.sync.2.1).put h.rise h6
      · rw [List.mem_singleton.1 hx']
        refine ⟨⟨segName g.k, f.b, f.b.length⟩, by rw [findN_put h.rise, if_pos rfl], hb, ?_⟩
        show f.b.length = (bytesR (g.rs.take (M.last + 1 - g.k))).length
        rw [hb, List.take_of_length_le (by omega)]
    names := by rw [logs_put_old h.rise (f := f) hf]; exact h.names
    other := h.keepOther (.inl (isLog_seg _))
    snap := snap_put h.rise rfl h.snap
    sync := ⟨by show M.base ≤ M.last; unfold LogM.last; omega, Nat.le_refl _, fun x hx => by
      show x.k ≤ M.last + 1
      have := h.sync.2.2 x hx
      have := h.sync.2.1
      omega⟩
    many := h.many
    bytes := h.bytes
    byt := h.byt
    shot := h.shot }
theorem recsR_app (A B : List SegR) : recsR (A ++ B) = recsR A ++ recsR B := List.flatMap_append
theorem recsR_one (k : Nat) (rs : List (List Int)) : recsR [⟨k, rs⟩] = rs := by simp [recsR]
theorem segsR_app (A B : List SegR) : segsR (A ++ B) = segsR A ++ segsR B := List.map_append
theorem drop_more {l m : List (List Int)} {n : Nat} (h : n ≤ l.length) : (l ++ m).drop n = l.drop n ++ m := by rw [List.drop_append_of_le_length h]
/-- A record more in the last segment. -/
theorem LI.on (h : LI S M (G0 ++ [g]) st) {xs : List Int} (hx : ∀ x ∈ xs, 0 ≤ x ∧ x < 256) (hn : xs.length ≤ 4096) (hfit : (bytesR g.rs).length = 0 ∨ (bytesR g.rs).length + (xs.length + 6) ≤ M.size) (hm : M.last + 1 < 900000) {R : Int} {S' : List RF} (hrm : appendF R S (segName g.k) (sealF xs) = (S', 0)) :
    LI S' { M with segs := M.segs.set G0.length (g.k, (bytesR g.rs).length + (xs.length + 6)), recs := M.recs ++ [xs] } (G0 ++ [⟨g.k, g.rs ++ [xs]⟩]) st := by
  obtain ⟨h1, h2, h3⟩ := h.ahead
  have hg : g ∈ G0 ++ [g] := List.mem_append.2 (.inr (List.mem_singleton.2 rfl))
  obtain ⟨f, hf, hb, hs⟩ := h.file g hg
  have hput := appendF_put hrm
  rw [oldRF_some hf] at hput
  have hlast : LogM.last { M with segs := M.segs.set G0.length (g.k, (bytesR g.rs).length + (xs.length + 6)), recs := M.recs ++ [xs] } = M.last + 1 := by
    unfold LogM.last
    simp
    omega
  have hbl : (bytesR (g.rs ++ [xs])).length = (bytesR g.rs).length + (xs.length + 6) := by rw [bytesR_app, bytesR_one, List.length_append, sealF_length]
  have hsz := h.size
  have hlen := h.runs.len
  rw [hput]
  obtain ⟨m, r1, r2, r3⟩ := Runs.app.1 h.runs
  exact {
    rise := h.rise.putN _
    size := h.size
    segs := by
      show M.segs.set G0.length _ = segsR (G0 ++ [⟨g.k, g.rs ++ [xs]⟩])
      rw [h.segs, segsR_app, segsR_app]
      have : (segsR G0).length = G0.length := by simp [segsR]
      rw [List.set_append_right _ _ (by omega), this, Nat.sub_self]
      simp [segsR, hbl]
    runs := by
      rw [hlast]
      refine Runs.app.2 ⟨m, r1, r2, ?_⟩
      show m + (g.rs ++ [xs]).length = M.last + 1 + 1
      have r3 : m + g.rs.length = M.last + 1 := r3
      rw [List.length_append]
      simp
      omega
    start := h.start
    full := fun x hx => by
      rw [List.dropLast_concat] at hx
      exact (h1 x hx).2.1
    recs := by
      show M.recs ++ [xs] = (recsR (G0 ++ [⟨g.k, g.rs ++ [xs]⟩])).drop (M.base + 1 - st)
      have e : recsR (G0 ++ [⟨g.k, g.rs ++ [xs]⟩]) = recsR (G0 ++ [g]) ++ [xs] := by
        rw [recsR_app, recsR_app, recsR_one, ← List.append_assoc]
        simp [recsR]
      rw [e, drop_more, h.recs]
      have := h.start
      unfold LogM.last at hlen
      omega
    file := fun x hx => by
      rcases List.mem_append.1 hx with hx' | hx'
      · obtain ⟨h4, h5, h6⟩ := h1 x hx'
        exact (h.file x (List.mem_append.2 (.inl hx'))).put h.rise h6
      · rw [List.mem_singleton.1 hx']
        refine ⟨_, by rw [findN_put h.rise, if_pos rfl], ?_, ?_⟩
        · show f.b ++ sealF xs = bytesR (g.rs ++ [xs])
          rw [bytesR_app, bytesR_one, hb]
        · show f.s = (bytesR ((g.rs ++ [xs]).take (M.synced + 1 - g.k))).length
          have := h.sync
          rw [List.take_append_of_le_length (by omega)]
          exact hs
    names := by
      rw [logs_put_old h.rise (f := f) hf, h.names]
      simp
    other := h.keepOther (.inl (isLog_seg _))
    snap := snap_put h.rise rfl h.snap
    sync := ⟨h.sync.1, by rw [hlast]; exact Nat.le_succ_of_le h.sync.2.1, fun x hx => by
      rcases List.mem_append.1 hx with hx' | hx'
      · exact h.sync.2.2 x (List.mem_append.2 (.inl hx'))
      · rw [List.mem_singleton.1 hx']
        exact h.sync.2.2 g hg⟩
    many := by rw [hlast]; exact hm
    bytes := fun x hx => by
      rcases List.mem_append.1 hx with hx' | hx'
      · exact h.bytes x (List.mem_append.2 (.inl hx'))
      · rw [List.mem_singleton.1 hx']
        show (bytesR (g.rs ++ [xs])).length ≤ 65536
        rw [hbl]
        omega
    byt := fun x hx' => by
      rcases List.mem_append.1 hx' with hx' | hx'
      · exact h.byt x (List.mem_append.2 (.inl hx'))
      · rw [List.mem_singleton.1 hx']
        intro r hr
        rcases List.mem_append.1 hr with hr | hr
        · exact h.byt g hg r hr
        · rw [List.mem_singleton.1 hr]
          exact ⟨hn, hx⟩
    shot := h.shot }
/-- A record in a new segment, where all that was there is synced. -/
theorem LI.begun (h : LI S M G st) (hsy : M.synced = M.last) (hfull : ∀ g ∈ G, g.rs ≠ []) {xs : List Int} (hx : ∀ x ∈ xs, 0 ≤ x ∧ x < 256) (hn : xs.length ≤ 4096) (hm : M.last + 1 < 900000) :
    LI (putN RF.nm ⟨segName (M.last + 1), sealF xs, 0⟩ S) { M with segs := M.segs ++ [(M.last + 1, xs.length + 6)], recs := M.recs ++ [xs] } (G ++ [⟨M.last + 1, [xs]⟩]) (if G = [] then M.last + 1 else st) := by
  have hlast : LogM.last { M with segs := M.segs ++ [(M.last + 1, xs.length + 6)], recs := M.recs ++ [xs] } = M.last + 1 := by
    unfold LogM.last
    simp
    omega
  have hbl : (bytesR [xs]).length = xs.length + 6 := by rw [bytesR_one, sealF_length]
  have hlen := h.runs.len
  have hltn : ∀ x ∈ G, x.k < M.last + 1 := fun x hx => by
    have h1 := (h.runs.in_ x hx).2
    have h2 := List.length_pos_iff.2 (hfull x hx)
    omega
  have hne : ∀ x ∈ G, segName x.k ≠ segName (M.last + 1) := fun x hx e => by
    have h1 := hltn x hx
    have := (segName_inj (h.lt hx) (by omega)).1 e
    omega
  exact {
    rise := h.rise.putN _
    size := h.size
    segs := by
      show M.segs ++ _ = segsR (G ++ [_])
      rw [segsR_app, h.segs]
      simp [segsR, hbl]
    runs := by
      rw [hlast]
      by_cases e : G = []
      · rw [if_pos e, e]
        exact ⟨rfl, by show M.last + 1 + 1 = M.last + 1 + 1; rfl⟩
      · rw [if_neg e]
        exact Runs.app.2 ⟨_, h.runs, rfl, by show M.last + 1 + 1 = M.last + 1 + 1; rfl⟩
    start := by
      show 0 < _ ∧ _ ≤ M.base + 1
      by_cases e : G = []
      · rw [if_pos e]
        subst e
        have h1 := h.recs
        have : M.recs = [] := by rw [h1]; simp [recsR]
        unfold LogM.last
        rw [this]
        exact ⟨Nat.succ_pos _, Nat.le_refl _⟩
      · rw [if_neg e]
        exact h.start
    full := fun x hx => by
      rw [List.dropLast_concat] at hx
      exact hfull x hx
    recs := by
      show M.recs ++ [xs] = (recsR (G ++ [⟨M.last + 1, [xs]⟩])).drop (M.base + 1 - _)
      rw [recsR_app, recsR_one]
      by_cases e : G = []
      · subst e
        have h1 := h.recs
        have h2 : M.recs = [] := by rw [h1]; simp [recsR]
        rw [if_pos rfl, h2]
        have : M.base + 1 - (M.last + 1) = 0 := by unfold LogM.last; omega
        rw [this]
        rfl
      · rw [if_neg e, drop_more, h.recs]
        have := h.start
        unfold LogM.last at hlen
        omega
    file := fun x hx => by
      rcases List.mem_append.1 hx with hx' | hx'
      · exact (h.file x hx').put h.rise (hne x hx')
      · rw [List.mem_singleton.1 hx']
        refine ⟨_, by rw [findN_put h.rise, if_pos rfl], ?_, ?_⟩
        · show sealF xs = bytesR [xs]
          rw [bytesR_one]
        · show 0 = (bytesR ([xs].take (M.synced + 1 - (M.last + 1)))).length
          rw [hsy, Nat.sub_self]
          rfl
    names := by
      rw [logs_put_new h.rise (isLog_seg _), h.names]
      · simp
      · intro n hn
        rw [h.names] at hn
        obtain ⟨x, hx, rfl⟩ := List.mem_map.1 hn
        have := hltn x hx
        rw [segName_before (h.lt hx) (by omega)]
        exact decide_eq_true this
    other := h.keepOther (.inl (isLog_seg _))
    snap := snap_put h.rise rfl h.snap
    sync := ⟨h.sync.1, by rw [hlast]; exact Nat.le_succ_of_le h.sync.2.1, fun x hx => by
      show x.k ≤ M.synced + 1
      rcases List.mem_append.1 hx with hx' | hx'
      · exact h.sync.2.2 x hx'
      · rw [List.mem_singleton.1 hx', hsy]
        exact Nat.le_refl _⟩
    many := by rw [hlast]; exact hm
    bytes := fun x hx => by
      rcases List.mem_append.1 hx with hx' | hx'
      · exact h.bytes x hx'
      · rw [List.mem_singleton.1 hx']
        show (bytesR [xs]).length ≤ 65536
        rw [hbl]
        omega
    byt := fun x hx' => by
      rcases List.mem_append.1 hx' with hx' | hx'
      · exact h.byt x hx'
      · rw [List.mem_singleton.1 hx']
        intro r hr
        rw [List.mem_singleton.1 hr]
        exact ⟨hn, hx⟩
    shot := h.shot }
theorem LI.find_none (h : LI S M G st) {k : Nat} (hk : k < 100000000) (hG : ∀ g ∈ G, g.k ≠ k) : findN S (segName k) = none := by
  cases e : findN S (segName k) with
  | none => rfl
  | some f =>
    obtain ⟨h1, h2⟩ := findN_mem e
    have h3 : segName k ∈ logsOf S := mem_logs.2 ⟨⟨f, h1, h2⟩, isLog_seg k⟩
    rw [h.names] at h3
    obtain ⟨x, hx, e⟩ := List.mem_map.1 h3
    exact absurd ((segName_inj (h.lt hx) hk).1 e) (hG x hx)
end
end Go.Proofs.YtnomicnmpllajaaGreatDoor
end

section
namespace Go.Proofs.YtnomicnmpllajaaGreatDoor
open Go Go.RowKit

section
variable {w0 w wr w' : World} {Kp Kp' : Nat → Prop} {lb d : Nat} {R : Int} {S S' : List RF} {M : LogM} {V : LogV}
theorem WPair.size0 (h : WPair w0 Kp lb d R S M V w) : w0.heap.size ≤ w.heap.size := h.below.size

set_option maxHeartbeats 3200000 in
set_option maxRecDepth 100000 in
theorem Append_on (h : WPair w0 Kp lb d R S M V w) (hKp : ∀ k, Kp k → k < w.heap.size) (ht : Tab w0) (hk : LogOk M) {A : Option Addr} {n c : Nat} {xs : List Int} (hr : Rd w w.heap.size .u8 A n c xs) (hx : ∀ x ∈ xs, 0 ≤ x ∧ x < 256) (hA : ∀ a, A = some a → 0 < n → Kp a.block)
    (hn : n ≤ 4096) (hnum : M.last + 1 < 100000000) (hS : S.length ≤ 1000000) {k : Nat} {s : Nat × Nat} (hl : M.segs.length = k + 1) (hs : M.segs[k]? = some s) (hfit : s.2 = 0 ∨ s.2 + (n + 6) ≤ M.size) (hrm : appendF R S (segName s.1) (sealF xs) = (S', 0)) (hrn : M.recs.length < 1000000) (hsb : s.2 + (n + 6) ≤ 1048576) :
    Calls Tryz.prog 24 #[.pointer (some ⟨lb, 0, none⟩), .slice A n c] w fun e w' => e = .returned (.int .i64 0) ∧ ∃ V', WPair w0 Kp lb d R S' { M with segs := M.segs.set k (s.1, s.2 + (n + 6)), recs := M.recs ++ [xs] } V' w' ∧ Kept Kp w w' := by
  obtain ⟨g, hg⟩ := h.row hs
  have hs1 := (hk.segs s (List.mem_of_getElem? hs)).1
  have hs2 := (hk.segs s (List.mem_of_getElem? hs)).2
  have hMs := hk.size
  have HSE : Hid (Calls Tryz.prog 31 #[.slice A n c] w fun e w1 => ∃ vA vC, e = .returned (.tuple #[.slice vA (n + 6) vC, .int .i64 0]) ∧ n + 6 ≤ vC ∧ vC ≤ 9223372036854775807 ∧ Hid (Rd w1 w1.heap.size .u8 vA (n + 6) vC (sealF xs)) ∧ Hid (WPair w0 Kp lb d R S M V w1) ∧ Hid (Below w.heap.size w w1)) := Lib.hid (by
    refine (Seal_any A n c xs w hr hx hn).mono ?_
    rintro e w1 ⟨v, rfl, ho, hb⟩
    obtain ⟨vA, vC, rfl, hrd⟩ := Rd.of_own ho
    have hm := hrd.max
    unfold maxLen at hm
    exact ⟨vA, vC, rfl, hrd.cap, hm, Lib.hid hrd, Lib.hid (h.later hb), Lib.hid hb⟩)
  have HLA := Lib.hid fun W (hW : WPair w0 Kp lb d R S M V W) => hW.Last_ hk
  have HLL := Lib.hid fun W S (hW : WPair w0 Kp lb d R S M V W) => hW.last_ hk hl hg
  have HC := Lib.hid fun W S (hW : WPair w0 Kp lb d R S M V W) => hW.cells
  have HSG := Lib.hid fun W S (hW : WPair w0 Kp lb d R S M V W) => hW.seg hs hg
  have HNM : Hid (∀ w1 W vA vC, Rd w1 w1.heap.size .u8 vA (n + 6) vC (sealF xs) → Below w.heap.size w w1 → WPair w0 Kp lb d R S M V W → Below w1.heap.size w1 W →
      Calls Tryz.prog 54 #[.agg #[.int .i64 s.1, .int .i64 s.2]] W fun e w5 => e = .returned (.string (nameS s.1)) ∧ w5.cell? ⟨lb, 0, none⟩ = some (.pointer (some ⟨d, 0, none⟩)) ∧ w5.cell? ⟨g, k * 2, none⟩ = some (.int .i64 s.1) ∧ w5.cell? ⟨g, k * 2 + 1, none⟩ = some (.int .i64 s.2) ∧
        Hid (Calls Tryz.prog 33 #[.pointer (some ⟨d, 0, none⟩), .string (nameS s.1), .slice vA (n + 6) vC] w5 fun e w6 => e = .returned (.int .i64 0) ∧ w6.cell? ⟨lb, 0, none⟩ = some (.pointer (some ⟨d, 0, none⟩)) ∧ w6.cell? ⟨g, k * 2, none⟩ = some (.int .i64 s.1) ∧ w6.cell? ⟨g, k * 2 + 1, none⟩ = some (.int .i64 s.2) ∧ Hid (WPair w0 Kp lb d R S' M V w6 ∧ Kept Kp w w6))) := Lib.hid fun w1 W vA vC hrd hb1 hW hb1W => by
    refine (hW.name_ ht s.1 s.2 hs1).mono ?_
    rintro e w5 ⟨rfl, h5, hb5⟩
    obtain ⟨_, x0, x1, _⟩ := h5.seg hs hg
    refine ⟨rfl, h5.cells.2.1, x0, x1, Lib.hid ?_⟩
    have hb15 : Below w1.heap.size w1 w5 := hb1W.trans (hb5.mono hb1W.size)
    have hK5 : Kept Kp w w5 := Kept.of_below (hb1.trans (hb15.mono hb1.size)) hKp
    refine (h5.dapp (fun i hi => Nat.lt_of_lt_of_le (hKp i hi) hK5.2) (nameS s.1) (by rw [nameS_size]; unfold maxLen; omega) vA (n + 6) vC (sealF xs) ((hrd.below hb15).more hb15.size) (sealF_bytes hx) hS).mono ?_
    rintro e w6 ⟨rfl, h6, hk6⟩
    rw [nameS_list, hrm] at h6 ⊢
    obtain ⟨_, y0, y1, _⟩ := h6.seg hs hg
    exact ⟨rfl, h6.cells.2.1, y0, y1, Lib.hid ⟨h6, hK5.trans hk6⟩⟩
  have HSB : Hid (∀ W, WPair w0 Kp lb d R S' M V W → WPair w0 Kp lb d R S' { M with segs := M.segs.set k (s.1, s.2 + (n + 6)) } V (W.setCell ⟨g, k * 2 + 1, none⟩ (.int .i64 ((s.2 : Int) + ((n : Int) + 6)))) ∧ Kept Kp W (W.setCell ⟨g, k * 2 + 1, none⟩ (.int .i64 ((s.2 : Int) + ((n : Int) + 6))))) := Lib.hid fun W hW => by
    have h1 := hW.setBytes (v := s.2 + (n + 6)) hs hg
    rw [show ((s.2 + (n + 6) : Nat) : Int) = (s.2 : Int) + ((n : Int) + 6) by omega] at h1
    exact h1
  obtain ⟨i0, hi, hz0, hz1, hz2⟩ := info_parts info_row
  have HXN := Lib.hid hr.len
  have HXB := Lib.hid hx
  have HKB : Hid (∀ W, Kept Kp w W → ∀ k, Kp k → k < W.heap.size) := Lib.hid fun W hK i hi => Nat.lt_of_lt_of_le (hKp i hi) hK.2
  have HRK : Hid (∀ W, Kept Kp w W → Rd W W.heap.size .u8 A n c xs) := Lib.hid fun W hK => hr.kept hK hA
  have hlast0 : (M.last : Int) + 1 < 100000000 := by omega
  have hnd : decide ((100000000 : Int) ≤ (M.last : Int) + 1) = false := decide_eq_false (by omega)
  generalize hlst : M.last = lst at *
  have HLST := Lib.hid hlst
  have HR := Lib.hid hr
  clear h hr hlst hKp ht hk hrm
  obtain ⟨sf, sb⟩ := s
  simp only at *
  go_enter Tryz.func24, Tryz.ntmps24
  go_wp2_with (first
    | (go_at_call 31; refine HSE.out.mono ?_; rintro e w1 ⟨vA, vC, rfl, hvc, hvm, HSV, HP1, HB1⟩)
    | (go_at_call 21; refine (HLA.out _ HP1.out).mono ?_; rintro e w2 ⟨rfl, h2, hb2⟩; have HP2 := Lib.hid h2; have HB2 := Lib.hid hb2; clear h2 hb2)
    | (go_at_call 53; refine (HLL.out _ _ HP2.out).mono ?_; rintro e w3 ⟨rfl, h3, hb3⟩; have HP3 := Lib.hid h3; have HB3 := Lib.hid (HB1.out.trans ((HB2.out.trans (hb3.mono HB2.out.size)).mono HB1.out.size)); have HBS := Lib.hid (HB2.out.trans (hb3.mono HB2.out.size)); obtain ⟨l8, l0, l1, _, _, _, _, _, _⟩ := HC.out _ _ h3; obtain ⟨l9, s0, s1, _⟩ := HSG.out _ _ h3; clear h3 hb3))
  have hw1 : IntKind.i64.wrap ((sb : Int) + ((n : Int) + 6)) = (sb : Int) + ((n : Int) + 6) := IntWalk.i64_in _ (by omega)
  have hcase : (sb = 0) ∨ ((0 : Int) < sb ∧ (sb : Int) + ((n : Int) + 6) ≤ M.size) := by omega
  rcases hcase with hc0 | ⟨hc0, hc1⟩
  · have e1 : decide (0 < sb) = false := decide_eq_false (by omega)
    have e2 : decide ((0 : Int) < (sb : Int)) = false := decide_eq_false (by omega)
    clear hc0 hfit
    go_quiet (fail)
    have HP4 : Hid (WPair w0 Kp lb d R S M V (w3.drewN nq)) := Lib.hid (HP3.out.drewN nq)
    have HB4 : Hid (Below w.heap.size w (w3.drewN nq)) := Lib.hid (HB3.out.trans ((drewn_below w3 nq).mono HB3.out.size))
    have HB14 : Hid (Below w1.heap.size w1 (w3.drewN nq)) := Lib.hid (HBS.out.trans ((drewn_below w3 nq).mono HBS.out.size))
    generalize w3.drewN nq = w4 at *
    clear l8 l9 l0 l1 s0 s1 hw1
    obtain ⟨l8, l0, _, _, _, _, _, _, _⟩ := HC.out _ _ HP4.out
    obtain ⟨l9, s0, s1, _⟩ := HSG.out _ _ HP4.out
    go_upto_region 11 with fail
    have HNM4 := Lib.hid (HNM.out w1 w4.drew vA vC HSV.out HB1.out (HP4.out.later (Below.refl _ _).drew) HB14.out.drew)
    go_region_held3 (fun w' => w'.cell? ⟨lb, 0, none⟩ = some (.pointer (some ⟨d, 0, none⟩)) ∧ w'.cell? ⟨g, k * 2, none⟩ = some (.int .i64 sf) ∧ w'.cell? ⟨g, k * 2 + 1, none⟩ = some (.int .i64 sb))
      (first | exact ⟨by assumption, by assumption, by assumption⟩ | exact ⟨l0, s0, s1⟩)
      (first
        | (go_at_call 54; refine (HNM4.out).mono ?_; rintro e w5 ⟨rfl, x0, x1, x2, HAP⟩)
        | (go_at_call 33; refine (HAP.out).mono ?_; rintro e w6 ⟨rfl, y0, y1, y2, HP6⟩))
    all_goals
      clear l8 l9 l0 s0 s1 x0 x1 x2 y0 y1 y2
      go_wp2_with (go_at_call 53; refine (HLL.out _ _ HP6.out.1).mono ?_; rintro e w7 ⟨rfl, h7, hb7⟩; have HP7 := Lib.hid h7; have HB7 := Lib.hid hb7; obtain ⟨l9, _, s1, sf1⟩ := HSG.out _ _ h7; clear h7 hb7)
      obtain ⟨hp8, hk8⟩ := HSB.out w7 HP7.out
      have HP8 := Lib.hid hp8
      have HK8 : Hid (Kept Kp w (w7.setCell ⟨g, k * 2 + 1, none⟩ (.int .i64 ((sb : Int) + ((n : Int) + 6))))) := Lib.hid ((HP6.out.2.trans (Kept.of_below HB7.out (HKB.out w6 HP6.out.2))).trans hk8)
      clear hp8 hk8 l9 s1 sf1
      generalize w7.setCell ⟨g, k * 2 + 1, none⟩ (.int .i64 ((sb : Int) + ((n : Int) + 6))) = w8 at *
      obtain ⟨l8, _, _, _, _, _, l5, _, lf⟩ := HP8.out.cells
      have l5' : w8.cell? ⟨lb, 5, none⟩ = some (.slice V.rA M.recs.length V.rC) := l5
      clear l5
      have HCL8 : Hid (Calls Tryz.prog 55 #[.slice A n c] w8.drew fun e w9 => ∃ cA cC, e = .returned (.slice cA n cC) ∧ w9.cell? ⟨lb, 5, none⟩ = some (.slice V.rA M.recs.length V.rC) ∧ Hid (w9.ownsRow w8.heap.size 5 1 (.slice cA n cC) n (xs.map (Value.int .u8))) ∧ Hid (w9.ownsRow 0 33 1 (.slice V.rA M.recs.length V.rC) M.recs.length (recC V.rv M.recs)) ∧
          Hid (∀ v99 w99 o, w99.ownsRow 0 33 1 v99 (M.recs.length + 1) (recC V.rv M.recs ++ [.slice cA n cC]) → (w9.alloc o).grownBy w99 (Value.slice V.rA M.recs.length V.rC).ownBlock → (v99.ownBlock = (Value.slice V.rA M.recs.length V.rC).ownBlock ∨ v99.ownBlock = some (w9.alloc o).heap.size) →
            ∃ A' c', v99 = .slice A' (M.recs.length + 1) c' ∧ lb < w99.heap.size ∧ w99.cell? ⟨lb, 5, none⟩ = some (.slice V.rA M.recs.length V.rC) ∧ w99.frozen? ⟨lb, 5, none⟩ = false ∧
              Hid (∃ V', WPair w0 Kp lb d R S' { M with segs := M.segs.set k (sf, sb + (n + 6)), recs := M.recs ++ [xs] } V' (w99.setCell ⟨lb, 5, none⟩ (.slice A' (M.recs.length + 1) c')) ∧ Kept Kp w8 (w99.setCell ⟨lb, 5, none⟩ (.slice A' (M.recs.length + 1) c'))))) := Lib.hid (by
        have hb8 : Below w8.heap.size w8 w8.drew := (Below.refl _ _).drew
        refine (Clone_any A n c xs w8.drew ((HRK.out w8 HK8.out).below hb8) (by omega)).mono ?_
        rintro e w9 ⟨v, rfl, ho9, hb9⟩
        obtain ⟨cA, cC, rfl⟩ := own_shape ho9
        have hb9' : Below w8.heap.size w8 w9 := hb8.trans hb9
        obtain ⟨Φ, Λ, hlog, _⟩ := HP8.out.ex
        have hl9 := hlog.later hb9'
        exact ⟨cA, cC, rfl, hl9.cells.2.2.2.2.2.1, Lib.hid ho9, Lib.hid hl9.recs, Lib.hid fun v99 w99 o h1 h2 h3 => HP8.out.addRec (HKB.out w8 HK8.out) hb9' ho9 HXN.out HXB.out (by omega) h1 h2 h3⟩)
      refine wp_region_G (fun w' => w'.cell? ⟨lb, 5, none⟩ = some (.slice V.rA M.recs.length V.rC)) 9 (by kernel_rfl) ?_
      have hS0 : w8.drew.cell? ⟨lb, 5, none⟩ = some (.slice V.rA M.recs.length V.rC) := l5'
      refine wpAnyG_take (i := 0) (oi := _) (v := ?_) rfl (by kernel_rfl) (by kernel_rfl) (by kernel_rfl) (by kernel_rfl) (fun _ _ _ h => h) (Or.inl ⟨by rfl, ?_⟩) hS0 ?_
      rotate_left
      · (intro wS hSw; go_simp; try with_reducible rfl)
      try simp only [Act.put]
      refine wpAnyG_take (i := 1) (oi := _) (v := ?_) rfl (by kernel_rfl) (by kernel_rfl) (by kernel_rfl) (by kernel_rfl) (fun _ _ _ h => h) (Or.inl ⟨by rfl, ?_⟩) hS0 ?_
      rotate_left
      · (intro wS hSw; go_simp; try with_reducible rfl)
      try simp only [Act.put]
      refine wpAnyG_take (i := 2) (oi := _) (v := ?_) rfl (by kernel_rfl) (by kernel_rfl) (by kernel_rfl) (by kernel_rfl) (fun _ _ _ h => h) (Or.inl ⟨by rfl, ?_⟩) hS0 ?_
      rotate_left
      · (intro wS hSw; go_simp; try with_reducible rfl)
      try simp only [Act.put]
      refine wpAnyG_take (i := 3) (oi := _) (v := ?_) rfl (by kernel_rfl) (by kernel_rfl) (by kernel_rfl) (by kernel_rfl) (fun _ _ _ h => h) (Or.inl ⟨by rfl, ?_⟩) hS0 ?_
      rotate_left
      · (intro wS hSw; go_simp; try with_reducible rfl)
      try simp only [Act.put]
      refine wpAnyG_take (i := 4) (oi := _) (v := ?_) rfl (by kernel_rfl) (by kernel_rfl) (by kernel_rfl) (by kernel_rfl) (fun _ _ _ h => h) (Or.inl ⟨by rfl, ?_⟩) hS0 ?_
      rotate_left
      · (intro wS hSw; go_simp; try with_reducible rfl)
      try simp only [Act.put]
      refine wpAnyG_take (i := 5) (oi := _) (v := ?_) rfl (by kernel_rfl) (by kernel_rfl) (by kernel_rfl) (by kernel_rfl) (fun _ _ _ h => h) (Or.inl ⟨by rfl, ?_⟩) hS0 ?_
      rotate_left
      · (intro wS hSw; go_simp; try with_reducible rfl)
      try simp only [Act.put]
      refine wpAnyG_one (i := 6) (o := ⟨some 97, _, _, _, _, _⟩) (by kernel_rfl) rfl (fun K hK => ?_)
      go_simp
      refine (HCL8.out).mono ?_
      rintro e w9 ⟨cA, cC, rfl, l59, HO9, HR9, HADD⟩
      refine hK.out _ _ (fun _ => l59) ?_
      clear hK K
      try simp only [Act.put]
      refine wpAnyG_one (i := 7) (o := ⟨some 98, _, _, _, _, _⟩) (by kernel_rfl) rfl (fun K hK => ?_)
      go_simp
      refine hK.out _ _ (fun _ => by go_keep) ?_
      clear hK K
      try simp only [Act.put]
      refine wpAnyG_one (i := 8) (o := ⟨some 99, _, _, _, _, _⟩) (by kernel_rfl) rfl (fun K hK => ?_)
      refine step_append_where (o := ⟨some 99, _, _, _, _, _⟩) rfl (.tmp 95) (.tmp 98) 34 rfl 0 33 i0 _ 1 24 Tryz.underlying34 hi hz0 hz1 hz2 rfl (by omega) _ M.recs.length _ rfl (HR9.out.alloc _) (some ⟨w9.heap.size, 0, none⟩) 1 1 [.slice cA n cC] rfl rfl (fun e => by cases e) (news1 w9 _ _) (by simp [Value.oneCell']) (by unfold maxLen; omega) (by omega) (Nat.zero_le _) ?_
      intro v99 w99 ho99 hg99 hw99
      obtain ⟨A', c', rfl, l99, m5, mf, HFIN⟩ := HADD.out v99 w99 _ ho99 hg99 hw99
      clear ho99 hg99 hw99
      refine hK.out _ _ (fun _ => m5) ?_
      clear hK K
      try simp only [Act.put]
      refine wpAnyG_one (i := 9) (o := ⟨some 100, _, _, _, _, _⟩) (by kernel_rfl) rfl (fun K hK => ?_)
      go_simp
      refine hK.out _ _ (fun h => absurd h (by decide)) ?_
      clear hK K
      try simp only [Act.put]
      refine wpAnyG_one (i := 10) (o := ⟨some 101, _, _, _, _, _⟩) (by kernel_rfl) rfl (fun K hK => ?_)
      go_simp
      refine hK.out _ _ (fun h => absurd h (by decide)) ?_
      clear hK K
      try simp only [Act.put]
      refine wpAnyG_one (i := 11) (o := ⟨none, _, _, _, _, _⟩) (by kernel_rfl) rfl (fun K hK => ?_)
      go_simp
      refine hK.out _ _ (fun h => absurd h (by decide)) ?_
      clear hK K
      try simp only [Act.put]
      refine wpAnyG_done (by kernel_rfl) ?_ _
      go_wp2_with fail
      go_ret
      obtain ⟨V', hp, hk9⟩ := HFIN.out
      first | exact ⟨rfl, ⟨V', hp⟩, HK8.out.trans hk9⟩ | exact ⟨rfl, V', hp, HK8.out.trans hk9⟩
  · have e1 : 0 < sb := by omega
    have e2 : decide (0 < sb) = true := decide_eq_true e1
    have e3 : decide (M.size < sb + (n + 6)) = false := decide_eq_false (by omega)
    have e4 : decide ((M.size : Int) < (sb : Int) + ((n : Int) + 6)) = false := decide_eq_false (by omega)
    clear hc1 hfit
    go_quiet (fail)
    have HP4 : Hid (WPair w0 Kp lb d R S M V (w3.drewN nq)) := Lib.hid (HP3.out.drewN nq)
    have HB4 : Hid (Below w.heap.size w (w3.drewN nq)) := Lib.hid (HB3.out.trans ((drewn_below w3 nq).mono HB3.out.size))
    have HB14 : Hid (Below w1.heap.size w1 (w3.drewN nq)) := Lib.hid (HBS.out.trans ((drewn_below w3 nq).mono HBS.out.size))
    generalize w3.drewN nq = w4 at *
    clear l8 l9 l0 l1 s0 s1 hw1
    obtain ⟨l8, l0, _, _, _, _, _, _, _⟩ := HC.out _ _ HP4.out
    obtain ⟨l9, s0, s1, _⟩ := HSG.out _ _ HP4.out
    go_upto_region 11 with fail
    have HNM4 := Lib.hid (HNM.out w1 w4.drew vA vC HSV.out HB1.out (HP4.out.later (Below.refl _ _).drew) HB14.out.drew)
    go_region_held3 (fun w' => w'.cell? ⟨lb, 0, none⟩ = some (.pointer (some ⟨d, 0, none⟩)) ∧ w'.cell? ⟨g, k * 2, none⟩ = some (.int .i64 sf) ∧ w'.cell? ⟨g, k * 2 + 1, none⟩ = some (.int .i64 sb))
      (first | exact ⟨by assumption, by assumption, by assumption⟩ | exact ⟨l0, s0, s1⟩)
      (first
        | (go_at_call 54; refine (HNM4.out).mono ?_; rintro e w5 ⟨rfl, x0, x1, x2, HAP⟩)
        | (go_at_call 33; refine (HAP.out).mono ?_; rintro e w6 ⟨rfl, y0, y1, y2, HP6⟩))
    all_goals
      clear l8 l9 l0 s0 s1 x0 x1 x2 y0 y1 y2
      go_wp2_with (go_at_call 53; refine (HLL.out _ _ HP6.out.1).mono ?_; rintro e w7 ⟨rfl, h7, hb7⟩; have HP7 := Lib.hid h7; have HB7 := Lib.hid hb7; obtain ⟨l9, _, s1, sf1⟩ := HSG.out _ _ h7; clear h7 hb7)
      obtain ⟨hp8, hk8⟩ := HSB.out w7 HP7.out
      have HP8 := Lib.hid hp8
      have HK8 : Hid (Kept Kp w (w7.setCell ⟨g, k * 2 + 1, none⟩ (.int .i64 ((sb : Int) + ((n : Int) + 6))))) := Lib.hid ((HP6.out.2.trans (Kept.of_below HB7.out (HKB.out w6 HP6.out.2))).trans hk8)
      clear hp8 hk8 l9 s1 sf1
      generalize w7.setCell ⟨g, k * 2 + 1, none⟩ (.int .i64 ((sb : Int) + ((n : Int) + 6))) = w8 at *
      obtain ⟨l8, _, _, _, _, _, l5, _, lf⟩ := HP8.out.cells
      have l5' : w8.cell? ⟨lb, 5, none⟩ = some (.slice V.rA M.recs.length V.rC) := l5
      clear l5
      have HCL8 : Hid (Calls Tryz.prog 55 #[.slice A n c] w8.drew fun e w9 => ∃ cA cC, e = .returned (.slice cA n cC) ∧ w9.cell? ⟨lb, 5, none⟩ = some (.slice V.rA M.recs.length V.rC) ∧ Hid (w9.ownsRow w8.heap.size 5 1 (.slice cA n cC) n (xs.map (Value.int .u8))) ∧ Hid (w9.ownsRow 0 33 1 (.slice V.rA M.recs.length V.rC) M.recs.length (recC V.rv M.recs)) ∧
          Hid (∀ v99 w99 o, w99.ownsRow 0 33 1 v99 (M.recs.length + 1) (recC V.rv M.recs ++ [.slice cA n cC]) → (w9.alloc o).grownBy w99 (Value.slice V.rA M.recs.length V.rC).ownBlock → (v99.ownBlock = (Value.slice V.rA M.recs.length V.rC).ownBlock ∨ v99.ownBlock = some (w9.alloc o).heap.size) →
            ∃ A' c', v99 = .slice A' (M.recs.length + 1) c' ∧ lb < w99.heap.size ∧ w99.cell? ⟨lb, 5, none⟩ = some (.slice V.rA M.recs.length V.rC) ∧ w99.frozen? ⟨lb, 5, none⟩ = false ∧
              Hid (∃ V', WPair w0 Kp lb d R S' { M with segs := M.segs.set k (sf, sb + (n + 6)), recs := M.recs ++ [xs] } V' (w99.setCell ⟨lb, 5, none⟩ (.slice A' (M.recs.length + 1) c')) ∧ Kept Kp w8 (w99.setCell ⟨lb, 5, none⟩ (.slice A' (M.recs.length + 1) c'))))) := Lib.hid (by
        have hb8 : Below w8.heap.size w8 w8.drew := (Below.refl _ _).drew
        refine (Clone_any A n c xs w8.drew ((HRK.out w8 HK8.out).below hb8) (by omega)).mono ?_
        rintro e w9 ⟨v, rfl, ho9, hb9⟩
        obtain ⟨cA, cC, rfl⟩ := own_shape ho9
        have hb9' : Below w8.heap.size w8 w9 := hb8.trans hb9
        obtain ⟨Φ, Λ, hlog, _⟩ := HP8.out.ex
        have hl9 := hlog.later hb9'
        exact ⟨cA, cC, rfl, hl9.cells.2.2.2.2.2.1, Lib.hid ho9, Lib.hid hl9.recs, Lib.hid fun v99 w99 o h1 h2 h3 => HP8.out.addRec (HKB.out w8 HK8.out) hb9' ho9 HXN.out HXB.out (by omega) h1 h2 h3⟩)
      refine wp_region_G (fun w' => w'.cell? ⟨lb, 5, none⟩ = some (.slice V.rA M.recs.length V.rC)) 9 (by kernel_rfl) ?_
      have hS0 : w8.drew.cell? ⟨lb, 5, none⟩ = some (.slice V.rA M.recs.length V.rC) := l5'
      refine wpAnyG_take (i := 0) (oi := _) (v := ?_) rfl (by kernel_rfl) (by kernel_rfl) (by kernel_rfl) (by kernel_rfl) (fun _ _ _ h => h) (Or.inl ⟨by rfl, ?_⟩) hS0 ?_
      rotate_left
      · (intro wS hSw; go_simp; try with_reducible rfl)
      try simp only [Act.put]
      refine wpAnyG_take (i := 1) (oi := _) (v := ?_) rfl (by kernel_rfl) (by kernel_rfl) (by kernel_rfl) (by kernel_rfl) (fun _ _ _ h => h) (Or.inl ⟨by rfl, ?_⟩) hS0 ?_
      rotate_left
      · (intro wS hSw; go_simp; try with_reducible rfl)
      try simp only [Act.put]
      refine wpAnyG_take (i := 2) (oi := _) (v := ?_) rfl (by kernel_rfl) (by kernel_rfl) (by kernel_rfl) (by kernel_rfl) (fun _ _ _ h => h) (Or.inl ⟨by rfl, ?_⟩) hS0 ?_
      rotate_left
      · (intro wS hSw; go_simp; try with_reducible rfl)
      try simp only [Act.put]
      refine wpAnyG_take (i := 3) (oi := _) (v := ?_) rfl (by kernel_rfl) (by kernel_rfl) (by kernel_rfl) (by kernel_rfl) (fun _ _ _ h => h) (Or.inl ⟨by rfl, ?_⟩) hS0 ?_
      rotate_left
      · (intro wS hSw; go_simp; try with_reducible rfl)
      try simp only [Act.put]
      refine wpAnyG_take (i := 4) (oi := _) (v := ?_) rfl (by kernel_rfl) (by kernel_rfl) (by kernel_rfl) (by kernel_rfl) (fun _ _ _ h => h) (Or.inl ⟨by rfl, ?_⟩) hS0 ?_
      rotate_left
      · (intro wS hSw; go_simp; try with_reducible rfl)
      try simp only [Act.put]
      refine wpAnyG_take (i := 5) (oi := _) (v := ?_) rfl (by kernel_rfl) (by kernel_rfl) (by kernel_rfl) (by kernel_rfl) (fun _ _ _ h => h) (Or.inl ⟨by rfl, ?_⟩) hS0 ?_
      rotate_left
      · (intro wS hSw; go_simp; try with_reducible rfl)
      try simp only [Act.put]
      refine wpAnyG_one (i := 6) (o := ⟨some 97, _, _, _, _, _⟩) (by kernel_rfl) rfl (fun K hK => ?_)
      go_simp
      refine (HCL8.out).mono ?_
      rintro e w9 ⟨cA, cC, rfl, l59, HO9, HR9, HADD⟩
      refine hK.out _ _ (fun _ => l59) ?_
      clear hK K
      try simp only [Act.put]
      refine wpAnyG_one (i := 7) (o := ⟨some 98, _, _, _, _, _⟩) (by kernel_rfl) rfl (fun K hK => ?_)
      go_simp
      refine hK.out _ _ (fun _ => by go_keep) ?_
      clear hK K
      try simp only [Act.put]
      refine wpAnyG_one (i := 8) (o := ⟨some 99, _, _, _, _, _⟩) (by kernel_rfl) rfl (fun K hK => ?_)
      refine step_append_where (o := ⟨some 99, _, _, _, _, _⟩) rfl (.tmp 95) (.tmp 98) 34 rfl 0 33 i0 _ 1 24 Tryz.underlying34 hi hz0 hz1 hz2 rfl (by omega) _ M.recs.length _ rfl (HR9.out.alloc _) (some ⟨w9.heap.size, 0, none⟩) 1 1 [.slice cA n cC] rfl rfl (fun e => by cases e) (news1 w9 _ _) (by simp [Value.oneCell']) (by unfold maxLen; omega) (by omega) (Nat.zero_le _) ?_
      intro v99 w99 ho99 hg99 hw99
      obtain ⟨A', c', rfl, l99, m5, mf, HFIN⟩ := HADD.out v99 w99 _ ho99 hg99 hw99
      clear ho99 hg99 hw99
      refine hK.out _ _ (fun _ => m5) ?_
      clear hK K
      try simp only [Act.put]
      refine wpAnyG_one (i := 9) (o := ⟨some 100, _, _, _, _, _⟩) (by kernel_rfl) rfl (fun K hK => ?_)
      go_simp
      refine hK.out _ _ (fun h => absurd h (by decide)) ?_
      clear hK K
      try simp only [Act.put]
      refine wpAnyG_one (i := 10) (o := ⟨some 101, _, _, _, _, _⟩) (by kernel_rfl) rfl (fun K hK => ?_)
      go_simp
      refine hK.out _ _ (fun h => absurd h (by decide)) ?_
      clear hK K
      try simp only [Act.put]
      refine wpAnyG_one (i := 11) (o := ⟨none, _, _, _, _, _⟩) (by kernel_rfl) rfl (fun K hK => ?_)
      go_simp
      refine hK.out _ _ (fun h => absurd h (by decide)) ?_
      clear hK K
      try simp only [Act.put]
      refine wpAnyG_done (by kernel_rfl) ?_ _
      go_wp2_with fail
      go_ret
      obtain ⟨V', hp, hk9⟩ := HFIN.out
      first | exact ⟨rfl, ⟨V', hp⟩, HK8.out.trans hk9⟩ | exact ⟨rfl, V', hp, HK8.out.trans hk9⟩
end
end Go.Proofs.YtnomicnmpllajaaGreatDoor
end

section
namespace Go.Proofs.YtnomicnmpllajaaGreatDoor
open Go Go.RowKit

section
variable {w0 w wr w' : World} {Kp Kp' : Nat → Prop} {lb d : Nat} {R : Int} {S S' : List RF} {M : LogM} {V : LogV}

set_option maxHeartbeats 3200000 in
set_option maxRecDepth 100000 in
theorem Append_first (h : WPair w0 Kp lb d R S M V w) (hKp : ∀ k, Kp k → k < w.heap.size) (ht : Tab w0) (hk : LogOk M) {A : Option Addr} {n c : Nat} {xs : List Int} (hr : Rd w w.heap.size .u8 A n c xs) (hx : ∀ x ∈ xs, 0 ≤ x ∧ x < 256) (hA : ∀ a, A = some a → 0 < n → Kp a.block)
    (hn : n ≤ 4096) (hnum : M.last + 1 < 100000000) (hS : S.length ≤ 1000000) (hl : M.segs = []) (hrm : appendF R S (segName (M.last + 1)) (sealF xs) = (S', 0)) (hrn : M.recs.length < 1000000) (hsn : M.segs.length < 1000000) :
    Calls Tryz.prog 24 #[.pointer (some ⟨lb, 0, none⟩), .slice A n c] w fun e w' => e = .returned (.int .i64 0) ∧ ∃ V', WPair w0 Kp lb d R S' { M with synced := M.last, segs := M.segs ++ [(M.last + 1, n + 6)], recs := M.recs ++ [xs] } V' w' ∧ Kept Kp w w' := by
  have hMs := hk.size
  have hk2 : LogOk { M with synced := M.last, segs := M.segs ++ [(M.last + 1, 0)] } := ⟨hk.size, by simp; omega, hk.recn, hk.base, fun q hq => by
    rcases List.mem_append.1 hq with hq | hq
    · exact hk.segs q hq
    · simp at hq
      subst hq
      exact ⟨hnum, Nat.zero_le _⟩, by show M.last ≤ _; omega⟩
  have HSE : Hid (Calls Tryz.prog 31 #[.slice A n c] w fun e w1 => ∃ vA vC, e = .returned (.tuple #[.slice vA (n + 6) vC, .int .i64 0]) ∧ n + 6 ≤ vC ∧ vC ≤ 9223372036854775807 ∧ Hid (Rd w1 w1.heap.size .u8 vA (n + 6) vC (sealF xs)) ∧ Hid (WPair w0 Kp lb d R S M V w1) ∧ Hid (Below w.heap.size w w1)) := Lib.hid (by
    refine (Seal_any A n c xs w hr hx hn).mono ?_
    rintro e w1 ⟨v, rfl, ho, hb⟩
    obtain ⟨vA, vC, rfl, hrd⟩ := Rd.of_own ho
    have hm := hrd.max
    unfold maxLen at hm
    exact ⟨vA, vC, rfl, hrd.cap, hm, Lib.hid hrd, Lib.hid (h.later hb), Lib.hid hb⟩)
  have HLA := Lib.hid fun W (hW : WPair w0 Kp lb d R S M V W) => hW.Last_ hk
  have HLL := Lib.hid fun W (hW : WPair w0 Kp lb d R S M V W) => hW.last0_ hl
  have HC := Lib.hid fun W M V S Kp (hW : WPair w0 Kp lb d R S M V W) => hW.cells
  -- from the box of the new segment on
  have HNM : Hid (∀ w1 W tb vA vC, Rd w1 w1.heap.size .u8 vA (n + 6) vC (sealF xs) → Below w.heap.size w w1 → tb = W.heap.size → WPair w0 Kp lb d R S M V W → Below w1.heap.size w1 W → ∀ W2, W2 = (W.alloc (.cells #[.int .i64 ((M.last : Int) + 1), .int .i64 0] 99)).drew →
      W2.cell? ⟨lb, 0, none⟩ = some (.pointer (some ⟨d, 0, none⟩)) ∧ W2.cell? ⟨tb, 0, none⟩ = some (.int .i64 ((M.last : Int) + 1)) ∧ W2.cell? ⟨tb, 1, none⟩ = some (.int .i64 0) ∧ Calls Tryz.prog 54 #[.agg #[.int .i64 ((M.last : Int) + 1), .int .i64 0]] W2 fun e w5 => e = .returned (.string (nameS (M.last + 1))) ∧ w5.cell? ⟨lb, 0, none⟩ = some (.pointer (some ⟨d, 0, none⟩)) ∧ w5.cell? ⟨tb, 0, none⟩ = some (.int .i64 ((M.last : Int) + 1)) ∧ w5.cell? ⟨tb, 1, none⟩ = some (.int .i64 0) ∧
        Hid (Calls Tryz.prog 33 #[.pointer (some ⟨d, 0, none⟩), .string (nameS (M.last + 1)), .slice vA (n + 6) vC] w5 fun e w6 => e = .returned (.int .i64 0) ∧ w6.cell? ⟨lb, 0, none⟩ = some (.pointer (some ⟨d, 0, none⟩)) ∧ w6.cell? ⟨tb, 0, none⟩ = some (.int .i64 ((M.last : Int) + 1)) ∧ w6.cell? ⟨tb, 1, none⟩ = some (.int .i64 0) ∧
          Hid (Calls Tryz.prog 25 #[.pointer (some ⟨lb, 0, none⟩)] w6 fun e w7 => e = .returned (.int .i64 0) ∧ w7.cell? ⟨lb, 0, none⟩ = some (.pointer (some ⟨d, 0, none⟩)) ∧ w7.cell? ⟨tb, 0, none⟩ = some (.int .i64 ((M.last : Int) + 1)) ∧ w7.cell? ⟨tb, 1, none⟩ = some (.int .i64 0) ∧ w7.cell? ⟨lb, 2, none⟩ = some (.slice V.sA M.segs.length V.sC) ∧ Hid (WPair w0 (fun i => Kp i ∨ i = tb) lb d R S' { M with synced := M.last } V w7 ∧ Kept Kp w w7 ∧ w7.heap[tb]? = some (.cells #[.int .i64 ((M.last : Int) + 1), .int .i64 0] 99 (0, 0)) ∧ ∀ i, (Kp i ∨ i = tb) → i < w7.heap.size))) ) := Lib.hid fun w1 W tb vA vC hrd hb1 htb hW hb1W W2 hW2 => by
    have hbW2 : Below W.heap.size W W2 := by rw [hW2]; exact ((Below.refl _ _).alloc (Nat.le_refl _) _).drew
    have hbox : W2.heap[tb]? = some (.cells #[.int .i64 ((M.last : Int) + 1), .int .i64 0] 99 (0, 0)) := by rw [hW2, htb]; exact heap_alloc_new W _
    have hsz2 : tb < W2.heap.size := lt_of_block hbox
    have hKW : ∀ k, Kp k → k < W.heap.size := fun i hi => Nat.lt_of_lt_of_le (hKp i hi) (Nat.le_trans hb1.size hb1W.size)
    have hP2 : WPair w0 (fun i => Kp i ∨ i = tb) lb d R S M V W2 := (hW.keepK fun i h1 h2 => by rcases h2 with h2 | h2; exact h2; omega).later hbW2
    have hKp2 : ∀ i, (Kp i ∨ i = tb) → i < W2.heap.size := fun i hi => by
      rcases hi with hi | hi
      · have := hKW i hi; have := hbW2.size; omega
      · omega
    have hwW2 : Kept Kp w W2 := Kept.of_below (hb1.trans ((hb1W.mono hb1.size).trans (hbW2.mono (Nat.le_trans hb1.size hb1W.size)))) hKp
    have hcells : ∀ w', Kept (fun i => Kp i ∨ i = tb) W2 w' → w'.cell? ⟨tb, 0, none⟩ = some (.int .i64 ((M.last : Int) + 1)) ∧ w'.cell? ⟨tb, 1, none⟩ = some (.int .i64 0) := fun w' hK => by
      have h1 : w'.heap[tb]? = _ := (hK.1 tb (.inr rfl)).trans hbox
      obtain ⟨c0, c1, _⟩ := two_cells h1
      exact ⟨c0, c1⟩
    obtain ⟨t0, t1⟩ := hcells W2 ⟨fun _ _ => rfl, Nat.le_refl _⟩
    refine ⟨hP2.cells.2.1, t0, t1, ?_⟩
    have hname := hP2.name_ ht (M.last + 1) 0 hnum
    rw [show ((M.last + 1 : Nat) : Int) = (M.last : Int) + 1 by omega, show ((0 : Nat) : Int) = 0 from rfl] at hname
    refine hname.mono ?_
    rintro e w5 ⟨rfl, h5, hb5⟩
    have hK5 := Kept.of_below hb5 hKp2
    obtain ⟨x0, x1⟩ := hcells w5 hK5
    refine ⟨rfl, h5.cells.2.1, x0, x1, Lib.hid ?_⟩
    have hb15 : Below w1.heap.size w1 w5 := (hb1W.trans (hbW2.mono hb1W.size)).trans (hb5.mono (Nat.le_trans hb1W.size hbW2.size))
    refine (h5.dapp (fun i hi => Nat.lt_of_lt_of_le (hKp2 i hi) hK5.2) (nameS (M.last + 1)) (by rw [nameS_size]; unfold maxLen; omega) vA (n + 6) vC (sealF xs) ((hrd.below hb15).more hb15.size) (sealF_bytes hx) hS).mono ?_
    rintro e w6 ⟨rfl, h6, hk6⟩
    rw [nameS_list, hrm] at h6 ⊢
    have hK6 := hK5.trans hk6
    obtain ⟨y0, y1⟩ := hcells w6 hK6
    refine ⟨rfl, h6.cells.2.1, y0, y1, Lib.hid ?_⟩
    have hKp6 : ∀ i, (Kp i ∨ i = tb) → i < w6.heap.size := fun i hi => Nat.lt_of_lt_of_le (hKp2 i hi) hK6.2
    refine (Sync_none h6 hKp6 hk hl).mono ?_
    rintro e w7 ⟨rfl, h7, hk7⟩
    have hK7 := hK6.trans hk7
    obtain ⟨z0, z1⟩ := hcells w7 hK7
    exact ⟨rfl, h7.cells.2.1, z0, z1, h7.cells.2.2.2.1, Lib.hid ⟨h7, hwW2.trans ⟨fun i hi => hK7.1 i (.inl hi), hK7.2⟩, (hK7.1 tb (.inr rfl)).trans hbox, fun i hi => Nat.lt_of_lt_of_le (hKp2 i hi) hK7.2⟩⟩
  have hsl : (M.segs ++ [(M.last + 1, 0)])[M.segs.length]? = some (M.last + 1, 0) := by simp
  obtain ⟨i0, hi, hz0, hz1, hz2⟩ := info_parts info_row
  obtain ⟨j0, hj, jz0, jz1, jz2⟩ := info_parts info_seg
  have HXN := Lib.hid hr.len
  have HXB := Lib.hid hx
  have HKB : Hid (∀ W, Kept Kp w W → ∀ k, Kp k → k < W.heap.size) := Lib.hid fun W hK i hi => Nat.lt_of_lt_of_le (hKp i hi) hK.2
  have HRK : Hid (∀ W, Kept Kp w W → Rd W W.heap.size .u8 A n c xs) := Lib.hid fun W hK => hr.kept hK hA
  have HOWN := Lib.hid fun w8 tb (h8 : WPair w0 (fun i => Kp i ∨ i = tb) lb d R S' { M with synced := M.last } V w8) => h8.ex.elim fun _ h8 => h8.elim fun _ h8 => h8.1.segs
  have HADS : Hid (∀ w8 tb, WPair w0 (fun i => Kp i ∨ i = tb) lb d R S' { M with synced := M.last } V w8 → Kept Kp w w8 → w8.heap[tb]? = some (.cells #[.int .i64 ((M.last : Int) + 1), .int .i64 0] 99 (0, 0)) → (∀ i, (Kp i ∨ i = tb) → i < w8.heap.size) → ∀ v99 w99 o, w99.ownsRow 0 99 2 v99 (M.segs.length + 1) (segC M.segs ++ [.int .i64 ((M.last : Int) + 1), .int .i64 0]) → (w8.alloc o).grownBy w99 (Value.slice V.sA M.segs.length V.sC).ownBlock → (v99.ownBlock = (Value.slice V.sA M.segs.length V.sC).ownBlock ∨ v99.ownBlock = some (w8.alloc o).heap.size) →
      ∃ A' c', v99 = .slice A' (M.segs.length + 1) c' ∧ lb < w99.heap.size ∧ w99.cell? ⟨lb, 2, none⟩ = some (.slice V.sA M.segs.length V.sC) ∧ w99.cell? ⟨tb, 0, none⟩ = some (.int .i64 ((M.last : Int) + 1)) ∧ w99.cell? ⟨tb, 1, none⟩ = some (.int .i64 0) ∧ w99.frozen? ⟨lb, 2, none⟩ = false ∧ Hid (∃ V2 g, A' = some ⟨g, 0, none⟩ ∧ V2.sA = some ⟨g, 0, none⟩ ∧ WPair w0 Kp lb d R S' { M with synced := M.last, segs := M.segs ++ [(M.last + 1, 0)] } V2 (w99.setCell ⟨lb, 2, none⟩ (.slice A' (M.segs.length + 1) c')) ∧ Kept Kp w (w99.setCell ⟨lb, 2, none⟩ (.slice A' (M.segs.length + 1) c')))) := Lib.hid fun w8 tb h8 hk8 ht8 hlt v99 w99 o h1 h2 h3 => by
    obtain ⟨A', c', rfl, m1, m2, m3, m4, ⟨hp, hk9⟩⟩ := h8.addSeg hlt (Below.refl _ _) (M.last + 1, 0) (v99 := v99) (w99 := w99) (o := o) h1 h2 h3
    obtain ⟨c0, c1, _⟩ := two_cells ((m4 tb (.inr rfl)).trans ht8)
    have hp' := hp.keepK (Kp' := Kp) fun i _ hi => .inl hi
    obtain ⟨g, hg⟩ := hp'.row hsl
    exact ⟨A', c', rfl, m1, m2, c0, c1, m3, Lib.hid ⟨_, g, hg, hg, hp', hk8.trans ⟨fun i hi => hk9.1 i (.inl hi), hk9.2⟩⟩⟩
  have HLL2 := Lib.hid fun W V2 g (hW : WPair w0 Kp lb d R S' { M with synced := M.last, segs := M.segs ++ [(M.last + 1, 0)] } V2 W) (hg : V2.sA = some ⟨g, 0, none⟩) => hW.last_ hk2 (k := M.segs.length) (by simp) hg
  have HSG2 := Lib.hid fun W V2 g (hW : WPair w0 Kp lb d R S' { M with synced := M.last, segs := M.segs ++ [(M.last + 1, 0)] } V2 W) (hg : V2.sA = some ⟨g, 0, none⟩) => hW.seg hsl hg
  have HSB : Hid (∀ W V2 g, WPair w0 Kp lb d R S' { M with synced := M.last, segs := M.segs ++ [(M.last + 1, 0)] } V2 W → V2.sA = some ⟨g, 0, none⟩ → WPair w0 Kp lb d R S' { M with synced := M.last, segs := M.segs ++ [(M.last + 1, n + 6)] } V2 (W.setCell ⟨g, M.segs.length * 2 + 1, none⟩ (.int .i64 ((n : Int) + 6))) ∧ Kept Kp W (W.setCell ⟨g, M.segs.length * 2 + 1, none⟩ (.int .i64 ((n : Int) + 6)))) := Lib.hid fun W V2 g hW hg => by
    have h1 := hW.setBytes (v := 0 + (n + 6)) hsl hg
    have e : (M.segs ++ [(M.last + 1, 0)]).set M.segs.length (M.last + 1, 0 + (n + 6)) = M.segs ++ [(M.last + 1, n + 6)] := by simp
    rw [show ((0 + (n + 6) : Nat) : Int) = (n : Int) + 6 by omega] at h1
    simp only [e] at h1
    exact h1
  have HROW := Lib.hid fun W V2 (hW : WPair w0 Kp lb d R S' { M with synced := M.last, segs := M.segs ++ [(M.last + 1, 0)] } V2 W) => hW.row hsl
  have hnd : decide ((100000000 : Int) ≤ (M.last : Int) + 1) = false := decide_eq_false (by omega)
  have hlast0 : (M.last : Int) + 1 < 100000000 := by omega
  clear h hr hKp ht hk hrm hsl hk2 hx hl
  go_enter Tryz.func24, Tryz.ntmps24
  go_wp2_with (first
    | (go_at_call 31; refine HSE.out.mono ?_; rintro e w1 ⟨vA, vC, rfl, hvc, hvm, HSV, HP1, HB1⟩)
    | (go_at_call 21; refine (HLA.out _ HP1.out).mono ?_; rintro e w2 ⟨rfl, h2, hb2⟩; have HP2 := Lib.hid h2; have HB2 := Lib.hid hb2; clear h2 hb2)
    | (go_at_call 53; refine (HLL.out _ HP2.out).mono ?_; rintro e w3 ⟨rfl, h3, hb3⟩; have HP3 := Lib.hid h3; have HBS := Lib.hid (HB2.out.trans (hb3.mono HB2.out.size)); obtain ⟨l8, l0, l1, _, _, _, _, _, _⟩ := HC.out _ _ _ _ _ h3; clear h3 hb3))
  go_quiet (fail)
  have HP4 : Hid (WPair w0 Kp lb d R S M V (w3.drewN nq)) := Lib.hid (HP3.out.drewN nq)
  have HB14 : Hid (Below w1.heap.size w1 (w3.drewN nq)) := Lib.hid (HBS.out.trans ((drewn_below w3 nq).mono HBS.out.size))
  generalize w3.drewN nq = w4 at *
  clear l8 l0 l1
  go_upto_region 11 with fail
  obtain ⟨l0, t0, t1, hnm⟩ := HNM.out w1 w4 w4.heap.size vA vC HSV.out HB1.out rfl HP4.out HB14.out _ rfl
  have HNM4 := Lib.hid hnm
  clear hnm
  go_region_held3 (fun w' => w'.cell? ⟨lb, 0, none⟩ = some (.pointer (some ⟨d, 0, none⟩)) ∧ w'.cell? ⟨w4.heap.size, 0, none⟩ = some (.int .i64 ((M.last : Int) + 1)) ∧ w'.cell? ⟨w4.heap.size, 1, none⟩ = some (.int .i64 0))
    (first | exact ⟨by assumption, by assumption, by assumption⟩ | exact ⟨l0, t0, t1⟩)
    (first
      | (go_at_call 54; refine (HNM4.out).mono ?_; rintro e w5 ⟨rfl, x0, x1, x2, HAP⟩)
      | (go_at_call 33; refine (HAP.out).mono ?_; rintro e w6 ⟨rfl, y0, y1, y2, HSYN⟩))
  all_goals
    clear l0 t0 t1 x0 x1 x2 y0 y1 y2
    go_wp2_with (go_at_call 25; refine (HSYN.out).mono ?_; rintro e wa ⟨rfl, z0, z1, z2, z3, HPA⟩)
    refine wp_region_G (fun w' => w'.cell? ⟨lb, 2, none⟩ = some (.slice V.sA M.segs.length V.sC) ∧ w'.cell? ⟨w4.heap.size, 0, none⟩ = some (.int .i64 ((M.last : Int) + 1)) ∧ w'.cell? ⟨w4.heap.size, 1, none⟩ = some (.int .i64 0)) 10 (by kernel_rfl) ?_
    have HPD := Lib.hid (HPA.out.1.later (Below.refl _ _).drew)
    have HKD : Hid (Kept Kp w wa.drew) := Lib.hid ⟨fun i hi => HPA.out.2.1.1 i hi, HPA.out.2.1.2⟩
    have HBX : Hid (wa.drew.heap[w4.heap.size]? = _) := Lib.hid HPA.out.2.2.1
    have HLT : Hid (∀ i, (Kp i ∨ i = w4.heap.size) → i < wa.drew.heap.size) := Lib.hid HPA.out.2.2.2
    have hS0 : wa.drew.cell? ⟨lb, 2, none⟩ = some (.slice V.sA M.segs.length V.sC) ∧ wa.drew.cell? ⟨w4.heap.size, 0, none⟩ = some (.int .i64 ((M.last : Int) + 1)) ∧ wa.drew.cell? ⟨w4.heap.size, 1, none⟩ = some (.int .i64 0) := ⟨z3, z1, z2⟩
    clear z0 z1 z2 z3 HPA HSYN HAP HNM4
    generalize wa.drew = wd at *
    refine wpAnyG_take (i := 0) (oi := _) (v := ?_) rfl (by kernel_rfl) (by kernel_rfl) (by kernel_rfl) (by kernel_rfl) (fun _ _ _ h => h) (Or.inl ⟨by rfl, ?_⟩) hS0 ?_
    rotate_left
    · (intro wS hSw; obtain ⟨y1, y2, y3⟩ := hSw; go_simp; try with_reducible rfl)
    try simp only [Act.put]
    refine wpAnyG_take (i := 1) (oi := _) (v := ?_) rfl (by kernel_rfl) (by kernel_rfl) (by kernel_rfl) (by kernel_rfl) (fun _ _ _ h => h) (Or.inl ⟨by rfl, ?_⟩) hS0 ?_
    rotate_left
    · (intro wS hSw; obtain ⟨y1, y2, y3⟩ := hSw; go_simp; try with_reducible rfl)
    try simp only [Act.put]
    refine wpAnyG_take (i := 2) (oi := _) (v := ?_) rfl (by kernel_rfl) (by kernel_rfl) (by kernel_rfl) (by kernel_rfl) (fun _ _ _ h => h) (Or.inl ⟨by rfl, ?_⟩) hS0 ?_
    rotate_left
    · (intro wS hSw; obtain ⟨y1, y2, y3⟩ := hSw; go_simp; try with_reducible rfl)
    try simp only [Act.put]
    refine wpAnyG_take (i := 3) (oi := _) (v := ?_) rfl (by kernel_rfl) (by kernel_rfl) (by kernel_rfl) (by kernel_rfl) (fun _ _ _ h => h) (Or.inl ⟨by rfl, ?_⟩) hS0 ?_
    rotate_left
    · (intro wS hSw; obtain ⟨y1, y2, y3⟩ := hSw; go_simp; try with_reducible rfl)
    try simp only [Act.put]
    refine wpAnyG_take (i := 4) (oi := _) (v := ?_) rfl (by kernel_rfl) (by kernel_rfl) (by kernel_rfl) (by kernel_rfl) (fun _ _ _ h => h) (Or.inl ⟨by rfl, ?_⟩) hS0 ?_
    rotate_left
    · (intro wS hSw; obtain ⟨y1, y2, y3⟩ := hSw; go_simp; try with_reducible rfl)
    try simp only [Act.put]
    refine wpAnyG_take (i := 5) (oi := _) (v := ?_) rfl (by kernel_rfl) (by kernel_rfl) (by kernel_rfl) (by kernel_rfl) (fun _ _ _ h => h) (Or.inl ⟨by rfl, ?_⟩) hS0 ?_
    rotate_left
    · (intro wS hSw; obtain ⟨y1, y2, y3⟩ := hSw; go_simp; try with_reducible rfl)
    try simp only [Act.put]
    refine wpAnyG_take (i := 6) (oi := _) (v := ?_) rfl (by kernel_rfl) (by kernel_rfl) (by kernel_rfl) (by kernel_rfl) (fun _ _ _ h => h) (Or.inl ⟨by rfl, ?_⟩) hS0 ?_
    rotate_left
    · (intro wS hSw; obtain ⟨y1, y2, y3⟩ := hSw; go_simp; try with_reducible rfl)
    try simp only [Act.put]
    refine wpAnyG_take (i := 7) (oi := _) (v := ?_) rfl (by kernel_rfl) (by kernel_rfl) (by kernel_rfl) (by kernel_rfl) (fun _ _ _ h => h) (Or.inl ⟨by rfl, ?_⟩) hS0 ?_
    rotate_left
    · (intro wS hSw; obtain ⟨y1, y2, y3⟩ := hSw; go_simp; try with_reducible rfl)
    try simp only [Act.put]
    obtain ⟨y1, y2, y3⟩ := hS0
    refine wpAnyG_one (i := 8) (o := ⟨some 77, _, _, _, _, _⟩) (by kernel_rfl) rfl (fun K hK => ?_)
    go_simp
    refine hK.out _ _ (fun _ => ⟨by go_keep, by go_keep, by go_keep⟩) ?_
    clear hK K
    try simp only [Act.put]
    refine wpAnyG_one (i := 9) (o := ⟨some 78, _, _, _, _, _⟩) (by kernel_rfl) rfl (fun K hK => ?_)
    refine step_append_where (o := ⟨some 78, _, _, _, _, _⟩) rfl (.tmp 73) (.tmp 77) 80 rfl 0 99 j0 _ 2 16 Tryz.underlying80 hj jz0 jz1 jz2 rfl (by omega) _ M.segs.length _ rfl ((HOWN.out _ _ HPD.out).alloc _) (some ⟨wd.heap.size, 0, none⟩) 1 1 [.int .i64 ((M.last : Int) + 1), .int .i64 0] rfl rfl (fun e => by cases e) (news2 wd _ _ _) (by simp [Value.oneCell']) (by unfold maxLen; omega) (by omega) (Nat.zero_le _) ?_
    intro v99 w99 ho99 hg99 hw99
    obtain ⟨A', c', rfl, l99, m5, m6, m7, mf, HFN⟩ := HADS.out wd _ HPD.out HKD.out HBX.out HLT.out v99 w99 _ ho99 hg99 hw99
    clear ho99 hg99 hw99
    refine hK.out _ _ (fun _ => ⟨m5, m6, m7⟩) ?_
    clear hK K
    try simp only [Act.put]
    refine wpAnyG_one (i := 10) (o := ⟨some 79, _, _, _, _, _⟩) (by kernel_rfl) rfl (fun K hK => ?_)
    go_simp
    refine hK.out _ _ (fun h => absurd h (by decide)) ?_
    clear hK K
    try simp only [Act.put]
    refine wpAnyG_one (i := 11) (o := ⟨some 80, _, _, _, _, _⟩) (by kernel_rfl) rfl (fun K hK => ?_)
    go_simp
    refine hK.out _ _ (fun h => absurd h (by decide)) ?_
    clear hK K
    try simp only [Act.put]
    refine wpAnyG_one (i := 12) (o := ⟨none, _, _, _, _, _⟩) (by kernel_rfl) rfl (fun K hK => ?_)
    go_simp
    refine hK.out _ _ (fun h => absurd h (by decide)) ?_
    clear hK K
    try simp only [Act.put]
    refine wpAnyG_done (by kernel_rfl) ?_ _
    obtain ⟨V2, g, rfl, hg2, HP, HK⟩ := HFN.out
    have HP6 := Lib.hid HP
    have HK6 := Lib.hid HK
    clear HP HK HFN y1 y2 y3 m5 m6 m7 mf l99 HPD HKD HBX HLT HADS HOWN
    generalize w99.setCell ⟨lb, 2, none⟩ (.slice (some ⟨g, 0, none⟩) (M.segs.length + 1) c') = w6 at *
    go_wp2_with (go_at_call 53; refine (HLL2.out _ _ _ HP6.out hg2).mono ?_; rintro e w7 ⟨rfl, h7, hb7⟩; have HP7 := Lib.hid h7; have HB7 := Lib.hid hb7; obtain ⟨l9, _, s1, sf1⟩ := HSG2.out _ _ _ h7 hg2; clear h7 hb7)
    obtain ⟨hp8, hk8⟩ := HSB.out w7 _ _ HP7.out hg2
    have HP8 := Lib.hid hp8
    have HK8 : Hid (Kept Kp w (w7.setCell ⟨g, M.segs.length * 2 + 1, none⟩ (.int .i64 ((n : Int) + 6)))) := Lib.hid ((HK6.out.trans (Kept.of_below HB7.out (HKB.out w6 HK6.out))).trans hk8)
    clear hp8 hk8 l9 s1 sf1
    generalize w7.setCell ⟨g, M.segs.length * 2 + 1, none⟩ (.int .i64 ((n : Int) + 6)) = w8 at *
    obtain ⟨l8, _, _, _, _, _, l5, _, lf⟩ := HP8.out.cells
    have l5' : w8.cell? ⟨lb, 5, none⟩ = some (.slice V2.rA M.recs.length V2.rC) := l5
    clear l5
    have HCL8 : Hid (Calls Tryz.prog 55 #[.slice A n c] w8.drew fun e w9 => ∃ cA cC, e = .returned (.slice cA n cC) ∧ w9.cell? ⟨lb, 5, none⟩ = some (.slice V2.rA M.recs.length V2.rC) ∧ Hid (w9.ownsRow w8.heap.size 5 1 (.slice cA n cC) n (xs.map (Value.int .u8))) ∧ Hid (w9.ownsRow 0 33 1 (.slice V2.rA M.recs.length V2.rC) M.recs.length (recC V2.rv M.recs)) ∧
        Hid (∀ v99 w99 o, w99.ownsRow 0 33 1 v99 (M.recs.length + 1) (recC V2.rv M.recs ++ [.slice cA n cC]) → (w9.alloc o).grownBy w99 (Value.slice V2.rA M.recs.length V2.rC).ownBlock → (v99.ownBlock = (Value.slice V2.rA M.recs.length V2.rC).ownBlock ∨ v99.ownBlock = some (w9.alloc o).heap.size) →
          ∃ A' c', v99 = .slice A' (M.recs.length + 1) c' ∧ lb < w99.heap.size ∧ w99.cell? ⟨lb, 5, none⟩ = some (.slice V2.rA M.recs.length V2.rC) ∧ w99.frozen? ⟨lb, 5, none⟩ = false ∧
            Hid (∃ V', WPair w0 Kp lb d R S' { M with synced := M.last, segs := M.segs ++ [(M.last + 1, n + 6)], recs := M.recs ++ [xs] } V' (w99.setCell ⟨lb, 5, none⟩ (.slice A' (M.recs.length + 1) c')) ∧ Kept Kp w8 (w99.setCell ⟨lb, 5, none⟩ (.slice A' (M.recs.length + 1) c'))))) := Lib.hid (by
      have hb8 : Below w8.heap.size w8 w8.drew := (Below.refl _ _).drew
      refine (Clone_any A n c xs w8.drew ((HRK.out w8 HK8.out).below hb8) (by omega)).mono ?_
      rintro e w9 ⟨v, rfl, ho9, hb9⟩
      obtain ⟨cA, cC, rfl⟩ := own_shape ho9
      have hb9' : Below w8.heap.size w8 w9 := hb8.trans hb9
      obtain ⟨Φ, Λ, hlog, _⟩ := HP8.out.ex
      have hl9 := hlog.later hb9'
      exact ⟨cA, cC, rfl, hl9.cells.2.2.2.2.2.1, Lib.hid ho9, Lib.hid hl9.recs, Lib.hid fun v99 w99 o h1 h2 h3 => HP8.out.addRec (HKB.out w8 HK8.out) hb9' ho9 HXN.out HXB.out (by omega) h1 h2 h3⟩)
    refine wp_region_G (fun w' => w'.cell? ⟨lb, 5, none⟩ = some (.slice V2.rA M.recs.length V2.rC)) 9 (by kernel_rfl) ?_
    have hS0 : w8.drew.cell? ⟨lb, 5, none⟩ = some (.slice V2.rA M.recs.length V2.rC) := l5'
    refine wpAnyG_take (i := 0) (oi := _) (v := ?_) rfl (by kernel_rfl) (by kernel_rfl) (by kernel_rfl) (by kernel_rfl) (fun _ _ _ h => h) (Or.inl ⟨by rfl, ?_⟩) hS0 ?_
    rotate_left
    · (intro wS hSw; go_simp; try with_reducible rfl)
    try simp only [Act.put]
    refine wpAnyG_take (i := 1) (oi := _) (v := ?_) rfl (by kernel_rfl) (by kernel_rfl) (by kernel_rfl) (by kernel_rfl) (fun _ _ _ h => h) (Or.inl ⟨by rfl, ?_⟩) hS0 ?_
    rotate_left
    · (intro wS hSw; go_simp; try with_reducible rfl)
    try simp only [Act.put]
    refine wpAnyG_take (i := 2) (oi := _) (v := ?_) rfl (by kernel_rfl) (by kernel_rfl) (by kernel_rfl) (by kernel_rfl) (fun _ _ _ h => h) (Or.inl ⟨by rfl, ?_⟩) hS0 ?_
    rotate_left
    · (intro wS hSw; go_simp; try with_reducible rfl)
    try simp only [Act.put]
    refine wpAnyG_take (i := 3) (oi := _) (v := ?_) rfl (by kernel_rfl) (by kernel_rfl) (by kernel_rfl) (by kernel_rfl) (fun _ _ _ h => h) (Or.inl ⟨by rfl, ?_⟩) hS0 ?_
    rotate_left
    · (intro wS hSw; go_simp; try with_reducible rfl)
    try simp only [Act.put]
    refine wpAnyG_take (i := 4) (oi := _) (v := ?_) rfl (by kernel_rfl) (by kernel_rfl) (by kernel_rfl) (by kernel_rfl) (fun _ _ _ h => h) (Or.inl ⟨by rfl, ?_⟩) hS0 ?_
    rotate_left
    · (intro wS hSw; go_simp; try with_reducible rfl)
    try simp only [Act.put]
    refine wpAnyG_take (i := 5) (oi := _) (v := ?_) rfl (by kernel_rfl) (by kernel_rfl) (by kernel_rfl) (by kernel_rfl) (fun _ _ _ h => h) (Or.inl ⟨by rfl, ?_⟩) hS0 ?_
    rotate_left
    · (intro wS hSw; go_simp; try with_reducible rfl)
    try simp only [Act.put]
    refine wpAnyG_one (i := 6) (o := ⟨some 97, _, _, _, _, _⟩) (by kernel_rfl) rfl (fun K hK => ?_)
    go_simp
    refine (HCL8.out).mono ?_
    rintro e w9 ⟨cA, cC, rfl, l59, HO9, HR9, HADD⟩
    refine hK.out _ _ (fun _ => l59) ?_
    clear hK K
    try simp only [Act.put]
    refine wpAnyG_one (i := 7) (o := ⟨some 98, _, _, _, _, _⟩) (by kernel_rfl) rfl (fun K hK => ?_)
    go_simp
    refine hK.out _ _ (fun _ => by go_keep) ?_
    clear hK K
    try simp only [Act.put]
    refine wpAnyG_one (i := 8) (o := ⟨some 99, _, _, _, _, _⟩) (by kernel_rfl) rfl (fun K hK => ?_)
    refine step_append_where (o := ⟨some 99, _, _, _, _, _⟩) rfl (.tmp 95) (.tmp 98) 34 rfl 0 33 i0 _ 1 24 Tryz.underlying34 hi hz0 hz1 hz2 rfl (by omega) _ M.recs.length _ rfl (HR9.out.alloc _) (some ⟨w9.heap.size, 0, none⟩) 1 1 [.slice cA n cC] rfl rfl (fun e => by cases e) (news1 w9 _ _) (by simp [Value.oneCell']) (by unfold maxLen; omega) (by omega) (Nat.zero_le _) ?_
    intro v99 w99 ho99 hg99 hw99
    obtain ⟨A', c', rfl, l99, m5, mf, HFIN⟩ := HADD.out v99 w99 _ ho99 hg99 hw99
    clear ho99 hg99 hw99
    refine hK.out _ _ (fun _ => m5) ?_
    clear hK K
    try simp only [Act.put]
    refine wpAnyG_one (i := 9) (o := ⟨some 100, _, _, _, _, _⟩) (by kernel_rfl) rfl (fun K hK => ?_)
    go_simp
    refine hK.out _ _ (fun h => absurd h (by decide)) ?_
    clear hK K
    try simp only [Act.put]
    refine wpAnyG_one (i := 10) (o := ⟨some 101, _, _, _, _, _⟩) (by kernel_rfl) rfl (fun K hK => ?_)
    go_simp
    refine hK.out _ _ (fun h => absurd h (by decide)) ?_
    clear hK K
    try simp only [Act.put]
    refine wpAnyG_one (i := 11) (o := ⟨none, _, _, _, _, _⟩) (by kernel_rfl) rfl (fun K hK => ?_)
    go_simp
    refine hK.out _ _ (fun h => absurd h (by decide)) ?_
    clear hK K
    try simp only [Act.put]
    refine wpAnyG_done (by kernel_rfl) ?_ _
    go_wp2_with fail
    go_ret
    obtain ⟨V', hp, hk9⟩ := HFIN.out
    first | exact ⟨rfl, ⟨V', hp⟩, HK8.out.trans hk9⟩ | exact ⟨rfl, V', hp, HK8.out.trans hk9⟩
end
end Go.Proofs.YtnomicnmpllajaaGreatDoor
end
