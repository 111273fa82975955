/- What is proved here: plain facts: which frames the first bytes of a segment begin with, wherever they end. -/
/- What is proved here: plain facts: what stands on a disk that a log has left, or a crash of it, as Open reads it. -/
/- What is proved here: plain facts: a log that is opened on what another one left keeps the invariant. -/
/- What is proved here: plain facts: how many bytes a log's calls add to its disk's. -/
/- What is proved here: what Open makes of the files that a log has left, or a crash of it. -/
/- What is proved here: the calls of a log that is new since a world and keeps off blocks that are named; a disk alone beside blocks that stay; a crash, and what is opened behind it. -/
/- What is proved here: the calls of a log on a disk that has room, by its snapshot and records alone. -/
/- What is proved here: what a slice of slices of bytes reads as; what comes in as one. -/
/- What is proved here: 'WalCuts' returns true at all arguments. -/
/- What is proved here: what 'WalSnaps' calls behind its loop. -/
/- What is proved here: 'WalSnaps' returns true at all arguments. -/
/- What is proved here: for any size, records, place and bytes 'WalSnaps' returns true; the variable that strconv's conversions read starts as the program's text lays it (tied). -/
import Derived.Test.YtnomicnmpllajaaGreatDoorPFu20
import Derived.Test.YtnomicnmpllajaaGreatDoorPFu21
import Derived.Test.YtnomicnmpllajaaGreatDoorPFu19
import Derived.Test.YtnomicnmpllajaaGreatDoorPFu7
import Derived.Test.YtnomicnmpllajaaGreatDoorPFu3
import Derived.Test.YtnomicnmpllajaaGreatDoorPFu9
import Derived.Test.YtnomicnmpllajaaGreatDoorTie
import Derived.Test.YtnomicnmpllajaaGreatDoorCards
import Derived.OpenShut
import Derived.ShutString
import Derived.Below
import Derived.SizedLaws
import Derived.Stop.Joined
import Derived.SevenTiedAt
import Derived.Deep.Matrix
section
namespace Go.Proofs.YtnomicnmpllajaaGreatDoor
open Go Go.RowKit

theorem sizeF_take {xs : List Int} (h : xs.length < 65536) {n : Nat} (hn : 2 ≤ n) : sizeF ((sealF xs).take n) = xs.length := by
  have h1 := seal_size h []
  rw [List.append_nil] at h1
  have h2 : ((sealF xs).take n).take 2 = (sealF xs).take 2 := by rw [List.take_take, Nat.min_eq_left hn]
  unfold sizeF at h1 ⊢
  rw [h2]
  exact h1
/-- A part of a frame is none. -/
theorem torn_why {xs : List Int} (h : xs.length ≤ 4096) {n : Nat} (hn : n < 6 + xs.length) : whyF ((sealF xs).take n) ≠ 0 := by
  have hl : ((sealF xs).take n).length = n := by
    rw [List.length_take, sealF_length]
    omega
  unfold whyF
  rw [hl]
  by_cases h6 : n < 6
  · rw [if_pos h6]
    decide
  · rw [if_neg h6, sizeF_take (by omega) (by omega), if_neg (by omega), if_pos (by omega)]
    decide
theorem bytesR_cons (x : List Int) (r : List (List Int)) : bytesR (x :: r) = sealF x ++ bytesR r := by simp [bytesR]
theorem parsed_take : ∀ (rs : List (List Int)) (m : Nat), (∀ r ∈ rs, r.length ≤ 4096 ∧ ∀ x ∈ r, 0 ≤ x ∧ x < 256) →
    ∃ t, t ≤ rs.length ∧ Parsed ((bytesR rs).take m) (rs.take t) (bytesR (rs.take t)).length ∧ ∀ s, (bytesR (rs.take s)).length ≤ m → s ≤ rs.length → s ≤ t
  | [], m, _ => ⟨0, Nat.le_refl _, ⟨rfl, Nat.zero_le _, fun h => by simp [bytesR] at h⟩, fun s _ h => h⟩
  | x :: r, m, hb => by
    have hx := hb x (List.mem_cons_self ..)
    by_cases hm : m < 6 + x.length
    · refine ⟨0, Nat.zero_le _, ⟨rfl, Nat.zero_le _, fun _ => ?_⟩, fun s hs _ => ?_⟩
      · have e : (bytesR (x :: r)).take m = (sealF x).take m := by
          rw [bytesR_cons, List.take_append_of_le_length (by rw [sealF_length]; omega)]
        show whyF (((bytesR (x :: r)).take m).drop 0) ≠ 0
        rw [List.drop_zero, e]
        exact torn_why hx.1 hm
      · cases s with
        | zero => exact Nat.le_refl _
        | succ s =>
          rw [List.take_succ_cons, bytesR_cons, List.length_append, sealF_length] at hs
          omega
    · obtain ⟨t, h1, h2, h3⟩ := parsed_take r (m - (6 + x.length)) fun y hy => hb y (List.mem_cons_of_mem _ hy)
      have e : (bytesR (x :: r)).take m = sealF x ++ (bytesR r).take (m - (6 + x.length)) := by
        rw [bytesR_cons, List.take_append, List.take_of_length_le (by rw [sealF_length]; omega), sealF_length, Nat.add_comm x.length 6]
      have el : (bytesR ((x :: r).take (t + 1))).length = 6 + x.length + (bytesR (r.take t)).length := by
        rw [List.take_succ_cons, bytesR_cons, List.length_append, sealF_length]
        omega
      refine ⟨t + 1, by simpa using h1, ?_, fun s hs hsl => ?_⟩
      · rw [e, el]
        have hsz := seal_size (xs := x) (by omega) ((bytesR r).take (m - (6 + x.length)))
        refine ⟨⟨seal_why hx.1 hx.2 _, (seal_body (by omega) _).symm, (bytesR (r.take t)).length, by rw [hsz], ?_⟩, ?_, fun hlt => ?_⟩
        · rw [seal_rest (by omega)]
          exact h2.chain
        · have := h2.le
          rw [List.length_append, sealF_length]
          omega
        · have hd : (sealF x ++ (bytesR r).take (m - (6 + x.length))).drop (6 + x.length + (bytesR (r.take t)).length) = ((bytesR r).take (m - (6 + x.length))).drop (bytesR (r.take t)).length := by
            rw [← List.drop_drop, List.drop_append, List.drop_of_length_le (l := sealF x) (by rw [sealF_length]; omega), List.nil_append, sealF_length, show 6 + x.length - (x.length + 6) = 0 by omega, List.drop_zero]
          rw [hd]
          refine h2.why ?_
          rw [List.length_append, sealF_length] at hlt
          omega
      · cases s with
        | zero => exact Nat.zero_le _
        | succ s =>
          rw [List.take_succ_cons, bytesR_cons, List.length_append, sealF_length] at hs
          have := h3 s (by omega) (by simpa using hsl)
          omega
end Go.Proofs.YtnomicnmpllajaaGreatDoor
end

section
namespace Go.Proofs.YtnomicnmpllajaaGreatDoor
open Go Go.RowKit

/-- The files that are left of others: of each some first bytes, no less than are synced. -/
def LeftOf (S S' : List RF) : Prop := S'.map RF.nm = S.map RF.nm ∧ ∀ n f, findN S n = some f → ∃ f' m, findN S' n = some f' ∧ f.s ≤ m ∧ f'.b = f.b.take m
theorem LeftOf.refl {S : List RF} (h : ∀ n f, findN S n = some f → f.s ≤ f.b.length) : LeftOf S S := ⟨rfl, fun n f hf => ⟨f, f.b.length, hf, h n f hf, (List.take_length ..).symm⟩⟩
theorem findN_at {S : List RF} {n : List UInt8} {f : RF} (h : findN S n = some f) : ∃ k : Nat, S[k]? = some f ∧ f.nm = n := by
  obtain ⟨h1, h2⟩ := findN_mem h
  obtain ⟨k, hk⟩ := List.mem_iff_getElem?.1 h1
  exact ⟨k, hk, h2⟩
theorem crashF_names (ks : List Int) (S : List RF) : (crashF ks S).map RF.nm = S.map RF.nm := by
  refine List.ext_getElem? fun i => ?_
  rw [List.getElem?_map, List.getElem?_map]
  unfold crashF
  rw [List.getElem?_mapIdx]
  cases S[i]? <;> rfl
theorem crashF_left {S : List RF} (hS : Rising RF.nm S) (ks : List Int) : LeftOf S (crashF ks S) := by
  refine ⟨crashF_names ks S, fun n f hf => ?_⟩
  obtain ⟨k, hk, rfl⟩ := findN_at hf
  have hc : (crashF ks S)[k]? = some (crashRF ks k f) := by
    unfold crashF
    rw [List.getElem?_mapIdx, hk]
    rfl
  have hr : Rising RF.nm (crashF ks S) := Rising.of_map (g := RF.nm) (nm' := id) (fun _ => rfl) (by rw [crashF_names]; exact hS.map (g := RF.nm) (nm' := id) fun _ => rfl)
  exact ⟨crashRF ks k f, f.s + survN ks k f, findN_some hr (List.mem_of_getElem? hc), Nat.le_add_right _ _, rfl⟩
def segF (g : SegR) : SegF := ⟨g.k, g.rs, (bytesR g.rs).length⟩
theorem recsP_runs (B : Nat) : ∀ {G : List SegR} {s e : Nat}, Runs G s e → recsP B (G.map segF) = (recsR G).drop (B + 1 - s)
  | [], s, e, _ => by simp [recsP, recsR]
  | g :: G, s, e, ⟨h1, h2⟩ => by
    have ih := recsP_runs B h2
    unfold recsP recsR at ih ⊢
    rw [List.map_cons, List.flatMap_cons, List.flatMap_cons, ih, List.drop_append]
    show g.rs.drop (B + 1 - g.k) ++ _ = _
    rw [h1]
    congr 2
    omega
theorem segsP_map (G : List SegR) : segsP (G.map segF) = segsR G := by
  unfold segsP segsR
  rw [List.map_map]
  rfl
section
variable {S S' : List RF} {M : LogM} {G : List SegR} {st : Nat}
/-- The segments as they are left: of the last one some first records. -/
theorem LI.left (h : LI S M G st) (hS : LeftOf S S') :
    ∃ G' e, SegsAt S' M.base (G'.map segF) ∧ Runs G' st e ∧ M.synced + 1 ≤ e ∧ e ≤ M.last + 1 ∧ recsR G' = (recsR G).take (e - st) ∧ G'.map SegR.k = G.map SegR.k ∧ (∀ g ∈ G'.dropLast, g.rs ≠ []) ∧ (∀ g ∈ G', (bytesR g.rs).length ≤ 65536 ∧ ∀ r ∈ g.rs, r.length ≤ 4096 ∧ ∀ x ∈ r, 0 ≤ x ∧ x < 256) ∧
      (∀ g ∈ G', ∃ f', findN S' (segName g.k) = some f' ∧ f'.b.take (bytesR g.rs).length = bytesR g.rs ∧ (bytesR g.rs).length ≤ f'.b.length ∧ (g ∈ G'.dropLast → f'.b = bytesR g.rs)) := by
  have hnames : (S'.map RF.nm).filter (fun s => s.take 3 == [108, 111, 103]) = G.map fun g => segName g.k := by
    rw [hS.1]
    exact h.names
  have hst := h.start
  have hsy := h.sync
  have hm := h.many
  have hfile : ∀ g ∈ G, ∃ f' m, findN S' (segName g.k) = some f' ∧ (bytesR (g.rs.take (M.synced + 1 - g.k))).length ≤ m ∧ f'.b = (bytesR g.rs).take m := fun g hg => by
    obtain ⟨f, a, b, c⟩ := h.file g hg
    obtain ⟨f', m, h1, h2, h3⟩ := hS.2 _ f a
    exact ⟨f', m, h1, by omega, by rw [h3, b]⟩
  rcases List.eq_nil_or_concat G with rfl | ⟨G0, g, rfl⟩
  · have hrn : st = M.last + 1 := h.runs
    refine ⟨[], st, ⟨hnames, fun i s hs => by simp at hs, fun i s t hs => by simp at hs, fun s hs => by simp at hs, fun i s hs => by simp at hs⟩, rfl, by omega, by omega, by simp [recsR], rfl, (fun g hg => by cases hg), (fun g hg => by cases hg), fun g hg => by cases hg⟩
  · rw [List.concat_eq_append] at h hnames hfile ⊢
    obtain ⟨h1, h2, h3⟩ := h.ahead
    have hg : g ∈ G0 ++ [g] := List.mem_append.2 (.inr (List.mem_singleton.2 rfl))
    obtain ⟨f', m, f1, f2, f3⟩ := hfile g hg
    obtain ⟨t, t1, t2, t3⟩ := parsed_take g.rs m (h.byt g hg)
    have t4 : M.synced + 1 - g.k ≤ t := t3 _ f2 (by omega)
    obtain ⟨mm, r1, r2, r3⟩ := Runs.app.1 h.runs
    have r3 : mm + g.rs.length = M.last + 1 := r3
    have hlen := r1.len
    have hkeys : (G0 ++ [(⟨g.k, g.rs.take t⟩ : SegR)]).map SegR.k = (G0 ++ [g]).map SegR.k := by simp
    have hbt : (bytesR (g.rs.take t)).length ≤ (bytesR g.rs).length := by
      have e : bytesR g.rs = bytesR (g.rs.take t) ++ bytesR (g.rs.drop t) := by rw [← bytesR_app, List.take_append_drop]
      rw [e, List.length_append]
      omega
    have hruns : Runs (G0 ++ [(⟨g.k, g.rs.take t⟩ : SegR)]) st (g.k + t) := Runs.app.2 ⟨mm, r1, r2, by
      show mm + (g.rs.take t).length = g.k + t
      rw [List.length_take]
      omega⟩
    have hall : ∀ x ∈ G0 ++ [(⟨g.k, g.rs.take t⟩ : SegR)], x.k < 100000000 := fun x hx => by
      rcases List.mem_append.1 hx with hx | hx
      · exact h.lt (List.mem_append.2 (.inl hx))
      · rw [List.mem_singleton.1 hx]
        exact (h.lt hg : g.k < 100000000)
    refine ⟨G0 ++ [⟨g.k, g.rs.take t⟩], g.k + t, ⟨?_, fun i s hs => ?_, fun i s u hs hu => ?_, fun s hs => ?_, fun i s hs hi => ?_⟩, hruns, by omega, by omega, ?_, hkeys, fun x hx => ?_, fun x hx => ?_, fun x hx => ?_⟩
    · rw [hnames]
      simp [segF]
    · rw [List.getElem?_map] at hs
      obtain ⟨x, hx, rfl⟩ := Option.map_eq_some_iff.1 hs
      have hxm := List.mem_of_getElem? hx
      have hbound : (((G0 ++ [(⟨g.k, g.rs.take t⟩ : SegR)]).map segF).take i |>.flatMap SegF.l).length ≤ 900000 := by
        have e1 : ((G0 ++ [(⟨g.k, g.rs.take t⟩ : SegR)]).map segF).flatMap SegF.l = recsR (G0 ++ [⟨g.k, g.rs.take t⟩]) := by
          unfold recsR
          rw [List.flatMap_map]
          rfl
        have e2 : (((G0 ++ [(⟨g.k, g.rs.take t⟩ : SegR)]).map segF).take i |>.flatMap SegF.l).length ≤ (((G0 ++ [(⟨g.k, g.rs.take t⟩ : SegR)]).map segF).flatMap SegF.l).length := by
          conv => rhs; rw [← List.take_append_drop i ((G0 ++ [(⟨g.k, g.rs.take t⟩ : SegR)]).map segF)]
          rw [List.flatMap_append, List.length_append]
          exact Nat.le_add_right _ _
        rw [e1] at e2
        have := hruns.len
        omega
      refine ⟨hall x hxm, ?_⟩
      rcases List.mem_append.1 hxm with hx0 | hx0
      · obtain ⟨q1, q2, _⟩ := h1 x hx0
        obtain ⟨y', m', y1, y2, y3⟩ := hfile x (List.mem_append.2 (.inl hx0))
        rw [List.take_of_length_le (by omega)] at y2
        rw [List.take_of_length_le y2] at y3
        have hby := h.bytes x (List.mem_append.2 (.inl hx0))
        obtain ⟨t', p1, p2, p3⟩ := parsed_take x.rs (bytesR x.rs).length (h.byt x (List.mem_append.2 (.inl hx0)))
        have p4 := p3 x.rs.length (by rw [List.take_length]; exact Nat.le_refl _) (Nat.le_refl _)
        rw [List.take_of_length_le (Nat.le_refl _), List.take_of_length_le p4] at p2
        refine ⟨y', y1, by rw [y3]; exact p2, fun _ => by rw [y3]; rfl, by rw [y3]; omega⟩
      · have hx1 := List.mem_singleton.1 hx0
        have hby := h.bytes g hg
        rw [hx1]
        refine ⟨f', f1, by rw [f3]; exact t2, fun hi => ?_, by rw [f3, List.length_take]; omega⟩
        exfalso
        rw [List.length_map, List.length_append] at hi
        have hi2 : i < G0.length := by simpa using hi
        rw [List.getElem?_append_left hi2] at hx
        have hxG := List.mem_of_getElem? hx
        have h4 := (h1 x hxG).1
        have h5 := List.length_pos_iff.2 (h1 x hxG).2.1
        rw [hx1] at h4 h5
        simp only at h4 h5
        omega
    · rw [List.getElem?_map] at hs hu
      obtain ⟨x, hx, rfl⟩ := Option.map_eq_some_iff.1 hs
      obtain ⟨y, hy, rfl⟩ := Option.map_eq_some_iff.1 hu
      have e := split_at hx
      have e2 : (G0 ++ [(⟨g.k, g.rs.take t⟩ : SegR)]).drop (i + 1) = y :: (G0 ++ [(⟨g.k, g.rs.take t⟩ : SegR)]).drop (i + 1 + 1) := by
        obtain ⟨z1, z2⟩ := List.getElem?_eq_some_iff.1 hy
        rw [← z2, List.getElem_cons_drop]
      have hr := hruns
      rw [e, e2] at hr
      obtain ⟨a, b1, b2, b3, _⟩ := Runs.app.1 hr
      show y.k = x.k + x.rs.length
      omega
    · rw [List.getElem?_map] at hs
      obtain ⟨x, hx, rfl⟩ := Option.map_eq_some_iff.1 hs
      have hx2 : x.k = st := by
        cases hGG : G0 ++ [(⟨g.k, g.rs.take t⟩ : SegR)] with
        | nil => simp at hGG
        | cons a r =>
          rw [hGG] at hx hruns
          have : a = x := by simpa using hx
          rw [← this]
          exact hruns.1
      show 0 < x.k ∧ x.k ≤ M.base + 1
      omega
    · rw [List.getElem?_map] at hs
      obtain ⟨x, hx, rfl⟩ := Option.map_eq_some_iff.1 hs
      rw [List.length_map, List.length_append] at hi
      have hi2 : i = G0.length := by simpa using hi
      rw [hi2, List.getElem?_append_right (Nat.le_refl _), Nat.sub_self] at hx
      obtain rfl : x = ⟨g.k, g.rs.take t⟩ := by simpa using hx.symm
      show M.base < g.k + (g.rs.take t).length
      rw [List.length_take]
      omega
    · rw [recsR_app, recsR_app, recsR_one]
      have e : recsR [g] = g.rs := by simp [recsR]
      rw [e, List.take_append, List.take_of_length_le (l := recsR G0) (by omega)]
      congr 2
      omega
    · rw [List.dropLast_concat] at hx
      exact (h1 x hx).2.1
    · rcases List.mem_append.1 hx with hx | hx
      · exact ⟨h.bytes x (List.mem_append.2 (.inl hx)), h.byt x (List.mem_append.2 (.inl hx))⟩
      · rw [List.mem_singleton.1 hx]
        exact ⟨Nat.le_trans hbt (h.bytes g hg), fun r hr => h.byt g hg r (List.mem_of_mem_take hr)⟩
    · rcases List.mem_append.1 hx with hx0 | hx0
      · obtain ⟨q1, q2, _⟩ := h1 x hx0
        obtain ⟨y', m', y1, y2, y3⟩ := hfile x (List.mem_append.2 (.inl hx0))
        rw [List.take_of_length_le (by omega)] at y2
        rw [List.take_of_length_le y2] at y3
        exact ⟨y', y1, by rw [y3, List.take_length], by rw [y3]; exact Nat.le_refl _, fun _ => y3⟩
      · rw [List.mem_singleton.1 hx0]
        have hle := t2.le
        have e : bytesR g.rs = bytesR (g.rs.take t) ++ bytesR (g.rs.drop t) := by rw [← bytesR_app, List.take_append_drop]
        refine ⟨f', f1, ?_, by rw [f3]; exact hle, fun hd => ?_⟩
        · show f'.b.take (bytesR (g.rs.take t)).length = bytesR (g.rs.take t)
          rw [List.length_take] at hle
          rw [f3, List.take_take, Nat.min_eq_left (by omega), e, List.take_append_of_le_length (Nat.le_refl _), List.take_length]
        · exfalso
          rw [List.dropLast_concat] at hd
          have h4 := (h1 _ hd).1
          have h5 := List.length_pos_iff.2 (h1 _ hd).2.1
          simp only at h4 h5
          omega
end
end Go.Proofs.YtnomicnmpllajaaGreatDoor
end

section
namespace Go.Proofs.YtnomicnmpllajaaGreatDoor
open Go Go.RowKit

/-- Other files, of the same names. -/
structure Upd (S S1 : List RF) : Prop where
  rise : Rising RF.nm S1
  same : ∀ n, findN S1 n = none ↔ findN S n = none
theorem Upd.refl {S : List RF} (h : Rising RF.nm S) : Upd S S := ⟨h, fun _ => Iff.rfl⟩
theorem Upd.trans {S S1 S2 : List RF} (h : Upd S S1) (h2 : Upd S1 S2) : Upd S S2 := ⟨h2.rise, fun n => (h2.same n).trans (h.same n)⟩
theorem Upd.put {S : List RF} (hS : Rising RF.nm S) {x f : RF} (hf : findN S x.nm = some f) : Upd S (putN RF.nm x S) := ⟨hS.putN x, fun n => by
  rw [findN_put hS]
  by_cases h : n = x.nm
  · rw [if_pos h, h, hf]
    simp
  · rw [if_neg h]⟩
theorem Upd.mem {S S1 : List RF} (h : Upd S S1) (hS : Rising RF.nm S) (n : List UInt8) : (∃ f ∈ S1, f.nm = n) ↔ ∃ f ∈ S, f.nm = n := by
  have key : ∀ {T : List RF}, Rising RF.nm T → ((∃ f ∈ T, f.nm = n) ↔ findN T n ≠ none) := fun {T} hT => by
    constructor
    · rintro ⟨f, hf, rfl⟩ e
      exact findN_none e f hf rfl
    · intro e
      cases e2 : findN T n with
      | none => exact absurd e2 e
      | some f => exact ⟨f, (findN_mem e2).1, (findN_mem e2).2⟩
  rw [key h.rise, key hS, ne_eq, ne_eq, h.same n]
theorem Upd.logs {S S1 : List RF} (h : Upd S S1) (hS : Rising RF.nm S) : logsOf S1 = logsOf S := logs_ext h.rise (logs_rising hS) fun n => by
  rw [h.mem hS, mem_logs]
theorem syncF_upd {S : List RF} (hS : Rising RF.nm S) (k : List UInt8) : Upd S (syncF S k).1 := by
  cases e : findN S k with
  | none =>
    have : (syncF S k).1 = S := by unfold syncF; rw [e]
    rw [this]
    exact Upd.refl hS
  | some f =>
    rw [syncF_put e]
    exact Upd.put hS (x := ⟨k, f.b, f.b.length⟩) e
theorem syncF_at {S : List RF} (hS : Rising RF.nm S) (k n : List UInt8) {f : RF} (hf : findN S n = some f) : ∃ f1, findN (syncF S k).1 n = some f1 ∧ f1.b = f.b ∧ (n = k → f1.s = f.b.length) ∧ (n ≠ k → f1 = f) := by
  cases e : findN S k with
  | none =>
    have : (syncF S k).1 = S := by unfold syncF; rw [e]
    rw [this]
    exact ⟨f, hf, rfl, (fun h => by rw [h, e] at hf; cases hf), fun _ => rfl⟩
  | some g =>
    rw [syncF_put e, findN_put hS]
    by_cases h : n = k
    · subst h
      rw [hf] at e
      cases e
      exact ⟨_, if_pos rfl, rfl, fun _ => rfl, fun h => absurd rfl h⟩
    · exact ⟨f, by rw [if_neg h]; exact hf, rfl, fun h2 => absurd h2 h, fun _ => rfl⟩
theorem syncAll_upd : ∀ (l : List (Nat × Nat)) {S : List RF}, Rising RF.nm S → Upd S (syncAll S l)
  | [], _, hS => Upd.refl hS
  | s :: l, S, hS => by
    have h1 := syncF_upd hS (segName s.1)
    exact h1.trans (syncAll_upd l h1.rise)
theorem syncAll_at : ∀ (l : List (Nat × Nat)) {S : List RF}, Rising RF.nm S → ∀ {n : List UInt8} {f : RF}, findN S n = some f →
    ∃ f1, findN (syncAll S l) n = some f1 ∧ f1.b = f.b ∧ ((∃ s ∈ l, n = segName s.1) ∨ f.s = f.b.length → f1.s = f.b.length)
  | [], _, _, _, f, hf => ⟨f, hf, rfl, fun h => by
    rcases h with ⟨s, hs, _⟩ | h
    · cases hs
    · exact h⟩
  | s :: l, S, hS, n, f, hf => by
    obtain ⟨f1, h1, h2, h3, h4⟩ := syncF_at hS (segName s.1) n hf
    obtain ⟨f2, h5, h6, h7⟩ := syncAll_at l (syncF_upd hS (segName s.1)).rise h1
    refine ⟨f2, h5, h6.trans h2, fun h => ?_⟩
    rw [h2] at h7
    refine h7 ?_
    by_cases e : n = segName s.1
    · exact .inr (h3 e)
    · rcases h with ⟨x, hx, h8⟩ | h
      · rcases List.mem_cons.1 hx with rfl | hx
        · exact absurd h8 e
        · exact .inl ⟨x, hx, h8⟩
      · rw [h4 e]
        exact .inr h
section
variable {S S' : List RF} {M : LogM} {G : List SegR} {st : Nat}
/-- The files behind settle, where the segments are these. -/
theorem settle_at {G' : List SegR} (hS : Rising RF.nm S) (hnew : findN S newN = none) (hlt : ∀ g ∈ G', g.k < 100000000)
    (hne : ∀ (A : List SegR) (g : SegR), G' = A ++ [g] → ∀ x ∈ A, x.k ≠ g.k)
    (hfile : ∀ g ∈ G', ∃ f', findN S (segName g.k) = some f' ∧ f'.b.take (bytesR g.rs).length = bytesR g.rs ∧ (bytesR g.rs).length ≤ f'.b.length ∧ (g ∈ G'.dropLast → f'.b = bytesR g.rs)) :
    Upd S (settleF S (segsR G')) ∧ (∀ g ∈ G', ∃ f, findN (settleF S (segsR G')) (segName g.k) = some f ∧ f.b = bytesR g.rs ∧ f.s = f.b.length) ∧ ∀ f, findN S snapN = some f → ∃ f1, findN (settleF S (segsR G')) snapN = some f1 ∧ f1.b = f.b ∧ f1.s = f.b.length := by
  obtain ⟨T, hT⟩ : ∃ T, T = (match (segsR G').getLast? with | none => syncAll S (segsR G') | some s => (cutF (syncAll S (segsR G')) (segName s.1) s.2).1) := ⟨_, rfl⟩
  have key : Upd S T ∧ (∀ g ∈ G', ∃ f, findN T (segName g.k) = some f ∧ f.b = bytesR g.rs ∧ f.s = f.b.length) ∧ ∀ f, findN S snapN = some f → ∃ f1, findN T snapN = some f1 ∧ f1.b = f.b := by
    have hu := syncAll_upd (segsR G') hS
    rcases List.eq_nil_or_concat G' with rfl | ⟨A, g, rfl⟩
    · have e : (segsR []).getLast? = none := rfl
      rw [e] at hT
      rw [hT]
      refine ⟨hu, (fun g hg => by cases hg), fun f hf => ?_⟩
      obtain ⟨f1, h1, h2, _⟩ := syncAll_at (segsR []) hS hf
      exact ⟨f1, h1, h2⟩
    · rw [List.concat_eq_append] at *
      rw [segsR_last] at hT
      simp only at hT
      have hg : g ∈ A ++ [g] := List.mem_append.2 (.inr (List.mem_singleton.2 rfl))
      obtain ⟨f', a1, a2, a3, _⟩ := hfile g hg
      obtain ⟨f1, b1, b2, b3⟩ := syncAll_at (segsR (A ++ [g])) hS a1
      have hcut : (cutF (syncAll S (segsR (A ++ [g]))) (segName g.k) ((bytesR g.rs).length : Nat)).1 = putN RF.nm ⟨segName g.k, bytesR g.rs, (bytesR g.rs).length⟩ (syncAll S (segsR (A ++ [g]))) := by
        unfold cutF
        rw [b1]
        simp only
        rw [if_neg (by rw [b2]; omega)]
        unfold cutRF
        rw [(findN_mem b1).2, Int.toNat_natCast, b2, a2]
      rw [hcut] at hT
      rw [hT]
      refine ⟨hu.trans (Upd.put hu.rise (x := ⟨segName g.k, bytesR g.rs, (bytesR g.rs).length⟩) b1), fun x hx => ?_, fun f hf => ?_⟩
      · rw [findN_put hu.rise]
        rcases List.mem_append.1 hx with hx0 | hx0
        · rw [if_neg (fun e => hne A g rfl x hx0 ((segName_inj (hlt x hx) (hlt g hg)).1 e))]
          obtain ⟨y, c1, _, _, c4⟩ := hfile x hx
          obtain ⟨y1, e1, e2, e3⟩ := syncAll_at (segsR (A ++ [g])) hS c1
          refine ⟨y1, e1, by rw [e2]; exact c4 (by rw [List.dropLast_concat]; exact hx0), ?_⟩
          rw [e2]
          exact e3 (.inl ⟨_, List.mem_map.2 ⟨x, hx, rfl⟩, rfl⟩)
        · rw [List.mem_singleton.1 hx0]
          exact ⟨_, if_pos rfl, rfl, rfl⟩
      · obtain ⟨f2, h1, h2, _⟩ := syncAll_at (segsR (A ++ [g])) hS hf
        exact ⟨f2, by rw [findN_put hu.rise, if_neg fun e => seg_ne_snap g.k e.symm]; exact h1, h2⟩
  obtain ⟨k1, k2, k3⟩ := key
  have k4 := syncF_upd k1.rise snapN
  have hnew2 : findN (syncF T snapN).1 newN = none := ((k1.trans k4).same newN).2 hnew
  have hset : settleF S (segsR G') = (syncF T snapN).1 := by
    have e : settleF S (segsR G') = (removeF (syncF T snapN).1 newN).1 := by rw [hT]; rfl
    rw [e]
    unfold removeF
    rw [hnew2]
  rw [hset]
  refine ⟨k1.trans k4, fun g hg => ?_, fun f hf => ?_⟩
  · obtain ⟨f, h1, h2, h3⟩ := k2 g hg
    obtain ⟨f1, h4, h5, _, h7⟩ := syncF_at k1.rise snapN _ h1
    rw [h7 (seg_ne_snap g.k)] at h4
    exact ⟨f, h4, h2, h3⟩
  · obtain ⟨f1, h1, h2⟩ := k3 f hf
    obtain ⟨f2, h4, h5, h6, _⟩ := syncF_at k1.rise snapN _ h1
    exact ⟨f2, h4, h5.trans h2, by rw [h6 rfl, h2]⟩
/-- A log that is opened on what another one left. -/
theorem LI.opened (h : LI S M G st) (hr : Rising RF.nm S') (hS : LeftOf S S') :
    ∃ G' t, SegsAt S' M.base (G'.map segF) ∧ LI (settleF S' (segsP (G'.map segF))) (openM M.size M.base M.shot (G'.map segF)) G' st ∧ M.synced ≤ M.base + t ∧ t ≤ M.recs.length ∧ (openM M.size M.base M.shot (G'.map segF)).recs = M.recs.take t := by
  obtain ⟨G', e, p1, p2, p3, p4, p5, p6, p7, p8, p9⟩ := h.left hS
  have hst := h.start
  have hsy := h.sync
  have hm := h.many
  have hlen' := p2.len
  have hrecs : (openM M.size M.base M.shot (G'.map segF)).recs = (recsR G').drop (M.base + 1 - st) := recsP_runs M.base p2
  have hlast : (openM M.size M.base M.shot (G'.map segF)).last + 1 = e := by
    unfold LogM.last
    rw [hrecs, List.length_drop]
    show M.base + _ + 1 = e
    omega
  have hsync : (openM M.size M.base M.shot (G'.map segF)).synced = (openM M.size M.base M.shot (G'.map segF)).last := rfl
  have hkeys : ∀ g ∈ G', ∃ x ∈ G, x.k = g.k := fun g hg => by
    have : g.k ∈ G'.map SegR.k := List.mem_map.2 ⟨g, hg, rfl⟩
    rw [p6] at this
    obtain ⟨x, hx, e⟩ := List.mem_map.1 this
    exact ⟨x, hx, e⟩
  have hlt : ∀ g ∈ G', g.k < 100000000 := fun g hg => by
    obtain ⟨x, hx, e⟩ := hkeys g hg
    rw [← e]
    exact h.lt hx
  have hup : ∀ n, findN S' n = none ↔ findN S n = none := fun n => by
    have key : ∀ (T : List RF), findN T n = none ↔ n ∉ T.map RF.nm := fun T => by
      constructor
      · intro e hn
        obtain ⟨f, hf, h2⟩ := List.mem_map.1 hn
        exact findN_none e f hf h2
      · intro hn
        cases e : findN T n with
        | none => rfl
        | some f => exact absurd (List.mem_map.2 ⟨f, (findN_mem e).1, (findN_mem e).2⟩) hn
    rw [key, key, hS.1]
  have hup2 : Upd S S' := ⟨hr, hup⟩
  obtain ⟨s1, s2, s3⟩ := settle_at hr ((hup newN).2 h.nonew) hlt (fun A g e x hx => by
    rw [e] at p2 p7
    obtain ⟨m, q1, q2, _⟩ := Runs.app.1 p2
    have h1 := (q1.in_ x hx).2
    have h2 := List.length_pos_iff.2 (p7 x (by rw [List.dropLast_concat]; exact hx))
    omega) p9
  have hend : ∀ g ∈ G', g.k + g.rs.length ≤ (openM M.size M.base M.shot (G'.map segF)).last + 1 := fun g hg => by
    rw [hlast]
    exact (p2.in_ g hg).2
  refine ⟨G', e - (M.base + 1), p1, ?_, by omega, ?_, ?_⟩
  · rw [segsP_map]
    have hU := hup2.trans s1
    exact {
      rise := s1.rise
      size := h.size
      segs := segsP_map G'
      runs := by rw [hlast]; exact p2
      start := hst
      full := p7
      recs := hrecs
      file := fun g hg => by
        obtain ⟨f, a, b, c⟩ := s2 g hg
        refine ⟨f, a, b, ?_⟩
        rw [hsync, List.take_of_length_le (by have := hend g hg; omega), c, b]
      names := by
        rw [hU.logs h.rise, h.names]
        have e1 : (G.map fun g => segName g.k) = (G.map SegR.k).map segName := by rw [List.map_map]; rfl
        have e2 : (G'.map fun g => segName g.k) = (G'.map SegR.k).map segName := by rw [List.map_map]; rfl
        rw [e1, e2, p6]
      other := fun f hf => by
        obtain ⟨f0, h1, h2⟩ := (hU.mem h.rise f.nm).1 ⟨f, hf, rfl⟩
        rw [← h2]
        exact h.other f0 h1
      snap := by
        rcases h.snap with ⟨a, b, c⟩ | ⟨f, a, b, c⟩
        · exact .inl ⟨(hU.same snapN).2 a, b, c⟩
        · obtain ⟨f', m, q1, q2, q3⟩ := hS.2 _ f a
          rw [List.take_of_length_le (by omega)] at q3
          obtain ⟨f1, q4, q5, q6⟩ := s3 f' q1
          exact .inr ⟨f1, q4, by rw [q5, q3]; exact b, by rw [q6, q5]⟩
      sync := ⟨by rw [hsync]; show M.base ≤ M.base + _; omega, Nat.le_refl _, fun g hg => by
        rw [hsync]
        have := hend g hg
        omega⟩
      many := by omega
      bytes := fun g hg => (p8 g hg).1
      byt := fun g hg => (p8 g hg).2
      shot := h.shot }
  · unfold LogM.last at p4
    omega
  · rw [hrecs, p5, h.recs, List.drop_take]
    congr 1
    omega
end
end Go.Proofs.YtnomicnmpllajaaGreatDoor
end

section
namespace Go.Proofs.YtnomicnmpllajaaGreatDoor
open Go Go.RowKit

theorem usedN_put_any {S : List RF} (hS : Rising RF.nm S) (x : RF) : usedN (putN RF.nm x S) + (oldRF S x.nm).b.length = usedN S + x.b.length := by
  cases e : findN S x.nm with
  | none =>
    rw [oldRF_none e]
    unfold putN
    rw [usedN_ins, delN_none (findN_none e)]
    show x.b.length + usedN S + 0 = _
    omega
  | some f =>
    rw [oldRF_some e]
    obtain ⟨h1, h2⟩ := findN_mem e
    exact usedN_put hS h1 h2
theorem usedN_sync {S : List RF} (hS : Rising RF.nm S) (k : List UInt8) : usedN (syncF S k).1 = usedN S := by
  cases e : findN S k with
  | none =>
    have : (syncF S k).1 = S := by unfold syncF; rw [e]
    rw [this]
  | some f =>
    rw [syncF_put e]
    have h := usedN_put_any hS ⟨k, f.b, f.b.length⟩
    rw [oldRF_some e] at h
    simp only at h
    omega
section
variable {S : List RF} {M : LogM} {G : List SegR} {st : Nat}
theorem LI.used_stepA (h : LI S M G st) (xs : List Int) : usedN (Proofs.YtnomicnmpllajaaGreatDoor.stepA S M xs).1 = usedN S + (xs.length + 6) := by
  have hm := h.many
  unfold Proofs.YtnomicnmpllajaaGreatDoor.stepA
  rcases List.eq_nil_or_concat G with rfl | ⟨G0, g, rfl⟩
  · have e : M.segs.getLast? = none := by rw [h.segs]; rfl
    have hno := h.find_none (k := M.last + 1) (by omega) (fun g hg => by cases hg)
    rw [e]
    have h1 := usedN_put_any h.rise ⟨segName (M.last + 1), sealF xs, 0⟩
    rw [oldRF_none hno] at h1
    simp only [List.length_nil, sealF_length] at h1
    simp only
    omega
  · rw [List.concat_eq_append] at h
    have e : M.segs.getLast? = some (g.k, (bytesR g.rs).length) := by rw [h.segs, segsR_last]
    obtain ⟨h1, h2, h3⟩ := h.ahead
    rw [e]
    simp only
    by_cases c : (bytesR g.rs).length = 0 ∨ (bytesR g.rs).length + (xs.length + 6) ≤ M.size
    · rw [if_pos c]
      have h4 := usedN_put_any h.rise ⟨segName g.k, (oldRF S (segName g.k)).b ++ sealF xs, (oldRF S (segName g.k)).s⟩
      simp only [List.length_append, sealF_length] at h4
      simp only
      omega
    · rw [if_neg c]
      have hne : segName (M.last + 1) ≠ segName g.k := fun e2 => by
        have hg : g ∈ G0 ++ [g] := List.mem_append.2 (.inr (List.mem_singleton.2 rfl))
        have h4 := (segName_inj (by omega) (h.lt hg)).1 e2
        have h5 := List.length_pos_iff.2 (bytesR_pos (rs := g.rs) (by omega))
        omega
      have hno : findN S (segName (M.last + 1)) = none := h.find_none (by omega) fun x hx' => by
        rcases List.mem_append.1 hx' with hx' | hx'
        · have h8 := (h1 x hx').1
          have h9 := List.length_pos_iff.2 (h1 x hx').2.1
          omega
        · rw [List.mem_singleton.1 hx']
          exact fun e2 => hne (by rw [e2])
      have hu := syncF_upd h.rise (segName g.k)
      have h4 := usedN_put_any hu.rise ⟨segName (M.last + 1), sealF xs, 0⟩
      rw [oldRF_none ((hu.same _).2 hno), usedN_sync h.rise] at h4
      simp only [List.length_nil, sealF_length] at h4
      simp only
      omega
theorem LI.used_stepS (h : LI S M G st) : usedN (Proofs.YtnomicnmpllajaaGreatDoor.stepS S M).1 = usedN S := by
  unfold Proofs.YtnomicnmpllajaaGreatDoor.stepS
  split
  · rfl
  · exact usedN_sync h.rise _
theorem usedN_remove {S : List RF} (hS : Rising RF.nm S) (k : List UInt8) : usedN (removeF S k).1 ≤ usedN S ∧ Rising RF.nm (removeF S k).1 := by
  unfold removeF
  cases e : findN S k with
  | none => exact ⟨Nat.le_refl _, hS⟩
  | some f =>
    obtain ⟨h1, h2⟩ := findN_mem e
    have h3 := usedN_del hS h1
    rw [h2] at h3
    exact ⟨by show usedN (delN RF.nm k S) ≤ _; omega, hS.delN k⟩
theorem usedN_removes : ∀ (l : List (Nat × Nat)) {S : List RF}, Rising RF.nm S → usedN (removes S l) ≤ usedN S
  | [], _, _ => Nat.le_refl _
  | s :: l, S, hS => by
    obtain ⟨h1, h2⟩ := usedN_remove hS (segName s.1)
    exact Nat.le_trans (usedN_removes l h2) h1
theorem usedN_cut {S : List RF} (hS : Rising RF.nm S) (k : List UInt8) (n : Int) : usedN (cutF S k n).1 ≤ usedN S := by
  unfold cutF
  cases e : findN S k with
  | none => exact Nat.le_refl _
  | some f =>
    simp only
    split
    · exact Nat.le_refl _
    · have h1 := usedN_put_any hS (cutRF f n.toNat)
      have h2 : (cutRF f n.toNat).nm = k := (findN_mem e).2
      have h3 : (cutRF f n.toNat).b.length ≤ f.b.length := by
        show (f.b.take n.toNat).length ≤ _
        rw [List.length_take]
        omega
      rw [h2, oldRF_some e] at h1
      show usedN (putN RF.nm (cutRF f n.toNat) S) ≤ _
      omega
theorem LI.used_cut (h : LI S M G st) {k : Nat} {M' : LogM} {S' : List RF} (hc : CutTo M k S M' S') : usedN S' ≤ usedN S := by
  obtain ⟨j, _, _, ⟨_, _, rfl⟩ | ⟨i, s, n, t, _, _, _, _, _, _, rfl⟩⟩ := hc
  · exact usedN_removes _ h.rise
  · exact Nat.le_trans (usedN_cut (removes_mem _ h.rise).1 _ _) (usedN_removes _ h.rise)
theorem LI.used_stepP (h : LI S M G st) (k : Nat) (xs : List Int) : usedN (Proofs.YtnomicnmpllajaaGreatDoor.stepP S M k xs).1 ≤ usedN S + (sealF (enc k ++ xs)).length := by
  unfold Proofs.YtnomicnmpllajaaGreatDoor.stepP
  refine Nat.le_trans (usedN_removes _ (h.rise.putN _)) ?_
  have h1 := usedN_put_any h.rise ⟨snapN, sealF (enc k ++ xs), (sealF (enc k ++ xs)).length⟩
  simp only at h1
  show usedN (putN RF.nm _ S) ≤ _
  omega
end
end Go.Proofs.YtnomicnmpllajaaGreatDoor
end

section
namespace Go.Proofs.YtnomicnmpllajaaGreatDoor
open Go Go.RowKit

section
variable {w0 w : World} {Kp : Nat → Prop} {lb d : Nat} {R : Int} {S S' : List RF} {M M0 : LogM} {V : LogV} {G : List SegR} {st : Nat}
theorem LI.small (h : LI S M G st) (hS : LeftOf S S') (hr : Rising RF.nm S') : ∀ f ∈ S', f.b.length ≤ 1000000 := fun f hf => by
  have hn : f.nm ∈ S.map RF.nm := by
    rw [← hS.1]
    exact List.mem_map.2 ⟨f, hf, rfl⟩
  obtain ⟨g, hg, e⟩ := List.mem_map.1 hn
  obtain ⟨f', m, h1, _, h3⟩ := hS.2 _ g (findN_some h.rise hg)
  have h4 := findN_some hr hf
  rw [← e, h1] at h4
  cases h4
  have h5 : g.b.length ≤ 65536 := by
    rcases h.other g hg with h6 | h6
    · have h7 : g.nm ∈ logsOf S := mem_logs.2 ⟨⟨g, hg, rfl⟩, h6⟩
      rw [h.names] at h7
      obtain ⟨x, hx, e2⟩ := List.mem_map.1 h7
      obtain ⟨f2, a, b, _⟩ := h.file x hx
      rw [e2, findN_some h.rise hg] at a
      cases a
      rw [b]
      exact h.bytes x hx
    · have h7 := findN_some h.rise hg
      rw [h6] at h7
      rcases h.snap with ⟨a, _⟩ | ⟨f2, a, b, _⟩
      · rw [h7] at a
        cases a
      · rw [h7] at a
        cases a
        rw [b, sealF_length, List.length_append]
        have h8 := enc_len9 (n := M.base) (by have h1 := h.many; have h2 := h.sync; omega)
        have h9 := h.shot.1
        omega
  rw [h3, List.length_take]
  omega
theorem usedN_syncAll : ∀ (l : List (Nat × Nat)) {S : List RF}, Rising RF.nm S → usedN (syncAll S l) = usedN S
  | [], _, _ => rfl
  | s :: l, _, hS => (usedN_syncAll l (syncF_upd hS (segName s.1)).rise).trans (usedN_sync hS _)
theorem cutF_rise {S : List RF} (hS : Rising RF.nm S) (k : List UInt8) (n : Int) : Rising RF.nm (cutF S k n).1 := by
  unfold cutF
  cases e : findN S k with
  | none => exact hS
  | some f =>
    simp only
    split
    · exact hS
    · exact hS.putN _
theorem usedN_settle {S : List RF} (hS : Rising RF.nm S) (l : List (Nat × Nat)) : usedN (settleF S l) ≤ usedN S := by
  obtain ⟨T, hT⟩ : ∃ T, T = (match l.getLast? with | none => syncAll S l | some s => (cutF (syncAll S l) (segName s.1) s.2).1) := ⟨_, rfl⟩
  have hu := syncAll_upd l hS
  have key : usedN T ≤ usedN S ∧ Rising RF.nm T := by
    rw [hT]
    cases e : l.getLast? with
    | none => exact ⟨Nat.le_of_eq (usedN_syncAll l hS), hu.rise⟩
    | some s => exact ⟨Nat.le_trans (usedN_cut hu.rise _ _) (Nat.le_of_eq (usedN_syncAll l hS)), cutF_rise hu.rise _ _⟩
  have e : settleF S l = (removeF (syncF T snapN).1 newN).1 := by rw [hT]; rfl
  rw [e]
  refine Nat.le_trans (usedN_remove (syncF_upd key.2 snapN).rise newN).1 ?_
  rw [usedN_sync key.2]
  exact key.1
/-- Open, on what is left of a log's files. -/
theorem Open_li {Φ : Nat → Prop} (hbel : Below w0.heap.size w0 w) (hd : DiskAt w d R S' Φ) (hΦ : ∀ k, Φ k → w0.heap.size ≤ k ∧ ¬ Kp k ∧ k < w.heap.size) (hL : LI S M G st) (hS : LeftOf S S') (hKp : ∀ k, Kp k → k < w.heap.size) (ht : Tab w0) :
    ∃ S2 M2 G2 t, LI S2 M2 G2 st ∧ M2.size = M.size ∧ M2.base = M.base ∧ M2.shot = M.shot ∧ M2.synced = M2.last ∧ M.synced ≤ M.base + t ∧ t ≤ M.recs.length ∧ M2.recs = M.recs.take t ∧ usedN S2 ≤ usedN S' ∧
      Calls Tryz.prog 15 #[.pointer (some ⟨d, 0, none⟩), .int .i64 M.size] w (OpenSaid w0 Kp d R S2 M2 w) := by
  have hr : Rising RF.nm S' := by
    obtain ⟨m, L, rfl, hD⟩ := hd
    exact hD.srt.map (g := Fil.f) fil_name
  obtain ⟨G', t, p1, p2, p3, p4, p5⟩ := hL.opened hr hS
  have hlen : S'.length ≤ 1000000 := by
    have h1 := congrArg List.length hS.1
    rw [List.length_map, List.length_map] at h1
    rw [h1]
    exact hL.few
  have hsy := hL.sync
  have hm := hL.many
  have hn : (G'.map segF).length < 1000000 := by
    have h1 := p2.segCount
    have h2 := p2.many
    rw [List.length_map]
    omega
  have hrec : ((G'.map segF).flatMap SegF.l).length ≤ 1000000 := by
    have e : (G'.map segF).flatMap SegF.l = recsR G' := by
      unfold recsR
      rw [List.flatMap_map]
      rfl
    have h1 := p2.runs.len
    have h2 := p2.many
    rw [e]
    omega
  have hfb := hL.small hS hr
  refine ⟨_, _, G', t, p2, rfl, rfl, rfl, rfl, p3, p4, p5, usedN_settle hr _, ?_⟩
  rcases hL.snap with ⟨a, b, c⟩ | ⟨f, a, b, c⟩
  · have hno : findN S' snapN = none := by
      cases e : findN S' snapN with
      | none => rfl
      | some f =>
        obtain ⟨h1, h2⟩ := findN_mem e
        have h3 : f.nm ∈ S.map RF.nm := by
          rw [← hS.1]
          exact List.mem_map.2 ⟨f, h1, rfl⟩
        obtain ⟨g, hg, e2⟩ := List.mem_map.1 h3
        exact absurd (e2.trans h2) (findN_none a g hg)
    rw [b, c]
    rw [b] at p1
    exact Open_segs hbel hd hΦ hKp ht M.size hL.size.1 hL.size.2 hno hlen p1 hn hrec hfb
  · obtain ⟨f', m, q1, q2, q3⟩ := hS.2 _ f a
    rw [List.take_of_length_le (by omega)] at q3
    exact Open_snap hbel hd hΦ hKp ht M.size hL.size.1 hL.size.2 q1 (q3.trans b) (by omega) (fun x hx => by
      rcases List.mem_append.1 hx with hx | hx
      · exact enc_bytes _ x hx
      · exact hL.shot.2 x hx) (by
      rw [List.length_append]
      have h8 := enc_len9 (n := M.base) (by omega)
      have h9 := hL.shot.1
      omega) hlen p1 hn hrec hfb
/-- A log's own files, without a crash. -/
theorem LI.own_left (h : LI S M G st) : LeftOf S S := LeftOf.refl fun n f hf => by
  obtain ⟨hg, hn⟩ := findN_mem hf
  rcases h.other f hg with h6 | h6
  · have h7 : f.nm ∈ logsOf S := mem_logs.2 ⟨⟨f, hg, rfl⟩, h6⟩
    rw [h.names] at h7
    obtain ⟨x, hx, e2⟩ := List.mem_map.1 h7
    obtain ⟨f2, a, b, c⟩ := h.file x hx
    rw [e2, findN_some h.rise hg] at a
    cases a
    rw [c, b]
    have e : bytesR x.rs = bytesR (x.rs.take (M.synced + 1 - x.k)) ++ bytesR (x.rs.drop (M.synced + 1 - x.k)) := by rw [← bytesR_app, List.take_append_drop]
    rw [e, List.length_append]
    omega
  · have h7 := findN_some h.rise hg
    rw [h6] at h7
    rcases h.snap with ⟨a, _⟩ | ⟨f2, a, _, c⟩
    · rw [h7] at a
      cases a
    · rw [h7] at a
      cases a
      omega
end
end Go.Proofs.YtnomicnmpllajaaGreatDoor
end

section
namespace Go.Proofs.YtnomicnmpllajaaGreatDoor
open Go Go.RowKit

theorem usedN_mapIdx : ∀ (S : List RF) (f : Nat → RF → RF), (∀ i x, (f i x).b.length ≤ x.b.length) → usedN (S.mapIdx f) ≤ usedN S
  | [], _, _ => Nat.le_refl _
  | x :: S, f, h => by
    rw [List.mapIdx_cons, usedN_cons, usedN_cons]
    have h1 := usedN_mapIdx S (fun i => f (i + 1)) fun i y => h (i + 1) y
    have h2 := h 0 x
    omega
theorem usedN_crash (ks : List Int) (S : List RF) : usedN (crashF ks S) ≤ usedN S := usedN_mapIdx S _ fun i x => by
  show (x.b.take _).length ≤ _
  rw [List.length_take]
  omega
theorem Chg.of_kept {B : Nat} {Kp : Nat → Prop} {w W W' : World} (h1 : Below B w W) (h2 : Below B w W') (hK : Kept Kp W W') : Chg (fun k => ¬ Kp k) W W' :=
  ⟨h2.os.trans h1.os.symm, h2.tape.trans h1.tape.symm, h2.output.trans h1.output.symm, hK.2, fun k _ hn => hK.1 k (Classical.not_not.1 hn)⟩

/-- A log that is new since w, and keeps off the blocks of Kp: those of w are among these. -/
def LK (w : World) (Kp : Nat → Prop) (lb d : Nat) (R : Int) (S : List RF) (M : LogM) (W : World) : Prop :=
  (∃ V, WPair w Kp lb d R S M V W) ∧ (∀ k, Kp k → k < W.heap.size) ∧ ∀ k, k < w.heap.size → Kp k
/-- The same of a disk alone. -/
def DK (w : World) (Kp : Nat → Prop) (d : Nat) (R : Int) (S : List RF) (W : World) : Prop :=
  Below w.heap.size w W ∧ (∃ Φ, DiskAt W d R S Φ ∧ ∀ k, Φ k → w.heap.size ≤ k ∧ ¬ Kp k ∧ k < W.heap.size) ∧ (∀ k, Kp k → k < W.heap.size) ∧ ∀ k, k < w.heap.size → Kp k

section
variable {w W W' : World} {Kp Kp' : Nat → Prop} {lb d : Nat} {R : Int} {S S' : List RF} {M : LogM} {G : List SegR} {st : Nat}
theorem LK.below (h : LK w Kp lb d R S M W) : Below w.heap.size w W := by
  obtain ⟨⟨V, h⟩, _⟩ := h
  exact h.below
theorem LK.lw (h : LK w Kp lb d R S M W) : LW w lb d R S M W := by
  obtain ⟨⟨V, h⟩, _, h2⟩ := h
  exact ⟨V, h.keepK fun k _ hk => h2 k hk⟩
theorem LW.lk (h : LW w lb d R S M W) : LK w (fun k => k < w.heap.size) lb d R S M W := ⟨h, h.lt, fun _ hk => hk⟩
theorem LK.later (h : LK w Kp lb d R S M W) (hb : Below W.heap.size W W') : LK w Kp lb d R S M W' := by
  obtain ⟨⟨V, h⟩, h1, h2⟩ := h
  exact ⟨⟨V, h.later hb⟩, fun k hk => Nat.lt_of_lt_of_le (h1 k hk) hb.size, h2⟩
theorem LK.kept (h : LK w Kp lb d R S M W) (hb : Below W.heap.size W W') : Kept Kp W W' := Kept.of_below hb h.2.1
/-- What was made since is kept, too. -/
theorem LK.more (h : LK w Kp lb d R S M W) (hb : Below W.heap.size W W') : LK w (fun k => Kp k ∨ (W.heap.size ≤ k ∧ k < W'.heap.size)) lb d R S M W' := by
  obtain ⟨⟨V, h⟩, h1, h2⟩ := h
  refine ⟨⟨V, (h.keepK fun k h3 h4 => ?_).later hb⟩, fun k hk => ?_, fun k hk => .inl (h2 k hk)⟩
  · rcases h4 with h4 | h4
    · exact h4
    · omega
  · rcases hk with hk | hk
    · exact Nat.lt_of_lt_of_le (h1 k hk) hb.size
    · exact hk.2
theorem LK.less (h : LK w Kp lb d R S M W) (hK : ∀ k, Kp' k → Kp k) (h2 : ∀ k, k < w.heap.size → Kp' k) : LK w Kp' lb d R S M W := by
  obtain ⟨⟨V, h⟩, h1, _⟩ := h
  exact ⟨⟨V, h.keepK fun k _ hk => hK k hk⟩, fun k hk => h1 k (hK k hk), h2⟩
theorem LSaid.lk {r : Int} {e : Ending} (h : LSaid w Kp lb d R S' M r W e W') (h1 : ∀ k, Kp k → k < W.heap.size) (h2 : ∀ k, k < w.heap.size → Kp k) : e = .returned (.int .i64 r) ∧ LK w Kp lb d R S' M W' ∧ Kept Kp W W' := by
  obtain ⟨e1, h3⟩ := h
  obtain ⟨V, h4, h5⟩ := h3.out
  exact ⟨e1, ⟨⟨V, h4⟩, fun k hk => Nat.lt_of_lt_of_le (h1 k hk) h5.2, h2⟩, h5⟩
theorem LK.append (h : LK w Kp lb d R S M W) (hL : LI S M G st) (ht : Tab w) {A : Option Addr} {n c : Nat} {xs : List Int} (hr : Rd W W.heap.size .u8 A n c xs) (hA : ∀ a, A = some a → 0 < n → Kp a.block) (hx : ∀ x ∈ xs, 0 ≤ x ∧ x < 256) (hm : M.last + 1 < 900000) (hf : fitsA R S xs) :
    Calls Tryz.prog 24 #[.pointer (some ⟨lb, 0, none⟩), .slice A n c] W fun e w' => e = .returned (.int .i64 0) ∧ LK w Kp lb d R (stepA S M xs).1 (stepA S M xs).2 w' ∧ Kept Kp W w' := by
  obtain ⟨⟨V, h⟩, h1, h2⟩ := h
  exact (Append_li h hL h1 ht hr hx hA hm hf).mono fun e w' h3 => h3.lk h1 h2
theorem LK.append_no (h : LK w Kp lb d R S M W) (hL : LI S M G st) (ht : Tab w) {A : Option Addr} {n c : Nat} {xs : List Int} (hr : Rd W W.heap.size .u8 A n c xs) (hA : ∀ a, A = some a → 0 < n → Kp a.block) (hx : ∀ x ∈ xs, 0 ≤ x ∧ x < 256) (hm : M.last + 1 < 900000) (hf : ¬ fitsA R S xs) :
    Calls Tryz.prog 24 #[.pointer (some ⟨lb, 0, none⟩), .slice A n c] W fun e w' => e = .returned (.int .i64 5) ∧ LK w Kp lb d R S M w' ∧ Kept Kp W w' := by
  obtain ⟨⟨V, h⟩, h1, h2⟩ := h
  exact (Append_li_no h hL h1 ht hr hx hA hm hf).mono fun e w' h3 => h3.lk h1 h2
theorem LK.sync (h : LK w Kp lb d R S M W) (hL : LI S M G st) (ht : Tab w) : Calls Tryz.prog 25 #[.pointer (some ⟨lb, 0, none⟩)] W fun e w' => e = .returned (.int .i64 0) ∧ LK w Kp lb d R (stepS S M).1 (stepS S M).2 w' ∧ Kept Kp W w' := by
  obtain ⟨⟨V, h⟩, h1, h2⟩ := h
  exact (Sync_li h hL h1 ht).mono fun e w' h3 => h3.lk h1 h2
theorem LK.snap (h : LK w Kp lb d R S M W) (hL : LI S M G st) (ht : Tab w) {A : Option Addr} {n c : Nat} {xs : List Int} (hr : Rd W W.heap.size .u8 A n c xs) (hA : ∀ a, A = some a → 0 < n → Kp a.block) (hx : ∀ x ∈ xs, 0 ≤ x ∧ x < 256) {k : Nat} (hk1 : M.base ≤ k) (hk2 : k ≤ M.synced) (hf : fitsN R S k xs) :
    Calls Tryz.prog 29 #[.pointer (some ⟨lb, 0, none⟩), .int .i64 k, .slice A n c] W fun e w' => e = .returned (.int .i64 0) ∧ LK w Kp lb d R (stepP S M k xs).1 (stepP S M k xs).2 w' ∧ Kept Kp W w' := by
  obtain ⟨⟨V, h⟩, h1, h2⟩ := h
  exact (Snap_li h hL h1 ht hr hx hA hk1 hk2 hf).mono fun e w' h3 => h3.lk h1 h2
theorem LK.snap_no (h : LK w Kp lb d R S M W) (hL : LI S M G st) {A : Option Addr} {n c : Nat} {xs : List Int} (hr : Rd W W.heap.size .u8 A n c xs) (hx : ∀ x ∈ xs, 0 ≤ x ∧ x < 256) {k : Nat} (hk1 : M.base ≤ k) (hk2 : k ≤ M.synced) (hf : ¬ fitsN R S k xs) :
    Calls Tryz.prog 29 #[.pointer (some ⟨lb, 0, none⟩), .int .i64 k, .slice A n c] W fun e w' => e = .returned (.int .i64 5) ∧ LK w Kp lb d R S M w' ∧ Kept Kp W w' := by
  obtain ⟨⟨V, h⟩, h1, h2⟩ := h
  exact (Snap_li_no h hL h1 hr hx hk1 hk2 hf).mono fun e w' h3 => h3.lk h1 h2
theorem LK.snap_bad (h : LK w Kp lb d R S M W) (k : Int) (A : Option Addr) (n c : Nat) (hk : k < M.base ∨ (M.synced : Int) < k) :
    Calls Tryz.prog 29 #[.pointer (some ⟨lb, 0, none⟩), .int .i64 k, .slice A n c] W fun e w' => e = .returned (.int .i64 1) ∧ LK w Kp lb d R S M w' ∧ Kept Kp W w' := by
  obtain ⟨⟨V, h⟩, h1, h2⟩ := h
  exact (Snap_bad h h1 k A n c hk).mono fun e w' ⟨e1, h3, h4⟩ => ⟨e1, ⟨⟨V, h3⟩, fun k hk => Nat.lt_of_lt_of_le (h1 k hk) h4.2, h2⟩, h4⟩
theorem LK.cut (h : LK w Kp lb d R S M W) (hL : LI S M G st) (ht : Tab w) {k : Nat} (hk1 : M.base ≤ k) (hk2 : k ≤ M.last) :
    Calls Tryz.prog 30 #[.pointer (some ⟨lb, 0, none⟩), .int .i64 k] W fun e w' => e = .returned (.int .i64 0) ∧ Hid (∃ S' M', LK w Kp lb d R S' M' w' ∧ CutTo M k S M' S') ∧ Kept Kp W w' := by
  obtain ⟨⟨V, h⟩, h1, h2⟩ := h
  refine (Cut_li h hL h1 ht hk1 hk2).mono ?_
  rintro e w' ⟨e1, S', M', V', h3, h4, h5⟩
  exact ⟨e1, Lib.hid ⟨S', M', ⟨⟨V', h3⟩, fun k hk => Nat.lt_of_lt_of_le (h1 k hk) h4.2, h2⟩, h5⟩, h4⟩
theorem LK.cut_no (h : LK w Kp lb d R S M W) (hok : LogOk M) (k : Int) (hk : k < M.base ∨ (M.last : Int) < k) :
    Calls Tryz.prog 30 #[.pointer (some ⟨lb, 0, none⟩), .int .i64 k] W fun e w' => e = .returned (.int .i64 1) ∧ LK w Kp lb d R S M w' ∧ Kept Kp W w' := by
  obtain ⟨⟨V, h⟩, h1, h2⟩ := h
  exact (Cut_no h h1 hok k hk).mono fun e w' ⟨e1, h3, h4⟩ => ⟨e1, ⟨⟨V, h3⟩, fun k hk => Nat.lt_of_lt_of_le (h1 k hk) h4.2, h2⟩, h4⟩
/-- What memory says of the log. -/
def LogIs (w W : World) (lb d : Nat) (M : LogM) (Λ : Nat → Prop) : Prop := (∃ V, LogAt W lb d M V Λ) ∧ Below w.heap.size w W
theorem LK.log (h : LK w Kp lb d R S M W) : ∃ Λ, LogIs w W lb d M Λ ∧ DK w (fun k => Kp k ∨ Λ k) d R S W := by
  obtain ⟨⟨V, h⟩, h1, h2⟩ := h
  obtain ⟨Φ, Λ, hl, hd, ha, hK⟩ := h.ex
  refine ⟨Λ, ⟨⟨V, hl⟩, h.below⟩, h.below, ⟨Φ, hd, fun k hk => ⟨(hK k (.inl hk)).1, fun h3 => ?_, (hK k (.inl hk)).2.2⟩⟩, fun k hk => ?_, fun k hk => .inl (h2 k hk)⟩
  · rcases h3 with h3 | h3
    · exact (hK k (.inl hk)).2.1 h3
    · exact ha k hk h3
  · rcases hk with hk | hk
    · exact h1 k hk
    · exact (hK k (.inr hk)).2.2
theorem LK.dk (h : LK w Kp lb d R S M W) : DK w Kp d R S W := by
  obtain ⟨⟨V, h⟩, h1, h2⟩ := h
  obtain ⟨Φ, Λ, hl, hd, ha, hK⟩ := h.ex
  exact ⟨h.below, ⟨Φ, hd, fun k hk => hK k (.inl hk)⟩, h1, h2⟩
theorem DK.later (h : DK w Kp d R S W) (hb : Below W.heap.size W W') : DK w Kp d R S W' := by
  obtain ⟨h1, ⟨Φ, h2, h3⟩, h4, h5⟩ := h
  exact ⟨h1.trans (hb.mono h1.size), ⟨Φ, h2.later hb, fun k hk => ⟨(h3 k hk).1, (h3 k hk).2.1, Nat.lt_of_lt_of_le (h3 k hk).2.2 hb.size⟩⟩, fun k hk => Nat.lt_of_lt_of_le (h4 k hk) hb.size, h5⟩
theorem LogIs.kept {Λ : Nat → Prop} (h : LogIs w W lb d M Λ) (hK : Kept Kp W W') (hΛ : ∀ k, Λ k → Kp k) (hb : Below w.heap.size w W') : LogIs w W' lb d M Λ := by
  obtain ⟨⟨V, h1⟩, h2⟩ := h
  exact ⟨⟨V, h1.keep (Chg.of_kept h2 hb hK) fun k hk h3 => h3 (hΛ k hk)⟩, hb⟩
theorem LogIs.later {Λ : Nat → Prop} (h : LogIs w W lb d M Λ) (hb : Below W.heap.size W W') : LogIs w W' lb d M Λ := by
  obtain ⟨⟨V, h1⟩, h2⟩ := h
  exact ⟨⟨V, h1.later hb⟩, h2.trans (hb.mono h2.size)⟩
theorem LogIs.base_ {Λ : Nat → Prop} (h : LogIs w W lb d M Λ) : Calls Tryz.prog 23 #[.pointer (some ⟨lb, 0, none⟩)] W fun e w' => e = .returned (.int .i64 M.base) ∧ W = w' := by
  obtain ⟨⟨V, h⟩, _⟩ := h
  exact Base_any h
theorem LogIs.synced_ {Λ : Nat → Prop} (h : LogIs w W lb d M Λ) : Calls Tryz.prog 19 #[.pointer (some ⟨lb, 0, none⟩)] W fun e w' => e = .returned (.int .i64 M.synced) ∧ W = w' := by
  obtain ⟨⟨V, h⟩, _⟩ := h
  exact Synced_any h
theorem LogIs.last_ {Λ : Nat → Prop} (h : LogIs w W lb d M Λ) (hk : LogOk M) : Calls Tryz.prog 21 #[.pointer (some ⟨lb, 0, none⟩)] W fun e w' => e = .returned (.int .i64 M.last) ∧ ∃ q, w' = W.drewN q := by
  obtain ⟨⟨V, h⟩, _⟩ := h
  exact Last_any h hk
/-- What Get tells. -/
def GotIs (M : LogM) (k : Int) (W : World) (e : Ending) (w' : World) : Prop :=
  Below W.heap.size W w' ∧ ((¬ ((M.base : Int) < k ∧ k ≤ M.last) ∧ e = .returned (.tuple #[.slice none 0 0, .bool false])) ∨
    ∃ (j : Nat) (xs : List Int) (A : Option Addr) (c : Nat), k = M.base + j + 1 ∧ M.recs[j]? = some xs ∧ e = .returned (.tuple #[.slice A xs.length c, .bool true]) ∧ Rd w' w'.heap.size .u8 A xs.length c xs)
theorem LogIs.get {Λ : Nat → Prop} (h : LogIs w W lb d M Λ) (hk : LogOk M) (k : Int) : Calls Tryz.prog 26 #[.pointer (some ⟨lb, 0, none⟩), .int .i64 k] W (GotIs M k W) := by
  obtain ⟨⟨V, h⟩, _⟩ := h
  refine (Get_any h hk k).mono ?_
  rintro e w' (⟨hn, rfl, hb⟩ | ⟨j, xs, v, h1, h2, rfl, h3, hb⟩)
  · exact ⟨hb, .inl ⟨hn, rfl⟩⟩
  · obtain ⟨A, c, rfl, hrd⟩ := Rd.of_own h3
    exact ⟨hb, .inr ⟨j, xs, A, c, h1, h2, rfl, hrd⟩⟩
theorem LogIs.shot {Λ : Nat → Prop} (h : LogIs w W lb d M Λ) : Calls Tryz.prog 39 #[.pointer (some ⟨lb, 0, none⟩)] W fun e w' => ∃ A c, e = .returned (.slice A M.shot.length c) ∧ Below W.heap.size W w' ∧ Hid (Rd w' w'.heap.size .u8 A M.shot.length c M.shot) := by
  obtain ⟨⟨V, h⟩, _⟩ := h
  refine (Snapshot_any h).mono ?_
  rintro e w' ⟨v, rfl, h3, hb⟩
  obtain ⟨A, c, rfl, hrd⟩ := Rd.of_own h3
  exact ⟨A, c, rfl, hb, Lib.hid hrd⟩
theorem DK.used_ (h : DK w Kp d R S W) : Calls Tryz.prog 28 #[.pointer (some ⟨d, 0, none⟩)] W fun e w' => e = .returned (.int .i64 (usedN S)) ∧ W = w' := by
  obtain ⟨_, ⟨Φ, h, _⟩, _⟩ := h
  exact Used_any h
theorem DK.crash (h : DK w Kp d R S W) (hS : S.length ≤ 1000000) {A : Option Addr} {n c : Nat} {ks : List Int} (hr : Rd W W.heap.size .i64 A n c ks) (hA : ∀ a, A = some a → 0 < n → Kp a.block) (hks : ∀ z ∈ ks, -9223372036854775808 ≤ z ∧ z ≤ 9223372036854775807) :
    Calls Tryz.prog 20 #[.pointer (some ⟨d, 0, none⟩), .slice A n c] W fun e w' => e = .returned (.tuple #[]) ∧ DK w Kp d R (crashF ks S) w' ∧ Kept Kp W w' := by
  obtain ⟨hb, ⟨Φ, hd, hΦ⟩, h1, h2⟩ := h
  have hbs := hb.size
  refine (Crash_any hd A n c ks hr (fun b o e hn hp => (hΦ b hp).2.1 (hA _ e hn)) hks hS).mono ?_
  rintro e w' ⟨rfl, hc, hd'⟩
  have hcs := hc.size
  refine ⟨rfl, ⟨hb.trans (hc.below (by omega) fun k hk => (hΦ k hk).1), ⟨fun i => grow Φ W w' i ∧ i < w'.heap.size, hd'.mono fun i hi h3 => ⟨h3, hi⟩, fun k hk => ?_⟩, fun k hk => Nat.lt_of_lt_of_le (h1 k hk) hcs, h2⟩, fun k hk => hc.block k (h1 k hk) fun h3 => (hΦ k h3).2.1 hk, hcs⟩
  obtain ⟨hk1, hk2⟩ := hk
  rcases hk1 with hk1 | hk1
  · exact ⟨(hΦ k hk1).1, (hΦ k hk1).2.1, hk2⟩
  · exact ⟨by omega, fun h3 => by have := h1 k h3; omega, hk2⟩
theorem DK.opened (h : DK w Kp d R S' W) (hL : LI S M G st) (hS : LeftOf S S') (ht : Tab w) :
    ∃ S2 M2 G2 t, LI S2 M2 G2 st ∧ M2.size = M.size ∧ M2.base = M.base ∧ M2.shot = M.shot ∧ M2.synced = M2.last ∧ M.synced ≤ M.base + t ∧ t ≤ M.recs.length ∧ M2.recs = M.recs.take t ∧ usedN S2 ≤ usedN S' ∧
      Calls Tryz.prog 15 #[.pointer (some ⟨d, 0, none⟩), .int .i64 M.size] W fun e w' => ∃ lb, e = .returned (.tuple #[.pointer (some ⟨lb, 0, none⟩), .nilIface]) ∧ LK w Kp lb d R S2 M2 w' ∧ Kept Kp W w' := by
  obtain ⟨hb, ⟨Φ, hd, hΦ⟩, h1, h2⟩ := h
  obtain ⟨S2, M2, G2, t, p1, p2, p3, p4, p5, p6, p7, p8, p9, p10⟩ := Open_li hb hd hΦ hL hS h1 ht
  refine ⟨S2, M2, G2, t, p1, p2, p3, p4, p5, p6, p7, p8, p9, p10.mono ?_⟩
  rintro e w' ⟨lb, rfl, hV⟩
  obtain ⟨V', h3, h4⟩ := hV.out
  exact ⟨lb, rfl, ⟨⟨V', h3⟩, fun k hk => Nat.lt_of_lt_of_le (h1 k hk) h4.2, h2⟩, h4⟩
end
end Go.Proofs.YtnomicnmpllajaaGreatDoor
end

section
namespace Go.Proofs.YtnomicnmpllajaaGreatDoor
open Go Go.RowKit

/-- A log that says: segments of N bytes, a snapshot sh of the number B, these records; at least s are synced; the disk has U bytes. -/
def LSt (w : World) (Kp : Nat → Prop) (lb d N B : Nat) (sh : List Int) (recs : List (List Int)) (s U : Nat) (W : World) : Prop :=
  ∃ S M G st, LK w Kp lb d 1048576 S M W ∧ LI S M G st ∧ M.size = N ∧ M.base = B ∧ M.shot = sh ∧ M.recs = recs ∧ s ≤ M.synced ∧ usedN S = U
/-- A log of which queries alone are asked. -/
def LogSt (w : World) (lb d B : Nat) (sh : List Int) (recs : List (List Int)) (W : World) : Prop :=
  ∃ M Λ, LogIs w W lb d M Λ ∧ LogOk M ∧ M.base = B ∧ M.shot = sh ∧ M.recs = recs

section
variable {w W W' : World} {Kp : Nat → Prop} {lb d N B s U : Nat} {sh : List Int} {recs : List (List Int)}
theorem LSt.below (h : LSt w Kp lb d N B sh recs s U W) : Below w.heap.size w W := by
  obtain ⟨S, M, G, st, h1, _⟩ := h
  exact h1.below
theorem LSt.later (h : LSt w Kp lb d N B sh recs s U W) (hb : Below W.heap.size W W') : LSt w Kp lb d N B sh recs s U W' := by
  obtain ⟨S, M, G, st, h1, h2⟩ := h
  exact ⟨S, M, G, st, h1.later hb, h2⟩
theorem LSt.more (h : LSt w Kp lb d N B sh recs s U W) (hb : Below W.heap.size W W') : LSt w (fun k => Kp k ∨ (W.heap.size ≤ k ∧ k < W'.heap.size)) lb d N B sh recs s U W' := by
  obtain ⟨S, M, G, st, h1, h2⟩ := h
  exact ⟨S, M, G, st, h1.more hb, h2⟩
theorem LSt.less {Kp' : Nat → Prop} (h : LSt w Kp lb d N B sh recs s U W) (hK : ∀ k, Kp' k → Kp k) (h2 : ∀ k, k < w.heap.size → Kp' k) : LSt w Kp' lb d N B sh recs s U W := by
  obtain ⟨S, M, G, st, h1, h3⟩ := h
  exact ⟨S, M, G, st, h1.less hK h2, h3⟩
theorem LSt.keeps (h : LSt w Kp lb d N B sh recs s U W) (hb : Below W.heap.size W W') : Kept Kp W W' := by
  obtain ⟨S, M, G, st, h1, h2⟩ := h
  exact h1.kept hb
theorem LSt.log (h : LSt w Kp lb d N B sh recs s U W) : LogSt w lb d B sh recs W := by
  obtain ⟨S, M, G, st, h1, h2, h3, h4, h5, h6, _⟩ := h
  obtain ⟨Λ, h7, _⟩ := h1.log
  exact ⟨M, Λ, h7, h2.ok, h4, h5, h6⟩
/-- A row of bytes that was there ahead of all. -/
theorem row_in {A : Option Addr} {n c : Nat} {xs : List Int} (h : LSt w Kp lb d N B sh recs s U W) (hr : Rd w w.heap.size .u8 A n c xs) : Rd W W.heap.size .u8 A n c xs ∧ ∀ a, A = some a → 0 < n → Kp a.block := by
  obtain ⟨S, M, G, st, h1, h2⟩ := h
  exact ⟨(hr.below h1.below).more h1.below.size, fun a e hn => h1.2.2 _ (hr.blk a e hn)⟩
theorem LSt.append (h : LSt w Kp lb d N B sh recs s U W) (ht : Tab w) {A : Option Addr} {n c : Nat} {xs : List Int} (hr : Rd W W.heap.size .u8 A n c xs ∧ ∀ a, A = some a → 0 < n → Kp a.block) (hx : ∀ x ∈ xs, 0 ≤ x ∧ x < 256) (hn : xs.length ≤ 4096) (hm : B + recs.length + 1 < 900000) (hU : U + (xs.length + 6) ≤ 1048576) :
    Calls Tryz.prog 24 #[.pointer (some ⟨lb, 0, none⟩), .slice A n c] W fun e w' => e = .returned (.int .i64 0) ∧ LSt w Kp lb d N B sh (recs ++ [xs]) s (U + (xs.length + 6)) w' ∧ Kept Kp W w' := by
  obtain ⟨S, M, G, st, h1, h2, rfl, rfl, rfl, rfl, h7, rfl⟩ := h
  have hl : M.last + 1 < 900000 := hm
  refine (h1.append h2 ht hr.1 hr.2 hx hl ⟨hn, by omega⟩).mono ?_
  rintro e w' ⟨rfl, h3, h4⟩
  obtain ⟨G', st', h5⟩ := h2.stepA hx hn hl
  obtain ⟨r1, r2, r3, r4⟩ := stepA_recs S M xs
  refine ⟨rfl, ⟨_, _, G', st', h3, h5, r4, r2, r3, r1, ?_, ?_⟩, h4⟩
  · have h9 := h2.sync.2.1
    unfold Proofs.YtnomicnmpllajaaGreatDoor.stepA
    split
    · show s ≤ M.last
      omega
    · split
      · exact h7
      · show s ≤ M.last
        omega
  · have := h2.used_stepA xs
    omega
theorem LSt.sync (h : LSt w Kp lb d N B sh recs s U W) (ht : Tab w) : Calls Tryz.prog 25 #[.pointer (some ⟨lb, 0, none⟩)] W fun e w' => e = .returned (.int .i64 0) ∧ LSt w Kp lb d N B sh recs (B + recs.length) U w' ∧ Kept Kp W w' := by
  obtain ⟨S, M, G, st, h1, h2, rfl, rfl, rfl, rfl, h7, h8⟩ := h
  refine (h1.sync h2 ht).mono ?_
  rintro e w' ⟨rfl, h3, h4⟩
  have e0 : (stepS S M).2 = { M with synced := M.last } := by unfold stepS; split <;> rfl
  have h9 := h2.used_stepS
  have h10 := h2.stepS
  rw [e0] at h3 h10
  exact ⟨rfl, ⟨_, _, G, st, h3, h10, rfl, rfl, rfl, rfl, Nat.le_refl _, by omega⟩, h4⟩
theorem LSt.cut (h : LSt w Kp lb d N B sh recs s U W) (ht : Tab w) {k : Nat} (hk1 : B ≤ k) (hk2 : k ≤ B + recs.length) :
    Calls Tryz.prog 30 #[.pointer (some ⟨lb, 0, none⟩), .int .i64 k] W fun e w' => e = .returned (.int .i64 0) ∧ Hid (∃ U', U' ≤ U ∧ LSt w Kp lb d N B sh (recs.take (k - B)) k U' w') ∧ Kept Kp W w' := by
  obtain ⟨S, M, G, st, h1, h2, rfl, rfl, rfl, rfl, h7, h8⟩ := h
  refine (h1.cut h2 ht hk1 hk2).mono ?_
  rintro e w' ⟨rfl, h3, h4⟩
  obtain ⟨S', M', h5, h6⟩ := h3.out
  obtain ⟨G', hL', r1, r2, r3, r4, r5⟩ := h2.cut hk1 hk2 h6
  have := h2.used_cut h6
  exact ⟨rfl, Lib.hid ⟨_, by omega, _, _, _, _, h5, hL', r4, r2, r3, r1, by omega, rfl⟩, h4⟩
theorem LSt.cut_no (h : LSt w Kp lb d N B sh recs s U W) (k : Int) (hk : k < B ∨ ((B + recs.length : Nat) : Int) < k) :
    Calls Tryz.prog 30 #[.pointer (some ⟨lb, 0, none⟩), .int .i64 k] W fun e w' => e = .returned (.int .i64 1) ∧ LSt w Kp lb d N B sh recs s U w' ∧ Kept Kp W w' := by
  obtain ⟨S, M, G, st, h1, h2, rfl, rfl, rfl, rfl, h7, h8⟩ := h
  refine (h1.cut_no h2.ok k hk).mono ?_
  rintro e w' ⟨rfl, h3, h4⟩
  exact ⟨rfl, ⟨_, _, _, _, h3, h2, rfl, rfl, rfl, rfl, h7, h8⟩, h4⟩
theorem LSt.snap (h : LSt w Kp lb d N B sh recs s U W) (ht : Tab w) {A : Option Addr} {n c : Nat} {xs : List Int} (hr : Rd W W.heap.size .u8 A n c xs ∧ ∀ a, A = some a → 0 < n → Kp a.block) (hx : ∀ x ∈ xs, 0 ≤ x ∧ x < 256) (hn : xs.length ≤ 4000) {k : Nat} (hk1 : B ≤ k) (hk2 : k ≤ s) (hU : U + (sealF (enc k ++ xs)).length ≤ 1048576) :
    Calls Tryz.prog 29 #[.pointer (some ⟨lb, 0, none⟩), .int .i64 k, .slice A n c] W fun e w' => e = .returned (.int .i64 0) ∧ Hid (∃ U', U' ≤ U + (sealF (enc k ++ xs)).length ∧ LSt w Kp lb d N k xs (recs.drop (k - B)) s U' w') ∧ Kept Kp W w' := by
  obtain ⟨S, M, G, st, h1, h2, rfl, rfl, rfl, rfl, h7, h8⟩ := h
  refine (h1.snap h2 ht hr.1 hr.2 hx hk1 (by omega) ⟨hn, by omega⟩).mono ?_
  rintro e w' ⟨rfl, h3, h4⟩
  obtain ⟨G', st', h5⟩ := h2.stepP hk1 (by omega) hx hn
  have := h2.used_stepP k xs
  exact ⟨rfl, Lib.hid ⟨_, by omega, _, _, G', st', h3, h5, rfl, rfl, rfl, rfl, h7, rfl⟩, h4⟩
theorem LSt.snap_no (h : LSt w Kp lb d N B sh recs s U W) (k : Int) (A : Option Addr) (n c : Nat) (hk : k < B ∨ ((B + recs.length : Nat) : Int) < k) :
    Calls Tryz.prog 29 #[.pointer (some ⟨lb, 0, none⟩), .int .i64 k, .slice A n c] W fun e w' => e = .returned (.int .i64 1) ∧ LSt w Kp lb d N B sh recs s U w' ∧ Kept Kp W w' := by
  obtain ⟨S, M, G, st, h1, h2, rfl, rfl, rfl, rfl, h7, h8⟩ := h
  have hl : M.synced ≤ M.base + M.recs.length := h2.sync.2.1
  refine (h1.snap_bad k A n c (by omega)).mono ?_
  rintro e w' ⟨rfl, h3, h4⟩
  exact ⟨rfl, ⟨_, _, _, _, h3, h2, rfl, rfl, rfl, rfl, h7, h8⟩, h4⟩
/-- How many bytes the disk has. -/
theorem LSt.used_ (h : LSt w Kp lb d N B sh recs s U W) : Calls Tryz.prog 28 #[.pointer (some ⟨d, 0, none⟩)] W fun e w' => e = .returned (.int .i64 U) ∧ W = w' := by
  obtain ⟨S, M, G, st, h1, h2, h3, h4, h5, h6, h7, rfl⟩ := h
  exact h1.dk.used_
/-- Open, without a crash, on what all is synced. -/
theorem LSt.reopen (h : LSt w Kp lb d N B sh recs s U W) (hs : B + recs.length ≤ s) (ht : Tab w) :
    Calls Tryz.prog 15 #[.pointer (some ⟨d, 0, none⟩), .int .i64 N] W fun e w2 => ∃ lb2, e = .returned (.tuple #[.pointer (some ⟨lb2, 0, none⟩), .nilIface]) ∧ LogSt w lb2 d B sh recs w2 ∧ LogSt w lb d B sh recs w2 ∧ Below w.heap.size w w2 ∧ Kept Kp W w2 := by
  obtain ⟨S, M, G, st, h1, h2, rfl, rfl, rfl, rfl, h7, h8⟩ := h
  obtain ⟨Λ, hlog, hdk⟩ := h1.log
  obtain ⟨S2, M2, G2, t, p1, p2, p3, p4, p5, p6, p7, p8, p9, p10⟩ := hdk.opened h2 h2.own_left ht
  refine p10.mono ?_
  rintro e w2 ⟨lb2, rfl, h3, h4⟩
  obtain ⟨Λ2, hlog2, _⟩ := h3.log
  have et : t = M.recs.length := by omega
  rw [et, List.take_length] at p8
  exact ⟨lb2, rfl, ⟨M2, Λ2, hlog2, p1.ok, p3, p4, p8⟩, ⟨M, Λ, hlog.kept h4 (fun k hk => .inr hk) h3.below, h2.ok, rfl, rfl, rfl⟩, h3.below, fun k hk => h4.1 k (.inl hk), h4.2⟩
/-- A crash, and Open behind it. -/
theorem LSt.crash (h : LSt w Kp lb d N B sh recs s U W) (ht : Tab w) {A : Option Addr} {n c : Nat} {ks : List Int} (hr : Rd W W.heap.size .i64 A n c ks) (hA : ∀ a, A = some a → 0 < n → Kp a.block) (hks : ∀ z ∈ ks, -9223372036854775808 ≤ z ∧ z ≤ 9223372036854775807) :
    Calls Tryz.prog 20 #[.pointer (some ⟨d, 0, none⟩), .slice A n c] W fun e w1 => e = .returned (.tuple #[]) ∧ Kept Kp W w1 ∧ Below w.heap.size w w1 ∧ Hid (∃ t, t ≤ recs.length ∧ s ≤ B + t ∧
      Calls Tryz.prog 15 #[.pointer (some ⟨d, 0, none⟩), .int .i64 N] w1 fun e w2 => ∃ lb2, e = .returned (.tuple #[.pointer (some ⟨lb2, 0, none⟩), .nilIface]) ∧ Hid (∃ U', U' ≤ U ∧ LSt w Kp lb2 d N B sh (recs.take t) (B + t) U' w2) ∧ LogSt w lb d B sh recs w2 ∧ Kept Kp w1 w2) := by
  obtain ⟨S, M, G, st, h1, h2, rfl, rfl, rfl, rfl, h7, h8⟩ := h
  obtain ⟨Λ, hlog, hdk⟩ := h1.log
  refine (hdk.crash h2.few hr (fun a e hn => .inl (hA a e hn)) hks).mono ?_
  rintro e w1 ⟨rfl, h3, h4⟩
  have hlog1 := hlog.kept h4 (fun k hk => .inr hk) h3.1
  obtain ⟨S2, M2, G2, t, p1, p2, p3, p4, p5, p6, p7, p8, p9, p10⟩ := h3.opened h2 (crashF_left h2.rise ks) ht
  refine ⟨rfl, ⟨fun k hk => h4.1 k (.inl hk), h4.2⟩, h3.1, Lib.hid ⟨t, p7, by omega, p10.mono ?_⟩⟩
  rintro e w2 ⟨lb2, rfl, h5, h6⟩
  have hu := usedN_crash ks S
  have hM2 : M2.last = M.base + t := by
    unfold LogM.last
    rw [p3, p8, List.length_take]
    omega
  refine ⟨lb2, rfl, Lib.hid ⟨usedN S2, by omega, S2, M2, G2, st, h5.less (fun k hk => .inl hk) h1.2.2, p1, p2, p3, p4, p8, by omega, rfl⟩, ⟨M, Λ, hlog1.kept h6 (fun k hk => .inr hk) h5.below, h2.ok, rfl, rfl, rfl⟩, fun k hk => h6.1 k (.inl hk), h6.2⟩
theorem LogSt.later (h : LogSt w lb d B sh recs W) (hb : Below W.heap.size W W') : LogSt w lb d B sh recs W' := by
  obtain ⟨M, Λ, h1, h2⟩ := h
  exact ⟨M, Λ, h1.later hb, h2⟩
theorem LogSt.below (h : LogSt w lb d B sh recs W) : Below w.heap.size w W := by
  obtain ⟨M, Λ, h1, h2⟩ := h
  exact h1.2
theorem LogSt.base_ (h : LogSt w lb d B sh recs W) : Calls Tryz.prog 23 #[.pointer (some ⟨lb, 0, none⟩)] W fun e w' => e = .returned (.int .i64 B) ∧ W = w' := by
  obtain ⟨M, Λ, h1, h2, rfl, rfl, rfl⟩ := h
  exact h1.base_
theorem LogSt.last_ (h : LogSt w lb d B sh recs W) : Calls Tryz.prog 21 #[.pointer (some ⟨lb, 0, none⟩)] W fun e w' => e = .returned (.int .i64 ((B : Int) + recs.length)) ∧ ∃ q, w' = W.drewN q := by
  obtain ⟨M, Λ, h1, h2, rfl, rfl, rfl⟩ := h
  refine (h1.last_ h2).mono fun e w' h3 => ⟨?_, h3.2⟩
  rw [h3.1]
  unfold LogM.last
  rw [Int.natCast_add]
/-- A record that is there. -/
theorem LogSt.get (h : LogSt w lb d B sh recs W) {j : Nat} {xs : List Int} (hj : recs[j]? = some xs) {k : Int} (hk : k = (B : Int) + j + 1) : Calls Tryz.prog 26 #[.pointer (some ⟨lb, 0, none⟩), .int .i64 k] W fun e w' => ∃ A c, e = .returned (.tuple #[.slice A xs.length c, .bool true]) ∧ Below W.heap.size W w' ∧ Rd w' w'.heap.size .u8 A xs.length c xs := by
  obtain ⟨M, Λ, h1, h2, rfl, rfl, rfl⟩ := h
  have hjl := (List.getElem?_eq_some_iff.1 hj).1
  refine (h1.get h2 k).mono ?_
  rintro e w' ⟨hb, ⟨hn, _⟩ | ⟨i, ys, A, c, e1, e2, rfl, h3⟩⟩
  · refine absurd ?_ hn
    unfold LogM.last
    omega
  · obtain rfl : i = j := by omega
    rw [hj] at e2
    obtain rfl := Option.some.inj e2
    exact ⟨A, c, rfl, hb, h3⟩
/-- One that isn't. -/
theorem LogSt.get_no (h : LogSt w lb d B sh recs W) {k : Int} (hk : k ≤ B ∨ (B : Int) + recs.length < k) : Calls Tryz.prog 26 #[.pointer (some ⟨lb, 0, none⟩), .int .i64 k] W fun e w' => e = .returned (.tuple #[.slice none 0 0, .bool false]) ∧ Below W.heap.size W w' := by
  obtain ⟨M, Λ, h1, h2, rfl, rfl, rfl⟩ := h
  refine (h1.get h2 k).mono ?_
  rintro e w' ⟨hb, ⟨hn, rfl⟩ | ⟨i, ys, A, c, e1, e2, rfl, h3⟩⟩
  · exact ⟨rfl, hb⟩
  · have := (List.getElem?_eq_some_iff.1 e2).1
    omega
theorem LogSt.shot_ (h : LogSt w lb d B sh recs W) : Calls Tryz.prog 39 #[.pointer (some ⟨lb, 0, none⟩)] W fun e w' => ∃ A c, e = .returned (.slice A sh.length c) ∧ Below W.heap.size W w' ∧ Hid (Rd w' w'.heap.size .u8 A sh.length c sh) := by
  obtain ⟨M, Λ, h1, h2, rfl, rfl, rfl⟩ := h
  exact h1.shot
end
/-- A new disk that has room, and a log on it. -/
theorem open_st (w : World) (n : Nat) (h1 : 16 ≤ n) (h2 : n ≤ 65536) : Calls Tryz.prog 14 #[.int .i64 1048576] w fun e w1 => e = .returned (.pointer (some ⟨w.heap.size + 1, 0, none⟩)) ∧
    Hid (Calls Tryz.prog 15 #[.pointer (some ⟨w.heap.size + 1, 0, none⟩), .int .i64 n] w1 fun e w2 => ∃ lb, e = .returned (.tuple #[.pointer (some ⟨lb, 0, none⟩), .nilIface]) ∧ LSt w (fun k => k < w.heap.size) lb (w.heap.size + 1) n 0 [] [] 0 0 w2) := by
  refine (open_lw w 1048576 n h1 h2).mono ?_
  rintro e w1 ⟨rfl, h3⟩
  refine ⟨rfl, Lib.hid (h3.out.mono ?_)⟩
  rintro e w2 ⟨lb, rfl, h4⟩
  exact ⟨lb, rfl, [], newM n, [], 1, h4.lk, LI.new h1 h2, rfl, rfl, rfl, rfl, Nat.le_refl _, rfl⟩
theorem LSt.rebase {w W : World} {lb d N B s U q : Nat} {sh : List Int} {recs : List (List Int)} {Kp : Nat → Prop} (h : LSt (w.drewN q) Kp lb d N B sh recs s U W) : LSt w Kp lb d N B sh recs s U W := by
  obtain ⟨S, M, G, st, ⟨⟨V, h1⟩, h3, h4⟩, h2⟩ := h
  exact ⟨S, M, G, st, ⟨⟨V, (bdrewN (Below.refl _ _) q).trans h1.below, h1.ex⟩, h3, h4⟩, h2⟩
end Go.Proofs.YtnomicnmpllajaaGreatDoor
end

section
namespace Go.Proofs.YtnomicnmpllajaaGreatDoor
open Go Go.RowKit

/-- A slice value that reads as a list of slices of bytes. -/
structure RdS (w : World) (B : Nat) (A : Option Addr) (n c : Nat) (l : List Part) : Prop where
  len : l.length = n
  cap : n ≤ c
  max : c ≤ maxLen
  place : ∀ j p, l[j]? = some p → ∃ b o, A = some ⟨b, o, none⟩ ∧ b < B ∧ w.cell? ⟨b, o + j, none⟩ = some p.val
  ok : ∀ p ∈ l, p.ok w B
theorem RdS.below {w w' : World} {B : Nat} {A : Option Addr} {n c : Nat} {l : List Part} (h : RdS w B A n c l) (hb : Below B w w') : RdS w' B A n c l :=
  ⟨h.len, h.cap, h.max, fun j p hp => by
    obtain ⟨b, o, e, hB, hc⟩ := h.place j p hp
    exact ⟨b, o, e, hB, (hb.cell (p := ⟨b, o + j, none⟩) hB).trans hc⟩, fun p hp => ⟨(h.ok p hp).1.below hb, (h.ok p hp).2⟩⟩
theorem RdS.at {w : World} {B : Nat} {A : Option Addr} {n c : Nat} {l : List Part} (h : RdS w B A n c l) {j : Nat} (hj : j < n) : ∃ p b o, l[j]? = some p ∧ p ∈ l ∧ A = some ⟨b, o, none⟩ ∧ b < B ∧ w.cell? ⟨b, o + j, none⟩ = some p.val := by
  have hl : j < l.length := by rw [h.len]; exact hj
  obtain ⟨b, o, e, hB, hc⟩ := h.place j l[j] (List.getElem?_eq_getElem hl)
  exact ⟨l[j], b, o, List.getElem?_eq_getElem hl, List.getElem_mem hl, e, hB, hc⟩

/-- What came in as a slice of slices reads as a list of parts. -/
theorem RdS.of_rows {w : World} {a : Option Addr} {len cap : Nat}
    (h : (a = none ∧ len = 0 ∧ cap = 0) ∨ ∃ x, ∃ (A : Nat → Option Addr) (L C : Nat → Nat) (Z : Nat → List Int), a = some x ∧ len ≤ cap ∧ cap ≤ maxLen ∧ ∀ r, r < cap → w.cell? (x.add r) = some (.slice (A r) (L r) (C r)) ∧ L r ≤ C r ∧ C r ≤ maxLen ∧ (Z r).length = C r ∧
      (∀ n ∈ Z r, (Lit.int .u8 n).wf = true) ∧ (A r = none → C r = 0) ∧ ∀ a', A r = some a' → ∀ c, c < C r → w.cell? (a'.add c) = some (.int .u8 ((Z r).getD c 0))) : ∃ l, RdS w w.heap.size a len cap l := by
  rcases h with ⟨rfl, rfl, rfl⟩ | ⟨x, A, L, C, Z, rfl, hl, hm, hall⟩
  · exact ⟨[], rfl, Nat.le_refl _, Nat.zero_le _, fun j p hp => by simp at hp, fun p hp => by cases hp⟩
  · refine ⟨(List.range len).map fun r => ⟨A r, L r, C r, (Z r).take (L r)⟩, by simp, hl, hm, fun j p hp => ?_, fun p hp => ?_⟩
    · rw [List.getElem?_map] at hp
      obtain ⟨r, hr, rfl⟩ := Option.map_eq_some_iff.1 hp
      have hj : j < len := by
        have := (List.getElem?_eq_some_iff.1 hr).1
        simpa using this
      obtain rfl : j = r := by
        rw [List.getElem?_range hj] at hr
        exact Option.some.inj hr
      have h1 := (hall j (by omega)).1
      obtain ⟨b, o, spot⟩ := x
      have hspot : spot = none := by simpa [Addr.add] using World.cell?_spot (hall 0 (by omega)).1
      subst hspot
      rw [Addr.add_lit] at h1
      exact ⟨b, o, rfl, World.block_lt_of_cell? w _ h1, h1⟩
    · obtain ⟨r, hr, rfl⟩ := List.mem_map.1 hp
      have hr' : r < len := by simpa using hr
      obtain ⟨_, q2, q3, q4, q5, q6, q7⟩ := hall r (by omega)
      have hrow := Rd.of_row (w := w) (k := .u8) (a := A r) (len := L r) (cap := C r) (zs := Z r) (by
        rcases hA : A r with _ | a'
        · have := q6 hA
          exact .inl ⟨rfl, by omega, this, List.eq_nil_of_length_eq_zero (by omega)⟩
        · exact .inr ⟨a', rfl, q2, q3, q4, fun i hi => q7 a' hA i (by omega), q5⟩)
      exact ⟨hrow.1, wf_bytes hrow.2⟩

end Go.Proofs.YtnomicnmpllajaaGreatDoor
end

section
namespace Go.Proofs.YtnomicnmpllajaaGreatDoor
open Go Go.RowKit

/-- What the law's loop leaves: the first k rows are records. -/
def CutsSt (w : World) (lb N : Nat) (l : List Part) (k : Nat) (W : World) : Prop := ∃ U, U ≤ 106 * k ∧ LSt w (fun k => k < w.heap.size) lb (w.heap.size + 1) N 0 [] ((l.take k).map Part.all) 0 U W
section
variable {w W : World} {lb N k n : Nat} {l : List Part} {A : Option Addr} {c : Nat}
theorem CutsSt.append (h : CutsSt w lb N l k W) (ht : Tab w) (hl : RdS w w.heap.size A n c l) {p : Part} (hp : l[k]? = some p) (hn : p.len ≤ 100) (hk : n ≤ 20) :
    Calls Tryz.prog 24 #[.pointer (some ⟨lb, 0, none⟩), .slice p.adr p.len p.cap] W fun e w' => e = .returned (.int .i64 0) ∧ CutsSt w lb N l (k + 1) w' := by
  have hkl := (List.getElem?_eq_some_iff.1 hp).1
  have hll := hl.len
  obtain ⟨h1, h2⟩ := hl.ok p (List.mem_of_getElem? hp)
  have h3 := h1.len
  obtain ⟨U, hU, h⟩ := h
  refine (LSt.append h ht (row_in h h1) h2 (by omega) (by rw [List.length_map, List.length_take]; omega) (by omega)).mono ?_
  rintro e w' ⟨rfl, h4, _⟩
  refine ⟨rfl, U + (p.all.length + 6), by omega, ?_⟩
  rw [List.take_add_one, hp, List.map_append]
  exact h4
theorem CutsSt.all (h : CutsSt w lb N l n W) (hl : RdS w w.heap.size A n c l) : ∃ U, U ≤ 106 * n ∧ LSt w (fun k => k < w.heap.size) lb (w.heap.size + 1) N 0 [] (l.map Part.all) 0 U W := by
  have := hl.len
  unfold CutsSt at h
  rw [List.take_of_length_le (by omega)] at h
  exact h
theorem CutsSt.below (h : CutsSt w lb N l k W) : Below w.heap.size w W := by
  obtain ⟨U, _, h⟩ := h
  exact h.below
theorem CutsSt.no (h : CutsSt w lb N l n W) (hl : RdS w w.heap.size A n c l) {last : Int} (hk : last < 0 ∨ (n : Int) < last) :
    Calls Tryz.prog 30 #[.pointer (some ⟨lb, 0, none⟩), .int .i64 last] W fun e w1 => e = .returned (.int .i64 1) ∧
      Hid (Calls Tryz.prog 21 #[.pointer (some ⟨lb, 0, none⟩)] w1 fun e w2 => e = .returned (.int .i64 n) ∧ Below w.heap.size w w2) := by
  obtain ⟨U, hU, h0⟩ := h.all hl
  have hll := hl.len
  refine (h0.cut_no last (by rw [List.length_map]; omega)).mono ?_
  rintro e w1 ⟨rfl, h1, _⟩
  refine ⟨rfl, Lib.hid (h1.log.last_.mono ?_)⟩
  rintro e w2 ⟨rfl, q, rfl⟩
  refine ⟨?_, bdrewN h1.below q⟩
  rw [List.length_map, hll]
  congr 2
  omega
/-- What stands behind the crash. -/
def CutsEnd (w : World) (lb : Nat) (l : List Part) (last : Nat) (more : List Int) (W : World) : Prop := LogSt w lb (w.heap.size + 1) 0 [] ((l.map Part.all).take last ++ [more]) W
/-- All calls from Cut on. -/
theorem CutsSt.turn (h : CutsSt w lb N l n W) (ht : Tab w) (hl : RdS w w.heap.size A n c l) (hn : n ≤ 20) {last : Nat} (hk : last ≤ n) {mA : Option Addr} {mn mc : Nat} {ms : List Int} (hm : Rd w w.heap.size .u8 mA mn mc ms) (hx : ∀ x ∈ ms, 0 ≤ x ∧ x < 256) (hmn : mn ≤ 100) :
    Calls Tryz.prog 30 #[.pointer (some ⟨lb, 0, none⟩), .int .i64 last] W fun e w1 => e = .returned (.int .i64 0) ∧
      Hid (Calls Tryz.prog 21 #[.pointer (some ⟨lb, 0, none⟩)] w1 fun e w2 => e = .returned (.int .i64 last) ∧
      Hid (Calls Tryz.prog 24 #[.pointer (some ⟨lb, 0, none⟩), .slice mA mn mc] w2 fun e w3 => e = .returned (.int .i64 0) ∧
      Hid (Calls Tryz.prog 25 #[.pointer (some ⟨lb, 0, none⟩)] w3 fun e w4 => e = .returned (.int .i64 0) ∧
      Hid (Calls Tryz.prog 20 #[.pointer (some ⟨w.heap.size + 1, 0, none⟩), .slice none 0 0] w4 fun e w5 => e = .returned (.tuple #[]) ∧
      Hid (Calls Tryz.prog 15 #[.pointer (some ⟨w.heap.size + 1, 0, none⟩), .int .i64 N] w5 fun e w6 => ∃ lb2, e = .returned (.tuple #[.pointer (some ⟨lb2, 0, none⟩), .nilIface]) ∧ Hid (CutsEnd w lb2 l last ms w6) ∧
      Hid (Calls Tryz.prog 21 #[.pointer (some ⟨lb2, 0, none⟩)] w6 fun e w7 => e = .returned (.int .i64 ((last : Int) + 1)) ∧ Hid (CutsEnd w lb2 l last ms w7))))))) := by
  have hll := hl.len
  have hml := hm.len
  obtain ⟨U, hU, h0⟩ := h.all hl
  refine (h0.cut ht (k := last) (Nat.zero_le _) (by rw [List.length_map]; omega)).mono ?_
  rintro e w1 ⟨rfl, h1, _⟩
  obtain ⟨U1, hU1, h1⟩ := h1.out
  refine ⟨rfl, Lib.hid ?_⟩
  refine (h1.log.last_).mono ?_
  rintro e w2 ⟨rfl, q, rfl⟩
  refine ⟨?_, Lib.hid ?_⟩
  · rw [List.length_take, List.length_map]
    congr 2
    omega
  have h2 := h1.later (bdrewN (Below.refl _ _) q)
  refine (h2.append ht (row_in h2 hm) hx (by omega) (by rw [List.length_take, List.length_map]; omega) (by omega)).mono ?_
  rintro e w3 ⟨rfl, h3, _⟩
  refine ⟨rfl, Lib.hid ?_⟩
  refine (h3.sync ht).mono ?_
  rintro e w4 ⟨rfl, h4, _⟩
  refine ⟨rfl, Lib.hid ?_⟩
  refine (h4.crash ht (Rd.none_ _ _ _) (fun a e => by cases e) (fun z hz => by cases hz)).mono ?_
  rintro e w5 ⟨rfl, _, _, h5⟩
  refine ⟨rfl, Lib.hid ?_⟩
  obtain ⟨t, t1, t2, h6⟩ := h5.out
  refine h6.mono ?_
  rintro e w6 ⟨lb2, rfl, h7, _⟩
  obtain ⟨U2, hU2, h7⟩ := h7.out
  have et : t = ((l.map Part.all).take (last - 0) ++ [ms]).length := by omega
  rw [et, List.take_length, Nat.sub_zero] at h7
  refine ⟨lb2, rfl, Lib.hid h7.log, Lib.hid ?_⟩
  refine (h7.log.last_).mono ?_
  rintro e w7 ⟨rfl, q, rfl⟩
  refine ⟨?_, Lib.hid (h7.log.later (bdrewN (Below.refl _ _) q))⟩
  rw [List.length_append, List.length_take, List.length_map]
  congr 2
  simp
  omega
/-- A record, and that it is the row. -/
theorem CutsEnd.get {ms : List Int} (h : CutsEnd w lb l n ms W) {p : List Int} (hp : ((l.map Part.all).take n ++ [ms])[k]? = some p) {kk : Int} (hk : kk = (k : Int) + 1) {pA : Option Addr} {pn pc : Nat} (hr : Rd w w.heap.size .u8 pA pn pc p) (hx : ∀ x ∈ p, 0 ≤ x ∧ x < 256) :
    Calls Tryz.prog 26 #[.pointer (some ⟨lb, 0, none⟩), .int .i64 kk] W fun e w1 => ∃ A' c', e = .returned (.tuple #[.slice A' pn c', .bool true]) ∧ Below W.heap.size W w1 ∧ Hid (CutsEnd w lb l n ms w1) ∧
      Hid (Calls Tryz.prog 27 #[.slice A' pn c', .slice pA pn pc] w1 fun e w2 => e = .returned (.bool true) ∧ w1 = w2) := by
  have hlen := hr.len
  subst hlen
  refine (LogSt.get h hp (by omega)).mono ?_
  rintro e w1 ⟨A', c', rfl, hb, h1⟩
  refine ⟨A', c', rfl, hb, Lib.hid (LogSt.later h hb), Lib.hid ?_⟩
  have hb2 := (LogSt.below h).trans (hb.mono (LogSt.below h).size)
  refine (Equal_any A' pA _ c' _ pc _ _ p p w1 h1 (hr.below hb2) hx hx).mono ?_
  rintro e w3 ⟨rfl, rfl⟩
  exact ⟨by rw [decide_eq_true rfl], rfl⟩
end
end Go.Proofs.YtnomicnmpllajaaGreatDoor
end

section
namespace Go.Proofs.YtnomicnmpllajaaGreatDoor
open Go Go.RowKit

theorem enc_one {k : Nat} (h : k < 128) : (enc k).length = 1 := by
  rw [enc_small h]
  rfl
/-- Behind Sync: all is synced, and the disk has u bytes. -/
def SnapsSt (w : World) (lb N : Nat) (l : List Part) (n u : Nat) (W : World) : Prop := LSt w (fun k => k < w.heap.size) lb (w.heap.size + 1) N 0 [] (l.map Part.all) n u W
/-- Behind Open: both logs. -/
def SnapsEnd (w : World) (lb lb2 : Nat) (l : List Part) (at_ : Nat) (ms : List Int) (W : World) : Prop := LogSt w lb (w.heap.size + 1) at_ ms ((l.map Part.all).drop at_) W ∧ LogSt w lb2 (w.heap.size + 1) at_ ms ((l.map Part.all).drop at_) W
section
variable {w W : World} {lb lb2 N k n u : Nat} {l : List Part} {A : Option Addr} {c : Nat} {ms : List Int}
theorem CutsSt.synced (h : CutsSt w lb N l n W) (ht : Tab w) (hl : RdS w w.heap.size A n c l) (hn : n ≤ 20) :
    Calls Tryz.prog 25 #[.pointer (some ⟨lb, 0, none⟩)] W fun e w1 => e = .returned (.int .i64 0) ∧ ∃ u : Nat, u ≤ 2120 ∧ Hid (Calls Tryz.prog 28 #[.pointer (some ⟨w.heap.size + 1, 0, none⟩)] w1 fun e w2 => e = .returned (.int .i64 u) ∧ w1 = w2) ∧ Hid (SnapsSt w lb N l n u w1) := by
  have hll := hl.len
  obtain ⟨U, hU, h0⟩ := h.all hl
  refine (h0.sync ht).mono ?_
  rintro e w1 ⟨rfl, h1, _⟩
  rw [List.length_map, hll, Nat.zero_add] at h1
  exact ⟨rfl, U, by omega, Lib.hid h1.used_, Lib.hid h1⟩
theorem SnapsSt.below (h : SnapsSt w lb N l n u W) : Below w.heap.size w W := LSt.below h
theorem SnapsSt.no (h : SnapsSt w lb N l n u W) (hl : RdS w w.heap.size A n c l) {at_ : Int} (hk : at_ < 0 ∨ (n : Int) < at_) (mA : Option Addr) (mn mc : Nat) :
    Calls Tryz.prog 29 #[.pointer (some ⟨lb, 0, none⟩), .int .i64 at_, .slice mA mn mc] W fun e w1 => e = .returned (.int .i64 1) ∧ Hid (Calls Tryz.prog 28 #[.pointer (some ⟨w.heap.size + 1, 0, none⟩)] w1 fun e w2 => e = .returned (.int .i64 u) ∧ w1 = w2) ∧ Hid (Below w.heap.size w w1) := by
  have hll := hl.len
  refine (LSt.snap_no h at_ mA mn mc (by rw [List.length_map]; omega)).mono ?_
  rintro e w1 ⟨rfl, h1, _⟩
  exact ⟨rfl, Lib.hid h1.used_, Lib.hid h1.below⟩
theorem SnapsSt.snap (h : SnapsSt w lb N l n u W) (ht : Tab w) (hl : RdS w w.heap.size A n c l) (hn : n ≤ 20) (hu : u ≤ 2120) {at_ : Nat} (hk : at_ ≤ n) {mA : Option Addr} {mn mc : Nat} (hm : Rd w w.heap.size .u8 mA mn mc ms) (hx : ∀ x ∈ ms, 0 ≤ x ∧ x < 256) (hmn : mn ≤ 1000) :
    Calls Tryz.prog 29 #[.pointer (some ⟨lb, 0, none⟩), .int .i64 at_, .slice mA mn mc] W fun e w1 => e = .returned (.int .i64 0) ∧ ∃ u' : Nat, u' ≤ u + mn + 7 ∧ Hid (Calls Tryz.prog 28 #[.pointer (some ⟨w.heap.size + 1, 0, none⟩)] w1 fun e w2 => e = .returned (.int .i64 u') ∧ w1 = w2) ∧
      Hid (Calls Tryz.prog 15 #[.pointer (some ⟨w.heap.size + 1, 0, none⟩), .int .i64 N] w1 fun e w2 => ∃ lb2, e = .returned (.tuple #[.pointer (some ⟨lb2, 0, none⟩), .nilIface]) ∧ SnapsEnd w lb lb2 l at_ ms w2) := by
  have hll := hl.len
  have hml := hm.len
  have hen := enc_one (k := at_) (by omega)
  have hsl : (sealF (enc at_ ++ ms)).length = mn + 7 := by rw [sealF_length, List.length_append, hen]; omega
  refine (LSt.snap h ht (row_in h hm) hx (by omega) (Nat.zero_le _) hk (by omega)).mono ?_
  rintro e w1 ⟨rfl, h1, _⟩
  obtain ⟨u', hu', h1⟩ := h1.out
  refine ⟨rfl, u', by omega, Lib.hid h1.used_, Lib.hid ?_⟩
  rw [Nat.sub_zero] at h1
  refine (h1.reopen (by rw [List.length_drop, List.length_map]; omega) ht).mono ?_
  rintro e w2 ⟨lb2, rfl, h2, h3, _⟩
  exact ⟨lb2, rfl, h3, h2⟩
theorem SnapsEnd.below {at_ : Nat} (h : SnapsEnd w lb lb2 l at_ ms W) : Below w.heap.size w W := LogSt.below h.1
theorem SnapsEnd.later {at_ : Nat} {W' : World} (h : SnapsEnd w lb lb2 l at_ ms W) (hb : Below W.heap.size W W') : SnapsEnd w lb lb2 l at_ ms W' := ⟨LogSt.later h.1 hb, LogSt.later h.2 hb⟩
/-- Both tell a record that is behind the snapshot. -/
theorem SnapsEnd.get {at_ : Nat} (h : SnapsEnd w lb lb2 l at_ ms W) {j : Nat} {p : Part} (hp : l[j]? = some p) (hj : at_ ≤ j) (hr : p.ok w w.heap.size) {kk : Int} (hkk : kk = (j : Int) + 1) :
    Calls Tryz.prog 26 #[.pointer (some ⟨lb, 0, none⟩), .int .i64 kk] W fun e w1 => ∃ A1 c1, e = .returned (.tuple #[.slice A1 p.len c1, .bool true]) ∧ Below W.heap.size W w1 ∧
      Hid (Calls Tryz.prog 26 #[.pointer (some ⟨lb2, 0, none⟩), .int .i64 kk] w1 fun e w2 => ∃ A2 c2, e = .returned (.tuple #[.slice A2 p.len c2, .bool true]) ∧ Below W.heap.size W w2 ∧ Hid (SnapsEnd w lb lb2 l at_ ms w2) ∧
        Hid (Calls Tryz.prog 27 #[.slice A1 p.len c1, .slice p.adr p.len p.cap] w2 fun e w3 => e = .returned (.bool true) ∧ w2 = w3) ∧
        Hid (Calls Tryz.prog 27 #[.slice A2 p.len c2, .slice A1 p.len c1] w2 fun e w3 => e = .returned (.bool true) ∧ w2 = w3)) := by
  obtain ⟨h1, h2⟩ := h
  obtain ⟨hr, hx⟩ := hr
  obtain ⟨pA, pn, pc, pall⟩ := p
  have hlen : pall.length = pn := hr.len
  subst hlen
  have hr : Rd w w.heap.size .u8 pA pall.length pc pall := hr
  have hx : ∀ x ∈ pall, 0 ≤ x ∧ x < 256 := hx
  have hq : ((l.map Part.all).drop at_)[j - at_]? = some pall := by
    rw [List.getElem?_drop, Nat.add_sub_of_le hj, List.getElem?_map, hp]
    rfl
  refine (h1.get hq (k := kk) (by omega)).mono ?_
  rintro e w1 ⟨A1, c1, rfl, hb, h3⟩
  refine ⟨A1, c1, rfl, hb, Lib.hid ?_⟩
  have h2' := h2.later hb
  refine (h2'.get hq (k := kk) (by omega)).mono ?_
  rintro e w2 ⟨A2, c2, rfl, hb2, h4⟩
  have hbb := hb.trans (hb2.mono hb.size)
  have hb0 := (LogSt.below h1).trans (hbb.mono (LogSt.below h1).size)
  have h3' := (h3.below hb2).more hb2.size
  refine ⟨A2, c2, rfl, hbb, Lib.hid ⟨h1.later hbb, h2.later hbb⟩, Lib.hid ?_, Lib.hid ?_⟩
  · refine (Equal_any A1 pA _ c1 _ pc _ _ pall pall w2 h3' (hr.below hb0) hx hx).mono ?_
    rintro e w3 ⟨rfl, rfl⟩
    exact ⟨by rw [decide_eq_true rfl], rfl⟩
  · refine (Equal_any A2 A1 _ c2 _ c1 _ _ pall pall w2 h4 h3' hx hx).mono ?_
    rintro e w3 ⟨rfl, rfl⟩
    exact ⟨by rw [decide_eq_true rfl], rfl⟩
theorem SnapsEnd.get_no {at_ : Nat} (h : SnapsEnd w lb lb2 l at_ ms W) (hl : l.length = n) (hat : at_ ≤ n) {k : Int} (hk : k ≤ at_ ∨ (n : Int) < k) :
    Calls Tryz.prog 26 #[.pointer (some ⟨lb, 0, none⟩), .int .i64 k] W fun e w1 => e = .returned (.tuple #[.slice none 0 0, .bool false]) ∧
      Hid (Calls Tryz.prog 26 #[.pointer (some ⟨lb2, 0, none⟩), .int .i64 k] w1 fun e w2 => e = .returned (.tuple #[.slice none 0 0, .bool false]) ∧ Hid (SnapsEnd w lb lb2 l at_ ms w2)) := by
  obtain ⟨h1, h2⟩ := h
  have hlen : ((l.map Part.all).drop at_).length = n - at_ := by rw [List.length_drop, List.length_map, hl]
  refine (h1.get_no (k := k) (by omega)).mono ?_
  rintro e w1 ⟨rfl, hb⟩
  refine ⟨rfl, Lib.hid ?_⟩
  refine ((h2.later hb).get_no (k := k) (by omega)).mono ?_
  rintro e w2 ⟨rfl, hb2⟩
  exact ⟨rfl, Lib.hid ⟨(h1.later hb).later hb2, (h2.later hb).later hb2⟩⟩
/-- The snapshot of the second one. -/
theorem SnapsEnd.shot {at_ : Nat} (h : SnapsEnd w lb lb2 l at_ ms W) {mA : Option Addr} {mn mc : Nat} (hm : Rd w w.heap.size .u8 mA mn mc ms) (hx : ∀ x ∈ ms, 0 ≤ x ∧ x < 256) :
    Calls Tryz.prog 39 #[.pointer (some ⟨lb2, 0, none⟩)] W fun e w1 => ∃ A1 c1, e = .returned (.slice A1 mn c1) ∧ Hid (Below w.heap.size w w1) ∧ Hid (Calls Tryz.prog 27 #[.slice A1 mn c1, .slice mA mn mc] w1 fun e w3 => e = .returned (.bool true) ∧ w1 = w3) := by
  have hlen := hm.len
  subst hlen
  refine (LogSt.shot_ h.2).mono ?_
  rintro e w1 ⟨A1, c1, rfl, hb, h3⟩
  have hb0 := (SnapsEnd.below h).trans (hb.mono (SnapsEnd.below h).size)
  refine ⟨A1, c1, rfl, Lib.hid hb0, Lib.hid ?_⟩
  refine (Equal_any A1 mA _ c1 _ mc _ _ ms ms w1 h3.out (hm.below hb0) hx hx).mono ?_
  rintro e w3 ⟨rfl, rfl⟩
  exact ⟨by rw [decide_eq_true rfl], rfl⟩
end
end Go.Proofs.YtnomicnmpllajaaGreatDoor
end

section
namespace Go.Proofs.YtnomicnmpllajaaGreatDoor
open Go Go.RowKit

set_option maxHeartbeats 3200000 in
set_option maxRecDepth 100000 in
theorem snaps_any (size at_ : Int) {A : Option Addr} {n c : Nat} {l : List Part} {mA : Option Addr} {mn mc : Nat} {ms : List Int} (w : World) (hl : RdS w w.heap.size A n c l) (hm : Rd w w.heap.size .u8 mA mn mc ms) (hx : ∀ x ∈ ms, 0 ≤ x ∧ x < 256) (ht : Tab w) :
    Calls Tryz.prog 9 #[.int .i64 size, .slice A n c, .int .i64 at_, .slice mA mn mc] w fun e w' => e = .returned (.bool true) ∧ Below w.heap.size w w' := by
  have hm1 := hl.max
  have hm2 := hl.cap
  have hm3 := hm.max
  have hm4 := hm.cap
  unfold maxLen at hm1 hm3
  have HAW := Lib.hid fun (W : World) (hW : Below w.heap.size w W) => awake_any W (ht.below hW)
  by_cases hn : n ≤ 20
  case neg =>
    have hn' : (20 : Int) < n := by omega
    clear hl ht hm hx hn
    go_enter Tryz.func9, Tryz.ntmps9
    go_wp2_with (go_at_call 13; refine (HAW.out _ (Below.refl _ _)).mono ?_; rintro e w1 ⟨rfl, hb⟩)
    go_ret
    exact ⟨rfl, hb⟩
  have hn' : ¬ (20 : Int) < n := by omega
  by_cases hmn : mn ≤ 1000
  case neg =>
    have hmn' : (1000 : Int) < mn := by omega
    clear hl ht hm hx hmn
    go_enter Tryz.func9, Tryz.ntmps9
    go_wp2_with (go_at_call 13; refine (HAW.out _ (Below.refl _ _)).mono ?_; rintro e w1 ⟨rfl, hb⟩)
    go_ret
    exact ⟨rfl, hb⟩
  have hmn' : ¬ (1000 : Int) < mn := by omega
  by_cases hs : 16 ≤ size ∧ size ≤ 65536
  case neg =>
    have HSM := Lib.hid fun W => small_any size W
    rw [decide_eq_false hs] at HSM
    clear hl ht hm hx hs
    go_enter Tryz.func9, Tryz.ntmps9
    go_wp2_with (first
      | (go_at_call 12; refine (HSM.out _).mono ?_; rintro e w2 ⟨rfl, hw2⟩; obtain rfl := hw2.symm)
      | (go_at_call 13; refine (HAW.out _ (Below.refl _ _)).mono ?_; rintro e w1 ⟨rfl, hb⟩))
    go_ret
    exact ⟨rfl, hb⟩
  obtain ⟨N, rfl⟩ : ∃ N : Nat, size = N := ⟨size.toNat, by omega⟩
  have HSM := Lib.hid fun W => small_any N W
  rw [decide_eq_true hs] at HSM
  have HOP := Lib.hid fun W => open_st W N (by omega) (by omega)
  have HL := Lib.hid hl
  have HT := Lib.hid ht
  have HM := Lib.hid hm
  have HX := Lib.hid hx
  have HLEN := Lib.hid hl.len
  clear hl ht hm hx hs
  go_enter Tryz.func9, Tryz.ntmps9
  go_wp2_with (first
    | (go_at_call 12; refine (HSM.out _).mono ?_; rintro e w2 ⟨rfl, hw2⟩; obtain rfl := hw2.symm)
    | (go_at_call 14; refine (HOP.out _).mono ?_; rintro e w1 ⟨rfl, HO⟩)
    | (go_at_call 15; refine HO.out.mono ?_; rintro e w2 ⟨lb, rfl, h2⟩))
  have HS : Hid (CutsSt w lb N l 0 w2) := Lib.hid ⟨0, Nat.zero_le _, h2⟩
  clear h2 HO HOP HSM
  go_loopw [13, 55] (fun _ t wr => ∃ k : Nat, t = .int .i64 k ∧ k ≤ n ∧ Hid (CutsSt w lb N l k wr)) (fun _ t _ => n - (intOf t).toNat)
  case atStart => exact ⟨0, rfl, Nat.zero_le _, HS⟩
  case round =>
    obtain ⟨k, rfl, hk, HS⟩ := hrel
    by_cases hkn : k < n
    · obtain ⟨p, b, o, hp, hpm, rfl, hbB, hcell⟩ := HL.out.at hkn
      have hb := CutsSt.below HS.out
      have e0 : wr.cell? ⟨b, o + k, none⟩ = some (.slice p.adr p.len p.cap) := (hb.cell (p := ⟨b, o + k, none⟩) hbB).trans hcell
      have hkn' : (k : Int) < n := by omega
      have w1 : IntKind.i64.wrap ((k : Int) + 1) = (k : Int) + 1 := IntWalk.i64_in _ (by omega)
      have hpx := (HL.out.ok p hpm).1.max
      have hpy := (HL.out.ok p hpm).1.cap
      unfold maxLen at hpx
      by_cases hpl : p.len ≤ 100
      · have HAP := Lib.hid (CutsSt.append HS.out HT.out HL.out hp hpl hn)
        have hpl' : ¬ (100 : Int) < p.len := by omega
        obtain ⟨pA, pn, pc, pall⟩ := p
        simp only at e0 HAP hpl' hpx hpy
        clear hb hcell hp hpm HS hpl HAW
        go_wp2_with (go_at_call 24; refine HAP.out.mono ?_; rintro e w3 ⟨rfl, h3⟩; have HS3 := Lib.hid h3; clear h3)
        go_roundw
        case rel => exact ⟨k + 1, by go_num, by omega, HS3⟩
        case measure => simp [intOf]; omega
      · have hpl' : (100 : Int) < p.len := by omega
        have HB := Lib.hid hb
        obtain ⟨pA, pn, pc, pall⟩ := p
        simp only at e0 hpl' hpx hpy
        clear hb hcell hp hpm HS hpl
        go_wp2_with (go_at_call 13; refine (HAW.out _ HB.out).mono ?_; rintro e w1 ⟨rfl, hb⟩)
        go_ret
        exact ⟨rfl, HB.out.trans (hb.mono HB.out.size)⟩
    · obtain rfl : k = n := by omega
      have HSY := Lib.hid (CutsSt.synced HS.out HT.out HL.out hn)
      clear HS
      by_cases hr : 0 ≤ at_ ∧ at_ ≤ k
      · obtain ⟨la, rfl⟩ : ∃ la : Nat, at_ = la := ⟨at_.toNat, by omega⟩
        have hlk : la ≤ k := by omega
        have hla : ¬ ((la : Int) < 0 ) := by omega
        have hlb : ¬ ((k : Int) < la) := by omega
        go_wp2_with (first
          | (go_at_call 25; refine HSY.out.mono ?_; rintro e w3 ⟨rfl, u, hu, HU, HS⟩; have HSN := Lib.hid (SnapsSt.snap HS.out HT.out HL.out hn hu hlk HM.out HX.out hmn); clear HSY HS)
          | (go_at_call 28; refine HU.out.mono ?_; rintro e w4 ⟨rfl, rfl⟩; clear HU)
          | (go_at_call 29; refine HSN.out.mono ?_; rintro e w5 ⟨rfl, u2, hu2, HU, HOP⟩; clear HSN; have w1 : IntKind.i64.wrap ((u : Int) + mn) = (u : Int) + mn := IntWalk.i64_in _ (by omega); have w2 : IntKind.i64.wrap ((u : Int) + mn + 10) = (u : Int) + mn + 10 := IntWalk.i64_in _ (by omega); have n3 : ¬ (u : Int) + mn + 10 < u2 := by omega)
          | (go_at_call 15; refine HOP.out.mono ?_; rintro e w8 ⟨lb2, rfl, hz⟩; have HZ := Lib.hid hz; clear HOP hz))
        go_loopw [17] (fun t wr => ∃ j : Nat, t = .int .i64 j ∧ j ≤ k + 2 ∧ Hid (SnapsEnd w lb lb2 l la ms wr)) (fun t _ => k + 2 - (intOf t).toNat)
        case atStart => exact ⟨0, rfl, Nat.zero_le _, HZ⟩
        case round =>
          obtain ⟨j, rfl, hj, HZ⟩ := hrel
          have wk : IntKind.i64.wrap ((k : Int) + 1) = (k : Int) + 1 := IntWalk.i64_in _ (by omega)
          have wj : IntKind.i64.wrap ((j : Int) + 1) = (j : Int) + 1 := IntWalk.i64_in _ (by omega)
          by_cases hjn : j < k + 2
          · have hj1 : (j : Int) ≤ (k : Int) + 1 := by omega
            by_cases hin : la < j ∧ j ≤ k
            · obtain ⟨i, hi⟩ : ∃ i, j = i + 1 := ⟨j - 1, by omega⟩
              obtain ⟨p, b, o, hp, hpm, rfl, hbB, hcell⟩ := HL.out.at (show i < k by omega)
              have hpo := HL.out.ok p hpm
              have hb0 := SnapsEnd.below HZ.out
              have e0 : wr.cell? ⟨b, o + i, none⟩ = some (.slice p.adr p.len p.cap) := (hb0.cell (p := ⟨b, o + i, none⟩) hbB).trans hcell
              have hbw : b < wr.heap.size := Nat.lt_of_lt_of_le hbB hb0.size
              have HGE := Lib.hid (SnapsEnd.get HZ.out hp (by omega) hpo (kk := (j : Int)) (by omega))
              have hpx := hpo.1.max
              have hpy := hpo.1.cap
              unfold maxLen at hpx
              have hia : (la : Int) < j := by omega
              have hib : (j : Int) ≤ k := by omega
              have hik : (i : Int) < k := by omega
              have wi : IntKind.i64.wrap ((j : Int) - 1) = i := by rw [IntWalk.i64_in _ (by omega)]; omega
              obtain ⟨pA, pn, pc, pall⟩ := p
              simp only at e0 HGE hpx hpy
              clear hb0 hcell hp hpm HZ hpo hin hi
              go_wp2_with (first
                | (go_at_call 26; refine HGE.out.mono ?_; rintro e w10 ⟨A1, c1, rfl, hb10, HG2⟩; clear hb10 HGE)
                | (go_at_call 26; refine HG2.out.mono ?_; rintro e w11 ⟨A2, c2, rfl, hb11, HZ2, HE1, HE2⟩; replace e0 := (hb11.cell (p := ⟨b, o + i, none⟩) hbw).trans e0; clear hb11 HG2)
                | (go_at_call 27; refine HE1.out.mono ?_; rintro e w12 ⟨rfl, rfl⟩; clear HE1)
                | (go_at_call 27; refine HE2.out.mono ?_; rintro e w13 ⟨rfl, rfl⟩; clear HE2))
              go_roundw
              case rel => exact ⟨j + 1, by go_num, by omega, HZ2⟩
              case measure => simp [intOf]; omega
            · have HGE := Lib.hid (SnapsEnd.get_no HZ.out HLEN.out hlk (k := (j : Int)) (by omega))
              clear HZ
              by_cases hia : (la : Int) < j
              · have hib : ¬ (j : Int) ≤ k := by omega
                clear hin
                go_wp2_with (first
                  | (go_at_call 26; refine HGE.out.mono ?_; rintro e w10 ⟨rfl, HG2⟩; clear HGE)
                  | (go_at_call 26; refine HG2.out.mono ?_; rintro e w11 ⟨rfl, HZ2⟩; clear HG2))
                go_roundw
                case rel => exact ⟨j + 1, by go_num, by omega, HZ2⟩
                case measure => simp [intOf]; omega
              · clear hin
                go_wp2_with (first
                  | (go_at_call 26; refine HGE.out.mono ?_; rintro e w10 ⟨rfl, HG2⟩; clear HGE)
                  | (go_at_call 26; refine HG2.out.mono ?_; rintro e w11 ⟨rfl, HZ2⟩; clear HG2))
                go_roundw
                case rel => exact ⟨j + 1, by go_num, by omega, HZ2⟩
                case measure => simp [intOf]; omega
          · have hj1 : ¬ (j : Int) ≤ (k : Int) + 1 := by omega
            have HB1 := Lib.hid (LogSt.base_ HZ.out.1)
            have HB2 := Lib.hid (LogSt.base_ HZ.out.2)
            have HSH := Lib.hid (SnapsEnd.shot HZ.out HM.out HX.out)
            clear HZ
            go_wp2_with (first
              | (go_at_call 23; refine HB1.out.mono ?_; rintro e w10 ⟨rfl, rfl⟩; clear HB1)
              | (go_at_call 23; refine HB2.out.mono ?_; rintro e w11 ⟨rfl, rfl⟩; clear HB2)
              | (go_at_call 39; refine HSH.out.mono ?_; rintro e w12 ⟨A1, c1, rfl, HBX, HEQ⟩; clear HSH)
              | (go_at_call 27; refine HEQ.out.mono ?_; rintro e w13 ⟨rfl, rfl⟩; clear HEQ)
              | (go_at_call 13; refine (HAW.out _ HBX.out).mono ?_; rintro e w1 ⟨rfl, hb⟩))
            go_ret
            exact ⟨rfl, HBX.out.trans (hb.mono HBX.out.size)⟩
      · have hor : at_ < 0 ∨ (k : Int) < at_ := by omega
        by_cases hr1 : at_ < 0
        · go_wp2_with (first
            | (go_at_call 25; refine HSY.out.mono ?_; rintro e w3 ⟨rfl, u, hu, HU, HS⟩; have HNO := Lib.hid (SnapsSt.no HS.out HL.out (at_ := at_) hor mA mn mc); clear HSY)
            | (go_at_call 28; refine HU.out.mono ?_; rintro e w4 ⟨rfl, rfl⟩; clear HU)
            | (go_at_call 29; refine HNO.out.mono ?_; rintro e w5 ⟨rfl, HU, HB5⟩; clear HNO)
            | (go_at_call 13; refine (HAW.out _ HB5.out).mono ?_; rintro e w1 ⟨rfl, hb⟩))
          go_ret
          exact ⟨rfl, HB5.out.trans (hb.mono HB5.out.size)⟩
        · have hr2 : (k : Int) < at_ := by omega
          go_wp2_with (first
            | (go_at_call 25; refine HSY.out.mono ?_; rintro e w3 ⟨rfl, u, hu, HU, HS⟩; have HNO := Lib.hid (SnapsSt.no HS.out HL.out (at_ := at_) hor mA mn mc); clear HSY)
            | (go_at_call 28; refine HU.out.mono ?_; rintro e w4 ⟨rfl, rfl⟩; clear HU)
            | (go_at_call 29; refine HNO.out.mono ?_; rintro e w5 ⟨rfl, HU, HB5⟩; clear HNO)
            | (go_at_call 13; refine (HAW.out _ HB5.out).mono ?_; rintro e w1 ⟨rfl, hb⟩))
          go_ret
          exact ⟨rfl, HB5.out.trans (hb.mono HB5.out.size)⟩
end Go.Proofs.YtnomicnmpllajaaGreatDoor
end

section
namespace Go.Proofs.YtnomicnmpllajaaGreatDoor.walSnaps
open Go Go.ChangeShapes Go.WideShapes Go.ChangeAt Go.RowKit
set_option linter.unusedVariables false

set_option maxRecDepth 100000 in
theorem lifted (os : Os) (started : os.Started) (H : Type) (enc : TypeId × Value → H) :
    ReturnsInHanded {} Tryz.checked os 9 .any (fun w args => (Rows.walSnapsSpec.pre enc Tryz.prog Tryz.f9 [] false w args ∧ laidMetH Tryz.prog Rows.walSnapsRow.laid w) ∧ sizedMet enc Tryz.prog Tryz.f9 (OpenSpec.ofChange Rows.walSnapsSpec) false w args)
      (Rows.walSnapsSpec.post enc Tryz.prog Tryz.f9 false true false false) := by
  refine tied.handed (C := Tryz.checked) (X := fun w _ => laidMetH Tryz.prog Rows.walSnapsRow.laid w) (fun _ _ _ hh h => h.of_heap hh) tied.own started (by kernel_rfl) Tryz.func9
    (ChangeSpec.witness_shaped (enc := enc) (C := Tryz.checked) (os := os) (X := fun w _ => laidMetH Tryz.prog Rows.walSnapsRow.laid w) false (World.doorLaid Tryz.prog 400 os) #[.int .i64 0, .slice none 0 0, .int .i64 0, .slice none 0 0] 8 rfl (World.shaped_of_RefB (by kernel_rfl) (by kernel_rfl)) (by kernel_rfl) (by kernel_rfl) (by kernel_rfl) (tied.door_met os _)) ?_
  intro W base args ds gs before hval0 hW _ hsz hL _
  have hval : ∀ (j : Nat) t v, Tryz.f9.params[j]? = some t → args[j]? = some v → Value.okWide Tryz.prog W .any base t v := hval0
  have hW' := hW
  obtain ⟨p, q, hA0, hV, rfl, hfz, hnd⟩ := hW
  have hA : DataW.TrodAll enc Tryz.prog W 0 (fun _ => true) true Tryz.f9.params.toList args.toList ds p := hA0
  rw [Tryz.params9] at hA hval
  obtain ⟨v0, vs0, d0, ds0, p0, q0, hargs, rfl, rfl, h0, r0⟩ := trodAll_cons hA
  obtain ⟨v1, vs1, d1, ds1, p1, q1, rfl, rfl, rfl, h1, r1⟩ := trodAll_cons r0
  obtain ⟨v2, vs2, d2, ds2, p2, q2, rfl, rfl, rfl, h2, r2⟩ := trodAll_cons r1
  obtain ⟨v3, vs3, d3, ds3, p3, q3, rfl, rfl, rfl, h3, r3⟩ := trodAll_cons r2
  obtain ⟨rfl, rfl, rfl⟩ := trodAll_nil r3
  obtain rfl : args = #[v0, v1, v2, v3] := by cases args; simp_all
  obtain ⟨rfl, rfl⟩ := trodVars_none hV
  obtain ⟨a0, rfl, rfl, rfl, w0⟩ := open_int Tryz.underlying3 (hval 0 3 v0 rfl rfl) h0
  have k1 := h1
  have lt1 : ∀ x ∈ p1, x.block < W.heap.size := by obtain ⟨m, hm⟩ := k1; exact DataW.trod_lt m _ _ _ hm
  have s1 : ∀ n ∈ d1.weights Tryz.prog 34, n ≤ reachBytes := fun n hn => by
    have := List.all_eq_true.1 hsz n (DataW.weights_mem_each (j := 1) (t := 34) (d := d1) rfl rfl n hn)
    simpa using this
  obtain ⟨A1, n1, c1, rfl⟩ := okWide_slice Tryz.underlying34 (hval 1 34 v1 rfl rfl)
  obtain ⟨l1, w1⟩ : ∃ l, RdS W W.heap.size A1 n1 c1 l := by
    refine RdS.of_rows ?_
    obtain ⟨fuel, hf⟩ := h1
    rcases Go.Deep.open_int_rows Tryz.underlying34 Tryz.underlying33 Tryz.underlying5 (by kernel_rfl) (by kernel_rfl) hf with ⟨hcs, _⟩ | ⟨x, l, c, A, L, C, Z, hcs, _, hl, hm, _, hall⟩
    · simp [Value.cells] at hcs
      obtain ⟨rfl, rfl, rfl⟩ := hcs
      exact .inl ⟨rfl, rfl, rfl⟩
    · simp [Value.cells] at hcs
      obtain ⟨rfl, rfl, rfl⟩ := hcs
      refine .inr ⟨_, A, L, C, Z, rfl, hl, hm, fun r hr => ?_⟩
      obtain ⟨q1, q2, q3, q4, q5, q6, q7⟩ := hall r hr
      exact ⟨q1, q2, q3, q4, q5, q6, fun a' ha c hc => (q7 a' ha).2 c hc⟩
  obtain ⟨a2, rfl, rfl, rfl, w2⟩ := open_int Tryz.underlying3 (hval 2 3 v2 rfl rfl) h2
  have k3 := h3
  have lt3 : ∀ x ∈ p3, x.block < W.heap.size := by obtain ⟨m, hm⟩ := k3; exact DataW.trod_lt m _ _ _ hm
  have s3 : ∀ n ∈ d3.weights Tryz.prog 33, n ≤ reachBytes := fun n hn => by
    have := List.all_eq_true.1 hsz n (DataW.weights_mem_each (j := 3) (t := 33) (d := d3) rfl rfl n hn)
    simpa using this
  obtain ⟨A3, n3, c3, z3, rfl, w3, b3⟩ : ∃ A n c z, v3 = Value.slice A n c ∧ Rd W W.heap.size .u8 A n c z ∧ ∀ x ∈ z, 0 ≤ x ∧ x < 256 := by
    obtain ⟨bA, bn, bc, e⟩ := okWide_slice Tryz.underlying33 (hval 3 33 v3 rfl rfl)
    subst e
    obtain ⟨fuel, hf⟩ := h3
    obtain ⟨A, n, c, zs, e, h1, h2, _⟩ := ints_in (v := .slice bA bn bc) (bytes := 1) Tryz.underlying33 Tryz.underlying5 (by kernel_rfl) (by kernel_rfl) (by decide) hf s3
    exact ⟨A, n, c, zs, e, h1, wf_bytes h2⟩
  clear hA0 hval0
  refine (snaps_any a0 a2 W w1 w3 b3 (tied.tab_of hL)).mono fun e W' ⟨he, bel⟩ => ?_
  subst he
  exact ⟨_, rfl, _, _, _, [], _, [], hW', trodAll_mk1 (shut_bool Tryz.underlying4 _), (trodAll_cons_mk (shut_int Tryz.underlying3 w0) (trodAll_cons_mk (Below.trod tied.laidOut (by kernel_rfl) (of_decide_eq_true (by kernel_rfl)) k1 bel lt1) (trodAll_cons_mk (shut_int Tryz.underlying3 w2) (trodAll_cons_mk (Below.trod tied.laidOut (by kernel_rfl) (of_decide_eq_true (by kernel_rfl)) k3 bel lt3) trodAll_mk0)))), rfl, bel.frame _, fun h => by cases h⟩

theorem over : Rows.walSnapsRow.holds Tryz.pinned (OpenSpec.ofChange Rows.walSnapsSpec) :=
  OpenClaim.holds_of_wide 9 Tryz.f9 rfl rfl rfl rfl rfl rfl rfl ⟨rfl, rfl, rfl, rfl, rfl⟩ rfl rfl rfl rfl rfl (by kernel_rfl) Tryz.func9 (by kernel_rfl)
    (of_decide_eq_true (by kernel_rfl)) (by unfold Func.isWrapper; first | (rw [if_pos (by decide +kernel)]; kernel_rfl) | (rw [if_neg (by decide +kernel)]; exact ⟨rfl, rfl⟩))
    (fun os started H enc _ => lifted os started H enc)

theorem proved : Rows.WalSnapsCardSaid :=
  Claim7.holds_tied_plain_at .later [] _ _ _ _
    over (fun _ h => by cases h) (by kernel_rfl) (fun _ h => by cases h) walSnaps_row_tie rfl ⟨rfl, rfl⟩ (by kernel_rfl) rfl
    (fun f fn hf hfn => by
      obtain rfl : f = 9 := Option.some.inj ((show Tryz.prog.funcNamed "daisychain/daisychainlaw04.WalSnaps" = some 9 by kernel_rfl).symm.trans hf) |>.symm
      obtain rfl : fn = Tryz.f9 := (Option.some.inj (Tryz.func9.symm.trans hfn)).symm
      exact ⟨by kernel_rfl, fun j t ht => by
        rw [Tryz.params9] at ht
        have h3 : t = 3 ∨ t = 34 ∨ t = 33 := by
          rcases j with _ | _ | _ | _ | j
          · simp at ht; simp [← ht]
          · simp at ht; simp [← ht]
          · simp at ht; simp [← ht]
          · simp at ht; simp [← ht]
          · simp at ht
        rcases h3 with rfl | rfl | rfl
        · exact (show Tryz.prog.wantsStandIn 3 = false by kernel_rfl)
        · exact (show Tryz.prog.wantsStandIn 34 = false by kernel_rfl)
        · exact (show Tryz.prog.wantsStandIn 33 = false by kernel_rfl)⟩)
    (by kernel_rfl)
end Go.Proofs.YtnomicnmpllajaaGreatDoor.walSnaps
end
