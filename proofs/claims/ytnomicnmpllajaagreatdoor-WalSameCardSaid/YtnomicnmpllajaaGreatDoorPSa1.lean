/- What is proved here: plain facts: which frames the first bytes of a segment begin with, wherever they end. -/
/- What is proved here: plain facts: what stands on a disk that a log has left, or a crash of it, as Open reads it. -/
/- What is proved here: plain facts: a log that is opened on what another one left keeps the invariant. -/
/- What is proved here: plain facts: how many bytes a log's calls add to its disk's. -/
/- What is proved here: what Open makes of the files that a log has left, or a crash of it. -/
/- What is proved here: the calls of a log that is new since a world and keeps off blocks that are named; a disk alone beside blocks that stay; a crash, and what is opened behind it. -/
/- What is proved here: what 'segment' tells: how many bytes the last segment on a disk has. -/
/- What is proved here: what a slice of slices of bytes reads as; what comes in as one. -/
/- What is proved here: the document's own log in memory: its block, and what its queries answer. -/
/- What is proved here: the document's Snap and Cut. -/
/- What is proved here: the document's Cut; what its Append answers where a record is too long. -/
import Derived.Test.YtnomicnmpllajaaGreatDoorPFu20
import Derived.Test.YtnomicnmpllajaaGreatDoorPFu21
import Derived.Test.YtnomicnmpllajaaGreatDoorPFu19
import Derived.Test.YtnomicnmpllajaaGreatDoorPFu7
import Derived.Test.YtnomicnmpllajaaGreatDoorPFu3
import Derived.Test.YtnomicnmpllajaaGreatDoorPFu10
import Derived.Test.YtnomicnmpllajaaGreatDoorPFu11
section
namespace Go.Proofs.YtnomicnmpllajaaGreatDoor
open Go Go.RowKit

theorem sizeF_take {xs : List Int} (h : xs.length < 65536) {n : Nat} (hn : 2 ≤ n) : sizeF ((sealF xs).take n) = xs.length := by
  have h1 := seal_size h []
  rw [List.append_nil] at h1
  have h2 : ((sealF xs).take n).take 2 = (sealF xs).take 2 := by rw [List.take_take, Nat.min_eq_left hn]
  unfold sizeF at h1 ⊢
  rw [h2]
  exact h1
/-- A part of a frame is none. -/
theorem torn_why {xs : List Int} (h : xs.length ≤ 4096) {n : Nat} (hn : n < 6 + xs.length) : whyF ((sealF xs).take n) ≠ 0 := by
  have hl : ((sealF xs).take n).length = n := by
    rw [List.length_take, sealF_length]
    omega
  unfold whyF
  rw [hl]
  by_cases h6 : n < 6
  · rw [if_pos h6]
    decide
  · rw [if_neg h6, sizeF_take (by omega) (by omega), if_neg (by omega), if_pos (by omega)]
    decide
theorem bytesR_cons (x : List Int) (r : List (List Int)) : bytesR (x :: r) = sealF x ++ bytesR r := by simp [bytesR]
theorem parsed_take : ∀ (rs : List (List Int)) (m : Nat), (∀ r ∈ rs, r.length ≤ 4096 ∧ ∀ x ∈ r, 0 ≤ x ∧ x < 256) →
    ∃ t, t ≤ rs.length ∧ Parsed ((bytesR rs).take m) (rs.take t) (bytesR (rs.take t)).length ∧ ∀ s, (bytesR (rs.take s)).length ≤ m → s ≤ rs.length → s ≤ t
  | [], m, _ => ⟨0, Nat.le_refl _, ⟨rfl, Nat.zero_le _, fun h => by simp [bytesR] at h⟩, fun s _ h => h⟩
  | x :: r, m, hb => by
    have hx := hb x (List.mem_cons_self ..)
    by_cases hm : m < 6 + x.length
    · refine ⟨0, Nat.zero_le _, ⟨rfl, Nat.zero_le _, fun _ => ?_⟩, fun s hs _ => ?_⟩
      · have e : (bytesR (x :: r)).take m = (sealF x).take m := by
          rw [bytesR_cons, List.take_append_of_le_length (by rw [sealF_length]; omega)]
        show whyF (((bytesR (x :: r)).take m).drop 0) ≠ 0
        rw [List.drop_zero, e]
        exact torn_why hx.1 hm
      · cases s with
        | zero => exact Nat.le_refl _
        | succ s =>
          rw [List.take_succ_cons, bytesR_cons, List.length_append, sealF_length] at hs
          omega
    · obtain ⟨t, h1, h2, h3⟩ := parsed_take r (m - (6 + x.length)) fun y hy => hb y (List.mem_cons_of_mem _ hy)
      have e : (bytesR (x :: r)).take m = sealF x ++ (bytesR r).take (m - (6 + x.length)) := by
        rw [bytesR_cons, List.take_append, List.take_of_length_le (by rw [sealF_length]; omega), sealF_length, Nat.add_comm x.length 6]
      have el : (bytesR ((x :: r).take (t + 1))).length = 6 + x.length + (bytesR (r.take t)).length := by
        rw [List.take_succ_cons, bytesR_cons, List.length_append, sealF_length]
        omega
      refine ⟨t + 1, by simpa using h1, ?_, fun s hs hsl => ?_⟩
      · rw [e, el]
        have hsz := seal_size (xs := x) (by omega) ((bytesR r).take (m - (6 + x.length)))
        refine ⟨⟨seal_why hx.1 hx.2 _, (seal_body (by omega) _).symm, (bytesR (r.take t)).length, by rw [hsz], ?_⟩, ?_, fun hlt => ?_⟩
        · rw [seal_rest (by omega)]
          exact h2.chain
        · have := h2.le
          rw [List.length_append, sealF_length]
          omega
        · have hd : (sealF x ++ (bytesR r).take (m - (6 + x.length))).drop (6 + x.length + (bytesR (r.take t)).length) = ((bytesR r).take (m - (6 + x.length))).drop (bytesR (r.take t)).length := by
            rw [← List.drop_drop, List.drop_append, List.drop_of_length_le (l := sealF x) (by rw [sealF_length]; omega), List.nil_append, sealF_length, show 6 + x.length - (x.length + 6) = 0 by omega, List.drop_zero]
          rw [hd]
          refine h2.why ?_
          rw [List.length_append, sealF_length] at hlt
          omega
      · cases s with
        | zero => exact Nat.zero_le _
        | succ s =>
          rw [List.take_succ_cons, bytesR_cons, List.length_append, sealF_length] at hs
          have := h3 s (by omega) (by simpa using hsl)
          omega
end Go.Proofs.YtnomicnmpllajaaGreatDoor
end

section
namespace Go.Proofs.YtnomicnmpllajaaGreatDoor
open Go Go.RowKit

/-- The files that are left of others: of each some first bytes, no less than are synced. -/
def LeftOf (S S' : List RF) : Prop := S'.map RF.nm = S.map RF.nm ∧ ∀ n f, findN S n = some f → ∃ f' m, findN S' n = some f' ∧ f.s ≤ m ∧ f'.b = f.b.take m
theorem LeftOf.refl {S : List RF} (h : ∀ n f, findN S n = some f → f.s ≤ f.b.length) : LeftOf S S := ⟨rfl, fun n f hf => ⟨f, f.b.length, hf, h n f hf, (List.take_length ..).symm⟩⟩
theorem findN_at {S : List RF} {n : List UInt8} {f : RF} (h : findN S n = some f) : ∃ k : Nat, S[k]? = some f ∧ f.nm = n := by
  obtain ⟨h1, h2⟩ := findN_mem h
  obtain ⟨k, hk⟩ := List.mem_iff_getElem?.1 h1
  exact ⟨k, hk, h2⟩
theorem crashF_names (ks : List Int) (S : List RF) : (crashF ks S).map RF.nm = S.map RF.nm := by
  refine List.ext_getElem? fun i => ?_
  rw [List.getElem?_map, List.getElem?_map]
  unfold crashF
  rw [List.getElem?_mapIdx]
  cases S[i]? <;> rfl
theorem crashF_left {S : List RF} (hS : Rising RF.nm S) (ks : List Int) : LeftOf S (crashF ks S) := by
  refine ⟨crashF_names ks S, fun n f hf => ?_⟩
  obtain ⟨k, hk, rfl⟩ := findN_at hf
  have hc : (crashF ks S)[k]? = some (crashRF ks k f) := by
    unfold crashF
    rw [List.getElem?_mapIdx, hk]
    rfl
  have hr : Rising RF.nm (crashF ks S) := Rising.of_map (g := RF.nm) (nm' := id) (fun _ => rfl) (by rw [crashF_names]; exact hS.map (g := RF.nm) (nm' := id) fun _ => rfl)
  exact ⟨crashRF ks k f, f.s + survN ks k f, findN_some hr (List.mem_of_getElem? hc), Nat.le_add_right _ _, rfl⟩
def segF (g : SegR) : SegF := ⟨g.k, g.rs, (bytesR g.rs).length⟩
theorem recsP_runs (B : Nat) : ∀ {G : List SegR} {s e : Nat}, Runs G s e → recsP B (G.map segF) = (recsR G).drop (B + 1 - s)
  | [], s, e, _ => by simp [recsP, recsR]
  | g :: G, s, e, ⟨h1, h2⟩ => by
    have ih := recsP_runs B h2
    unfold recsP recsR at ih ⊢
    rw [List.map_cons, List.flatMap_cons, List.flatMap_cons, ih, List.drop_append]
    show g.rs.drop (B + 1 - g.k) ++ _ = _
    rw [h1]
    congr 2
    omega
theorem segsP_map (G : List SegR) : segsP (G.map segF) = segsR G := by
  unfold segsP segsR
  rw [List.map_map]
  rfl
section
variable {S S' : List RF} {M : LogM} {G : List SegR} {st : Nat}
/-- The segments as they are left: of the last one some first records. -/
theorem LI.left (h : LI S M G st) (hS : LeftOf S S') :
    ∃ G' e, SegsAt S' M.base (G'.map segF) ∧ Runs G' st e ∧ M.synced + 1 ≤ e ∧ e ≤ M.last + 1 ∧ recsR G' = (recsR G).take (e - st) ∧ G'.map SegR.k = G.map SegR.k ∧ (∀ g ∈ G'.dropLast, g.rs ≠ []) ∧ (∀ g ∈ G', (bytesR g.rs).length ≤ 65536 ∧ ∀ r ∈ g.rs, r.length ≤ 4096 ∧ ∀ x ∈ r, 0 ≤ x ∧ x < 256) ∧
      (∀ g ∈ G', ∃ f', findN S' (segName g.k) = some f' ∧ f'.b.take (bytesR g.rs).length = bytesR g.rs ∧ (bytesR g.rs).length ≤ f'.b.length ∧ (g ∈ G'.dropLast → f'.b = bytesR g.rs)) := by
  have hnames : (S'.map RF.nm).filter (fun s => s.take 3 == [108, 111, 103]) = G.map fun g => segName g.k := by
    rw [hS.1]
    exact h.names
  have hst := h.start
  have hsy := h.sync
  have hm := h.many
  have hfile : ∀ g ∈ G, ∃ f' m, findN S' (segName g.k) = some f' ∧ (bytesR (g.rs.take (M.synced + 1 - g.k))).length ≤ m ∧ f'.b = (bytesR g.rs).take m := fun g hg => by
    obtain ⟨f, a, b, c⟩ := h.file g hg
    obtain ⟨f', m, h1, h2, h3⟩ := hS.2 _ f a
    exact ⟨f', m, h1, by omega, by rw [h3, b]⟩
  rcases List.eq_nil_or_concat G with rfl | ⟨G0, g, rfl⟩
  · have hrn : st = M.last + 1 := h.runs
    refine ⟨[], st, ⟨hnames, fun i s hs => by simp at hs, fun i s t hs => by simp at hs, fun s hs => by simp at hs, fun i s hs => by simp at hs⟩, rfl, by omega, by omega, by simp [recsR], rfl, (fun g hg => by cases hg), (fun g hg => by cases hg), fun g hg => by cases hg⟩
  · rw [List.concat_eq_append] at h hnames hfile ⊢
    obtain ⟨h1, h2, h3⟩ := h.ahead
    have hg : g ∈ G0 ++ [g] := List.mem_append.2 (.inr (List.mem_singleton.2 rfl))
    obtain ⟨f', m, f1, f2, f3⟩ := hfile g hg
    obtain ⟨t, t1, t2, t3⟩ := parsed_take g.rs m (h.byt g hg)
    have t4 : M.synced + 1 - g.k ≤ t := t3 _ f2 (by omega)
    obtain ⟨mm, r1, r2, r3⟩ := Runs.app.1 h.runs
    have r3 : mm + g.rs.length = M.last + 1 := r3
    have hlen := r1.len
    have hkeys : (G0 ++ [(⟨g.k, g.rs.take t⟩ : SegR)]).map SegR.k = (G0 ++ [g]).map SegR.k := by simp
    have hbt : (bytesR (g.rs.take t)).length ≤ (bytesR g.rs).length := by
      have e : bytesR g.rs = bytesR (g.rs.take t) ++ bytesR (g.rs.drop t) := by rw [← bytesR_app, List.take_append_drop]
      rw [e, List.length_append]
      omega
    have hruns : Runs (G0 ++ [(⟨g.k, g.rs.take t⟩ : SegR)]) st (g.k + t) := Runs.app.2 ⟨mm, r1, r2, by
      show mm + (g.rs.take t).length = g.k + t
      rw [List.length_take]
      omega⟩
    have hall : ∀ x ∈ G0 ++ [(⟨g.k, g.rs.take t⟩ : SegR)], x.k < 100000000 := fun x hx => by
      rcases List.mem_append.1 hx with hx | hx
      · exact h.lt (List.mem_append.2 (.inl hx))
      · rw [List.mem_singleton.1 hx]
        exact (h.lt hg : g.k < 100000000)
    refine ⟨G0 ++ [⟨g.k, g.rs.take t⟩], g.k + t, ⟨?_, fun i s hs => ?_, fun i s u hs hu => ?_, fun s hs => ?_, fun i s hs hi => ?_⟩, hruns, by omega, by omega, ?_, hkeys, fun x hx => ?_, fun x hx => ?_, fun x hx => ?_⟩
    · rw [hnames]
      simp [segF]
    · rw [List.getElem?_map] at hs
      obtain ⟨x, hx, rfl⟩ := Option.map_eq_some_iff.1 hs
      have hxm := List.mem_of_getElem? hx
      have hbound : (((G0 ++ [(⟨g.k, g.rs.take t⟩ : SegR)]).map segF).take i |>.flatMap SegF.l).length ≤ 900000 := by
        have e1 : ((G0 ++ [(⟨g.k, g.rs.take t⟩ : SegR)]).map segF).flatMap SegF.l = recsR (G0 ++ [⟨g.k, g.rs.take t⟩]) := by
          unfold recsR
          rw [List.flatMap_map]
          rfl
        have e2 : (((G0 ++ [(⟨g.k, g.rs.take t⟩ : SegR)]).map segF).take i |>.flatMap SegF.l).length ≤ (((G0 ++ [(⟨g.k, g.rs.take t⟩ : SegR)]).map segF).flatMap SegF.l).length := by
          conv => rhs; rw [← List.take_append_drop i ((G0 ++ [(⟨g.k, g.rs.take t⟩ : SegR)]).map segF)]
          rw [List.flatMap_append, List.length_append]
          exact Nat.le_add_right _ _
        rw [e1] at e2
        have := hruns.len
        omega
      refine ⟨hall x hxm, ?_⟩
      rcases List.mem_append.1 hxm with hx0 | hx0
      · obtain ⟨q1, q2, _⟩ := h1 x hx0
        obtain ⟨y', m', y1, y2, y3⟩ := hfile x (List.mem_append.2 (.inl hx0))
        rw [List.take_of_length_le (by omega)] at y2
        rw [List.take_of_length_le y2] at y3
        have hby := h.bytes x (List.mem_append.2 (.inl hx0))
        obtain ⟨t', p1, p2, p3⟩ := parsed_take x.rs (bytesR x.rs).length (h.byt x (List.mem_append.2 (.inl hx0)))
        have p4 := p3 x.rs.length (by rw [List.take_length]; exact Nat.le_refl _) (Nat.le_refl _)
        rw [List.take_of_length_le (Nat.le_refl _), List.take_of_length_le p4] at p2
        refine ⟨y', y1, by rw [y3]; exact p2, fun _ => by rw [y3]; rfl, by rw [y3]; omega⟩
      · have hx1 := List.mem_singleton.1 hx0
        have hby := h.bytes g hg
        rw [hx1]
        refine ⟨f', f1, by rw [f3]; exact t2, fun hi => ?_, by rw [f3, List.length_take]; omega⟩
        exfalso
        rw [List.length_map, List.length_append] at hi
        have hi2 : i < G0.length := by simpa using hi
        rw [List.getElem?_append_left hi2] at hx
        have hxG := List.mem_of_getElem? hx
        have h4 := (h1 x hxG).1
        have h5 := List.length_pos_iff.2 (h1 x hxG).2.1
        rw [hx1] at h4 h5
        simp only at h4 h5
        omega
    · rw [List.getElem?_map] at hs hu
      obtain ⟨x, hx, rfl⟩ := Option.map_eq_some_iff.1 hs
      obtain ⟨y, hy, rfl⟩ := Option.map_eq_some_iff.1 hu
      have e := split_at hx
      have e2 : (G0 ++ [(⟨g.k, g.rs.take t⟩ : SegR)]).drop (i + 1) = y :: (G0 ++ [(⟨g.k, g.rs.take t⟩ : SegR)]).drop (i + 1 + 1) := by
        obtain ⟨z1, z2⟩ := List.getElem?_eq_some_iff.1 hy
        rw [← z2, List.getElem_cons_drop]
      have hr := hruns
      rw [e, e2] at hr
      obtain ⟨a, b1, b2, b3, _⟩ := Runs.app.1 hr
      show y.k = x.k + x.rs.length
      omega
    · rw [List.getElem?_map] at hs
      obtain ⟨x, hx, rfl⟩ := Option.map_eq_some_iff.1 hs
      have hx2 : x.k = st := by
        cases hGG : G0 ++ [(⟨g.k, g.rs.take t⟩ : SegR)] with
        | nil => simp at hGG
        | cons a r =>
          rw [hGG] at hx hruns
          have : a = x := by simpa using hx
          rw [← this]
          exact hruns.1
      show 0 < x.k ∧ x.k ≤ M.base + 1
      omega
    · rw [List.getElem?_map] at hs
      obtain ⟨x, hx, rfl⟩ := Option.map_eq_some_iff.1 hs
      rw [List.length_map, List.length_append] at hi
      have hi2 : i = G0.length := by simpa using hi
      rw [hi2, List.getElem?_append_right (Nat.le_refl _), Nat.sub_self] at hx
      obtain rfl : x = ⟨g.k, g.rs.take t⟩ := by simpa using hx.symm
      show M.base < g.k + (g.rs.take t).length
      rw [List.length_take]
      omega
    · rw [recsR_app, recsR_app, recsR_one]
      have e : recsR [g] = g.rs := by simp [recsR]
      rw [e, List.take_append, List.take_of_length_le (l := recsR G0) (by omega)]
      congr 2
      omega
    · rw [List.dropLast_concat] at hx
      exact (h1 x hx).2.1
    · rcases List.mem_append.1 hx with hx | hx
      · exact ⟨h.bytes x (List.mem_append.2 (.inl hx)), h.byt x (List.mem_append.2 (.inl hx))⟩
      · rw [List.mem_singleton.1 hx]
        exact ⟨Nat.le_trans hbt (h.bytes g hg), fun r hr => h.byt g hg r (List.mem_of_mem_take hr)⟩
    · rcases List.mem_append.1 hx with hx0 | hx0
      · obtain ⟨q1, q2, _⟩ := h1 x hx0
        obtain ⟨y', m', y1, y2, y3⟩ := hfile x (List.mem_append.2 (.inl hx0))
        rw [List.take_of_length_le (by omega)] at y2
        rw [List.take_of_length_le y2] at y3
        exact ⟨y', y1, by rw [y3, List.take_length], by rw [y3]; exact Nat.le_refl _, fun _ => y3⟩
      · rw [List.mem_singleton.1 hx0]
        have hle := t2.le
        have e : bytesR g.rs = bytesR (g.rs.take t) ++ bytesR (g.rs.drop t) := by rw [← bytesR_app, List.take_append_drop]
        refine ⟨f', f1, ?_, by rw [f3]; exact hle, fun hd => ?_⟩
        · show f'.b.take (bytesR (g.rs.take t)).length = bytesR (g.rs.take t)
          rw [List.length_take] at hle
          rw [f3, List.take_take, Nat.min_eq_left (by omega), e, List.take_append_of_le_length (Nat.le_refl _), List.take_length]
        · exfalso
          rw [List.dropLast_concat] at hd
          have h4 := (h1 _ hd).1
          have h5 := List.length_pos_iff.2 (h1 _ hd).2.1
          simp only at h4 h5
          omega
end
end Go.Proofs.YtnomicnmpllajaaGreatDoor
end

section
namespace Go.Proofs.YtnomicnmpllajaaGreatDoor
open Go Go.RowKit

/-- Other files, of the same names. -/
structure Upd (S S1 : List RF) : Prop where
  rise : Rising RF.nm S1
  same : ∀ n, findN S1 n = none ↔ findN S n = none
theorem Upd.refl {S : List RF} (h : Rising RF.nm S) : Upd S S := ⟨h, fun _ => Iff.rfl⟩
theorem Upd.trans {S S1 S2 : List RF} (h : Upd S S1) (h2 : Upd S1 S2) : Upd S S2 := ⟨h2.rise, fun n => (h2.same n).trans (h.same n)⟩
theorem Upd.put {S : List RF} (hS : Rising RF.nm S) {x f : RF} (hf : findN S x.nm = some f) : Upd S (putN RF.nm x S) := ⟨hS.putN x, fun n => by
  rw [findN_put hS]
  by_cases h : n = x.nm
  · rw [if_pos h, h, hf]
    simp
  · rw [if_neg h]⟩
theorem Upd.mem {S S1 : List RF} (h : Upd S S1) (hS : Rising RF.nm S) (n : List UInt8) : (∃ f ∈ S1, f.nm = n) ↔ ∃ f ∈ S, f.nm = n := by
  have key : ∀ {T : List RF}, Rising RF.nm T → ((∃ f ∈ T, f.nm = n) ↔ findN T n ≠ none) := fun {T} hT => by
    constructor
    · rintro ⟨f, hf, rfl⟩ e
      exact findN_none e f hf rfl
    · intro e
      cases e2 : findN T n with
      | none => exact absurd e2 e
      | some f => exact ⟨f, (findN_mem e2).1, (findN_mem e2).2⟩
  rw [key h.rise, key hS, ne_eq, ne_eq, h.same n]
theorem Upd.logs {S S1 : List RF} (h : Upd S S1) (hS : Rising RF.nm S) : logsOf S1 = logsOf S := logs_ext h.rise (logs_rising hS) fun n => by
  rw [h.mem hS, mem_logs]
theorem syncF_upd {S : List RF} (hS : Rising RF.nm S) (k : List UInt8) : Upd S (syncF S k).1 := by
  cases e : findN S k with
  | none =>
    have : (syncF S k).1 = S := by unfold syncF; rw [e]
    rw [this]
    exact Upd.refl hS
  | some f =>
    rw [syncF_put e]
    exact Upd.put hS (x := ⟨k, f.b, f.b.length⟩) e
theorem syncF_at {S : List RF} (hS : Rising RF.nm S) (k n : List UInt8) {f : RF} (hf : findN S n = some f) : ∃ f1, findN (syncF S k).1 n = some f1 ∧ f1.b = f.b ∧ (n = k → f1.s = f.b.length) ∧ (n ≠ k → f1 = f) := by
  cases e : findN S k with
  | none =>
    have : (syncF S k).1 = S := by unfold syncF; rw [e]
    rw [this]
    exact ⟨f, hf, rfl, (fun h => by rw [h, e] at hf; cases hf), fun _ => rfl⟩
  | some g =>
    rw [syncF_put e, findN_put hS]
    by_cases h : n = k
    · subst h
      rw [hf] at e
      cases e
      exact ⟨_, if_pos rfl, rfl, fun _ => rfl, fun h => absurd rfl h⟩
    · exact ⟨f, by rw [if_neg h]; exact hf, rfl, fun h2 => absurd h2 h, fun _ => rfl⟩
theorem syncAll_upd : ∀ (l : List (Nat × Nat)) {S : List RF}, Rising RF.nm S → Upd S (syncAll S l)
  | [], _, hS => Upd.refl hS
  | s :: l, S, hS => by
    have h1 := syncF_upd hS (segName s.1)
    exact h1.trans (syncAll_upd l h1.rise)
theorem syncAll_at : ∀ (l : List (Nat × Nat)) {S : List RF}, Rising RF.nm S → ∀ {n : List UInt8} {f : RF}, findN S n = some f →
    ∃ f1, findN (syncAll S l) n = some f1 ∧ f1.b = f.b ∧ ((∃ s ∈ l, n = segName s.1) ∨ f.s = f.b.length → f1.s = f.b.length)
  | [], _, _, _, f, hf => ⟨f, hf, rfl, fun h => by
    rcases h with ⟨s, hs, _⟩ | h
    · cases hs
    · exact h⟩
  | s :: l, S, hS, n, f, hf => by
    obtain ⟨f1, h1, h2, h3, h4⟩ := syncF_at hS (segName s.1) n hf
    obtain ⟨f2, h5, h6, h7⟩ := syncAll_at l (syncF_upd hS (segName s.1)).rise h1
    refine ⟨f2, h5, h6.trans h2, fun h => ?_⟩
    rw [h2] at h7
    refine h7 ?_
    by_cases e : n = segName s.1
    · exact .inr (h3 e)
    · rcases h with ⟨x, hx, h8⟩ | h
      · rcases List.mem_cons.1 hx with rfl | hx
        · exact absurd h8 e
        · exact .inl ⟨x, hx, h8⟩
      · rw [h4 e]
        exact .inr h
section
variable {S S' : List RF} {M : LogM} {G : List SegR} {st : Nat}
/-- The files behind settle, where the segments are these. -/
theorem settle_at {G' : List SegR} (hS : Rising RF.nm S) (hnew : findN S newN = none) (hlt : ∀ g ∈ G', g.k < 100000000)
    (hne : ∀ (A : List SegR) (g : SegR), G' = A ++ [g] → ∀ x ∈ A, x.k ≠ g.k)
    (hfile : ∀ g ∈ G', ∃ f', findN S (segName g.k) = some f' ∧ f'.b.take (bytesR g.rs).length = bytesR g.rs ∧ (bytesR g.rs).length ≤ f'.b.length ∧ (g ∈ G'.dropLast → f'.b = bytesR g.rs)) :
    Upd S (settleF S (segsR G')) ∧ (∀ g ∈ G', ∃ f, findN (settleF S (segsR G')) (segName g.k) = some f ∧ f.b = bytesR g.rs ∧ f.s = f.b.length) ∧ ∀ f, findN S snapN = some f → ∃ f1, findN (settleF S (segsR G')) snapN = some f1 ∧ f1.b = f.b ∧ f1.s = f.b.length := by
  obtain ⟨T, hT⟩ : ∃ T, T = (match (segsR G').getLast? with | none => syncAll S (segsR G') | some s => (cutF (syncAll S (segsR G')) (segName s.1) s.2).1) := ⟨_, rfl⟩
  have key : Upd S T ∧ (∀ g ∈ G', ∃ f, findN T (segName g.k) = some f ∧ f.b = bytesR g.rs ∧ f.s = f.b.length) ∧ ∀ f, findN S snapN = some f → ∃ f1, findN T snapN = some f1 ∧ f1.b = f.b := by
    have hu := syncAll_upd (segsR G') hS
    rcases List.eq_nil_or_concat G' with rfl | ⟨A, g, rfl⟩
    · have e : (segsR []).getLast? = none := rfl
      rw [e] at hT
      rw [hT]
      refine ⟨hu, (fun g hg => by cases hg), fun f hf => ?_⟩
      obtain ⟨f1, h1, h2, _⟩ := syncAll_at (segsR []) hS hf
      exact ⟨f1, h1, h2⟩
    · rw [List.concat_eq_append] at *
      rw [segsR_last] at hT
      simp only at hT
      have hg : g ∈ A ++ [g] := List.mem_append.2 (.inr (List.mem_singleton.2 rfl))
      obtain ⟨f', a1, a2, a3, _⟩ := hfile g hg
      obtain ⟨f1, b1, b2, b3⟩ := syncAll_at (segsR (A ++ [g])) hS a1
      have hcut : (cutF (syncAll S (segsR (A ++ [g]))) (segName g.k) ((bytesR g.rs).length : Nat)).1 = putN RF.nm ⟨segName g.k, bytesR g.rs, (bytesR g.rs).length⟩ (syncAll S (segsR (A ++ [g]))) := by
        unfold cutF
        rw [b1]
        simp only
        rw [if_neg (by rw [b2]; omega)]
        unfold cutRF
        rw [(findN_mem b1).2, Int.toNat_natCast, b2, a2]
      rw [hcut] at hT
      rw [hT]
      refine ⟨hu.trans (Upd.put hu.rise (x := ⟨segName g.k, bytesR g.rs, (bytesR g.rs).length⟩) b1), fun x hx => ?_, fun f hf => ?_⟩
      · rw [findN_put hu.rise]
        rcases List.mem_append.1 hx with hx0 | hx0
        · rw [if_neg (fun e => hne A g rfl x hx0 ((segName_inj (hlt x hx) (hlt g hg)).1 e))]
          obtain ⟨y, c1, _, _, c4⟩ := hfile x hx
          obtain ⟨y1, e1, e2, e3⟩ := syncAll_at (segsR (A ++ [g])) hS c1
          refine ⟨y1, e1, by rw [e2]; exact c4 (by rw [List.dropLast_concat]; exact hx0), ?_⟩
          rw [e2]
          exact e3 (.inl ⟨_, List.mem_map.2 ⟨x, hx, rfl⟩, rfl⟩)
        · rw [List.mem_singleton.1 hx0]
          exact ⟨_, if_pos rfl, rfl, rfl⟩
      · obtain ⟨f2, h1, h2, _⟩ := syncAll_at (segsR (A ++ [g])) hS hf
        exact ⟨f2, by rw [findN_put hu.rise, if_neg fun e => seg_ne_snap g.k e.symm]; exact h1, h2⟩
  obtain ⟨k1, k2, k3⟩ := key
  have k4 := syncF_upd k1.rise snapN
  have hnew2 : findN (syncF T snapN).1 newN = none := ((k1.trans k4).same newN).2 hnew
  have hset : settleF S (segsR G') = (syncF T snapN).1 := by
    have e : settleF S (segsR G') = (removeF (syncF T snapN).1 newN).1 := by rw [hT]; rfl
    rw [e]
    unfold removeF
    rw [hnew2]
  rw [hset]
  refine ⟨k1.trans k4, fun g hg => ?_, fun f hf => ?_⟩
  · obtain ⟨f, h1, h2, h3⟩ := k2 g hg
    obtain ⟨f1, h4, h5, _, h7⟩ := syncF_at k1.rise snapN _ h1
    rw [h7 (seg_ne_snap g.k)] at h4
    exact ⟨f, h4, h2, h3⟩
  · obtain ⟨f1, h1, h2⟩ := k3 f hf
    obtain ⟨f2, h4, h5, h6, _⟩ := syncF_at k1.rise snapN _ h1
    exact ⟨f2, h4, h5.trans h2, by rw [h6 rfl, h2]⟩
/-- A log that is opened on what another one left. -/
theorem LI.opened (h : LI S M G st) (hr : Rising RF.nm S') (hS : LeftOf S S') :
    ∃ G' t, SegsAt S' M.base (G'.map segF) ∧ LI (settleF S' (segsP (G'.map segF))) (openM M.size M.base M.shot (G'.map segF)) G' st ∧ M.synced ≤ M.base + t ∧ t ≤ M.recs.length ∧ (openM M.size M.base M.shot (G'.map segF)).recs = M.recs.take t := by
  obtain ⟨G', e, p1, p2, p3, p4, p5, p6, p7, p8, p9⟩ := h.left hS
  have hst := h.start
  have hsy := h.sync
  have hm := h.many
  have hlen' := p2.len
  have hrecs : (openM M.size M.base M.shot (G'.map segF)).recs = (recsR G').drop (M.base + 1 - st) := recsP_runs M.base p2
  have hlast : (openM M.size M.base M.shot (G'.map segF)).last + 1 = e := by
    unfold LogM.last
    rw [hrecs, List.length_drop]
    show M.base + _ + 1 = e
    omega
  have hsync : (openM M.size M.base M.shot (G'.map segF)).synced = (openM M.size M.base M.shot (G'.map segF)).last := rfl
  have hkeys : ∀ g ∈ G', ∃ x ∈ G, x.k = g.k := fun g hg => by
    have : g.k ∈ G'.map SegR.k := List.mem_map.2 ⟨g, hg, rfl⟩
    rw [p6] at this
    obtain ⟨x, hx, e⟩ := List.mem_map.1 this
    exact ⟨x, hx, e⟩
  have hlt : ∀ g ∈ G', g.k < 100000000 := fun g hg => by
    obtain ⟨x, hx, e⟩ := hkeys g hg
    rw [← e]
    exact h.lt hx
  have hup : ∀ n, findN S' n = none ↔ findN S n = none := fun n => by
    have key : ∀ (T : List RF), findN T n = none ↔ n ∉ T.map RF.nm := fun T => by
      constructor
      · intro e hn
        obtain ⟨f, hf, h2⟩ := List.mem_map.1 hn
        exact findN_none e f hf h2
      · intro hn
        cases e : findN T n with
        | none => rfl
        | some f => exact absurd (List.mem_map.2 ⟨f, (findN_mem e).1, (findN_mem e).2⟩) hn
    rw [key, key, hS.1]
  have hup2 : Upd S S' := ⟨hr, hup⟩
  obtain ⟨s1, s2, s3⟩ := settle_at hr ((hup newN).2 h.nonew) hlt (fun A g e x hx => by
    rw [e] at p2 p7
    obtain ⟨m, q1, q2, _⟩ := Runs.app.1 p2
    have h1 := (q1.in_ x hx).2
    have h2 := List.length_pos_iff.2 (p7 x (by rw [List.dropLast_concat]; exact hx))
    omega) p9
  have hend : ∀ g ∈ G', g.k + g.rs.length ≤ (openM M.size M.base M.shot (G'.map segF)).last + 1 := fun g hg => by
    rw [hlast]
    exact (p2.in_ g hg).2
  refine ⟨G', e - (M.base + 1), p1, ?_, by omega, ?_, ?_⟩
  · rw [segsP_map]
    have hU := hup2.trans s1
    exact {
      rise := s1.rise
      size := h.size
      segs := segsP_map G'
      runs := by rw [hlast]; exact p2
      start := hst
      full := p7
      recs := hrecs
      file := fun g hg => by
        obtain ⟨f, a, b, c⟩ := s2 g hg
        refine ⟨f, a, b, ?_⟩
        rw [hsync, List.take_of_length_le (by have := hend g hg; omega), c, b]
      names := by
        rw [hU.logs h.rise, h.names]
        have e1 : (G.map fun g => segName g.k) = (G.map SegR.k).map segName := by rw [List.map_map]; rfl
        have e2 : (G'.map fun g => segName g.k) = (G'.map SegR.k).map segName := by rw [List.map_map]; rfl
        rw [e1, e2, p6]
      other := fun f hf => by
        obtain ⟨f0, h1, h2⟩ := (hU.mem h.rise f.nm).1 ⟨f, hf, rfl⟩
        rw [← h2]
        exact h.other f0 h1
      snap := by
        rcases h.snap with ⟨a, b, c⟩ | ⟨f, a, b, c⟩
        · exact .inl ⟨(hU.same snapN).2 a, b, c⟩
        · obtain ⟨f', m, q1, q2, q3⟩ := hS.2 _ f a
          rw [List.take_of_length_le (by omega)] at q3
          obtain ⟨f1, q4, q5, q6⟩ := s3 f' q1
          exact .inr ⟨f1, q4, by rw [q5, q3]; exact b, by rw [q6, q5]⟩
      sync := ⟨by rw [hsync]; show M.base ≤ M.base + _; omega, Nat.le_refl _, fun g hg => by
        rw [hsync]
        have := hend g hg
        omega⟩
      many := by omega
      bytes := fun g hg => (p8 g hg).1
      byt := fun g hg => (p8 g hg).2
      shot := h.shot }
  · unfold LogM.last at p4
    omega
  · rw [hrecs, p5, h.recs, List.drop_take]
    congr 1
    omega
end
end Go.Proofs.YtnomicnmpllajaaGreatDoor
end

section
namespace Go.Proofs.YtnomicnmpllajaaGreatDoor
open Go Go.RowKit

theorem usedN_put_any {S : List RF} (hS : Rising RF.nm S) (x : RF) : usedN (putN RF.nm x S) + (oldRF S x.nm).b.length = usedN S + x.b.length := by
  cases e : findN S x.nm with
  | none =>
    rw [oldRF_none e]
    unfold putN
    rw [usedN_ins, delN_none (findN_none e)]
    show x.b.length + usedN S + 0 = _
    omega
  | some f =>
    rw [oldRF_some e]
    obtain ⟨h1, h2⟩ := findN_mem e
    exact usedN_put hS h1 h2
theorem usedN_sync {S : List RF} (hS : Rising RF.nm S) (k : List UInt8) : usedN (syncF S k).1 = usedN S := by
  cases e : findN S k with
  | none =>
    have : (syncF S k).1 = S := by unfold syncF; rw [e]
    rw [this]
  | some f =>
    rw [syncF_put e]
    have h := usedN_put_any hS ⟨k, f.b, f.b.length⟩
    rw [oldRF_some e] at h
    simp only at h
    omega
section
variable {S : List RF} {M : LogM} {G : List SegR} {st : Nat}
theorem LI.used_stepA (h : LI S M G st) (xs : List Int) : usedN (Proofs.YtnomicnmpllajaaGreatDoor.stepA S M xs).1 = usedN S + (xs.length + 6) := by
  have hm := h.many
  unfold Proofs.YtnomicnmpllajaaGreatDoor.stepA
  rcases List.eq_nil_or_concat G with rfl | ⟨G0, g, rfl⟩
  · have e : M.segs.getLast? = none := by rw [h.segs]; rfl
    have hno := h.find_none (k := M.last + 1) (by omega) (fun g hg => by cases hg)
    rw [e]
    have h1 := usedN_put_any h.rise ⟨segName (M.last + 1), sealF xs, 0⟩
    rw [oldRF_none hno] at h1
    simp only [List.length_nil, sealF_length] at h1
    simp only
    omega
  · rw [List.concat_eq_append] at h
    have e : M.segs.getLast? = some (g.k, (bytesR g.rs).length) := by rw [h.segs, segsR_last]
    obtain ⟨h1, h2, h3⟩ := h.ahead
    rw [e]
    simp only
    by_cases c : (bytesR g.rs).length = 0 ∨ (bytesR g.rs).length + (xs.length + 6) ≤ M.size
    · rw [if_pos c]
      have h4 := usedN_put_any h.rise ⟨segName g.k, (oldRF S (segName g.k)).b ++ sealF xs, (oldRF S (segName g.k)).s⟩
      simp only [List.length_append, sealF_length] at h4
      simp only
      omega
    · rw [if_neg c]
      have hne : segName (M.last + 1) ≠ segName g.k := fun e2 => by
        have hg : g ∈ G0 ++ [g] := List.mem_append.2 (.inr (List.mem_singleton.2 rfl))
        have h4 := (segName_inj (by omega) (h.lt hg)).1 e2
        have h5 := List.length_pos_iff.2 (bytesR_pos (rs := g.rs) (by omega))
        omega
      have hno : findN S (segName (M.last + 1)) = none := h.find_none (by omega) fun x hx' => by
        rcases List.mem_append.1 hx' with hx' | hx'
        · have h8 := (h1 x hx').1
          have h9 := List.length_pos_iff.2 (h1 x hx').2.1
          omega
        · rw [List.mem_singleton.1 hx']
          exact fun e2 => hne (by rw [e2])
      have hu := syncF_upd h.rise (segName g.k)
      have h4 := usedN_put_any hu.rise ⟨segName (M.last + 1), sealF xs, 0⟩
      rw [oldRF_none ((hu.same _).2 hno), usedN_sync h.rise] at h4
      simp only [List.length_nil, sealF_length] at h4
      simp only
      omega
theorem LI.used_stepS (h : LI S M G st) : usedN (Proofs.YtnomicnmpllajaaGreatDoor.stepS S M).1 = usedN S := by
  unfold Proofs.YtnomicnmpllajaaGreatDoor.stepS
  split
  · rfl
  · exact usedN_sync h.rise _
theorem usedN_remove {S : List RF} (hS : Rising RF.nm S) (k : List UInt8) : usedN (removeF S k).1 ≤ usedN S ∧ Rising RF.nm (removeF S k).1 := by
  unfold removeF
  cases e : findN S k with
  | none => exact ⟨Nat.le_refl _, hS⟩
  | some f =>
    obtain ⟨h1, h2⟩ := findN_mem e
    have h3 := usedN_del hS h1
    rw [h2] at h3
    exact ⟨by show usedN (delN RF.nm k S) ≤ _; omega, hS.delN k⟩
theorem usedN_removes : ∀ (l : List (Nat × Nat)) {S : List RF}, Rising RF.nm S → usedN (removes S l) ≤ usedN S
  | [], _, _ => Nat.le_refl _
  | s :: l, S, hS => by
    obtain ⟨h1, h2⟩ := usedN_remove hS (segName s.1)
    exact Nat.le_trans (usedN_removes l h2) h1
theorem usedN_cut {S : List RF} (hS : Rising RF.nm S) (k : List UInt8) (n : Int) : usedN (cutF S k n).1 ≤ usedN S := by
  unfold cutF
  cases e : findN S k with
  | none => exact Nat.le_refl _
  | some f =>
    simp only
    split
    · exact Nat.le_refl _
    · have h1 := usedN_put_any hS (cutRF f n.toNat)
      have h2 : (cutRF f n.toNat).nm = k := (findN_mem e).2
      have h3 : (cutRF f n.toNat).b.length ≤ f.b.length := by
        show (f.b.take n.toNat).length ≤ _
        rw [List.length_take]
        omega
      rw [h2, oldRF_some e] at h1
      show usedN (putN RF.nm (cutRF f n.toNat) S) ≤ _
      omega
theorem LI.used_cut (h : LI S M G st) {k : Nat} {M' : LogM} {S' : List RF} (hc : CutTo M k S M' S') : usedN S' ≤ usedN S := by
  obtain ⟨j, _, _, ⟨_, _, rfl⟩ | ⟨i, s, n, t, _, _, _, _, _, _, rfl⟩⟩ := hc
  · exact usedN_removes _ h.rise
  · exact Nat.le_trans (usedN_cut (removes_mem _ h.rise).1 _ _) (usedN_removes _ h.rise)
theorem LI.used_stepP (h : LI S M G st) (k : Nat) (xs : List Int) : usedN (Proofs.YtnomicnmpllajaaGreatDoor.stepP S M k xs).1 ≤ usedN S + (sealF (enc k ++ xs)).length := by
  unfold Proofs.YtnomicnmpllajaaGreatDoor.stepP
  refine Nat.le_trans (usedN_removes _ (h.rise.putN _)) ?_
  have h1 := usedN_put_any h.rise ⟨snapN, sealF (enc k ++ xs), (sealF (enc k ++ xs)).length⟩
  simp only at h1
  show usedN (putN RF.nm _ S) ≤ _
  omega
end
end Go.Proofs.YtnomicnmpllajaaGreatDoor
end

section
namespace Go.Proofs.YtnomicnmpllajaaGreatDoor
open Go Go.RowKit

section
variable {w0 w : World} {Kp : Nat → Prop} {lb d : Nat} {R : Int} {S S' : List RF} {M M0 : LogM} {V : LogV} {G : List SegR} {st : Nat}
theorem LI.small (h : LI S M G st) (hS : LeftOf S S') (hr : Rising RF.nm S') : ∀ f ∈ S', f.b.length ≤ 1000000 := fun f hf => by
  have hn : f.nm ∈ S.map RF.nm := by
    rw [← hS.1]
    exact List.mem_map.2 ⟨f, hf, rfl⟩
  obtain ⟨g, hg, e⟩ := List.mem_map.1 hn
  obtain ⟨f', m, h1, _, h3⟩ := hS.2 _ g (findN_some h.rise hg)
  have h4 := findN_some hr hf
  rw [← e, h1] at h4
  cases h4
  have h5 : g.b.length ≤ 65536 := by
    rcases h.other g hg with h6 | h6
    · have h7 : g.nm ∈ logsOf S := mem_logs.2 ⟨⟨g, hg, rfl⟩, h6⟩
      rw [h.names] at h7
      obtain ⟨x, hx, e2⟩ := List.mem_map.1 h7
      obtain ⟨f2, a, b, _⟩ := h.file x hx
      rw [e2, findN_some h.rise hg] at a
      cases a
      rw [b]
      exact h.bytes x hx
    · have h7 := findN_some h.rise hg
      rw [h6] at h7
      rcases h.snap with ⟨a, _⟩ | ⟨f2, a, b, _⟩
      · rw [h7] at a
        cases a
      · rw [h7] at a
        cases a
        rw [b, sealF_length, List.length_append]
        have h8 := enc_len9 (n := M.base) (by have h1 := h.many; have h2 := h.sync; omega)
        have h9 := h.shot.1
        omega
  rw [h3, List.length_take]
  omega
theorem usedN_syncAll : ∀ (l : List (Nat × Nat)) {S : List RF}, Rising RF.nm S → usedN (syncAll S l) = usedN S
  | [], _, _ => rfl
  | s :: l, _, hS => (usedN_syncAll l (syncF_upd hS (segName s.1)).rise).trans (usedN_sync hS _)
theorem cutF_rise {S : List RF} (hS : Rising RF.nm S) (k : List UInt8) (n : Int) : Rising RF.nm (cutF S k n).1 := by
  unfold cutF
  cases e : findN S k with
  | none => exact hS
  | some f =>
    simp only
    split
    · exact hS
    · exact hS.putN _
theorem usedN_settle {S : List RF} (hS : Rising RF.nm S) (l : List (Nat × Nat)) : usedN (settleF S l) ≤ usedN S := by
  obtain ⟨T, hT⟩ : ∃ T, T = (match l.getLast? with | none => syncAll S l | some s => (cutF (syncAll S l) (segName s.1) s.2).1) := ⟨_, rfl⟩
  have hu := syncAll_upd l hS
  have key : usedN T ≤ usedN S ∧ Rising RF.nm T := by
    rw [hT]
    cases e : l.getLast? with
    | none => exact ⟨Nat.le_of_eq (usedN_syncAll l hS), hu.rise⟩
    | some s => exact ⟨Nat.le_trans (usedN_cut hu.rise _ _) (Nat.le_of_eq (usedN_syncAll l hS)), cutF_rise hu.rise _ _⟩
  have e : settleF S l = (removeF (syncF T snapN).1 newN).1 := by rw [hT]; rfl
  rw [e]
  refine Nat.le_trans (usedN_remove (syncF_upd key.2 snapN).rise newN).1 ?_
  rw [usedN_sync key.2]
  exact key.1
/-- Open, on what is left of a log's files. -/
theorem Open_li {Φ : Nat → Prop} (hbel : Below w0.heap.size w0 w) (hd : DiskAt w d R S' Φ) (hΦ : ∀ k, Φ k → w0.heap.size ≤ k ∧ ¬ Kp k ∧ k < w.heap.size) (hL : LI S M G st) (hS : LeftOf S S') (hKp : ∀ k, Kp k → k < w.heap.size) (ht : Tab w0) :
    ∃ S2 M2 G2 t, LI S2 M2 G2 st ∧ M2.size = M.size ∧ M2.base = M.base ∧ M2.shot = M.shot ∧ M2.synced = M2.last ∧ M.synced ≤ M.base + t ∧ t ≤ M.recs.length ∧ M2.recs = M.recs.take t ∧ usedN S2 ≤ usedN S' ∧
      Calls Tryz.prog 15 #[.pointer (some ⟨d, 0, none⟩), .int .i64 M.size] w (OpenSaid w0 Kp d R S2 M2 w) := by
  have hr : Rising RF.nm S' := by
    obtain ⟨m, L, rfl, hD⟩ := hd
    exact hD.srt.map (g := Fil.f) fil_name
  obtain ⟨G', t, p1, p2, p3, p4, p5⟩ := hL.opened hr hS
  have hlen : S'.length ≤ 1000000 := by
    have h1 := congrArg List.length hS.1
    rw [List.length_map, List.length_map] at h1
    rw [h1]
    exact hL.few
  have hsy := hL.sync
  have hm := hL.many
  have hn : (G'.map segF).length < 1000000 := by
    have h1 := p2.segCount
    have h2 := p2.many
    rw [List.length_map]
    omega
  have hrec : ((G'.map segF).flatMap SegF.l).length ≤ 1000000 := by
    have e : (G'.map segF).flatMap SegF.l = recsR G' := by
      unfold recsR
      rw [List.flatMap_map]
      rfl
    have h1 := p2.runs.len
    have h2 := p2.many
    rw [e]
    omega
  have hfb := hL.small hS hr
  refine ⟨_, _, G', t, p2, rfl, rfl, rfl, rfl, p3, p4, p5, usedN_settle hr _, ?_⟩
  rcases hL.snap with ⟨a, b, c⟩ | ⟨f, a, b, c⟩
  · have hno : findN S' snapN = none := by
      cases e : findN S' snapN with
      | none => rfl
      | some f =>
        obtain ⟨h1, h2⟩ := findN_mem e
        have h3 : f.nm ∈ S.map RF.nm := by
          rw [← hS.1]
          exact List.mem_map.2 ⟨f, h1, rfl⟩
        obtain ⟨g, hg, e2⟩ := List.mem_map.1 h3
        exact absurd (e2.trans h2) (findN_none a g hg)
    rw [b, c]
    rw [b] at p1
    exact Open_segs hbel hd hΦ hKp ht M.size hL.size.1 hL.size.2 hno hlen p1 hn hrec hfb
  · obtain ⟨f', m, q1, q2, q3⟩ := hS.2 _ f a
    rw [List.take_of_length_le (by omega)] at q3
    exact Open_snap hbel hd hΦ hKp ht M.size hL.size.1 hL.size.2 q1 (q3.trans b) (by omega) (fun x hx => by
      rcases List.mem_append.1 hx with hx | hx
      · exact enc_bytes _ x hx
      · exact hL.shot.2 x hx) (by
      rw [List.length_append]
      have h8 := enc_len9 (n := M.base) (by omega)
      have h9 := hL.shot.1
      omega) hlen p1 hn hrec hfb
/-- A log's own files, without a crash. -/
theorem LI.own_left (h : LI S M G st) : LeftOf S S := LeftOf.refl fun n f hf => by
  obtain ⟨hg, hn⟩ := findN_mem hf
  rcases h.other f hg with h6 | h6
  · have h7 : f.nm ∈ logsOf S := mem_logs.2 ⟨⟨f, hg, rfl⟩, h6⟩
    rw [h.names] at h7
    obtain ⟨x, hx, e2⟩ := List.mem_map.1 h7
    obtain ⟨f2, a, b, c⟩ := h.file x hx
    rw [e2, findN_some h.rise hg] at a
    cases a
    rw [c, b]
    have e : bytesR x.rs = bytesR (x.rs.take (M.synced + 1 - x.k)) ++ bytesR (x.rs.drop (M.synced + 1 - x.k)) := by rw [← bytesR_app, List.take_append_drop]
    rw [e, List.length_append]
    omega
  · have h7 := findN_some h.rise hg
    rw [h6] at h7
    rcases h.snap with ⟨a, _⟩ | ⟨f2, a, _, c⟩
    · rw [h7] at a
      cases a
    · rw [h7] at a
      cases a
      omega
end
end Go.Proofs.YtnomicnmpllajaaGreatDoor
end

section
namespace Go.Proofs.YtnomicnmpllajaaGreatDoor
open Go Go.RowKit

theorem usedN_mapIdx : ∀ (S : List RF) (f : Nat → RF → RF), (∀ i x, (f i x).b.length ≤ x.b.length) → usedN (S.mapIdx f) ≤ usedN S
  | [], _, _ => Nat.le_refl _
  | x :: S, f, h => by
    rw [List.mapIdx_cons, usedN_cons, usedN_cons]
    have h1 := usedN_mapIdx S (fun i => f (i + 1)) fun i y => h (i + 1) y
    have h2 := h 0 x
    omega
theorem usedN_crash (ks : List Int) (S : List RF) : usedN (crashF ks S) ≤ usedN S := usedN_mapIdx S _ fun i x => by
  show (x.b.take _).length ≤ _
  rw [List.length_take]
  omega
theorem Chg.of_kept {B : Nat} {Kp : Nat → Prop} {w W W' : World} (h1 : Below B w W) (h2 : Below B w W') (hK : Kept Kp W W') : Chg (fun k => ¬ Kp k) W W' :=
  ⟨h2.os.trans h1.os.symm, h2.tape.trans h1.tape.symm, h2.output.trans h1.output.symm, hK.2, fun k _ hn => hK.1 k (Classical.not_not.1 hn)⟩

/-- A log that is new since w, and keeps off the blocks of Kp: those of w are among these. -/
def LK (w : World) (Kp : Nat → Prop) (lb d : Nat) (R : Int) (S : List RF) (M : LogM) (W : World) : Prop :=
  (∃ V, WPair w Kp lb d R S M V W) ∧ (∀ k, Kp k → k < W.heap.size) ∧ ∀ k, k < w.heap.size → Kp k
/-- The same of a disk alone. -/
def DK (w : World) (Kp : Nat → Prop) (d : Nat) (R : Int) (S : List RF) (W : World) : Prop :=
  Below w.heap.size w W ∧ (∃ Φ, DiskAt W d R S Φ ∧ ∀ k, Φ k → w.heap.size ≤ k ∧ ¬ Kp k ∧ k < W.heap.size) ∧ (∀ k, Kp k → k < W.heap.size) ∧ ∀ k, k < w.heap.size → Kp k

section
variable {w W W' : World} {Kp Kp' : Nat → Prop} {lb d : Nat} {R : Int} {S S' : List RF} {M : LogM} {G : List SegR} {st : Nat}
theorem LK.below (h : LK w Kp lb d R S M W) : Below w.heap.size w W := by
  obtain ⟨⟨V, h⟩, _⟩ := h
  exact h.below
theorem LK.lw (h : LK w Kp lb d R S M W) : LW w lb d R S M W := by
  obtain ⟨⟨V, h⟩, _, h2⟩ := h
  exact ⟨V, h.keepK fun k _ hk => h2 k hk⟩
theorem LW.lk (h : LW w lb d R S M W) : LK w (fun k => k < w.heap.size) lb d R S M W := ⟨h, h.lt, fun _ hk => hk⟩
theorem LK.later (h : LK w Kp lb d R S M W) (hb : Below W.heap.size W W') : LK w Kp lb d R S M W' := by
  obtain ⟨⟨V, h⟩, h1, h2⟩ := h
  exact ⟨⟨V, h.later hb⟩, fun k hk => Nat.lt_of_lt_of_le (h1 k hk) hb.size, h2⟩
theorem LK.kept (h : LK w Kp lb d R S M W) (hb : Below W.heap.size W W') : Kept Kp W W' := Kept.of_below hb h.2.1
/-- What was made since is kept, too. -/
theorem LK.more (h : LK w Kp lb d R S M W) (hb : Below W.heap.size W W') : LK w (fun k => Kp k ∨ (W.heap.size ≤ k ∧ k < W'.heap.size)) lb d R S M W' := by
  obtain ⟨⟨V, h⟩, h1, h2⟩ := h
  refine ⟨⟨V, (h.keepK fun k h3 h4 => ?_).later hb⟩, fun k hk => ?_, fun k hk => .inl (h2 k hk)⟩
  · rcases h4 with h4 | h4
    · exact h4
    · omega
  · rcases hk with hk | hk
    · exact Nat.lt_of_lt_of_le (h1 k hk) hb.size
    · exact hk.2
theorem LK.less (h : LK w Kp lb d R S M W) (hK : ∀ k, Kp' k → Kp k) (h2 : ∀ k, k < w.heap.size → Kp' k) : LK w Kp' lb d R S M W := by
  obtain ⟨⟨V, h⟩, h1, _⟩ := h
  exact ⟨⟨V, h.keepK fun k _ hk => hK k hk⟩, fun k hk => h1 k (hK k hk), h2⟩
theorem LSaid.lk {r : Int} {e : Ending} (h : LSaid w Kp lb d R S' M r W e W') (h1 : ∀ k, Kp k → k < W.heap.size) (h2 : ∀ k, k < w.heap.size → Kp k) : e = .returned (.int .i64 r) ∧ LK w Kp lb d R S' M W' ∧ Kept Kp W W' := by
  obtain ⟨e1, h3⟩ := h
  obtain ⟨V, h4, h5⟩ := h3.out
  exact ⟨e1, ⟨⟨V, h4⟩, fun k hk => Nat.lt_of_lt_of_le (h1 k hk) h5.2, h2⟩, h5⟩
theorem LK.append (h : LK w Kp lb d R S M W) (hL : LI S M G st) (ht : Tab w) {A : Option Addr} {n c : Nat} {xs : List Int} (hr : Rd W W.heap.size .u8 A n c xs) (hA : ∀ a, A = some a → 0 < n → Kp a.block) (hx : ∀ x ∈ xs, 0 ≤ x ∧ x < 256) (hm : M.last + 1 < 900000) (hf : fitsA R S xs) :
    Calls Tryz.prog 24 #[.pointer (some ⟨lb, 0, none⟩), .slice A n c] W fun e w' => e = .returned (.int .i64 0) ∧ LK w Kp lb d R (stepA S M xs).1 (stepA S M xs).2 w' ∧ Kept Kp W w' := by
  obtain ⟨⟨V, h⟩, h1, h2⟩ := h
  exact (Append_li h hL h1 ht hr hx hA hm hf).mono fun e w' h3 => h3.lk h1 h2
theorem LK.append_no (h : LK w Kp lb d R S M W) (hL : LI S M G st) (ht : Tab w) {A : Option Addr} {n c : Nat} {xs : List Int} (hr : Rd W W.heap.size .u8 A n c xs) (hA : ∀ a, A = some a → 0 < n → Kp a.block) (hx : ∀ x ∈ xs, 0 ≤ x ∧ x < 256) (hm : M.last + 1 < 900000) (hf : ¬ fitsA R S xs) :
    Calls Tryz.prog 24 #[.pointer (some ⟨lb, 0, none⟩), .slice A n c] W fun e w' => e = .returned (.int .i64 5) ∧ LK w Kp lb d R S M w' ∧ Kept Kp W w' := by
  obtain ⟨⟨V, h⟩, h1, h2⟩ := h
  exact (Append_li_no h hL h1 ht hr hx hA hm hf).mono fun e w' h3 => h3.lk h1 h2
theorem LK.sync (h : LK w Kp lb d R S M W) (hL : LI S M G st) (ht : Tab w) : Calls Tryz.prog 25 #[.pointer (some ⟨lb, 0, none⟩)] W fun e w' => e = .returned (.int .i64 0) ∧ LK w Kp lb d R (stepS S M).1 (stepS S M).2 w' ∧ Kept Kp W w' := by
  obtain ⟨⟨V, h⟩, h1, h2⟩ := h
  exact (Sync_li h hL h1 ht).mono fun e w' h3 => h3.lk h1 h2
theorem LK.snap (h : LK w Kp lb d R S M W) (hL : LI S M G st) (ht : Tab w) {A : Option Addr} {n c : Nat} {xs : List Int} (hr : Rd W W.heap.size .u8 A n c xs) (hA : ∀ a, A = some a → 0 < n → Kp a.block) (hx : ∀ x ∈ xs, 0 ≤ x ∧ x < 256) {k : Nat} (hk1 : M.base ≤ k) (hk2 : k ≤ M.synced) (hf : fitsN R S k xs) :
    Calls Tryz.prog 29 #[.pointer (some ⟨lb, 0, none⟩), .int .i64 k, .slice A n c] W fun e w' => e = .returned (.int .i64 0) ∧ LK w Kp lb d R (stepP S M k xs).1 (stepP S M k xs).2 w' ∧ Kept Kp W w' := by
  obtain ⟨⟨V, h⟩, h1, h2⟩ := h
  exact (Snap_li h hL h1 ht hr hx hA hk1 hk2 hf).mono fun e w' h3 => h3.lk h1 h2
theorem LK.snap_no (h : LK w Kp lb d R S M W) (hL : LI S M G st) {A : Option Addr} {n c : Nat} {xs : List Int} (hr : Rd W W.heap.size .u8 A n c xs) (hx : ∀ x ∈ xs, 0 ≤ x ∧ x < 256) {k : Nat} (hk1 : M.base ≤ k) (hk2 : k ≤ M.synced) (hf : ¬ fitsN R S k xs) :
    Calls Tryz.prog 29 #[.pointer (some ⟨lb, 0, none⟩), .int .i64 k, .slice A n c] W fun e w' => e = .returned (.int .i64 5) ∧ LK w Kp lb d R S M w' ∧ Kept Kp W w' := by
  obtain ⟨⟨V, h⟩, h1, h2⟩ := h
  exact (Snap_li_no h hL h1 hr hx hk1 hk2 hf).mono fun e w' h3 => h3.lk h1 h2
theorem LK.snap_bad (h : LK w Kp lb d R S M W) (k : Int) (A : Option Addr) (n c : Nat) (hk : k < M.base ∨ (M.synced : Int) < k) :
    Calls Tryz.prog 29 #[.pointer (some ⟨lb, 0, none⟩), .int .i64 k, .slice A n c] W fun e w' => e = .returned (.int .i64 1) ∧ LK w Kp lb d R S M w' ∧ Kept Kp W w' := by
  obtain ⟨⟨V, h⟩, h1, h2⟩ := h
  exact (Snap_bad h h1 k A n c hk).mono fun e w' ⟨e1, h3, h4⟩ => ⟨e1, ⟨⟨V, h3⟩, fun k hk => Nat.lt_of_lt_of_le (h1 k hk) h4.2, h2⟩, h4⟩
theorem LK.cut (h : LK w Kp lb d R S M W) (hL : LI S M G st) (ht : Tab w) {k : Nat} (hk1 : M.base ≤ k) (hk2 : k ≤ M.last) :
    Calls Tryz.prog 30 #[.pointer (some ⟨lb, 0, none⟩), .int .i64 k] W fun e w' => e = .returned (.int .i64 0) ∧ Hid (∃ S' M', LK w Kp lb d R S' M' w' ∧ CutTo M k S M' S') ∧ Kept Kp W w' := by
  obtain ⟨⟨V, h⟩, h1, h2⟩ := h
  refine (Cut_li h hL h1 ht hk1 hk2).mono ?_
  rintro e w' ⟨e1, S', M', V', h3, h4, h5⟩
  exact ⟨e1, Lib.hid ⟨S', M', ⟨⟨V', h3⟩, fun k hk => Nat.lt_of_lt_of_le (h1 k hk) h4.2, h2⟩, h5⟩, h4⟩
theorem LK.cut_no (h : LK w Kp lb d R S M W) (hok : LogOk M) (k : Int) (hk : k < M.base ∨ (M.last : Int) < k) :
    Calls Tryz.prog 30 #[.pointer (some ⟨lb, 0, none⟩), .int .i64 k] W fun e w' => e = .returned (.int .i64 1) ∧ LK w Kp lb d R S M w' ∧ Kept Kp W w' := by
  obtain ⟨⟨V, h⟩, h1, h2⟩ := h
  exact (Cut_no h h1 hok k hk).mono fun e w' ⟨e1, h3, h4⟩ => ⟨e1, ⟨⟨V, h3⟩, fun k hk => Nat.lt_of_lt_of_le (h1 k hk) h4.2, h2⟩, h4⟩
/-- What memory says of the log. -/
def LogIs (w W : World) (lb d : Nat) (M : LogM) (Λ : Nat → Prop) : Prop := (∃ V, LogAt W lb d M V Λ) ∧ Below w.heap.size w W
theorem LK.log (h : LK w Kp lb d R S M W) : ∃ Λ, LogIs w W lb d M Λ ∧ DK w (fun k => Kp k ∨ Λ k) d R S W := by
  obtain ⟨⟨V, h⟩, h1, h2⟩ := h
  obtain ⟨Φ, Λ, hl, hd, ha, hK⟩ := h.ex
  refine ⟨Λ, ⟨⟨V, hl⟩, h.below⟩, h.below, ⟨Φ, hd, fun k hk => ⟨(hK k (.inl hk)).1, fun h3 => ?_, (hK k (.inl hk)).2.2⟩⟩, fun k hk => ?_, fun k hk => .inl (h2 k hk)⟩
  · rcases h3 with h3 | h3
    · exact (hK k (.inl hk)).2.1 h3
    · exact ha k hk h3
  · rcases hk with hk | hk
    · exact h1 k hk
    · exact (hK k (.inr hk)).2.2
theorem LK.dk (h : LK w Kp lb d R S M W) : DK w Kp d R S W := by
  obtain ⟨⟨V, h⟩, h1, h2⟩ := h
  obtain ⟨Φ, Λ, hl, hd, ha, hK⟩ := h.ex
  exact ⟨h.below, ⟨Φ, hd, fun k hk => hK k (.inl hk)⟩, h1, h2⟩
theorem DK.later (h : DK w Kp d R S W) (hb : Below W.heap.size W W') : DK w Kp d R S W' := by
  obtain ⟨h1, ⟨Φ, h2, h3⟩, h4, h5⟩ := h
  exact ⟨h1.trans (hb.mono h1.size), ⟨Φ, h2.later hb, fun k hk => ⟨(h3 k hk).1, (h3 k hk).2.1, Nat.lt_of_lt_of_le (h3 k hk).2.2 hb.size⟩⟩, fun k hk => Nat.lt_of_lt_of_le (h4 k hk) hb.size, h5⟩
theorem LogIs.kept {Λ : Nat → Prop} (h : LogIs w W lb d M Λ) (hK : Kept Kp W W') (hΛ : ∀ k, Λ k → Kp k) (hb : Below w.heap.size w W') : LogIs w W' lb d M Λ := by
  obtain ⟨⟨V, h1⟩, h2⟩ := h
  exact ⟨⟨V, h1.keep (Chg.of_kept h2 hb hK) fun k hk h3 => h3 (hΛ k hk)⟩, hb⟩
theorem LogIs.later {Λ : Nat → Prop} (h : LogIs w W lb d M Λ) (hb : Below W.heap.size W W') : LogIs w W' lb d M Λ := by
  obtain ⟨⟨V, h1⟩, h2⟩ := h
  exact ⟨⟨V, h1.later hb⟩, h2.trans (hb.mono h2.size)⟩
theorem LogIs.base_ {Λ : Nat → Prop} (h : LogIs w W lb d M Λ) : Calls Tryz.prog 23 #[.pointer (some ⟨lb, 0, none⟩)] W fun e w' => e = .returned (.int .i64 M.base) ∧ W = w' := by
  obtain ⟨⟨V, h⟩, _⟩ := h
  exact Base_any h
theorem LogIs.synced_ {Λ : Nat → Prop} (h : LogIs w W lb d M Λ) : Calls Tryz.prog 19 #[.pointer (some ⟨lb, 0, none⟩)] W fun e w' => e = .returned (.int .i64 M.synced) ∧ W = w' := by
  obtain ⟨⟨V, h⟩, _⟩ := h
  exact Synced_any h
theorem LogIs.last_ {Λ : Nat → Prop} (h : LogIs w W lb d M Λ) (hk : LogOk M) : Calls Tryz.prog 21 #[.pointer (some ⟨lb, 0, none⟩)] W fun e w' => e = .returned (.int .i64 M.last) ∧ ∃ q, w' = W.drewN q := by
  obtain ⟨⟨V, h⟩, _⟩ := h
  exact Last_any h hk
/-- What Get tells. -/
def GotIs (M : LogM) (k : Int) (W : World) (e : Ending) (w' : World) : Prop :=
  Below W.heap.size W w' ∧ ((¬ ((M.base : Int) < k ∧ k ≤ M.last) ∧ e = .returned (.tuple #[.slice none 0 0, .bool false])) ∨
    ∃ (j : Nat) (xs : List Int) (A : Option Addr) (c : Nat), k = M.base + j + 1 ∧ M.recs[j]? = some xs ∧ e = .returned (.tuple #[.slice A xs.length c, .bool true]) ∧ Rd w' w'.heap.size .u8 A xs.length c xs)
theorem LogIs.get {Λ : Nat → Prop} (h : LogIs w W lb d M Λ) (hk : LogOk M) (k : Int) : Calls Tryz.prog 26 #[.pointer (some ⟨lb, 0, none⟩), .int .i64 k] W (GotIs M k W) := by
  obtain ⟨⟨V, h⟩, _⟩ := h
  refine (Get_any h hk k).mono ?_
  rintro e w' (⟨hn, rfl, hb⟩ | ⟨j, xs, v, h1, h2, rfl, h3, hb⟩)
  · exact ⟨hb, .inl ⟨hn, rfl⟩⟩
  · obtain ⟨A, c, rfl, hrd⟩ := Rd.of_own h3
    exact ⟨hb, .inr ⟨j, xs, A, c, h1, h2, rfl, hrd⟩⟩
theorem LogIs.shot {Λ : Nat → Prop} (h : LogIs w W lb d M Λ) : Calls Tryz.prog 39 #[.pointer (some ⟨lb, 0, none⟩)] W fun e w' => ∃ A c, e = .returned (.slice A M.shot.length c) ∧ Below W.heap.size W w' ∧ Hid (Rd w' w'.heap.size .u8 A M.shot.length c M.shot) := by
  obtain ⟨⟨V, h⟩, _⟩ := h
  refine (Snapshot_any h).mono ?_
  rintro e w' ⟨v, rfl, h3, hb⟩
  obtain ⟨A, c, rfl, hrd⟩ := Rd.of_own h3
  exact ⟨A, c, rfl, hb, Lib.hid hrd⟩
theorem DK.used_ (h : DK w Kp d R S W) : Calls Tryz.prog 28 #[.pointer (some ⟨d, 0, none⟩)] W fun e w' => e = .returned (.int .i64 (usedN S)) ∧ W = w' := by
  obtain ⟨_, ⟨Φ, h, _⟩, _⟩ := h
  exact Used_any h
theorem DK.crash (h : DK w Kp d R S W) (hS : S.length ≤ 1000000) {A : Option Addr} {n c : Nat} {ks : List Int} (hr : Rd W W.heap.size .i64 A n c ks) (hA : ∀ a, A = some a → 0 < n → Kp a.block) (hks : ∀ z ∈ ks, -9223372036854775808 ≤ z ∧ z ≤ 9223372036854775807) :
    Calls Tryz.prog 20 #[.pointer (some ⟨d, 0, none⟩), .slice A n c] W fun e w' => e = .returned (.tuple #[]) ∧ DK w Kp d R (crashF ks S) w' ∧ Kept Kp W w' := by
  obtain ⟨hb, ⟨Φ, hd, hΦ⟩, h1, h2⟩ := h
  have hbs := hb.size
  refine (Crash_any hd A n c ks hr (fun b o e hn hp => (hΦ b hp).2.1 (hA _ e hn)) hks hS).mono ?_
  rintro e w' ⟨rfl, hc, hd'⟩
  have hcs := hc.size
  refine ⟨rfl, ⟨hb.trans (hc.below (by omega) fun k hk => (hΦ k hk).1), ⟨fun i => grow Φ W w' i ∧ i < w'.heap.size, hd'.mono fun i hi h3 => ⟨h3, hi⟩, fun k hk => ?_⟩, fun k hk => Nat.lt_of_lt_of_le (h1 k hk) hcs, h2⟩, fun k hk => hc.block k (h1 k hk) fun h3 => (hΦ k h3).2.1 hk, hcs⟩
  obtain ⟨hk1, hk2⟩ := hk
  rcases hk1 with hk1 | hk1
  · exact ⟨(hΦ k hk1).1, (hΦ k hk1).2.1, hk2⟩
  · exact ⟨by omega, fun h3 => by have := h1 k h3; omega, hk2⟩
theorem DK.opened (h : DK w Kp d R S' W) (hL : LI S M G st) (hS : LeftOf S S') (ht : Tab w) :
    ∃ S2 M2 G2 t, LI S2 M2 G2 st ∧ M2.size = M.size ∧ M2.base = M.base ∧ M2.shot = M.shot ∧ M2.synced = M2.last ∧ M.synced ≤ M.base + t ∧ t ≤ M.recs.length ∧ M2.recs = M.recs.take t ∧ usedN S2 ≤ usedN S' ∧
      Calls Tryz.prog 15 #[.pointer (some ⟨d, 0, none⟩), .int .i64 M.size] W fun e w' => ∃ lb, e = .returned (.tuple #[.pointer (some ⟨lb, 0, none⟩), .nilIface]) ∧ LK w Kp lb d R S2 M2 w' ∧ Kept Kp W w' := by
  obtain ⟨hb, ⟨Φ, hd, hΦ⟩, h1, h2⟩ := h
  obtain ⟨S2, M2, G2, t, p1, p2, p3, p4, p5, p6, p7, p8, p9, p10⟩ := Open_li hb hd hΦ hL hS h1 ht
  refine ⟨S2, M2, G2, t, p1, p2, p3, p4, p5, p6, p7, p8, p9, p10.mono ?_⟩
  rintro e w' ⟨lb, rfl, hV⟩
  obtain ⟨V', h3, h4⟩ := hV.out
  exact ⟨lb, rfl, ⟨⟨V', h3⟩, fun k hk => Nat.lt_of_lt_of_le (h1 k hk) h4.2, h2⟩, h4⟩
end
end Go.Proofs.YtnomicnmpllajaaGreatDoor
end

section
namespace Go.Proofs.YtnomicnmpllajaaGreatDoor
open Go Go.RowKit

def segStep (n : Nat) (f : RF) : Nat := if f.nm.length = 11 ∧ isLog f.nm = true then f.b.length else n
def segLen (S : List RF) : Nat := S.foldl segStep 0

theorem disk_rise {w : World} {d : Nat} {R : Int} {S : List RF} {Φ : Nat → Prop} (h : DiskAt w d R S Φ) : Rising RF.nm S := by
  obtain ⟨m, L, rfl, hD⟩ := h
  exact hD.srt.map (g := Fil.f) fil_name
set_option maxHeartbeats 1600000 in
set_option maxRecDepth 100000 in
theorem segment_any {w : World} {d : Nat} {R : Int} {S : List RF} {Φ : Nat → Prop} (h : DiskAt w d R S Φ) (hL : S.length ≤ 1000000) (hn : ∀ f ∈ S, f.nm.length ≤ 1000) (hf : ∀ f ∈ S, f.b.length ≤ 1000000) :
    Calls Tryz.prog 49 #[.pointer (some ⟨d, 0, none⟩)] w fun e w' => e = .returned (.int .i64 (segLen S)) ∧ Below w.heap.size w w' := by
  have HNM := Lib.hid (Names_any h hL)
  have HD := Lib.hid h
  clear h
  go_enter Tryz.func49, Tryz.ntmps49
  go_wp2_with (go_at_call 40; refine HNM.out.mono ?_; rintro e w1 ⟨A, c, rfl, ho, hb⟩; have HO := Lib.hid ho; have HB := Lib.hid hb; clear ho hb)
  go_loopw [3, 5, 11] (fun t _ i wr => ∃ j N : Nat, i = .int .i64 j ∧ t = .int .i64 N ∧ j ≤ S.length ∧ Hid (N = segLen (S.take j)) ∧ Hid (Below w1.heap.size w1 wr)) (fun _ _ i _ => S.length - (intOf i).toNat)
  case atStart => exact ⟨0, 0, rfl, rfl, Nat.zero_le _, Lib.hid rfl, Lib.hid (Below.refl _ _)⟩
  case round =>
    obtain ⟨j, N, rfl, rfl, hj, HN, HBR⟩ := hrel
    by_cases hjn : j < S.length
    · obtain ⟨f, hfj⟩ : ∃ f, S[j]? = some f := ⟨_, List.getElem?_eq_getElem hjn⟩
      have hfm := List.mem_of_getElem? hfj
      have hnl := hn f hfm
      have hfl := hf f hfm
      obtain ⟨g, rfl, _, hgl, hcell, hsc⟩ := own_at HO.out (show (S.map fun f => nameV f.nm)[j]? = some (nameV f.nm) by rw [List.getElem?_map, hfj]; rfl)
      obtain ⟨bs, hbs, hbl⟩ : ∃ bs : ByteArray, nameV f.nm = .string bs ∧ bs.data.toList = f.nm := ⟨⟨f.nm.toArray⟩, rfl, by simp⟩
      have hsz : bs.size = f.nm.length := by rw [← hbl]; simp
      rw [hbs] at hcell
      have e0 : wr.cell? ⟨g, j, none⟩ = some (.string bs) := (HBR.out.cell (p := ⟨g, j, none⟩) hgl).trans hcell
      have hj' : (j : Int) < S.length := by omega
      have w1 : IntKind.i64.wrap ((j : Int) + 1) = (j : Int) + 1 := IntWalk.i64_in _ (by omega)
      have hbsm : bs.size ≤ maxLen := by unfold maxLen; omega
      have hst : Hid (∀ k, k = segStep N f → k = segLen (S.take (j + 1))) := Lib.hid fun k hk => by
        unfold segLen at *
        rw [hk, List.take_add_one, hfj, List.foldl_append, ← HN.out]
        rfl
      have htk : (bs.extract 0 3).toList = f.nm.take 3 := by rw [ByteArray.toList_eq, take3, hbl]
      by_cases h11 : bs.size = 11
      · have d11 : decide ((bs.size : Int) = 11) = true := decide_eq_true (by omega)
        have h3 : (3 : Int) ≤ bs.size := by omega
        cases hlog : isLog f.nm with
        | true =>
          have e3 : ((bs.extract 0 3).toList == [108, 111, 103]) = true := by rw [htk]; exact hlog
          have HST : Hid (f.b.length = segLen (S.take (j + 1))) := Lib.hid (hst.out _ (by unfold segStep; rw [if_pos ⟨by omega, hlog⟩]))
          have hb2 := HB.out.trans (HBR.out.mono HB.out.size)
          have hD2 := HD.out.later hb2
          have hfind := findN_some (disk_rise hD2) hfm
          have HRD := Lib.hid (Read_any hD2 bs hbsm)
          rw [hbl] at HRD
          have HFI := Lib.hid hfind
          clear hcell hb2 hD2 hfind hst hbs htk
          go_wp2_with (go_at_call 41; refine HRD.out.mono ?_; rintro e w3 ⟨hb3, ⟨hno, _⟩ | ⟨f', A', c', hf', rfl, ho'⟩⟩; first | (exfalso; rw [HFI.out] at hno; cases hno) | skip)
          go_roundw
          case rel =>
            have e4 := HFI.out
            rw [hf'] at e4
            cases e4
            exact ⟨j + 1, f.b.length, by go_num, rfl, by omega, HST, Lib.hid (HBR.out.trans (hb3.mono HBR.out.size))⟩
          case measure => simp [intOf]; omega
        | false =>
          have e3 : ((bs.extract 0 3).toList == [108, 111, 103]) = false := by rw [htk]; exact hlog
          have HST : Hid (N = segLen (S.take (j + 1))) := Lib.hid (hst.out _ (by unfold segStep; rw [if_neg (by rw [hlog]; simp)]))
          clear hcell hst hbs htk
          go_wp2_with fail
          go_roundw
          case rel => exact ⟨j + 1, N, by go_num, rfl, by omega, HST, HBR⟩
          case measure => simp [intOf]; omega
      · have d11 : decide ((bs.size : Int) = 11) = false := decide_eq_false (by omega)
        have HST : Hid (N = segLen (S.take (j + 1))) := Lib.hid (hst.out _ (by unfold segStep; rw [if_neg (by omega)]))
        clear hcell hst hbs htk
        go_wp2_with fail
        go_roundw
        case rel => exact ⟨j + 1, N, by go_num, rfl, by omega, HST, HBR⟩
        case measure => simp [intOf]; omega
    · obtain rfl : j = S.length := by omega
      have e5 := HN.out
      rw [List.take_length] at e5
      subst e5
      go_wp2_with fail
      go_ret
      exact ⟨rfl, HB.out.trans (HBR.out.mono HB.out.size)⟩
section
variable {S : List RF} {M : LogM} {G : List SegR} {st : Nat}
/-- The bytes of a log's last segment. -/
def seg0 (M : LogM) : Nat := match M.segs.getLast? with | none => 0 | some s => s.2
theorem seg_fold : ∀ (S : List RF) (n : Nat), (∀ f ∈ S, isLog f.nm = true → f.nm.length = 11) → S.foldl segStep n = match (S.filter fun f => isLog f.nm).getLast? with | none => n | some f => f.b.length
  | [], _, _ => rfl
  | f :: S, n, h => by
    rw [List.foldl_cons, seg_fold S _ fun x hx => h x (List.mem_cons_of_mem _ hx), List.filter_cons]
    by_cases c : isLog f.nm = true
    · rw [if_pos c, List.getLast?_cons]
      unfold segStep
      rw [if_pos ⟨h f (List.mem_cons_self ..) c, c⟩]
      cases (S.filter fun f => isLog f.nm).getLast? <;> rfl
    · rw [if_neg c]
      unfold segStep
      rw [if_neg fun e => c e.2]
theorem LI.log_len (h : LI S M G st) : ∀ f ∈ S, isLog f.nm = true → f.nm.length = 11 := fun f hf hl => by
  have h1 : f.nm ∈ logsOf S := mem_logs.2 ⟨⟨f, hf, rfl⟩, hl⟩
  rw [h.names] at h1
  obtain ⟨x, hx, e⟩ := List.mem_map.1 h1
  rw [← e]
  exact segName_len _
/-- What 'segment' tells of a log's own files. -/
theorem LI.segLen (h : LI S M G st) : Proofs.YtnomicnmpllajaaGreatDoor.segLen S = seg0 M := by
  unfold Proofs.YtnomicnmpllajaaGreatDoor.segLen seg0
  rw [seg_fold S 0 h.log_len]
  have hn : (S.filter fun f => isLog f.nm).map RF.nm = G.map fun g => segName g.k := by
    rw [← h.names]
    unfold logsOf
    rw [List.filter_map]
    rfl
  rcases List.eq_nil_or_concat G with rfl | ⟨G0, g, rfl⟩
  · have e : M.segs.getLast? = none := by rw [h.segs]; rfl
    have e2 : (S.filter fun f => isLog f.nm) = [] := List.map_eq_nil_iff.1 hn
    rw [e, e2]
    rfl
  · rw [List.concat_eq_append] at h hn
    have e : M.segs.getLast? = some (g.k, (bytesR g.rs).length) := by rw [h.segs, segsR_last]
    have hg : g ∈ G0 ++ [g] := List.mem_append.2 (.inr (List.mem_singleton.2 rfl))
    obtain ⟨f, hf, hb, _⟩ := h.file g hg
    have e2 : ((S.filter fun f => isLog f.nm).getLast?).map RF.nm = some (segName g.k) := by
      rw [← List.getLast?_map, hn]
      simp
    obtain ⟨f', h1, h2⟩ := Option.map_eq_some_iff.1 e2
    have h3 := findN_some h.rise (List.mem_filter.1 (List.mem_of_getLast? h1)).1
    rw [h2, hf] at h3
    cases h3
    rw [e, h1]
    simp only
    rw [hb]
theorem LI.name_len (h : LI S M G st) : ∀ f ∈ S, f.nm.length ≤ 1000 := fun f hf => by
  rcases h.other f hf with h1 | h1
  · rw [h.log_len f hf h1]
    decide
  · rw [h1]
    decide
end
end Go.Proofs.YtnomicnmpllajaaGreatDoor
end

section
namespace Go.Proofs.YtnomicnmpllajaaGreatDoor
open Go Go.RowKit

/-- A slice value that reads as a list of slices of bytes. -/
structure RdS (w : World) (B : Nat) (A : Option Addr) (n c : Nat) (l : List Part) : Prop where
  len : l.length = n
  cap : n ≤ c
  max : c ≤ maxLen
  place : ∀ j p, l[j]? = some p → ∃ b o, A = some ⟨b, o, none⟩ ∧ b < B ∧ w.cell? ⟨b, o + j, none⟩ = some p.val
  ok : ∀ p ∈ l, p.ok w B
theorem RdS.below {w w' : World} {B : Nat} {A : Option Addr} {n c : Nat} {l : List Part} (h : RdS w B A n c l) (hb : Below B w w') : RdS w' B A n c l :=
  ⟨h.len, h.cap, h.max, fun j p hp => by
    obtain ⟨b, o, e, hB, hc⟩ := h.place j p hp
    exact ⟨b, o, e, hB, (hb.cell (p := ⟨b, o + j, none⟩) hB).trans hc⟩, fun p hp => ⟨(h.ok p hp).1.below hb, (h.ok p hp).2⟩⟩
theorem RdS.at {w : World} {B : Nat} {A : Option Addr} {n c : Nat} {l : List Part} (h : RdS w B A n c l) {j : Nat} (hj : j < n) : ∃ p b o, l[j]? = some p ∧ p ∈ l ∧ A = some ⟨b, o, none⟩ ∧ b < B ∧ w.cell? ⟨b, o + j, none⟩ = some p.val := by
  have hl : j < l.length := by rw [h.len]; exact hj
  obtain ⟨b, o, e, hB, hc⟩ := h.place j l[j] (List.getElem?_eq_getElem hl)
  exact ⟨l[j], b, o, List.getElem?_eq_getElem hl, List.getElem_mem hl, e, hB, hc⟩

/-- What came in as a slice of slices reads as a list of parts. -/
theorem RdS.of_rows {w : World} {a : Option Addr} {len cap : Nat}
    (h : (a = none ∧ len = 0 ∧ cap = 0) ∨ ∃ x, ∃ (A : Nat → Option Addr) (L C : Nat → Nat) (Z : Nat → List Int), a = some x ∧ len ≤ cap ∧ cap ≤ maxLen ∧ ∀ r, r < cap → w.cell? (x.add r) = some (.slice (A r) (L r) (C r)) ∧ L r ≤ C r ∧ C r ≤ maxLen ∧ (Z r).length = C r ∧
      (∀ n ∈ Z r, (Lit.int .u8 n).wf = true) ∧ (A r = none → C r = 0) ∧ ∀ a', A r = some a' → ∀ c, c < C r → w.cell? (a'.add c) = some (.int .u8 ((Z r).getD c 0))) : ∃ l, RdS w w.heap.size a len cap l := by
  rcases h with ⟨rfl, rfl, rfl⟩ | ⟨x, A, L, C, Z, rfl, hl, hm, hall⟩
  · exact ⟨[], rfl, Nat.le_refl _, Nat.zero_le _, fun j p hp => by simp at hp, fun p hp => by cases hp⟩
  · refine ⟨(List.range len).map fun r => ⟨A r, L r, C r, (Z r).take (L r)⟩, by simp, hl, hm, fun j p hp => ?_, fun p hp => ?_⟩
    · rw [List.getElem?_map] at hp
      obtain ⟨r, hr, rfl⟩ := Option.map_eq_some_iff.1 hp
      have hj : j < len := by
        have := (List.getElem?_eq_some_iff.1 hr).1
        simpa using this
      obtain rfl : j = r := by
        rw [List.getElem?_range hj] at hr
        exact Option.some.inj hr
      have h1 := (hall j (by omega)).1
      obtain ⟨b, o, spot⟩ := x
      have hspot : spot = none := by simpa [Addr.add] using World.cell?_spot (hall 0 (by omega)).1
      subst hspot
      rw [Addr.add_lit] at h1
      exact ⟨b, o, rfl, World.block_lt_of_cell? w _ h1, h1⟩
    · obtain ⟨r, hr, rfl⟩ := List.mem_map.1 hp
      have hr' : r < len := by simpa using hr
      obtain ⟨_, q2, q3, q4, q5, q6, q7⟩ := hall r (by omega)
      have hrow := Rd.of_row (w := w) (k := .u8) (a := A r) (len := L r) (cap := C r) (zs := Z r) (by
        rcases hA : A r with _ | a'
        · have := q6 hA
          exact .inl ⟨rfl, by omega, this, List.eq_nil_of_length_eq_zero (by omega)⟩
        · exact .inr ⟨a', rfl, q2, q3, q4, fun i hi => q7 a' hA i (by omega), q5⟩)
      exact ⟨hrow.1, wf_bytes hrow.2⟩

end Go.Proofs.YtnomicnmpllajaaGreatDoor
end

section
namespace Go.Proofs.YtnomicnmpllajaaGreatDoor
open Go Go.RowKit Go.Maps

/-- The cells of the document's log. -/
def bl (base : Int) (vT vL : Value) (syn size bytes here : Int) : Array Value := #[.int .i64 base, vT, vL, .int .i64 syn, .int .i64 size, .int .i64 bytes, .int .i64 here]
def rlv (base : Int) (vT vL : Value) (syn size bytes here : Int) : Value := .agg #[.int .i64 base, vT, vL, .int .i64 syn, .int .i64 size, .int .i64 bytes, .int .i64 here]
section
variable {w : World} {b : Nat} {base : Int} {vT vL : Value} {syn size bytes here : Int} {t : TypeId}
theorem bl_cells (h : w.heap[b]? = some (.cells (bl base vT vL syn size bytes here) t (0, 0))) : w.cell? ⟨b, 0, none⟩ = some (.int .i64 base) ∧ w.cell? ⟨b, 1, none⟩ = some vT ∧ w.cell? ⟨b, 2, none⟩ = some vL ∧ w.cell? ⟨b, 3, none⟩ = some (.int .i64 syn) ∧ w.cell? ⟨b, 4, none⟩ = some (.int .i64 size) ∧ w.cell? ⟨b, 5, none⟩ = some (.int .i64 bytes) ∧ w.cell? ⟨b, 6, none⟩ = some (.int .i64 here) ∧ ∀ i : Nat, i < 7 → w.frozen? ⟨b, i, none⟩ = false := by
  unfold bl at h
  refine ⟨?_, ?_, ?_, ?_, ?_, ?_, ?_, fun i hi => ?_⟩ <;> simp [World.cell?, World.frozen?, h]
theorem bl_set0 (h : w.heap[b]? = some (.cells (bl base vT vL syn size bytes here) t (0, 0))) (u : Int) : (w.setCell ⟨b, 0, none⟩ (.int .i64 u)).heap[b]? = some (.cells (bl u vT vL syn size bytes here) t (0, 0)) := heap_setCell_same h 0 _
theorem bl_set1 (h : w.heap[b]? = some (.cells (bl base vT vL syn size bytes here) t (0, 0))) (u : Value) : (w.setCell ⟨b, 1, none⟩ u).heap[b]? = some (.cells (bl base u vL syn size bytes here) t (0, 0)) := heap_setCell_same h 1 _
theorem bl_set2 (h : w.heap[b]? = some (.cells (bl base vT vL syn size bytes here) t (0, 0))) (u : Value) : (w.setCell ⟨b, 2, none⟩ u).heap[b]? = some (.cells (bl base vT u syn size bytes here) t (0, 0)) := heap_setCell_same h 2 _
theorem bl_set3 (h : w.heap[b]? = some (.cells (bl base vT vL syn size bytes here) t (0, 0))) (u : Int) : (w.setCell ⟨b, 3, none⟩ (.int .i64 u)).heap[b]? = some (.cells (bl base vT vL u size bytes here) t (0, 0)) := heap_setCell_same h 3 _
theorem bl_set4 (h : w.heap[b]? = some (.cells (bl base vT vL syn size bytes here) t (0, 0))) (u : Int) : (w.setCell ⟨b, 4, none⟩ (.int .i64 u)).heap[b]? = some (.cells (bl base vT vL syn u bytes here) t (0, 0)) := heap_setCell_same h 4 _
theorem bl_set5 (h : w.heap[b]? = some (.cells (bl base vT vL syn size bytes here) t (0, 0))) (u : Int) : (w.setCell ⟨b, 5, none⟩ (.int .i64 u)).heap[b]? = some (.cells (bl base vT vL syn size u here) t (0, 0)) := heap_setCell_same h 5 _
theorem bl_set6 (h : w.heap[b]? = some (.cells (bl base vT vL syn size bytes here) t (0, 0))) (u : Int) : (w.setCell ⟨b, 6, none⟩ (.int .i64 u)).heap[b]? = some (.cells (bl base vT vL syn size bytes u) t (0, 0)) := heap_setCell_same h 6 _
end
/-- What the document's log says: the snapshot's number and bytes, the records, how many are synced, a segment's size, the last one's bytes. -/
structure RefM where
  base : Nat
  shot : List Int
  recs : List (List Int)
  syn : Nat
  size : Nat
  bytes : Nat
def RefM.last (r : RefM) : Nat := r.base + r.recs.length
/-- Bytes in blocks of which P speaks. -/
structure RowP (w : World) (P : Nat → Prop) (A : Option Addr) (n c : Nat) (xs : List Int) : Prop where
  rd : Rd w w.heap.size .u8 A n c xs
  off : ∀ a, A = some a → 0 < n → P a.block
  byt : ∀ x ∈ xs, 0 ≤ x ∧ x < 256
structure RowsP (w : World) (P : Nat → Prop) (A : Option Addr) (n c : Nat) (l : List Part) : Prop where
  len : l.length = n
  cap : n ≤ c
  max : c ≤ maxLen
  nil : A = none → c = 0
  place : ∀ j p, l[j]? = some p → ∃ b o, A = some ⟨b, o, none⟩ ∧ b < w.heap.size ∧ P b ∧ w.cell? ⟨b, o + j, none⟩ = some p.val
  spot : ∀ a, A = some a → a.spot = none
  ok : ∀ p ∈ l, RowP w P p.adr p.len p.cap p.all
/-- A value says a log of the document's. -/
def RefIs (w : World) (P : Nat → Prop) (r : RefM) (v : Value) : Prop :=
  ∃ (tA : Option Addr) (tc : Nat) (rA : Option Addr) (rc : Nat) (l : List Part), v = rlv r.base (.slice tA r.shot.length tc) (.slice rA r.recs.length rc) r.syn r.size r.bytes 0 ∧ RowP w P tA r.shot.length tc r.shot ∧ RowsP w P rA r.recs.length rc l ∧ l.map Part.all = r.recs
section
variable {w w' : World} {P Q : Nat → Prop} {A : Option Addr} {n c : Nat} {xs : List Int} {l : List Part} {r : RefM} {v : Value}
theorem RowP.keep (h : RowP w P A n c xs) (hs : w.heap.size ≤ w'.heap.size) (hk : ∀ k, k < w.heap.size → P k → w'.heap[k]? = w.heap[k]? ∧ Q k) : RowP w' Q A n c xs :=
  ⟨⟨h.rd.len, h.rd.cap, h.rd.max, h.rd.nil, fun j u hu => by
    obtain ⟨b, o, e, hb, hc⟩ := h.rd.place j u hu
    have hn : 0 < n := by
      have := (List.getElem?_eq_some_iff.1 hu).1
      have := h.rd.len
      omega
    have hP := h.off _ e hn
    exact ⟨b, o, e, Nat.lt_of_lt_of_le hb hs, by rw [World.cell?_of_block (hk b hb hP).1]; exact hc⟩⟩,
   fun a e hn => by
    obtain ⟨b', o', e', hb', _⟩ := h.rd.cell (j := 0) hn
    have hP := h.off a e hn
    rw [e] at e'
    cases e'
    exact (hk b' hb' hP).2, h.byt⟩
theorem RowsP.keep (h : RowsP w P A n c l) (hs : w.heap.size ≤ w'.heap.size) (hk : ∀ k, k < w.heap.size → P k → w'.heap[k]? = w.heap[k]? ∧ Q k) : RowsP w' Q A n c l :=
  ⟨h.len, h.cap, h.max, h.nil, fun j p hp => by
    obtain ⟨b, o, e, hb, hP, hc⟩ := h.place j p hp
    exact ⟨b, o, e, Nat.lt_of_lt_of_le hb hs, (hk b hb hP).2, by rw [World.cell?_of_block (hk b hb hP).1]; exact hc⟩, h.spot, fun p hp => (h.ok p hp).keep hs hk⟩
theorem RefIs.keep (h : RefIs w P r v) (hs : w.heap.size ≤ w'.heap.size) (hk : ∀ k, k < w.heap.size → P k → w'.heap[k]? = w.heap[k]? ∧ Q k) : RefIs w' Q r v := by
  obtain ⟨tA, tc, rA, rc, l, h1, h2, h3, h4⟩ := h
  exact ⟨tA, tc, rA, rc, l, h1, h2.keep hs hk, h3.keep hs hk, h4⟩
theorem RefIs.below (h : RefIs w P r v) (hb : Below w.heap.size w w') : RefIs w' P r v := h.keep hb.size fun k hk hP => ⟨hb.block k hk, hP⟩
end

set_option maxHeartbeats 400000 in
theorem RLast_any {base : Int} {vT : Value} {syn size bytes here : Int} {A : Option Addr} {n c : Nat} (hb : 0 ≤ base ∧ base ≤ 1000000000) (hn : n ≤ 1000000000) (w : World) : Calls Tryz.prog 22 #[rlv base vT (.slice A n c) syn size bytes here] w fun e w' => e = .returned (.int .i64 (base + n)) ∧ Below w.heap.size w w' := by
  have hw : IntKind.i64.wrap (base + (n : Int)) = base + (n : Int) := IntWalk.i64_in _ (by omega)
  unfold rlv
  go_enter Tryz.func22, Tryz.ntmps22
  go_wp2_with fail
  go_ret
  exact ⟨rfl, (Below.refl _ _).alloc (Nat.le_refl _) _⟩
/-- The two blocks with which a call of the document's begins: the log that came, and room for the one that goes. -/
def boxedL (w : World) (base : Int) (vT vL : Value) (syn size bytes here : Int) : World := (w.alloc (.cells (bl base vT vL syn size bytes here) 36)).alloc (.cells (bl 0 (.slice none 0 0) (.slice none 0 0) 0 0 0 0) 36)
theorem boxedL_facts (w : World) (base : Int) (vT vL : Value) (syn size bytes here : Int) : Below w.heap.size w (boxedL w base vT vL syn size bytes here) ∧ (boxedL w base vT vL syn size bytes here).heap[w.heap.size]? = some (.cells (bl base vT vL syn size bytes here) 36 (0, 0)) ∧ (boxedL w base vT vL syn size bytes here).heap[w.heap.size + 1]? = some (.cells (bl 0 (.slice none 0 0) (.slice none 0 0) 0 0 0 0) 36 (0, 0)) ∧ (boxedL w base vT vL syn size bytes here).heap.size = w.heap.size + 2 := by
  have hs : (w.alloc (.cells (bl base vT vL syn size bytes here) 36)).heap.size = w.heap.size + 1 := by simp
  have h1 := heap_alloc_new w (.cells (bl base vT vL syn size bytes here) 36)
  have h2 := heap_alloc_new (w.alloc (.cells (bl base vT vL syn size bytes here) 36)) (.cells (bl 0 (.slice none 0 0) (.slice none 0 0) 0 0 0 0) 36)
  rw [hs] at h2
  unfold boxedL
  refine ⟨((Below.refl _ _).alloc (Nat.le_refl _) _).alloc (by simp) _, ?_, h2, by simp⟩
  exact (((Below.refl (w.heap.size + 1) _).alloc (Nat.le_of_eq hs.symm) _).block _ (Nat.lt_succ_self _)).trans h1
/-- The block of the result, written. -/
def storedL (w : World) (b : Nat) (base : Int) (vT vL : Value) (syn size bytes here : Int) : World := ((((((w.setCell ⟨b, 0, none⟩ (.int .i64 base)).setCell ⟨b, 1, none⟩ vT).setCell ⟨b, 2, none⟩ vL).setCell ⟨b, 3, none⟩ (.int .i64 syn)).setCell ⟨b, 4, none⟩ (.int .i64 size)).setCell ⟨b, 5, none⟩ (.int .i64 bytes)).setCell ⟨b, 6, none⟩ (.int .i64 here)
theorem storedL_below {w0 w : World} {B b : Nat} {base : Int} {vT vL : Value} {syn size bytes here : Int} (h : Below B w0 w) (hb : B ≤ b) : Below B w0 (storedL w b base vT vL syn size bytes here) := by
  unfold storedL
  exact ((((((h.setCell hb _).setCell hb _).setCell hb _).setCell hb _).setCell hb _).setCell hb _).setCell hb _
theorem storedL_is {w : World} {b : Nat} {base base0 : Int} {vT vL vT0 vL0 : Value} {syn size bytes here syn0 size0 bytes0 here0 : Int} {t : TypeId} (h : w.heap[b]? = some (.cells (bl base0 vT0 vL0 syn0 size0 bytes0 here0) t (0, 0))) : (storedL w b base vT vL syn size bytes here).heap[b]? = some (.cells (bl base vT vL syn size bytes here) t (0, 0)) := by
  unfold storedL
  exact bl_set6 (bl_set5 (bl_set4 (bl_set3 (bl_set2 (bl_set1 (bl_set0 h _) _) _) _) _) _) _
theorem storedL_own {w : World} {b : Nat} {base : Int} {vT vL : Value} {syn size bytes here : Int} {B e n : Nat} {v : Value} {xs : List Value} (h : w.ownsRow B e 1 v n xs) (hb : b < B) : (storedL w b base vT vL syn size bytes here).ownsRow B e 1 v n xs := by
  unfold storedL
  have step : ∀ (W : World) (i : Nat) (u : Value), W.ownsRow B e 1 v n xs → (W.setCell ⟨b, i, none⟩ u).ownsRow B e 1 v n xs := fun W i u hW => (Chg.set W b i u).own hW fun g hg e => by
    have := (hW.lt g hg).1
    omega
  exact step _ _ _ (step _ _ _ (step _ _ _ (step _ _ _ (step _ _ _ (step _ _ _ (step _ _ _ h))))))
/-- What was laid in the result's block, at the end. -/
structure FinL (w Wf : World) (base : Int) (vT vL : Value) (syn size bytes here : Int) : Prop where
  bel : Below w.heap.size w Wf
  blk : Wf.heap[w.heap.size + 1]? = some (.cells (bl base vT vL syn size bytes here) 36 (0, 0))
theorem finL {w V : World} {base base0 : Int} {vT vL vT0 vL0 : Value} {syn size bytes here syn0 size0 bytes0 here0 : Int} (hb : Below w.heap.size w V) (h : V.heap[w.heap.size + 1]? = some (.cells (bl base0 vT0 vL0 syn0 size0 bytes0 here0) 36 (0, 0))) : FinL w (storedL V (w.heap.size + 1) base vT vL syn size bytes here) base vT vL syn size bytes here :=
  ⟨storedL_below hb (Nat.le_succ _), storedL_is h⟩

set_option maxHeartbeats 400000 in
theorem RNew_any (n : Int) (w : World) : Calls Tryz.prog 16 #[.int .i64 n] w fun e w' => e = .returned (rlv 0 (.slice none 0 0) (.slice none 0 0) 0 n 0 0) ∧ Below w.heap.size w w' := by
  have hb := heap_alloc_new w (.cells (bl 0 (.slice none 0 0) (.slice none 0 0) 0 n 0 0) 36)
  obtain ⟨e0, e1, e2, e3, e4, e5, e6, _⟩ := bl_cells hb
  have HB := Lib.hid ((Below.refl w.heap.size w).alloc (Nat.le_refl _) (.cells (bl 0 (.slice none 0 0) (.slice none 0 0) 0 n 0 0) 36))
  clear hb
  unfold rlv
  unfold bl at *
  go_enter Tryz.func16, Tryz.ntmps16
  go_wp2_with fail
  generalize w.alloc (.cells #[.int .i64 0, .slice none 0 0, .slice none 0 0, .int .i64 0, .int .i64 n, .int .i64 0, .int .i64 0] 36) = Wf at *
  exact bodyPost_ret (v := .agg #[.int .i64 0, .slice none 0 0, .slice none 0 0, .int .i64 0, .int .i64 n, .int .i64 0, .int .i64 0]) (by simp [results, Tryz.results16, go_sem, e0, e1, e2, e3, e4, e5, e6]) rfl ⟨rfl, HB.out⟩
set_option maxHeartbeats 800000 in
theorem RSync_any {base : Int} {T : Option Addr} {tn tc : Nat} {syn size bytes here : Int} {A : Option Addr} {n c : Nat} (hb : 0 ≤ base ∧ base ≤ 1000000000) (hn : n ≤ 1000000000) (w : World) :
    Calls Tryz.prog 46 #[rlv base (.slice T tn tc) (.slice A n c) syn size bytes here] w fun e w' => e = .returned (rlv base (.slice T tn tc) (.slice A n c) (base + n) size bytes here) ∧ Below w.heap.size w w' := by
  have HLA := Lib.hid fun W => RLast_any (base := base) (vT := .slice T tn tc) (syn := syn) (size := size) (bytes := bytes) (here := here) (A := A) (n := n) (c := c) hb hn W
  obtain ⟨hbW, hb1, hb2, hbs⟩ := boxedL_facts w base (.slice T tn tc) (.slice A n c) syn size bytes here
  obtain ⟨W0, hW0⟩ : ∃ W0, W0 = boxedL w base (.slice T tn tc) (.slice A n c) syn size bytes here := ⟨_, rfl⟩
  rw [← hW0] at hbW hb1 hb2 hbs
  have HB1 := Lib.hid hb1
  have HB2 := Lib.hid hb2
  have HBW := Lib.hid hbW
  have HBS := Lib.hid hbs
  unfold boxedL bl at hW0
  have HW0 := Lib.hid hW0
  clear hW0 hbW hb1 hb2 hbs
  unfold rlv at HLA ⊢
  go_enter Tryz.func46, Tryz.ntmps46
  go_upto_region 1 with fail
  rw [← HW0.out]
  generalize hN : w.heap.size + 1 = b1 at *
  obtain ⟨c0, c1, c2, c3, c4, c5, c6, cf⟩ := bl_cells HB1.out
  go_upto_region 2 with (go_at_call 22; refine (HLA.out _).mono ?_; rintro e w3 ⟨rfl, hb3⟩; have HB3 := Lib.hid hb3; clear c0 c1 c2 c3 c4 c5 c6 cf hb3; obtain ⟨c0, c1, c2, c3, c4, c5, c6, cf⟩ := bl_cells ((Chg.of_below (Φ := fun _ => False) HB3.out).heap HB1.out id))
  have q1 := bl_set3 ((Chg.of_below (Φ := fun _ => False) HB3.out).heap HB1.out id) (base + n)
  have q2 := heap_setCell_but ((Chg.of_below (Φ := fun _ => False) HB3.out).heap HB2.out id) (show b1 ≠ w.heap.size by omega) 3 (.int .i64 (base + n))
  have hbs := HBS.out
  have q3 := (HBW.out.trans (HB3.out.mono (by omega))).setCell (p := ⟨w.heap.size, 3, none⟩) (Nat.le_refl _) (.int .i64 (base + n))
  generalize w3.setCell ⟨w.heap.size, 3, none⟩ (.int .i64 (base + n)) = W4 at *
  have HEND : Hid (∀ Wf, Wf = storedL W4 (w.heap.size + 1) base (.slice T tn tc) (.slice A n c) (base + n) size bytes here → FinL w Wf base (.slice T tn tc) (.slice A n c) (base + n) size bytes here) := Lib.hid fun Wf hf => by
    subst hf
    exact finL q3 (hN ▸ q2)
  rw [hN] at HEND
  unfold storedL at HEND
  clear c0 c1 c2 c3 c4 c5 c6 cf q3 hbs
  obtain ⟨c0, c1, c2, c3, c4, c5, c6, cf⟩ := bl_cells q1
  obtain ⟨d0, d1, d2, d3, d4, d5, d6, df⟩ := bl_cells q2
  clear q1 q2 HB1 HB2 HB3 HBW HBS HW0
  go_wp2_with fail
  have HF := Lib.hid (HEND.out _ rfl)
  obtain ⟨e0, e1, e2, e3, e4, e5, e6, ef⟩ := bl_cells (hN ▸ HF.out.blk)
  clear c0 c1 c2 c3 c4 c5 c6 cf d0 d1 d2 d3 d4 d5 d6 df ef HEND
  generalize ((((((W4.setCell ⟨b1, 0, none⟩ (.int .i64 base)).setCell ⟨b1, 1, none⟩ (.slice T tn tc)).setCell ⟨b1, 2, none⟩ (.slice A n c)).setCell ⟨b1, 3, none⟩ (.int .i64 (base + n))).setCell ⟨b1, 4, none⟩ (.int .i64 size)).setCell ⟨b1, 5, none⟩ (.int .i64 bytes)).setCell ⟨b1, 6, none⟩ (.int .i64 here) = Wf at *
  exact bodyPost_ret (v := .agg #[.int .i64 base, .slice T tn tc, .slice A n c, .int .i64 (base + n), .int .i64 size, .int .i64 bytes, .int .i64 here]) (by simp [results, Tryz.results46, go_sem, e0, e1, e2, e3, e4, e5, e6]) rfl ⟨rfl, HF.out.bel⟩
set_option maxHeartbeats 800000 in
/-- Get. -/
theorem RGet_any {w : World} {P : Nat → Prop} {base : Nat} {vT : Value} {syn size bytes here : Int} {A : Option Addr} {n c : Nat} {l : List Part} (hl : RowsP w P A n c l) (hb : base ≤ 1000000000) (hn : n ≤ 1000000000) (k : Int) (hk : -1000000000 ≤ k ∧ k ≤ 3000000000) :
    Calls Tryz.prog 50 #[rlv base vT (.slice A n c) syn size bytes here, .int .i64 k] w fun e w' => Below w.heap.size w w' ∧
      ((¬ ((base : Int) < k ∧ k ≤ (base : Int) + n) ∧ e = .returned (.tuple #[.slice none 0 0, .bool false])) ∨ ∃ (j : Nat) (p : Part), k = (base : Int) + j + 1 ∧ l[j]? = some p ∧ e = .returned (.tuple #[p.val, .bool true])) := by
  have hm := hl.max
  have hc := hl.cap
  unfold maxLen at hm
  have HLA := Lib.hid fun W => RLast_any (base := base) (vT := vT) (syn := syn) (size := size) (bytes := bytes) (here := here) (A := A) (n := n) (c := c) (by omega) hn W
  have HAL := Lib.hid ((Below.refl w.heap.size w).alloc (Nat.le_refl _) (.cells #[.int .i64 base, vT, .slice A n c, .int .i64 syn, .int .i64 size, .int .i64 bytes, .int .i64 here] 36))
  by_cases h1 : k ≤ base
  · have HN : Hid (¬ ((base : Int) < k ∧ k ≤ (base : Int) + n)) := Lib.hid (by omega)
    unfold rlv at HLA ⊢
    clear hl hk
    go_enter Tryz.func50, Tryz.ntmps50
    go_wp2_with (go_at_call 22; refine (HLA.out _).mono ?_; rintro e w2 ⟨rfl, hb2⟩)
    go_ret2
    exact ⟨HAL.out, .inl ⟨HN.out, rfl⟩⟩
  · have h1' : (base : Int) < k := by omega
    by_cases h2 : (base : Int) + n < k
    · have HN : Hid (¬ ((base : Int) < k ∧ k ≤ (base : Int) + n)) := Lib.hid (by omega)
      unfold rlv at HLA ⊢
      clear hl hk
      go_enter Tryz.func50, Tryz.ntmps50
      go_wp2_with (go_at_call 22; refine (HLA.out _).mono ?_; rintro e w2 ⟨rfl, hb2⟩; have HB2 := Lib.hid hb2; clear hb2)
      go_ret2
      exact ⟨HAL.out.trans (HB2.out.mono HAL.out.size), .inl ⟨HN.out, rfl⟩⟩
    · have h2' : ¬ (base : Int) + n < k := h2
      obtain ⟨j, rfl⟩ : ∃ j : Nat, k = (base : Int) + j + 1 := ⟨(k - base - 1).toNat, by omega⟩
      obtain ⟨p, hp⟩ : ∃ p, l[j]? = some p := ⟨_, List.getElem?_eq_getElem (by rw [hl.len]; omega)⟩
      obtain ⟨b, o, hA, hbB, hP, hcell⟩ := hl.place j p hp
      subst hA
      have HP := Lib.hid hp
      have hjn : (j : Int) < n := by omega
      have u1 : IntKind.i64.wrap ((base : Int) + j + 1 - base) = (base : Int) + j + 1 - base := IntWalk.i64_in _ (by omega)
      have u2 : IntKind.i64.wrap ((base : Int) + j + 1 - base - 1) = j := by rw [IntWalk.i64_in _ (by omega)]; omega
      obtain ⟨pA, pn, pc, pall⟩ := p
      have HC : Hid (∀ w2, Below (w.alloc (.cells #[.int .i64 base, vT, .slice (some ⟨b, o, none⟩) n c, .int .i64 syn, .int .i64 size, .int .i64 bytes, .int .i64 here] 36)).heap.size (w.alloc (.cells #[.int .i64 base, vT, .slice (some ⟨b, o, none⟩) n c, .int .i64 syn, .int .i64 size, .int .i64 bytes, .int .i64 here] 36)) w2 →
          w2.cell? ⟨w.heap.size, 0, none⟩ = some (.int .i64 base) ∧ w2.cell? ⟨w.heap.size, 2, none⟩ = some (.slice (some ⟨b, o, none⟩) n c) ∧ w2.cell? ⟨b, o + j, none⟩ = some (.slice pA pn pc) ∧ Below w.heap.size w w2) := Lib.hid fun w2 h3 => by
        obtain ⟨q0, _, q2, _⟩ := bl_cells ((Chg.of_below (Φ := fun _ => False) h3).heap (heap_alloc_new w (.cells (bl base vT (.slice (some ⟨b, o, none⟩) n c) syn size bytes here) 36)) id)
        have hbb := HAL.out.trans (h3.mono HAL.out.size)
        exact ⟨q0, q2, (hbb.cell (p := ⟨b, o + j, none⟩) hbB).trans hcell, hbb⟩
      unfold rlv at HLA ⊢
      clear hl hk hcell hp hP HAL
      go_enter Tryz.func50, Tryz.ntmps50
      go_wp2_with (go_at_call 22; refine (HLA.out _).mono ?_; rintro e w2 ⟨rfl, hb2⟩; obtain ⟨c0, c2, e0, hb4⟩ := HC.out _ hb2; have HB4 := Lib.hid hb4; clear hb2 hb4)
      go_ret2
      exact ⟨HB4.out, .inr ⟨j, _, rfl, HP.out, rfl⟩⟩
end Go.Proofs.YtnomicnmpllajaaGreatDoor
end

section
namespace Go.Proofs.YtnomicnmpllajaaGreatDoor
open Go Go.RowKit Go.Maps
set_option linter.unusedVariables false

/-- What Snap makes. -/
def snapR (r : RefM) (k : Int) (xs : List Int) : RefM × Int := if k < r.base ∨ (r.syn : Int) < k then (r, 1) else if 4000 < xs.length then (r, 5) else ({ r with base := k.toNat, shot := xs, recs := r.recs.drop (k.toNat - r.base) }, 0)
/-- What Cut makes. -/
def cutR (r : RefM) (k : Int) (n : Nat) : RefM × Int := if k < r.base ∨ (r.last : Int) < k then (r, 1) else ({ r with recs := r.recs.take (k.toNat - r.base), syn := k.toNat, bytes := n }, 0)

set_option maxHeartbeats 1600000 in
set_option maxRecDepth 100000 in
theorem Snap_no {w : World} {base : Int} {T : Option Addr} {tn tc : Nat} {syn size bytes here : Int} {A : Option Addr} {n c : Nat} {k : Int} {B : Option Addr} {bn bc : Nat} (hno : k < base ∨ syn < k ∨ (¬ k < base ∧ ¬ syn < k ∧ 4000 < bn)) :
    Calls Tryz.prog 47 #[rlv base (.slice T tn tc) (.slice A n c) syn size bytes here, .int .i64 k, .slice B bn bc] w fun e w' => e = .returned (.tuple #[rlv base (.slice T tn tc) (.slice A n c) syn size bytes here, .int .i64 (if k < base ∨ syn < k then 1 else 5)]) ∧ Below w.heap.size w w' := by
  obtain ⟨hbW, hb1, hb2, hbs⟩ := boxedL_facts w base (.slice T tn tc) (.slice A n c) syn size bytes here
  obtain ⟨W0, hW0⟩ : ∃ W0, W0 = boxedL w base (.slice T tn tc) (.slice A n c) syn size bytes here := ⟨_, rfl⟩
  rw [← hW0] at hbW hb1 hb2 hbs
  have HF := Lib.hid (finL (base := base) (vT := .slice T tn tc) (vL := .slice A n c) (syn := syn) (size := size) (bytes := bytes) (here := here) hbW hb2)
  have HB1 := Lib.hid hb1
  have HB2 := Lib.hid hb2
  unfold boxedL bl at hW0
  have HW0 := Lib.hid hW0
  clear hW0 hbW hb1 hb2 hbs
  obtain ⟨e0, e1, e2, e3, e4, e5, e6, _⟩ := bl_cells HF.out.blk
  obtain ⟨c0, c1, c2, c3, c4, c5, c6, cf⟩ := bl_cells HB1.out
  obtain ⟨d0, d1, d2, d3, d4, d5, d6, df⟩ := bl_cells HB2.out
  unfold rlv
  unfold storedL at HF e0 e1 e2 e3 e4 e5 e6
  by_cases h1 : k < base
  · rw [if_pos (.inl h1)]
    clear hno
    go_enter Tryz.func47, Tryz.ntmps47
    go_upto_region 1 with fail
    rw [← HW0.out]
    generalize hN : w.heap.size + 1 = b1 at *
    go_wp2_with fail
    generalize ((((((W0.setCell ⟨b1, 0, none⟩ (.int .i64 base)).setCell ⟨b1, 1, none⟩ (.slice T tn tc)).setCell ⟨b1, 2, none⟩ (.slice A n c)).setCell ⟨b1, 3, none⟩ (.int .i64 syn)).setCell ⟨b1, 4, none⟩ (.int .i64 size)).setCell ⟨b1, 5, none⟩ (.int .i64 bytes)).setCell ⟨b1, 6, none⟩ (.int .i64 here) = Wf at *
    exact bodyPost_ret (v := .tuple #[.agg #[.int .i64 base, .slice T tn tc, .slice A n c, .int .i64 syn, .int .i64 size, .int .i64 bytes, .int .i64 here], .int .i64 1]) (by simp [results, Tryz.results47, go_sem, e0, e1, e2, e3, e4, e5, e6]) rfl ⟨rfl, HF.out.bel⟩
  · by_cases h2 : syn < k
    · rw [if_pos (.inr h2)]
      clear hno
      go_enter Tryz.func47, Tryz.ntmps47
      go_upto_region 1 with fail
      rw [← HW0.out]
      generalize hN : w.heap.size + 1 = b1 at *
      go_wp2_with fail
      generalize ((((((W0.setCell ⟨b1, 0, none⟩ (.int .i64 base)).setCell ⟨b1, 1, none⟩ (.slice T tn tc)).setCell ⟨b1, 2, none⟩ (.slice A n c)).setCell ⟨b1, 3, none⟩ (.int .i64 syn)).setCell ⟨b1, 4, none⟩ (.int .i64 size)).setCell ⟨b1, 5, none⟩ (.int .i64 bytes)).setCell ⟨b1, 6, none⟩ (.int .i64 here) = Wf at *
      exact bodyPost_ret (v := .tuple #[.agg #[.int .i64 base, .slice T tn tc, .slice A n c, .int .i64 syn, .int .i64 size, .int .i64 bytes, .int .i64 here], .int .i64 1]) (by simp [results, Tryz.results47, go_sem, e0, e1, e2, e3, e4, e5, e6]) rfl ⟨rfl, HF.out.bel⟩
    · rw [if_neg (by omega)]
      have h3 : (4000 : Int) < bn := by omega
      clear hno
      go_enter Tryz.func47, Tryz.ntmps47
      go_upto_region 1 with fail
      rw [← HW0.out]
      generalize hN : w.heap.size + 1 = b1 at *
      go_wp2_with fail
      generalize ((((((W0.setCell ⟨b1, 0, none⟩ (.int .i64 base)).setCell ⟨b1, 1, none⟩ (.slice T tn tc)).setCell ⟨b1, 2, none⟩ (.slice A n c)).setCell ⟨b1, 3, none⟩ (.int .i64 syn)).setCell ⟨b1, 4, none⟩ (.int .i64 size)).setCell ⟨b1, 5, none⟩ (.int .i64 bytes)).setCell ⟨b1, 6, none⟩ (.int .i64 here) = Wf at *
      exact bodyPost_ret (v := .tuple #[.agg #[.int .i64 base, .slice T tn tc, .slice A n c, .int .i64 syn, .int .i64 size, .int .i64 bytes, .int .i64 here], .int .i64 5]) (by simp [results, Tryz.results47, go_sem, e0, e1, e2, e3, e4, e5, e6]) rfl ⟨rfl, HF.out.bel⟩
set_option maxHeartbeats 1600000 in
set_option maxRecDepth 100000 in
theorem Snap_go {w : World} {base : Int} {T : Option Addr} {tn tc : Nat} {syn size bytes here : Int} {a : Addr} {n c : Nat} {k : Nat} {B : Option Addr} {bn bc : Nat} {xs : List Int} (hsy : (base + k : Int) ≤ syn) (hb : 0 ≤ base ∧ base ≤ 1000000000) (hk : k ≤ n) (hn : n ≤ 1000000000) (hnc : n ≤ c) (hcm : c ≤ maxLen) (hx : Rd w w.heap.size .u8 B bn bc xs) (hbn : bn ≤ 4000) (hkc : ¬ c = k) :
    Calls Tryz.prog 47 #[rlv base (.slice T tn tc) (.slice (some a) n c) syn size bytes here, .int .i64 (base + k), .slice B bn bc] w fun e w' => ∃ T' tc', e = .returned (.tuple #[rlv (base + k) (.slice T' bn tc') (.slice (some (a.add k)) (n - k) (c - k)) syn size bytes here, .int .i64 0]) ∧ Below w.heap.size w w' ∧ Hid (w'.ownsRow (w.heap.size + 2) 5 1 (.slice T' bn tc') bn (xs.map (Value.int .u8))) := by
  obtain ⟨hbW, hb1, hb2, hbs⟩ := boxedL_facts w base (.slice T tn tc) (.slice (some a) n c) syn size bytes here
  obtain ⟨W0, hW0⟩ : ∃ W0, W0 = boxedL w base (.slice T tn tc) (.slice (some a) n c) syn size bytes here := ⟨_, rfl⟩
  rw [← hW0] at hbW hb1 hb2 hbs
  have HB1 := Lib.hid hb1
  have HB2 := Lib.hid hb2
  have HBW := Lib.hid hbW
  have HBS := Lib.hid hbs
  have HX := Lib.hid hx
  have hlen : (xs.map (Value.int .u8)).length = bn * 1 := by rw [List.length_map, hx.len, Nat.mul_one]
  have HLEN := Lib.hid hlen
  obtain ⟨i0, hi, hz0, hz1, hz2⟩ := info_parts info_u8
  have HO0 := Lib.hid (fun (W : World) => World.ownsRow_lit (e := 5) (size := 1) W #[] 0 (Nat.le_refl _) (by decide) rfl)
  have hxn := hx.nil
  unfold boxedL bl at hW0
  have HW0 := Lib.hid hW0
  clear hW0 hbW hb1 hb2 hbs
  obtain ⟨c0, c1, c2, c3, c4, c5, c6, cf⟩ := bl_cells HB1.out
  have n1 : ¬ (base + (k : Int)) < base := by omega
  have n2 : ¬ syn < base + (k : Int) := by omega
  have n3 : ¬ (4000 : Int) < bn := by omega
  have u1 : IntKind.i64.wrap (base + (k : Int) - base) = k := by rw [IntWalk.i64_in _ (by omega)]; omega
  unfold maxLen at hcm
  unfold rlv
  go_enter Tryz.func47, Tryz.ntmps47
  go_upto_region 1 with fail
  rw [← HW0.out]
  generalize hN : w.heap.size + 1 = b1 at *
  have ne : b1 ≠ w.heap.size := by omega
  go_upto_region 6 with fail
  have q1 := bl_set2 HB1.out (.slice (some (a.add k)) (n - k) (c - k))
  have q2 := heap_setCell_but HB2.out ne 2 (.slice (some (a.add k)) (n - k) (c - k))
  have q3 := HBW.out.setCell (p := ⟨w.heap.size, 2, none⟩) (Nat.le_refl _) (.slice (some (a.add k)) (n - k) (c - k))
  have q4 : (W0.setCell ⟨w.heap.size, 2, none⟩ (.slice (some (a.add k)) (n - k) (c - k))).heap.size = w.heap.size + 2 := by rw [World.size_setCell]; exact HBS.out
  generalize W0.setCell ⟨w.heap.size, 2, none⟩ (.slice (some (a.add k)) (n - k) (c - k)) = W1 at *
  clear c0 c1 c2 c3 c4 c5 c6 cf n1 n2 n3 u1
  obtain ⟨c0, c1, c2, c3, c4, c5, c6, cf⟩ := bl_cells q1
  go_upto_region 7 with fail
  replace q2 := heap_setCell_but q2 ne 0 (.int .i64 (base + k))
  replace q3 := q3.setCell (p := ⟨w.heap.size, 0, none⟩) (Nat.le_refl _) (.int .i64 (base + k))
  replace q1 := bl_set0 q1 (base + k)
  replace q4 : (W1.setCell ⟨w.heap.size, 0, none⟩ (.int .i64 (base + k))).heap.size = w.heap.size + 2 := by rw [World.size_setCell]; exact q4
  generalize W1.setCell ⟨w.heap.size, 0, none⟩ (.int .i64 (base + k)) = W2 at *
  clear c0 c1 c2 c3 c4 c5 c6 cf
  have hx2 : Rd W2 w.heap.size .u8 B bn bc xs := HX.out.below q3
  have HX2 := Lib.hid hx2
  have hs2 : w.heap.size ≤ W2.heap.size := by omega
  have HQ4 := Lib.hid q4
  clear q4
  obtain ⟨c0, c1, c2, c3, c4, c5, c6, cf⟩ := bl_cells q1
  have HQ1 := Lib.hid q1
  have HQ2 := Lib.hid q2
  have HQ3 := Lib.hid q3
  clear q1 q2 q3 HB1 HB2 HBW HBS HW0 HX
  go_upto_region 8 with (
      at_builtin
      refine wpList_append_src (o := ⟨some 35, _, _, _, _, _⟩) rfl _ _ 33 rfl W2.heap.size 5 i0 _ 1 1 Tryz.underlying33 hi hz0 hz1 hz2 rfl (by omega) _ 0 [] rfl (HO0.out W2) B bn bc (xs.map (Value.int .u8)) rfl HLEN.out hxn (HX2.out.alloc hs2 _).news (ints_oneCell _ _) (by unfold maxLen; omega) (by omega) (by simp) ?_
      intro v2 w2 hown2 hg2
      have hb2 := ((Below.refl W2.heap.size W2).alloc (Nat.le_refl _) (.cells #[] 5)).grown hg2 (by simp) (fun k hk => ((HO0.out W2).lt k hk).1)
      rw [Nat.zero_add, List.nil_append] at hown2
      obtain ⟨T', tc', hv2, _⟩ := Rd.of_own hown2
      subst hv2
      have HO2 := Lib.hid hown2
      have HBB := Lib.hid hb2
      clear hown2 hg2 hb2 c0 c1 c2 c3 c4 c5 c6 cf
      obtain ⟨c0, c1, c2, c3, c4, c5, c6, cf⟩ := bl_cells ((Chg.of_below (Φ := fun _ => False) HBB.out).heap HQ1.out id))
  have q1 := bl_set1 ((Chg.of_below (Φ := fun _ => False) HBB.out).heap HQ1.out id) (.slice T' bn tc')
  have q2 := heap_setCell_but ((Chg.of_below (Φ := fun _ => False) HBB.out).heap HQ2.out id) ne 1 (.slice T' bn tc')
  have hq4 := HQ4.out
  have q3 := (HQ3.out.trans (HBB.out.mono hs2)).setCell (p := ⟨w.heap.size, 1, none⟩) (Nat.le_refl _) (.slice T' bn tc')
  have q5 : (w2.setCell ⟨w.heap.size, 1, none⟩ (.slice T' bn tc')).ownsRow (w.heap.size + 2) 5 1 (.slice T' bn tc') bn (xs.map (Value.int .u8)) := (Chg.set w2 w.heap.size 1 _).own (hq4 ▸ HO2.out) fun g hg e => by have := (HO2.out.lt g hg).1; omega
  have HQ5 := Lib.hid q5
  generalize w2.setCell ⟨w.heap.size, 1, none⟩ (.slice T' bn tc') = W4 at *
  clear c0 c1 c2 c3 c4 c5 c6 cf q5 hq4
  have HF := Lib.hid (finL (base := base + k) (vT := .slice T' bn tc') (vL := .slice (some (a.add k)) (n - k) (c - k)) (syn := syn) (size := size) (bytes := bytes) (here := here) q3 (hN ▸ q2))
  have HOF : Hid ((storedL W4 (w.heap.size + 1) (base + k) (.slice T' bn tc') (.slice (some (a.add k)) (n - k) (c - k)) syn size bytes here).ownsRow (w.heap.size + 2) 5 1 (.slice T' bn tc') bn (xs.map (Value.int .u8))) := Lib.hid (storedL_own HQ5.out (by omega))
  obtain ⟨e0, e1, e2, e3, e4, e5, e6, ef⟩ := bl_cells HF.out.blk
  obtain ⟨c0, c1, c2, c3, c4, c5, c6, cf⟩ := bl_cells q1
  obtain ⟨d0, d1, d2, d3, d4, d5, d6, df⟩ := bl_cells q2
  rw [hN] at HF HOF e0 e1 e2 e3 e4 e5 e6
  unfold storedL at HF HOF e0 e1 e2 e3 e4 e5 e6
  clear q1 q2 q3 HQ1 HQ2 HQ3 HQ4 HQ5 HBB HO2 ef
  go_wp2_with fail
  clear c0 c1 c2 c3 c4 c5 c6 cf d0 d1 d2 d3 d4 d5 d6 df
  generalize ((((((W4.setCell ⟨b1, 0, none⟩ (.int .i64 (base + k))).setCell ⟨b1, 1, none⟩ (.slice T' bn tc')).setCell ⟨b1, 2, none⟩ (.slice (some (a.add k)) (n - k) (c - k))).setCell ⟨b1, 3, none⟩ (.int .i64 syn)).setCell ⟨b1, 4, none⟩ (.int .i64 size)).setCell ⟨b1, 5, none⟩ (.int .i64 bytes)).setCell ⟨b1, 6, none⟩ (.int .i64 here) = Wf at *
  exact bodyPost_ret (v := .tuple #[.agg #[.int .i64 (base + k), .slice T' bn tc', .slice (some (a.add k)) (n - k) (c - k), .int .i64 syn, .int .i64 size, .int .i64 bytes, .int .i64 here], .int .i64 0]) (by simp [results, Tryz.results47, go_sem, e0, e1, e2, e3, e4, e5, e6]) rfl ⟨T', tc', rfl, HF.out.bel, HOF⟩
set_option maxHeartbeats 1600000 in
set_option maxRecDepth 100000 in
theorem Snap_go0 {w : World} {base : Int} {T : Option Addr} {tn tc : Nat} {syn size bytes here : Int}  {B : Option Addr} {bn bc : Nat} {xs : List Int} (hsy : base ≤ syn) (hb : 0 ≤ base ∧ base ≤ 1000000000) (hx : Rd w w.heap.size .u8 B bn bc xs) (hbn : bn ≤ 4000)  :
    Calls Tryz.prog 47 #[rlv base (.slice T tn tc) (.slice none 0 0) syn size bytes here, .int .i64 base, .slice B bn bc] w fun e w' => ∃ T' tc', e = .returned (.tuple #[rlv base (.slice T' bn tc') (.slice none 0 0) syn size bytes here, .int .i64 0]) ∧ Below w.heap.size w w' ∧ Hid (w'.ownsRow (w.heap.size + 2) 5 1 (.slice T' bn tc') bn (xs.map (Value.int .u8))) := by
  obtain ⟨hbW, hb1, hb2, hbs⟩ := boxedL_facts w base (.slice T tn tc) (.slice none 0 0) syn size bytes here
  obtain ⟨W0, hW0⟩ : ∃ W0, W0 = boxedL w base (.slice T tn tc) (.slice none 0 0) syn size bytes here := ⟨_, rfl⟩
  rw [← hW0] at hbW hb1 hb2 hbs
  have HB1 := Lib.hid hb1
  have HB2 := Lib.hid hb2
  have HBW := Lib.hid hbW
  have HBS := Lib.hid hbs
  have HX := Lib.hid hx
  have hlen : (xs.map (Value.int .u8)).length = bn * 1 := by rw [List.length_map, hx.len, Nat.mul_one]
  have HLEN := Lib.hid hlen
  obtain ⟨i0, hi, hz0, hz1, hz2⟩ := info_parts info_u8
  have HO0 := Lib.hid (fun (W : World) => World.ownsRow_lit (e := 5) (size := 1) W #[] 0 (Nat.le_refl _) (by decide) rfl)
  have hxn := hx.nil
  unfold boxedL bl at hW0
  have HW0 := Lib.hid hW0
  clear hW0 hbW hb1 hb2 hbs
  obtain ⟨c0, c1, c2, c3, c4, c5, c6, cf⟩ := bl_cells HB1.out
  have n1 : ¬ (base) < base := by omega
  have n2 : ¬ syn < base := by omega
  have n3 : ¬ (4000 : Int) < bn := by omega
  have u1 : IntKind.i64.wrap (base - base) = 0 := by rw [Int.sub_self]; rfl
  unfold rlv
  go_enter Tryz.func47, Tryz.ntmps47
  go_upto_region 1 with fail
  rw [← HW0.out]
  generalize hN : w.heap.size + 1 = b1 at *
  have ne : b1 ≠ w.heap.size := by omega
  go_upto_region 6 with fail
  have q1 := bl_set2 HB1.out (.slice none 0 0)
  have q2 := heap_setCell_but HB2.out ne 2 (.slice none 0 0)
  have q3 := HBW.out.setCell (p := ⟨w.heap.size, 2, none⟩) (Nat.le_refl _) (.slice none 0 0)
  have q4 : (W0.setCell ⟨w.heap.size, 2, none⟩ (.slice none 0 0)).heap.size = w.heap.size + 2 := by rw [World.size_setCell]; exact HBS.out
  generalize W0.setCell ⟨w.heap.size, 2, none⟩ (.slice none 0 0) = W1 at *
  clear c0 c1 c2 c3 c4 c5 c6 cf n1 n2 n3 u1
  obtain ⟨c0, c1, c2, c3, c4, c5, c6, cf⟩ := bl_cells q1
  go_upto_region 7 with fail
  replace q2 := heap_setCell_but q2 ne 0 (.int .i64 base)
  replace q3 := q3.setCell (p := ⟨w.heap.size, 0, none⟩) (Nat.le_refl _) (.int .i64 base)
  replace q1 := bl_set0 q1 base
  replace q4 : (W1.setCell ⟨w.heap.size, 0, none⟩ (.int .i64 base)).heap.size = w.heap.size + 2 := by rw [World.size_setCell]; exact q4
  generalize W1.setCell ⟨w.heap.size, 0, none⟩ (.int .i64 base) = W2 at *
  clear c0 c1 c2 c3 c4 c5 c6 cf
  have hx2 : Rd W2 w.heap.size .u8 B bn bc xs := HX.out.below q3
  have HX2 := Lib.hid hx2
  have hs2 : w.heap.size ≤ W2.heap.size := by omega
  have HQ4 := Lib.hid q4
  clear q4
  obtain ⟨c0, c1, c2, c3, c4, c5, c6, cf⟩ := bl_cells q1
  have HQ1 := Lib.hid q1
  have HQ2 := Lib.hid q2
  have HQ3 := Lib.hid q3
  clear q1 q2 q3 HB1 HB2 HBW HBS HW0 HX
  go_upto_region 8 with (
      at_builtin
      refine wpList_append_src (o := ⟨some 35, _, _, _, _, _⟩) rfl _ _ 33 rfl W2.heap.size 5 i0 _ 1 1 Tryz.underlying33 hi hz0 hz1 hz2 rfl (by omega) _ 0 [] rfl (HO0.out W2) B bn bc (xs.map (Value.int .u8)) rfl HLEN.out hxn (HX2.out.alloc hs2 _).news (ints_oneCell _ _) (by unfold maxLen; omega) (by omega) (by simp) ?_
      intro v2 w2 hown2 hg2
      have hb2 := ((Below.refl W2.heap.size W2).alloc (Nat.le_refl _) (.cells #[] 5)).grown hg2 (by simp) (fun k hk => ((HO0.out W2).lt k hk).1)
      rw [Nat.zero_add, List.nil_append] at hown2
      obtain ⟨T', tc', hv2, _⟩ := Rd.of_own hown2
      subst hv2
      have HO2 := Lib.hid hown2
      have HBB := Lib.hid hb2
      clear hown2 hg2 hb2 c0 c1 c2 c3 c4 c5 c6 cf
      obtain ⟨c0, c1, c2, c3, c4, c5, c6, cf⟩ := bl_cells ((Chg.of_below (Φ := fun _ => False) HBB.out).heap HQ1.out id))
  have q1 := bl_set1 ((Chg.of_below (Φ := fun _ => False) HBB.out).heap HQ1.out id) (.slice T' bn tc')
  have q2 := heap_setCell_but ((Chg.of_below (Φ := fun _ => False) HBB.out).heap HQ2.out id) ne 1 (.slice T' bn tc')
  have hq4 := HQ4.out
  have q3 := (HQ3.out.trans (HBB.out.mono hs2)).setCell (p := ⟨w.heap.size, 1, none⟩) (Nat.le_refl _) (.slice T' bn tc')
  have q5 : (w2.setCell ⟨w.heap.size, 1, none⟩ (.slice T' bn tc')).ownsRow (w.heap.size + 2) 5 1 (.slice T' bn tc') bn (xs.map (Value.int .u8)) := (Chg.set w2 w.heap.size 1 _).own (hq4 ▸ HO2.out) fun g hg e => by have := (HO2.out.lt g hg).1; omega
  have HQ5 := Lib.hid q5
  generalize w2.setCell ⟨w.heap.size, 1, none⟩ (.slice T' bn tc') = W4 at *
  clear c0 c1 c2 c3 c4 c5 c6 cf q5 hq4
  have HF := Lib.hid (finL (base := base) (vT := .slice T' bn tc') (vL := .slice none 0 0) (syn := syn) (size := size) (bytes := bytes) (here := here) q3 (hN ▸ q2))
  have HOF : Hid ((storedL W4 (w.heap.size + 1) base (.slice T' bn tc') (.slice none 0 0) syn size bytes here).ownsRow (w.heap.size + 2) 5 1 (.slice T' bn tc') bn (xs.map (Value.int .u8))) := Lib.hid (storedL_own HQ5.out (by omega))
  obtain ⟨e0, e1, e2, e3, e4, e5, e6, ef⟩ := bl_cells HF.out.blk
  obtain ⟨c0, c1, c2, c3, c4, c5, c6, cf⟩ := bl_cells q1
  obtain ⟨d0, d1, d2, d3, d4, d5, d6, df⟩ := bl_cells q2
  rw [hN] at HF HOF e0 e1 e2 e3 e4 e5 e6
  unfold storedL at HF HOF e0 e1 e2 e3 e4 e5 e6
  clear q1 q2 q3 HQ1 HQ2 HQ3 HQ4 HQ5 HBB HO2 ef
  go_wp2_with fail
  clear c0 c1 c2 c3 c4 c5 c6 cf d0 d1 d2 d3 d4 d5 d6 df
  generalize ((((((W4.setCell ⟨b1, 0, none⟩ (.int .i64 base)).setCell ⟨b1, 1, none⟩ (.slice T' bn tc')).setCell ⟨b1, 2, none⟩ (.slice none 0 0)).setCell ⟨b1, 3, none⟩ (.int .i64 syn)).setCell ⟨b1, 4, none⟩ (.int .i64 size)).setCell ⟨b1, 5, none⟩ (.int .i64 bytes)).setCell ⟨b1, 6, none⟩ (.int .i64 here) = Wf at *
  exact bodyPost_ret (v := .tuple #[.agg #[.int .i64 base, .slice T' bn tc', .slice none 0 0, .int .i64 syn, .int .i64 size, .int .i64 bytes, .int .i64 here], .int .i64 0]) (by simp [results, Tryz.results47, go_sem, e0, e1, e2, e3, e4, e5, e6]) rfl ⟨T', tc', rfl, HF.out.bel, HOF⟩
set_option maxHeartbeats 1600000 in
set_option maxRecDepth 100000 in
theorem Snap_goc {w : World} {base : Int} {T : Option Addr} {tn tc : Nat} {syn size bytes here : Int} {a : Addr} {n : Nat} {B : Option Addr} {bn bc : Nat} {xs : List Int} (hsy : (base + n : Int) ≤ syn) (hb : 0 ≤ base ∧ base ≤ 1000000000) (hn : n ≤ 1000000000) (hcm : n ≤ maxLen) (hx : Rd w w.heap.size .u8 B bn bc xs) (hbn : bn ≤ 4000)  :
    Calls Tryz.prog 47 #[rlv base (.slice T tn tc) (.slice (some a) n n) syn size bytes here, .int .i64 (base + n), .slice B bn bc] w fun e w' => ∃ T' tc', e = .returned (.tuple #[rlv (base + n) (.slice T' bn tc') (.slice (some a) 0 0) syn size bytes here, .int .i64 0]) ∧ Below w.heap.size w w' ∧ Hid (w'.ownsRow (w.heap.size + 2) 5 1 (.slice T' bn tc') bn (xs.map (Value.int .u8))) := by
  obtain ⟨hbW, hb1, hb2, hbs⟩ := boxedL_facts w base (.slice T tn tc) (.slice (some a) n n) syn size bytes here
  obtain ⟨W0, hW0⟩ : ∃ W0, W0 = boxedL w base (.slice T tn tc) (.slice (some a) n n) syn size bytes here := ⟨_, rfl⟩
  rw [← hW0] at hbW hb1 hb2 hbs
  have HB1 := Lib.hid hb1
  have HB2 := Lib.hid hb2
  have HBW := Lib.hid hbW
  have HBS := Lib.hid hbs
  have HX := Lib.hid hx
  have hlen : (xs.map (Value.int .u8)).length = bn * 1 := by rw [List.length_map, hx.len, Nat.mul_one]
  have HLEN := Lib.hid hlen
  obtain ⟨i0, hi, hz0, hz1, hz2⟩ := info_parts info_u8
  have HO0 := Lib.hid (fun (W : World) => World.ownsRow_lit (e := 5) (size := 1) W #[] 0 (Nat.le_refl _) (by decide) rfl)
  have hxn := hx.nil
  unfold boxedL bl at hW0
  have HW0 := Lib.hid hW0
  clear hW0 hbW hb1 hb2 hbs
  obtain ⟨c0, c1, c2, c3, c4, c5, c6, cf⟩ := bl_cells HB1.out
  have n1 : ¬ (base + (n : Int)) < base := by omega
  have n2 : ¬ syn < base + (n : Int) := by omega
  have n3 : ¬ (4000 : Int) < bn := by omega
  have u1 : IntKind.i64.wrap (base + (n : Int) - base) = n := by rw [IntWalk.i64_in _ (by omega)]; omega
  unfold maxLen at hcm
  unfold rlv
  go_enter Tryz.func47, Tryz.ntmps47
  go_upto_region 1 with fail
  rw [← HW0.out]
  generalize hN : w.heap.size + 1 = b1 at *
  have ne : b1 ≠ w.heap.size := by omega
  go_upto_region 6 with fail
  have q1 := bl_set2 HB1.out (.slice (some a) 0 0)
  have q2 := heap_setCell_but HB2.out ne 2 (.slice (some a) 0 0)
  have q3 := HBW.out.setCell (p := ⟨w.heap.size, 2, none⟩) (Nat.le_refl _) (.slice (some a) 0 0)
  have q4 : (W0.setCell ⟨w.heap.size, 2, none⟩ (.slice (some a) 0 0)).heap.size = w.heap.size + 2 := by rw [World.size_setCell]; exact HBS.out
  generalize W0.setCell ⟨w.heap.size, 2, none⟩ (.slice (some a) 0 0) = W1 at *
  clear c0 c1 c2 c3 c4 c5 c6 cf n1 n2 n3 u1
  obtain ⟨c0, c1, c2, c3, c4, c5, c6, cf⟩ := bl_cells q1
  go_upto_region 7 with fail
  replace q2 := heap_setCell_but q2 ne 0 (.int .i64 (base + n))
  replace q3 := q3.setCell (p := ⟨w.heap.size, 0, none⟩) (Nat.le_refl _) (.int .i64 (base + n))
  replace q1 := bl_set0 q1 (base + n)
  replace q4 : (W1.setCell ⟨w.heap.size, 0, none⟩ (.int .i64 (base + n))).heap.size = w.heap.size + 2 := by rw [World.size_setCell]; exact q4
  generalize W1.setCell ⟨w.heap.size, 0, none⟩ (.int .i64 (base + n)) = W2 at *
  clear c0 c1 c2 c3 c4 c5 c6 cf
  have hx2 : Rd W2 w.heap.size .u8 B bn bc xs := HX.out.below q3
  have HX2 := Lib.hid hx2
  have hs2 : w.heap.size ≤ W2.heap.size := by omega
  have HQ4 := Lib.hid q4
  clear q4
  obtain ⟨c0, c1, c2, c3, c4, c5, c6, cf⟩ := bl_cells q1
  have HQ1 := Lib.hid q1
  have HQ2 := Lib.hid q2
  have HQ3 := Lib.hid q3
  clear q1 q2 q3 HB1 HB2 HBW HBS HW0 HX
  go_upto_region 8 with (
      at_builtin
      refine wpList_append_src (o := ⟨some 35, _, _, _, _, _⟩) rfl _ _ 33 rfl W2.heap.size 5 i0 _ 1 1 Tryz.underlying33 hi hz0 hz1 hz2 rfl (by omega) _ 0 [] rfl (HO0.out W2) B bn bc (xs.map (Value.int .u8)) rfl HLEN.out hxn (HX2.out.alloc hs2 _).news (ints_oneCell _ _) (by unfold maxLen; omega) (by omega) (by simp) ?_
      intro v2 w2 hown2 hg2
      have hb2 := ((Below.refl W2.heap.size W2).alloc (Nat.le_refl _) (.cells #[] 5)).grown hg2 (by simp) (fun i hi => ((HO0.out W2).lt i hi).1)
      rw [Nat.zero_add, List.nil_append] at hown2
      obtain ⟨T', tc', hv2, _⟩ := Rd.of_own hown2
      subst hv2
      have HO2 := Lib.hid hown2
      have HBB := Lib.hid hb2
      clear hown2 hg2 hb2 c0 c1 c2 c3 c4 c5 c6 cf
      obtain ⟨c0, c1, c2, c3, c4, c5, c6, cf⟩ := bl_cells ((Chg.of_below (Φ := fun _ => False) HBB.out).heap HQ1.out id))
  have q1 := bl_set1 ((Chg.of_below (Φ := fun _ => False) HBB.out).heap HQ1.out id) (.slice T' bn tc')
  have q2 := heap_setCell_but ((Chg.of_below (Φ := fun _ => False) HBB.out).heap HQ2.out id) ne 1 (.slice T' bn tc')
  have hq4 := HQ4.out
  have q3 := (HQ3.out.trans (HBB.out.mono hs2)).setCell (p := ⟨w.heap.size, 1, none⟩) (Nat.le_refl _) (.slice T' bn tc')
  have q5 : (w2.setCell ⟨w.heap.size, 1, none⟩ (.slice T' bn tc')).ownsRow (w.heap.size + 2) 5 1 (.slice T' bn tc') bn (xs.map (Value.int .u8)) := (Chg.set w2 w.heap.size 1 _).own (hq4 ▸ HO2.out) fun g hg e => by have := (HO2.out.lt g hg).1; omega
  have HQ5 := Lib.hid q5
  generalize w2.setCell ⟨w.heap.size, 1, none⟩ (.slice T' bn tc') = W4 at *
  clear c0 c1 c2 c3 c4 c5 c6 cf q5 hq4
  have HF := Lib.hid (finL (base := base + n) (vT := .slice T' bn tc') (vL := .slice (some a) 0 0) (syn := syn) (size := size) (bytes := bytes) (here := here) q3 (hN ▸ q2))
  have HOF : Hid ((storedL W4 (w.heap.size + 1) (base + n) (.slice T' bn tc') (.slice (some a) 0 0) syn size bytes here).ownsRow (w.heap.size + 2) 5 1 (.slice T' bn tc') bn (xs.map (Value.int .u8))) := Lib.hid (storedL_own HQ5.out (by omega))
  obtain ⟨e0, e1, e2, e3, e4, e5, e6, ef⟩ := bl_cells HF.out.blk
  obtain ⟨c0, c1, c2, c3, c4, c5, c6, cf⟩ := bl_cells q1
  obtain ⟨d0, d1, d2, d3, d4, d5, d6, df⟩ := bl_cells q2
  rw [hN] at HF HOF e0 e1 e2 e3 e4 e5 e6
  unfold storedL at HF HOF e0 e1 e2 e3 e4 e5 e6
  clear q1 q2 q3 HQ1 HQ2 HQ3 HQ4 HQ5 HBB HO2 ef
  go_wp2_with fail
  clear c0 c1 c2 c3 c4 c5 c6 cf d0 d1 d2 d3 d4 d5 d6 df
  generalize ((((((W4.setCell ⟨b1, 0, none⟩ (.int .i64 (base + n))).setCell ⟨b1, 1, none⟩ (.slice T' bn tc')).setCell ⟨b1, 2, none⟩ (.slice (some a) 0 0)).setCell ⟨b1, 3, none⟩ (.int .i64 syn)).setCell ⟨b1, 4, none⟩ (.int .i64 size)).setCell ⟨b1, 5, none⟩ (.int .i64 bytes)).setCell ⟨b1, 6, none⟩ (.int .i64 here) = Wf at *
  exact bodyPost_ret (v := .tuple #[.agg #[.int .i64 (base + n), .slice T' bn tc', .slice (some a) 0 0, .int .i64 syn, .int .i64 size, .int .i64 bytes, .int .i64 here], .int .i64 0]) (by simp [results, Tryz.results47, go_sem, e0, e1, e2, e3, e4, e5, e6]) rfl ⟨T', tc', rfl, HF.out.bel, HOF⟩
end Go.Proofs.YtnomicnmpllajaaGreatDoor
end

section
namespace Go.Proofs.YtnomicnmpllajaaGreatDoor
open Go Go.RowKit Go.Maps
set_option linter.unusedVariables false

set_option maxHeartbeats 1600000 in
set_option maxRecDepth 100000 in
theorem RCut_no {w : World} {base : Int} {T : Option Addr} {tn tc : Nat} {syn size bytes here : Int} {A : Option Addr} {n c : Nat} {k m : Int} (hb : 0 ≤ base ∧ base ≤ 1000000000) (hn : n ≤ 1000000000) (hno : k < base ∨ base + n < k) :
    Calls Tryz.prog 48 #[rlv base (.slice T tn tc) (.slice A n c) syn size bytes here, .int .i64 k, .int .i64 m] w fun e w' => e = .returned (.tuple #[rlv base (.slice T tn tc) (.slice A n c) syn size bytes here, .int .i64 1]) ∧ Below w.heap.size w w' := by
  have HLA := Lib.hid fun W => RLast_any (base := base) (vT := .slice T tn tc) (syn := syn) (size := size) (bytes := bytes) (here := here) (A := A) (n := n) (c := c) hb hn W
  obtain ⟨hbW, hb1, hb2, hbs⟩ := boxedL_facts w base (.slice T tn tc) (.slice A n c) syn size bytes here
  obtain ⟨W0, hW0⟩ : ∃ W0, W0 = boxedL w base (.slice T tn tc) (.slice A n c) syn size bytes here := ⟨_, rfl⟩
  rw [← hW0] at hbW hb1 hb2 hbs
  have HB1 := Lib.hid hb1
  have HB2 := Lib.hid hb2
  have HFF : Hid (∀ w3, Below W0.heap.size W0 w3 → FinL w (storedL w3 (w.heap.size + 1) base (.slice T tn tc) (.slice A n c) syn size bytes here) base (.slice T tn tc) (.slice A n c) syn size bytes here) := Lib.hid fun w3 h3 => finL (hbW.trans (h3.mono hbW.size)) ((Chg.of_below (Φ := fun _ => False) h3).heap hb2 id)
  unfold boxedL bl at hW0
  have HW0 := Lib.hid hW0
  clear hW0 hbW hb1 hb2 hbs
  obtain ⟨c0, c1, c2, c3, c4, c5, c6, cf⟩ := bl_cells HB1.out
  obtain ⟨d0, d1, d2, d3, d4, d5, d6, df⟩ := bl_cells HB2.out
  unfold rlv at HLA ⊢
  unfold storedL at HFF
  by_cases h1 : k < base
  · clear hno
    have HF := Lib.hid (HFF.out W0 (Below.refl _ _))
    obtain ⟨e0, e1, e2, e3, e4, e5, e6, _⟩ := bl_cells HF.out.blk
    go_enter Tryz.func48, Tryz.ntmps48
    go_upto_region 1 with fail
    rw [← HW0.out]
    generalize hN : w.heap.size + 1 = b1 at *
    go_wp2_with fail
    generalize ((((((W0.setCell ⟨b1, 0, none⟩ (.int .i64 base)).setCell ⟨b1, 1, none⟩ (.slice T tn tc)).setCell ⟨b1, 2, none⟩ (.slice A n c)).setCell ⟨b1, 3, none⟩ (.int .i64 syn)).setCell ⟨b1, 4, none⟩ (.int .i64 size)).setCell ⟨b1, 5, none⟩ (.int .i64 bytes)).setCell ⟨b1, 6, none⟩ (.int .i64 here) = Wf at *
    exact bodyPost_ret (v := .tuple #[.agg #[.int .i64 base, .slice T tn tc, .slice A n c, .int .i64 syn, .int .i64 size, .int .i64 bytes, .int .i64 here], .int .i64 1]) (by simp [results, Tryz.results48, go_sem, e0, e1, e2, e3, e4, e5, e6]) rfl ⟨rfl, HF.out.bel⟩
  · have h2 : base + (n : Int) < k := by omega
    clear hno
    go_enter Tryz.func48, Tryz.ntmps48
    go_upto_region 1 with fail
    rw [← HW0.out]
    generalize hN : w.heap.size + 1 = b1 at *
    go_wp2_with (go_at_call 22; refine (HLA.out _).mono ?_; rintro e w3 ⟨rfl, hb3⟩; have HB3 := Lib.hid hb3; clear c0 c1 c2 c3 c4 c5 c6 cf d0 d1 d2 d3 d4 d5 d6 df hb3; obtain ⟨c0, c1, c2, c3, c4, c5, c6, cf⟩ := bl_cells ((Chg.of_below (Φ := fun _ => False) HB3.out).heap HB1.out id); obtain ⟨d0, d1, d2, d3, d4, d5, d6, df⟩ := bl_cells ((Chg.of_below (Φ := fun _ => False) HB3.out).heap HB2.out id))
    have HF := Lib.hid (HFF.out w3 HB3.out)
    obtain ⟨e0, e1, e2, e3, e4, e5, e6, _⟩ := bl_cells (hN ▸ HF.out.blk)
    clear c0 c1 c2 c3 c4 c5 c6 cf d0 d1 d2 d3 d4 d5 d6 df HFF
    generalize ((((((w3.setCell ⟨b1, 0, none⟩ (.int .i64 base)).setCell ⟨b1, 1, none⟩ (.slice T tn tc)).setCell ⟨b1, 2, none⟩ (.slice A n c)).setCell ⟨b1, 3, none⟩ (.int .i64 syn)).setCell ⟨b1, 4, none⟩ (.int .i64 size)).setCell ⟨b1, 5, none⟩ (.int .i64 bytes)).setCell ⟨b1, 6, none⟩ (.int .i64 here) = Wf at *
    exact bodyPost_ret (v := .tuple #[.agg #[.int .i64 base, .slice T tn tc, .slice A n c, .int .i64 syn, .int .i64 size, .int .i64 bytes, .int .i64 here], .int .i64 1]) (by simp [results, Tryz.results48, go_sem, e0, e1, e2, e3, e4, e5, e6]) rfl ⟨rfl, HF.out.bel⟩
set_option maxHeartbeats 1600000 in
set_option maxRecDepth 100000 in
theorem RCut_go {w : World} {base : Int} {T : Option Addr} {tn tc : Nat} {syn size bytes here : Int} {a : Addr} {n c : Nat} {k : Nat} {m : Int} (hb : 0 ≤ base ∧ base ≤ 1000000000) (hk : k ≤ n) (hn : n ≤ 1000000000) (hnc : n ≤ c) (hcm : c ≤ maxLen) :
    Calls Tryz.prog 48 #[rlv base (.slice T tn tc) (.slice (some a) n c) syn size bytes here, .int .i64 (base + k), .int .i64 m] w fun e w' => e = .returned (.tuple #[rlv base (.slice T tn tc) (.slice (some a) k c) (base + k) size m here, .int .i64 0]) ∧ Below w.heap.size w w' := by
  have HLA := Lib.hid fun W => RLast_any (base := base) (vT := .slice T tn tc) (syn := syn) (size := size) (bytes := bytes) (here := here) (A := (some a)) (n := n) (c := c) hb (by omega) W
  obtain ⟨hbW, hb1, hb2, hbs⟩ := boxedL_facts w base (.slice T tn tc) (.slice (some a) n c) syn size bytes here
  obtain ⟨W0, hW0⟩ : ∃ W0, W0 = boxedL w base (.slice T tn tc) (.slice (some a) n c) syn size bytes here := ⟨_, rfl⟩
  rw [← hW0] at hbW hb1 hb2 hbs
  have HB1 := Lib.hid hb1
  have HB2 := Lib.hid hb2
  have HBW := Lib.hid hbW
  have HBS := Lib.hid hbs
  unfold boxedL bl at hW0
  have HW0 := Lib.hid hW0
  clear hW0 hbW hb1 hb2 hbs
  obtain ⟨c0, c1, c2, c3, c4, c5, c6, cf⟩ := bl_cells HB1.out
  have n1 : ¬ (base + (k : Int)) < base := by omega
  have n2 : ¬ base + (n : Int) < base + (k : Int) := by omega
  have u1 : IntKind.i64.wrap (base + (k : Int) - base) = k := by rw [IntWalk.i64_in _ (by omega)]; omega
  have hkc : (k : Int) ≤ c := by omega
  unfold maxLen at hcm
  unfold rlv at HLA ⊢
  go_enter Tryz.func48, Tryz.ntmps48
  go_upto_region 1 with fail
  rw [← HW0.out]
  generalize hN : w.heap.size + 1 = b1 at *
  go_upto_region 3 with (go_at_call 22; refine (HLA.out _).mono ?_; rintro e w3 ⟨rfl, hb3⟩; have HB3 := Lib.hid hb3; clear c0 c1 c2 c3 c4 c5 c6 cf hb3; obtain ⟨c0, c1, c2, c3, c4, c5, c6, cf⟩ := bl_cells ((Chg.of_below (Φ := fun _ => False) HB3.out).heap HB1.out id))
  have ne : b1 ≠ w.heap.size := by omega
  have q1 := bl_set2 ((Chg.of_below (Φ := fun _ => False) HB3.out).heap HB1.out id) (.slice (some a) k c)
  have q2 := heap_setCell_but ((Chg.of_below (Φ := fun _ => False) HB3.out).heap HB2.out id) ne 2 (.slice (some a) k c)
  have hbs := HBS.out
  have q3 := (HBW.out.trans (HB3.out.mono (by omega))).setCell (p := ⟨w.heap.size, 2, none⟩) (Nat.le_refl _) (.slice (some a) k c)
  go_upto_region 4 with fail
  generalize w3.setCell ⟨w.heap.size, 2, none⟩ (.slice (some a) k c) = W1 at *
  clear c0 c1 c2 c3 c4 c5 c6 cf
  obtain ⟨c0, c1, c2, c3, c4, c5, c6, cf⟩ := bl_cells q1
  go_upto_region 5 with fail
  replace q2 := heap_setCell_but q2 ne 3 (.int .i64 (base + k))
  replace q3 := q3.setCell (p := ⟨w.heap.size, 3, none⟩) (Nat.le_refl _) (.int .i64 (base + k))
  replace q1 := bl_set3 q1 (base + k)
  generalize W1.setCell ⟨w.heap.size, 3, none⟩ (.int .i64 (base + k)) = W2 at *
  clear c0 c1 c2 c3 c4 c5 c6 cf
  obtain ⟨c0, c1, c2, c3, c4, c5, c6, cf⟩ := bl_cells q1
  go_upto_region 6 with fail
  replace q2 := heap_setCell_but q2 ne 5 (.int .i64 m)
  replace q3 := q3.setCell (p := ⟨w.heap.size, 5, none⟩) (Nat.le_refl _) (.int .i64 m)
  replace q1 := bl_set5 q1 m
  generalize W2.setCell ⟨w.heap.size, 5, none⟩ (.int .i64 m) = W4 at *
  clear c0 c1 c2 c3 c4 c5 c6 cf hbs
  have HF := Lib.hid (finL (base := base) (vT := .slice T tn tc) (vL := .slice (some a) k c) (syn := (base + k)) (size := size) (bytes := m) (here := here) q3 (hN ▸ q2))
  obtain ⟨e0, e1, e2, e3, e4, e5, e6, ef⟩ := bl_cells HF.out.blk
  obtain ⟨c0, c1, c2, c3, c4, c5, c6, cf⟩ := bl_cells q1
  obtain ⟨d0, d1, d2, d3, d4, d5, d6, df⟩ := bl_cells q2
  rw [hN] at HF e0 e1 e2 e3 e4 e5 e6
  unfold storedL at HF e0 e1 e2 e3 e4 e5 e6
  clear q1 q2 q3 HB1 HB2 HBW HBS HB3 HW0 ef
  go_wp2_with fail
  clear c0 c1 c2 c3 c4 c5 c6 cf d0 d1 d2 d3 d4 d5 d6 df
  generalize ((((((W4.setCell ⟨b1, 0, none⟩ (.int .i64 base)).setCell ⟨b1, 1, none⟩ (.slice T tn tc)).setCell ⟨b1, 2, none⟩ (.slice (some a) k c)).setCell ⟨b1, 3, none⟩ (.int .i64 (base + k))).setCell ⟨b1, 4, none⟩ (.int .i64 size)).setCell ⟨b1, 5, none⟩ (.int .i64 m)).setCell ⟨b1, 6, none⟩ (.int .i64 here) = Wf at *
  exact bodyPost_ret (v := .tuple #[.agg #[.int .i64 base, .slice T tn tc, .slice (some a) k c, .int .i64 (base + k), .int .i64 size, .int .i64 m, .int .i64 here], .int .i64 0]) (by simp [results, Tryz.results48, go_sem, e0, e1, e2, e3, e4, e5, e6]) rfl ⟨rfl, HF.out.bel⟩
set_option maxHeartbeats 1600000 in
set_option maxRecDepth 100000 in
theorem RCut_go0 {w : World} {base : Int} {T : Option Addr} {tn tc : Nat} {syn size bytes here : Int} {m : Int} (hb : 0 ≤ base ∧ base ≤ 1000000000) :
    Calls Tryz.prog 48 #[rlv base (.slice T tn tc) (.slice none 0 0) syn size bytes here, .int .i64 base, .int .i64 m] w fun e w' => e = .returned (.tuple #[rlv base (.slice T tn tc) (.slice none 0 0) base size m here, .int .i64 0]) ∧ Below w.heap.size w w' := by
  have HLA := Lib.hid fun W => RLast_any (base := base) (vT := .slice T tn tc) (syn := syn) (size := size) (bytes := bytes) (here := here) (A := none) (n := 0) (c := 0) hb (by omega) W
  obtain ⟨hbW, hb1, hb2, hbs⟩ := boxedL_facts w base (.slice T tn tc) (.slice none 0 0) syn size bytes here
  obtain ⟨W0, hW0⟩ : ∃ W0, W0 = boxedL w base (.slice T tn tc) (.slice none 0 0) syn size bytes here := ⟨_, rfl⟩
  rw [← hW0] at hbW hb1 hb2 hbs
  have HB1 := Lib.hid hb1
  have HB2 := Lib.hid hb2
  have HBW := Lib.hid hbW
  have HBS := Lib.hid hbs
  unfold boxedL bl at hW0
  have HW0 := Lib.hid hW0
  clear hW0 hbW hb1 hb2 hbs
  obtain ⟨c0, c1, c2, c3, c4, c5, c6, cf⟩ := bl_cells HB1.out
  have n1 : ¬ base < base := by omega
  have n2 : ¬ base + ((0 : Nat) : Int) < base := by omega
  have u1 : IntKind.i64.wrap (base - base) = 0 := by rw [Int.sub_self]; rfl
  unfold rlv at HLA ⊢
  go_enter Tryz.func48, Tryz.ntmps48
  go_upto_region 1 with fail
  rw [← HW0.out]
  generalize hN : w.heap.size + 1 = b1 at *
  go_upto_region 3 with (go_at_call 22; refine (HLA.out _).mono ?_; rintro e w3 ⟨rfl, hb3⟩; have HB3 := Lib.hid hb3; clear c0 c1 c2 c3 c4 c5 c6 cf hb3; obtain ⟨c0, c1, c2, c3, c4, c5, c6, cf⟩ := bl_cells ((Chg.of_below (Φ := fun _ => False) HB3.out).heap HB1.out id))
  have ne : b1 ≠ w.heap.size := by omega
  have q1 := bl_set2 ((Chg.of_below (Φ := fun _ => False) HB3.out).heap HB1.out id) (.slice none 0 0)
  have q2 := heap_setCell_but ((Chg.of_below (Φ := fun _ => False) HB3.out).heap HB2.out id) ne 2 (.slice none 0 0)
  have hbs := HBS.out
  have q3 := (HBW.out.trans (HB3.out.mono (by omega))).setCell (p := ⟨w.heap.size, 2, none⟩) (Nat.le_refl _) (.slice none 0 0)
  go_upto_region 4 with fail
  generalize w3.setCell ⟨w.heap.size, 2, none⟩ (.slice none 0 0) = W1 at *
  clear c0 c1 c2 c3 c4 c5 c6 cf
  obtain ⟨c0, c1, c2, c3, c4, c5, c6, cf⟩ := bl_cells q1
  go_upto_region 5 with fail
  replace q2 := heap_setCell_but q2 ne 3 (.int .i64 base)
  replace q3 := q3.setCell (p := ⟨w.heap.size, 3, none⟩) (Nat.le_refl _) (.int .i64 base)
  replace q1 := bl_set3 q1 base
  generalize W1.setCell ⟨w.heap.size, 3, none⟩ (.int .i64 base) = W2 at *
  clear c0 c1 c2 c3 c4 c5 c6 cf
  obtain ⟨c0, c1, c2, c3, c4, c5, c6, cf⟩ := bl_cells q1
  go_upto_region 6 with fail
  replace q2 := heap_setCell_but q2 ne 5 (.int .i64 m)
  replace q3 := q3.setCell (p := ⟨w.heap.size, 5, none⟩) (Nat.le_refl _) (.int .i64 m)
  replace q1 := bl_set5 q1 m
  generalize W2.setCell ⟨w.heap.size, 5, none⟩ (.int .i64 m) = W4 at *
  clear c0 c1 c2 c3 c4 c5 c6 cf hbs
  have HF := Lib.hid (finL (base := base) (vT := .slice T tn tc) (vL := .slice none 0 0) (syn := base) (size := size) (bytes := m) (here := here) q3 (hN ▸ q2))
  obtain ⟨e0, e1, e2, e3, e4, e5, e6, ef⟩ := bl_cells HF.out.blk
  obtain ⟨c0, c1, c2, c3, c4, c5, c6, cf⟩ := bl_cells q1
  obtain ⟨d0, d1, d2, d3, d4, d5, d6, df⟩ := bl_cells q2
  rw [hN] at HF e0 e1 e2 e3 e4 e5 e6
  unfold storedL at HF e0 e1 e2 e3 e4 e5 e6
  clear q1 q2 q3 HB1 HB2 HBW HBS HB3 HW0 ef
  go_wp2_with fail
  clear c0 c1 c2 c3 c4 c5 c6 cf d0 d1 d2 d3 d4 d5 d6 df
  generalize ((((((W4.setCell ⟨b1, 0, none⟩ (.int .i64 base)).setCell ⟨b1, 1, none⟩ (.slice T tn tc)).setCell ⟨b1, 2, none⟩ (.slice none 0 0)).setCell ⟨b1, 3, none⟩ (.int .i64 base)).setCell ⟨b1, 4, none⟩ (.int .i64 size)).setCell ⟨b1, 5, none⟩ (.int .i64 m)).setCell ⟨b1, 6, none⟩ (.int .i64 here) = Wf at *
  exact bodyPost_ret (v := .tuple #[.agg #[.int .i64 base, .slice T tn tc, .slice none 0 0, .int .i64 base, .int .i64 size, .int .i64 m, .int .i64 here], .int .i64 0]) (by simp [results, Tryz.results48, go_sem, e0, e1, e2, e3, e4, e5, e6]) rfl ⟨rfl, HF.out.bel⟩
end Go.Proofs.YtnomicnmpllajaaGreatDoor
end
