/- What is proved here: plain facts: what Cut keeps of a log and its files. -/
/- What is proved here: what the document fixes of a record that is torn: 'awake' returns true, whatever the memory. -/
/- What is proved here: how the calls that come in are read. -/
/- What is proved here: what 'few' and 'small' tell. -/
import Derived.Test.YtnomicnmpllajaaGreatDoorPFu19
import Derived.Test.YtnomicnmpllajaaGreatDoorPFu16
import Derived.Test.YtnomicnmpllajaaGreatDoorPFu17
import Derived.Lib.SlBytesConst
import Derived.Deep.Slices
import Derived.Deep.Fields
import Derived.SizedLaws
import Derived.ChangeSlices
import Derived.ChangeArms
import Derived.Deep.QuietTactic
import Derived.BigQuiet
section
namespace Go.Proofs.YtnomicnmpllajaaGreatDoor
open Go Go.RowKit

theorem removes_mem : ∀ (l : List (Nat × Nat)) {S : List RF}, Rising RF.nm S → Rising RF.nm (removes S l) ∧ ∀ f, f ∈ removes S l ↔ f ∈ S ∧ ∀ s ∈ l, f.nm ≠ segName s.1
  | [], S, h => ⟨h, fun f => ⟨fun hf => ⟨hf, fun s hs => by cases hs⟩, fun hf => hf.1⟩⟩
  | s :: l, S, h => by
    have h1 : Rising RF.nm (removeF S (segName s.1)).1 ∧ ∀ f, f ∈ (removeF S (segName s.1)).1 ↔ f ∈ S ∧ f.nm ≠ segName s.1 := by
      unfold removeF
      cases e : findN S (segName s.1) with
      | none => exact ⟨h, fun f => ⟨fun hf => ⟨hf, findN_none e f hf⟩, fun hf => hf.1⟩⟩
      | some g => exact ⟨h.delN _, fun f => mem_delN⟩
    obtain ⟨h2, h3⟩ := removes_mem l h1.1
    refine ⟨h2, fun f => (h3 f).trans ?_⟩
    rw [h1.2 f, and_assoc, List.forall_mem_cons]
theorem removes_find {l : List (Nat × Nat)} {S : List RF} (h : Rising RF.nm S) {n : List UInt8} (hn : ∀ s ∈ l, n ≠ segName s.1) : findN (removes S l) n = findN S n := by
  obtain ⟨h1, h2⟩ := removes_mem l h
  cases e : findN S n with
  | none =>
    cases e2 : findN (removes S l) n with
    | none => rfl
    | some f =>
      obtain ⟨a, b⟩ := findN_mem e2
      exact absurd b (findN_none e f ((h2 f).1 a).1)
  | some f =>
    obtain ⟨a, b⟩ := findN_mem e
    rw [← b]
    exact findN_some h1 ((h2 f).2 ⟨a, by rw [b]; exact hn⟩)
theorem bytesR_cutN (rs : List (List Int)) : (bytesR rs).length = cutN rs := bytesR_len rs
theorem FileOf.any {S : List RF} {syn syn' : Nat} {g : SegR} (h : FileOf S syn g) (h1 : g.k + g.rs.length ≤ syn + 1) (h2 : g.k + g.rs.length ≤ syn' + 1) : FileOf S syn' g := by
  obtain ⟨f, a, b, c⟩ := h
  rw [List.take_of_length_le (by omega)] at c
  exact ⟨f, a, b, by rw [List.take_of_length_le (by omega)]; exact c⟩

section
variable {S S' : List RF} {M M' : LogM} {G : List SegR} {st : Nat}
theorem LI.segAt (h : LI S M G st) {i : Nat} {s : Nat × Nat} (hs : M.segs[i]? = some s) : ∃ g, G[i]? = some g ∧ s = (g.k, (bytesR g.rs).length) := by
  rw [h.segs] at hs
  unfold segsR at hs
  rw [List.getElem?_map] at hs
  obtain ⟨g, h1, h2⟩ := Option.map_eq_some_iff.1 hs
  exact ⟨g, h1, h2.symm⟩
theorem split_at {α : Type} {l : List α} {i : Nat} {x : α} (h : l[i]? = some x) : l = l.take i ++ x :: l.drop (i + 1) := by
  obtain ⟨h1, h2⟩ := List.getElem?_eq_some_iff.1 h
  rw [← h2, List.getElem_cons_drop, List.take_append_drop]
/-- Where the records of a segment lie in all of the log's. -/
theorem LI.part (h : LI S M G st) {i t k : Nat} {g : SegR} (hg : G[i]? = some g) (hk1 : M.base ≤ k) (hk2 : k ≤ M.last) (hgk : g.k ≤ k) (ht : EndAt M (i + 1) t) (hB : ∀ s, M.segs[i + 1]? = some s → k < s.1) :
    (M.recs.take t).drop (k - M.base) = g.rs.drop (k + 1 - g.k) ∧ k + 1 ≤ g.k + g.rs.length ∧ st + (recsR (G.take i)).length = g.k := by
  have hG := split_at hg
  have hr := h.runs
  rw [hG] at hr
  obtain ⟨m, r1, r2, r3⟩ := Runs.app.1 hr
  have l1 := r1.len
  have l3 := r3.len
  have hst := h.start
  have hend : M.base + t + 1 = g.k + g.rs.length ∧ k + 1 ≤ g.k + g.rs.length := by
    rcases ht with ⟨e1, e2⟩ | ⟨s, e1, e2⟩
    · have : G.length = i + 1 := by rw [h.segs, segsR_len] at e1; exact e1.symm
      have e3 : G.drop (i + 1) = [] := List.drop_of_length_le (by omega)
      rw [e3] at l3
      unfold LogM.last at l3 hk2
      simp [recsR] at l3
      omega
    · have hk3 := hB s e1
      obtain ⟨y, hy, rfl⟩ := h.segAt e1
      have hG2 := split_at hy
      have e4 : G.drop (i + 1) = y :: G.drop (i + 1 + 1) := by
        obtain ⟨h1, h2⟩ := List.getElem?_eq_some_iff.1 hy
        rw [← h2, List.getElem_cons_drop]
      rw [e4] at r3
      have := r3.1
      simp only at e2 hk3
      omega
  refine ⟨?_, hend.2, by omega⟩
  have hR : recsR G = recsR (G.take i) ++ g.rs ++ recsR (G.drop (i + 1)) := by
    conv => lhs; rw [hG]
    rw [recsR_app]
    simp [recsR]
  have hlen : M.base + 1 - st + t = (recsR (G.take i) ++ g.rs).length := by
    rw [List.length_append]
    omega
  rw [h.recs, List.take_drop, hlen, hR, List.take_left', List.drop_drop, List.drop_append, List.drop_of_length_le (l := recsR (G.take i)) (by omega), List.nil_append]
  · congr 1
    omega
  · rfl
theorem LI.cut (h : LI S M G st) {k : Nat} (hk1 : M.base ≤ k) (hk2 : k ≤ M.last) (hc : CutTo M k S M' S') : ∃ G', LI S' M' G' (if G' = [] then k + 1 else st) ∧ M'.recs = M.recs.take (k - M.base) ∧ M'.base = M.base ∧ M'.shot = M.shot ∧ M'.size = M.size ∧ M'.synced = k := by
  obtain ⟨j, hj, hgone, hc⟩ := hc
  have hst := h.start
  rcases hc with ⟨rfl, rfl, rfl⟩ | ⟨i, s, n, t, rfl, hs, hsk, hend, hn, rfl, rfl⟩
  · refine ⟨[], ?_, rfl, rfl, rfl, rfl, rfl⟩
    rw [if_pos rfl]
    have hkb : k = M.base ∧ M.recs.take (k - M.base) = [] := by
      cases G with
      | nil =>
        have : M.recs = [] := by rw [h.recs]; simp [recsR]
        unfold LogM.last at hk2
        rw [this] at hk2 ⊢
        simp at hk2
        exact ⟨by omega, by simp⟩
      | cons g r =>
        have h1 := hgone 0 (g.k, (bytesR g.rs).length) (Nat.le_refl _) (by rw [h.segs]; rfl)
        have h2 : g.k = st := h.runs.1
        have h3 : k = M.base := by simp only at h1; omega
        refine ⟨h3, ?_⟩
        rw [h3, Nat.sub_self]
        rfl
    obtain ⟨rfl, hrec⟩ := hkb
    obtain ⟨r1, r2⟩ := removes_mem M.segs.reverse h.rise
    have hlogs : logsOf (removes S M.segs.reverse) = [] := by
      refine List.eq_nil_iff_forall_not_mem.2 fun n hn => ?_
      obtain ⟨⟨f, hf, rfl⟩, h2⟩ := mem_logs.1 hn
      obtain ⟨h3, h4⟩ := (r2 f).1 hf
      have h5 : f.nm ∈ logsOf S := mem_logs.2 ⟨⟨f, h3, rfl⟩, h2⟩
      rw [h.names] at h5
      obtain ⟨g, hg, e⟩ := List.mem_map.1 h5
      refine h4 (g.k, (bytesR g.rs).length) ?_ e.symm
      rw [List.mem_reverse, h.segs]
      exact List.mem_map.2 ⟨g, hg, rfl⟩
    have hl0 : LogM.last { M with segs := [], recs := M.recs.take (M.base - M.base), synced := M.base } = M.base := by
      unfold LogM.last
      simp only [hrec]
      rfl
    exact {
      rise := r1
      size := h.size
      segs := rfl
      runs := by rw [hl0]; rfl
      start := ⟨Nat.succ_pos _, Nat.le_refl _⟩
      full := fun g hg => by cases hg
      recs := by
        show M.recs.take (M.base - M.base) = _
        rw [hrec]
        simp [recsR]
      file := fun g hg => by cases hg
      names := hlogs
      other := fun f hf => h.other f ((r2 f).1 hf).1
      snap := by
        rw [removes_find h.rise fun s _ => fun e => seg_ne_snap s.1 e.symm]
        exact h.snap
      sync := ⟨Nat.le_refl _, by rw [hl0]; exact Nat.le_refl _, fun g hg => by cases hg⟩
      many := by
        rw [hl0]
        have := h.many
        omega
      bytes := fun g hg => by cases hg
      byt := fun g hg => by cases hg
      shot := h.shot }
  · obtain ⟨g, hg, rfl⟩ := h.segAt hs
    obtain ⟨p1, p2, p3⟩ := h.part hg hk1 hk2 hsk hend fun s hs' => hgone (i + 1) s (Nat.le_refl _) hs'
    rw [p1] at hn
    have hG := split_at hg
    have hi := (List.getElem?_eq_some_iff.1 hg).1
    obtain ⟨A, hA⟩ : ∃ A, A = G.take i := ⟨_, rfl⟩
    obtain ⟨B, hB⟩ : ∃ B, B = G.drop (i + 1) := ⟨_, rfl⟩
    have hAl : A.length = i := by rw [hA, List.length_take]; omega
    rw [← hA, ← hB] at hG
    rw [← hA] at p3
    simp only at hsk hn
    have hbb : bytesR g.rs = bytesR (g.rs.take (k + 1 - g.k)) ++ bytesR (g.rs.drop (k + 1 - g.k)) := by rw [← bytesR_app, List.take_append_drop]
    have hnb : n = (bytesR (g.rs.take (k + 1 - g.k))).length := by
      rw [hbb, List.length_append, bytesR_cutN (g.rs.drop _)] at hn
      omega
    have hgG : g ∈ G := by rw [hG]; simp
    have hAG : ∀ x ∈ A, x ∈ G := fun x hx => by rw [hG]; exact List.mem_append.2 (.inl hx)
    have hBG : ∀ x ∈ B, x ∈ G := fun x hx => by rw [hG]; exact List.mem_append.2 (.inr (List.mem_cons_of_mem _ hx))
    have hr := h.runs
    rw [hG] at hr
    obtain ⟨m, r1, r2, r3⟩ := Runs.app.1 hr
    have hAk : ∀ x ∈ A, x.k + x.rs.length ≤ g.k ∧ x.rs ≠ [] := fun x hx => by
      have h1 := (r1.in_ x hx).2
      refine ⟨by omega, h.full x ?_⟩
      rw [hG, List.dropLast_append_of_ne_nil (by simp)]
      exact List.mem_append.2 (.inl hx)
    have hBk : ∀ x ∈ B, k < x.k := fun x hx => by
      have h1 := (r3.in_ x hx).1
      omega
    have hdrop : M.segs.drop (i + 1) = segsR B := by rw [h.segs, hB]; unfold segsR; rw [List.map_drop]
    have htake : (M.segs.take (i + 1)).set i (g.k, n) = segsR (A ++ [⟨g.k, g.rs.take (k + 1 - g.k)⟩]) := by
      have e1 : M.segs.take (i + 1) = segsR (A ++ [g]) := by
        rw [h.segs, hG]
        unfold segsR
        rw [← List.map_take, List.take_append, hAl, List.take_of_length_le (by omega), show i + 1 - i = 1 by omega]
        rfl
      rw [e1, segsR_app, segsR_app, List.set_append_right _ _ (by rw [segsR_len, hAl]; exact Nat.le_refl _), segsR_len, hAl, Nat.sub_self, hnb]
      rfl
    obtain ⟨q1, q2⟩ := removes_mem (segsR B).reverse h.rise
    have hmemB : ∀ s ∈ (segsR B).reverse, ∃ x ∈ B, s.1 = x.k := fun s hs' => by
      rw [List.mem_reverse] at hs'
      obtain ⟨x, hx, rfl⟩ := List.mem_map.1 hs'
      exact ⟨x, hx, rfl⟩
    have hneB : ∀ x, x ∈ G → x.k ≤ k → ∀ s ∈ (segsR B).reverse, segName x.k ≠ segName s.1 := fun x hx hxk s hs' e => by
      obtain ⟨y, hy, e2⟩ := hmemB s hs'
      rw [e2] at e
      have h1 := (segName_inj (h.lt hx) (h.lt (hBG y hy))).1 e
      have := hBk y hy
      omega
    obtain ⟨f, hf, hb, hsy⟩ := h.file g hgG
    have hf2 : findN (removes S (segsR B).reverse) (segName g.k) = some f := by rw [removes_find h.rise (hneB g hgG hsk)]; exact hf
    have hnle : n ≤ f.b.length := by rw [hb, hbb, List.length_append]; omega
    have hcut : (cutF (removes S (M.segs.drop (i + 1)).reverse) (nameS g.k).data.toList n).1 = putN RF.nm ⟨segName g.k, bytesR (g.rs.take (k + 1 - g.k)), n⟩ (removes S (segsR B).reverse) := by
      rw [hdrop, nameS_list]
      unfold cutF
      rw [hf2]
      simp only
      rw [if_neg (by omega), (findN_mem hf).2.symm]
      unfold cutRF
      rw [Int.toNat_natCast, hb, hnb]
      congr 2
      rw [hbb, List.take_append_of_le_length (Nat.le_refl _), List.take_length]
    have hA2 : ∀ x ∈ A, segName x.k ≠ segName g.k := fun x hx e => by
      have h1 := (segName_inj (h.lt (hAG x hx)) (h.lt hgG)).1 e
      have h2 := (hAk x hx).1
      have h3 := List.length_pos_iff.2 (hAk x hx).2
      omega
    refine ⟨A ++ [⟨g.k, g.rs.take (k + 1 - g.k)⟩], ?_, rfl, rfl, rfl, rfl, rfl⟩
    rw [if_neg (by simp), hcut, htake]
    have hl1 : ∀ l, LogM.last { M with segs := l, recs := M.recs.take (k - M.base), synced := k } = k := fun l => by
      unfold LogM.last at hk2 ⊢
      simp only [List.length_take]
      omega
    have hgsy := h.sync.2.2 g hgG
    exact {
      rise := q1.putN _
      size := h.size
      segs := rfl
      runs := by
        rw [hl1]
        refine Runs.app.2 ⟨m, r1, r2, ?_⟩
        show m + (g.rs.take (k + 1 - g.k)).length = k + 1
        rw [List.length_take]
        omega
      start := hst
      full := fun x hx => by
        rw [List.dropLast_concat] at hx
        exact (hAk x hx).2
      recs := by
        show M.recs.take (k - M.base) = (recsR (A ++ [⟨g.k, g.rs.take (k + 1 - g.k)⟩])).drop (M.base + 1 - st)
        have hR : recsR G = recsR A ++ (g.rs ++ recsR B) := by
          rw [hG, recsR_app]
          simp [recsR]
        rw [recsR_app, recsR_one, h.recs, List.take_drop, hR]
        congr 1
        rw [List.take_append, List.take_of_length_le (l := recsR A) (by omega), List.take_append_of_le_length (by omega)]
        congr 2
        omega
      file := fun x hx => by
        rcases List.mem_append.1 hx with hx' | hx'
        · have h1 := hAk x hx'
          obtain ⟨f1, a, b⟩ := (h.file x (hAG x hx')).any (syn' := k) (by omega) (by omega)
          have h2 : FileOf (removes S (segsR B).reverse) k x := ⟨f1, by rw [removes_find h.rise (hneB x (hAG x hx') (by omega))]; exact a, b⟩
          exact h2.put q1 (hA2 x hx')
        · rw [List.mem_singleton.1 hx']
          refine ⟨⟨segName g.k, bytesR (g.rs.take (k + 1 - g.k)), n⟩, by rw [findN_put q1, if_pos rfl], rfl, ?_⟩
          show n = (bytesR ((g.rs.take (k + 1 - g.k)).take (k + 1 - g.k))).length
          rw [List.take_take, Nat.min_self]
          exact hnb
      names := by
        rw [logs_put_old q1 (f := f) hf2]
        have hrs : Rising id ((A ++ [(⟨g.k, g.rs.take (k + 1 - g.k)⟩ : SegR)]).map fun g : SegR => segName g.k) := by
          have h1 := logs_rising h.rise
          rw [h.names, hG] at h1
          refine List.Pairwise.sublist ?_ h1
          rw [List.map_append, List.map_append]
          exact (List.Sublist.refl _).append (by simp)
        refine logs_ext q1 hrs fun n' => ?_
        constructor
        · rintro ⟨⟨f1, h1, rfl⟩, h2⟩
          obtain ⟨h3, h4⟩ := (q2 f1).1 h1
          have h5 : f1.nm ∈ logsOf S := mem_logs.2 ⟨⟨f1, h3, rfl⟩, h2⟩
          rw [h.names] at h5
          obtain ⟨x, hx, e⟩ := List.mem_map.1 h5
          rw [hG] at hx
          rcases List.mem_append.1 hx with hx | hx
          · exact List.mem_map.2 ⟨x, List.mem_append.2 (.inl hx), e⟩
          · rcases List.mem_cons.1 hx with rfl | hx
            · exact List.mem_map.2 ⟨_, List.mem_append.2 (.inr (List.mem_singleton.2 rfl)), e⟩
            · exact absurd e.symm (h4 (x.k, (bytesR x.rs).length) (List.mem_reverse.2 (List.mem_map.2 ⟨x, hx, rfl⟩)))
        · intro hn'
          obtain ⟨x, hx, rfl⟩ := List.mem_map.1 hn'
          have h1 : ∃ y ∈ G, y.k = x.k ∧ y.k ≤ k := by
            rcases List.mem_append.1 hx with hx | hx
            · exact ⟨x, hAG x hx, rfl, by have := (hAk x hx).1; omega⟩
            · rw [List.mem_singleton.1 hx]
              exact ⟨g, hgG, rfl, hsk⟩
          obtain ⟨y, hy, e, hyk⟩ := h1
          obtain ⟨f1, a, _⟩ := h.file y hy
          obtain ⟨b, c⟩ := findN_mem a
          rw [← e]
          exact ⟨⟨f1, (q2 f1).2 ⟨b, by rw [c]; exact hneB y hy hyk⟩, c⟩, isLog_seg _⟩
      other := fun f1 hf1 => by
        rcases mem_putN.1 hf1 with rfl | ⟨h1, _⟩
        · exact .inl (isLog_seg _)
        · exact h.other f1 ((q2 f1).1 h1).1
      snap := by
        refine snap_put q1 rfl ?_
        rw [removes_find h.rise fun s _ => fun e => seg_ne_snap s.1 e.symm]
        exact h.snap
      sync := ⟨hk1, by rw [hl1]; exact Nat.le_refl _, fun x hx => by
        show x.k ≤ k + 1
        rcases List.mem_append.1 hx with hx' | hx'
        · have := (hAk x hx').1
          omega
        · rw [List.mem_singleton.1 hx']
          show g.k ≤ k + 1
          omega⟩
      many := by
        rw [hl1]
        have := h.many
        omega
      bytes := fun x hx => by
        rcases List.mem_append.1 hx with hx' | hx'
        · exact h.bytes x (hAG x hx')
        · rw [List.mem_singleton.1 hx']
          have := h.bytes g hgG
          rw [hbb, List.length_append] at this
          show (bytesR (g.rs.take (k + 1 - g.k))).length ≤ 65536
          omega
      byt := fun x hx => by
        rcases List.mem_append.1 hx with hx' | hx'
        · exact h.byt x (hAG x hx')
        · rw [List.mem_singleton.1 hx']
          intro r hr'
          exact h.byt g hgG r (List.mem_of_mem_take hr')
      shot := h.shot }
end
section
variable {w0 w w' : World} {Kp : Nat → Prop} {lb d : Nat} {R : Int} {S : List RF} {M : LogM} {V : LogV} {G : List SegR} {st : Nat}
theorem Cut_li (h : WPair w0 Kp lb d R S M V w) (hL : LI S M G st) (hKp : ∀ k, Kp k → k < w.heap.size) (ht : Tab w0) {k : Nat} (hk1 : M.base ≤ k) (hk2 : k ≤ M.last) :
    Calls Tryz.prog 30 #[.pointer (some ⟨lb, 0, none⟩), .int .i64 k] w (CutSaid w0 Kp lb d R S M k w) := by
  refine Cut_ok h hKp ht hL.ok hk1 hk2 (fun s hs => ?_) fun i s t hs hsk ht => ?_
  · rw [hL.segs] at hs
    obtain ⟨g, hg, rfl⟩ := List.mem_map.1 hs
    have := (hL.runs.in_ g hg).2
    show g.k ≤ _
    omega
  · obtain ⟨g, hg, rfl⟩ := hL.segAt hs
    by_cases hB : ∀ s, M.segs[i + 1]? = some s → k < s.1
    · rw [(hL.part hg hk1 hk2 hsk ht hB).1, bytesR_cutN]
      have : cutN g.rs = cutN (g.rs.take (k + 1 - g.k)) + cutN (g.rs.drop (k + 1 - g.k)) := by rw [← cutN_append, List.take_append_drop]
      omega
    · have hB2 : ∃ s, M.segs[i + 1]? = some s ∧ s.1 ≤ k := by
        apply Classical.byContradiction
        intro hno
        refine hB fun s hs' => ?_
        rcases Nat.lt_or_ge k s.1 with h1 | h1
        · exact h1
        · exact absurd ⟨s, hs', h1⟩ hno
      obtain ⟨s, hs', hsk2⟩ := hB2
      have ht2 : M.base + t + 1 = s.1 := by
        rcases ht with ⟨e1, _⟩ | ⟨s2, e1, e2⟩
        · rw [List.getElem?_eq_none (by omega)] at hs'
          cases hs'
        · rw [hs'] at e1
          cases e1
          exact e2
      rw [List.drop_of_length_le (by rw [List.length_take]; omega)]
      exact Nat.zero_le _
end
end Go.Proofs.YtnomicnmpllajaaGreatDoor
end

section
namespace Go.Proofs.YtnomicnmpllajaaGreatDoor
open Go Go.RowKit

def oneB : List Int := [111, 110, 101]
def twoB : List Int := [116, 119, 111]
def awF (b : List Int) (s : Nat) : RF := ⟨segName 1, b, s⟩
theorem aw1 : appendF 1000 [] (segName 1) (sealF oneB) = ([awF (sealF oneB) 0], 0) := by kernel_rfl
theorem aw2 : syncF [awF (sealF oneB) 0] (segName 1) = ([awF (sealF oneB) 9], 0) := by kernel_rfl
theorem aw3 : appendF 1000 [awF (sealF oneB) 9] (segName 1) (sealF twoB) = ([awF (sealF oneB ++ sealF twoB) 9], 0) := by kernel_rfl
def awT : List RF := crashF [5] [awF (sealF oneB ++ sealF twoB) 9]
def awB : List Int := (sealF oneB ++ sealF twoB).take 14
theorem aw4 : awT.map (fun f => (f.nm, f.b)) = [(segName 1, awB)] := by kernel_rfl
theorem aw5 : findN awT snapN = none := by kernel_rfl
def awP : List SegF := [⟨1, [oneB], 9⟩]
theorem aw_chain : Chain [oneB] awB 9 := ⟨by kernel_rfl, by kernel_rfl, 0, by kernel_rfl, rfl⟩
theorem aw_why : whyF (awB.drop 9) ≠ 0 := by
  have : whyF (awB.drop 9) = 3 := by kernel_rfl
  omega
theorem aw_file : ∃ f, findN awT (segName 1) = some f ∧ f.b = awB := by
  have h : (findN awT (segName 1)).map (·.b) = some awB := by kernel_rfl
  obtain ⟨f, h1, h2⟩ := Option.map_eq_some_iff.1 h
  exact ⟨f, h1, h2⟩
theorem aw_segs : SegsAt awT 0 awP := by
  refine ⟨by kernel_rfl, fun i s hs => ?_, fun i s t hs ht => ?_, fun s hs => ?_, fun i s hs hi => ?_⟩
  · rcases i with _ | i
    · obtain rfl : s = ⟨1, [oneB], 9⟩ := by simpa [awP] using hs.symm
      obtain ⟨f, h1, h2⟩ := aw_file
      refine ⟨by decide, f, h1, ⟨by rw [h2]; exact aw_chain, by rw [h2]; decide, fun _ => by rw [h2]; exact aw_why⟩, fun h => by simp [awP] at h, by rw [h2]; decide⟩
    · simp [awP] at hs
  · simp [awP] at ht
  · obtain rfl : s = ⟨1, [oneB], 9⟩ := by simpa [awP] using hs.symm
    exact ⟨by decide, by decide⟩
  · rcases i with _ | i
    · obtain rfl : s = ⟨1, [oneB], 9⟩ := by simpa [awP] using hs.symm
      decide
    · simp [awP] at hs
/-- A log that is new since w; what was there ahead of w stays. -/
def LW (w : World) (lb d : Nat) (R : Int) (S : List RF) (M : LogM) (W : World) : Prop := ∃ V, WPair w (fun k => k < w.heap.size) lb d R S M V W
section
variable {w W W' : World} {lb d : Nat} {R : Int} {S S' : List RF} {M M' : LogM}
theorem LW.lt (h : LW w lb d R S M W) : ∀ k, k < w.heap.size → k < W.heap.size := fun k hk => by
  obtain ⟨V, h⟩ := h
  exact Nat.lt_of_lt_of_le hk h.below.size
theorem LW.below (h : LW w lb d R S M W) : Below w.heap.size w W := by
  obtain ⟨V, h⟩ := h
  exact h.below
theorem LW.later (h : LW w lb d R S M W) (hb : Below W.heap.size W W') : LW w lb d R S M W' := by
  obtain ⟨V, h⟩ := h
  exact ⟨V, h.later hb⟩
theorem conv_one {A : Option Addr} {c B : Nat} (h : W.ownsRow B 5 1 (.slice A 3 c) 3 (oneB.map (Value.int .u8))) : (convert 33 9 (.slice A 3 c)).run Tryz.prog W = .ok (.string ⟨#[111, 110, 101]⟩) W := by
  rcases h.2 with ⟨_, e2⟩ | ⟨g, cap, cur, e1, _⟩
  · omega
  · obtain ⟨rfl, _, rfl⟩ := Value.slice.inj e1
    refine run_convert_bytes_arg _ 33 5 Tryz.underlying33 Tryz.underlying5 g 0 3 c oneB rfl (fun i hi => ?_) 9 Tryz.underlying9
    have h2 := h.cells (g := g) rfl i (.int .u8 (oneB.getD i 0)) (by
      have : i = 0 ∨ i = 1 ∨ i = 2 := by omega
      rcases this with rfl | rfl | rfl <;> rfl)
    rw [Addr.add_lit] at h2
    exact h2
/-- A literal of bytes beside a log: the log keeps off it. -/
theorem LW.lit (h : LW w lb d R S M W) (o : Obj) : ∃ V, WPair w (fun k => k < w.heap.size ∨ k = W.heap.size) lb d R S M V (W.alloc o) ∧ ∀ k, (k < w.heap.size ∨ k = W.heap.size) → k < (W.alloc o).heap.size := by
  have hl := h.lt
  obtain ⟨V, h⟩ := h
  refine ⟨V, (h.keepK fun k h1 h2 => ?_).later ((Below.refl _ _).alloc (Nat.le_refl _) _), fun k hk => ?_⟩
  · rcases h2 with h2 | h2
    · exact h2
    · omega
  · rcases hk with hk | hk
    · have := hl k hk
      simp
      omega
    · simp
      omega
theorem LW.of_lit {q : Nat} {V : LogV} (h : WPair w (fun k => k < w.heap.size ∨ k = q) lb d R S M V W) : LW w lb d R S M W := ⟨V, h.keepK fun _ _ hk => .inl hk⟩
theorem rd_lit3 (W : World) (a b c : Int) : Rd (W.alloc (.cells #[.int .u8 a, .int .u8 b, .int .u8 c] 5 (3, 4))) (W.alloc (.cells #[.int .u8 a, .int .u8 b, .int .u8 c] 5 (3, 4))).heap.size .u8 (some ⟨W.heap.size, 0, none⟩) 3 3 [a, b, c] := by
  refine ⟨rfl, Nat.le_refl _, by show (3 : Nat) ≤ maxLen; unfold maxLen; omega, (fun h => by cases h), fun j u hu => ⟨W.heap.size, 0, rfl, by simp, ?_⟩⟩
  rw [Nat.zero_add, World.cell?_alloc_mark]
  have h2 : ([a, b, c].map (Value.int .u8)).toArray[j]? = some (.int .u8 u) := by
    rw [List.getElem?_toArray, List.getElem?_map, hu]
    rfl
  exact h2
theorem aw_append1 (h : LW w lb d 1000 [] (newM 100) W) (ht : Tab w) : Calls Tryz.prog 24 #[.pointer (some ⟨lb, 0, none⟩), .slice (some ⟨W.heap.size, 0, none⟩) 3 3] (W.alloc (.cells #[.int .u8 111, .int .u8 110, .int .u8 101] 5 (3, 4))) fun e w3 =>
    e = .returned (.int .i64 0) ∧ LW w lb d 1000 [awF (sealF oneB) 0] ⟨100, [(1, 9)], 0, [], [oneB], 0⟩ w3 := by
  obtain ⟨V, h1, h2⟩ := h.lit (.cells #[.int .u8 111, .int .u8 110, .int .u8 101] 5 (3, 4))
  refine (Append_first h1 h2 ht (newM_ok (by omega)) (rd_lit3 W 111 110 101) (by decide) (fun a e _ => .inr (by cases e; rfl)) (by omega) (by decide) (by decide) rfl aw1 (by decide) (by decide)).mono ?_
  rintro e w3 ⟨rfl, V', h3, _⟩
  exact ⟨rfl, LW.of_lit h3⟩
theorem aw_sync (h : LW w lb d 1000 [awF (sealF oneB) 0] ⟨100, [(1, 9)], 0, [], [oneB], 0⟩ W) (ht : Tab w) : Calls Tryz.prog 25 #[.pointer (some ⟨lb, 0, none⟩)] W fun e w3 =>
    e = .returned (.int .i64 0) ∧ LW w lb d 1000 [awF (sealF oneB) 9] ⟨100, [(1, 9)], 0, [], [oneB], 1⟩ w3 := by
  have hl := h.lt
  obtain ⟨V, h⟩ := h
  have hk : LogOk ⟨100, [(1, 9)], 0, [], [oneB], 0⟩ := ⟨by decide, by decide, by decide, by decide, by decide, by decide⟩
  refine (Sync_some h hl ht hk (k := 0) (s := (1, 9)) rfl rfl (f := awF (sealF oneB) 0) (by kernel_rfl)).mono ?_
  rintro e w3 ⟨rfl, h3, _⟩
  rw [aw2] at h3
  exact ⟨rfl, V, h3⟩
theorem aw_append2 (h : LW w lb d 1000 [awF (sealF oneB) 9] ⟨100, [(1, 9)], 0, [], [oneB], 1⟩ W) (ht : Tab w) : Calls Tryz.prog 24 #[.pointer (some ⟨lb, 0, none⟩), .slice (some ⟨W.heap.size, 0, none⟩) 3 3] (W.alloc (.cells #[.int .u8 116, .int .u8 119, .int .u8 111] 5 (3, 4))) fun e w3 =>
    e = .returned (.int .i64 0) ∧ LW w lb d 1000 [awF (sealF oneB ++ sealF twoB) 9] ⟨100, [(1, 18)], 0, [], [oneB, twoB], 1⟩ w3 := by
  obtain ⟨V, h1, h2⟩ := h.lit (.cells #[.int .u8 116, .int .u8 119, .int .u8 111] 5 (3, 4))
  have hk : LogOk ⟨100, [(1, 9)], 0, [], [oneB], 1⟩ := ⟨by decide, by decide, by decide, by decide, by decide, by decide⟩
  refine (Append_on h1 h2 ht hk (rd_lit3 W 116 119 111) (by decide) (fun a e _ => .inr (by cases e; rfl)) (by omega) (by decide) (by decide) (k := 0) (s := (1, 9)) rfl rfl (.inr (by decide)) aw3 (by decide) (by decide)).mono ?_
  rintro e w3 ⟨rfl, V', h3, _⟩
  exact ⟨rfl, LW.of_lit h3⟩
theorem aw_crash (h : LW w lb d 1000 [awF (sealF oneB ++ sealF twoB) 9] M W) (ht : Tab w) : Calls Tryz.prog 20 #[.pointer (some ⟨d, 0, none⟩), .slice (some ⟨W.heap.size, 0, none⟩) 1 1] (W.alloc (.cells #[.int .i64 5] 3)) fun e w3 =>
    e = .returned (.tuple #[]) ∧ Hid (Calls Tryz.prog 15 #[.pointer (some ⟨d, 0, none⟩), .int .i64 100] w3 fun e w4 => ∃ lb, e = .returned (.tuple #[.pointer (some ⟨lb, 0, none⟩), .nilIface]) ∧ LW w lb d 1000 (settleF awT (segsP awP)) (openM 100 0 [] awP) w4) := by
  have hbw := h.below
  obtain ⟨V, h⟩ := h
  obtain ⟨Φ, Λ, hlog, hd, ha, hK⟩ := h.ex
  have hba : Below W.heap.size W (W.alloc (.cells #[.int .i64 5] 3)) := (Below.refl _ _).alloc (Nat.le_refl _) _
  have e1 : (W.alloc (.cells #[.int .i64 5] 3)).heap.size = W.heap.size + 1 := by simp
  have hr : Rd (W.alloc (.cells #[.int .i64 5] 3)) (W.alloc (.cells #[.int .i64 5] 3)).heap.size .i64 (some ⟨W.heap.size, 0, none⟩) 1 1 [5] := by
    rw [e1]
    exact Rd.lit W .i64 3 [5] (by show (1 : Nat) ≤ maxLen; unfold maxLen; omega)
  refine (Crash_any (hd.later hba) _ 1 1 [5] hr (fun b o e _ hb => ?_) (by decide) (by decide)).mono ?_
  · cases e
    have := (hK _ (.inl hb)).2.2
    omega
  rintro e w3 ⟨rfl, hc, hd3⟩
  refine ⟨rfl, Lib.hid ?_⟩
  have hcs := hc.size
  have hws := hbw.size
  have hb3 : Below w.heap.size w w3 := (hbw.trans (hba.mono hws)).trans (hc.below (by omega) fun k hk => (hK k (.inl hk)).1)
  refine (Open_segs (w0 := w) (Kp := fun k => k < w.heap.size) hb3 (hd3.mono (Ψ := fun i => grow Φ (W.alloc (.cells #[.int .i64 5] 3)) w3 i ∧ i < w3.heap.size) fun i hi h1 => ⟨h1, hi⟩) (fun k hk => ?_) (fun k hk => by omega) ht 100 (by omega) (by omega) aw5 (by decide) aw_segs (by decide) (by decide) ?_).mono ?_
  · obtain ⟨hk1, hk2⟩ := hk
    rcases hk1 with hk1 | hk1
    · have := (hK k (.inl hk1)).1
      exact ⟨this, by omega, hk2⟩
    · exact ⟨by omega, by omega, hk2⟩
  · intro f hf
    have h1 : (f.nm, f.b) ∈ awT.map (fun f => (f.nm, f.b)) := List.mem_map.2 ⟨f, hf, rfl⟩
    rw [aw4] at h1
    have h2 : f.b = awB := by
      have := List.mem_singleton.1 h1
      exact (Prod.mk.inj this).2
    rw [h2]
    decide
  · rintro e w4 ⟨lb2, rfl, hV⟩
    obtain ⟨V', h4, _⟩ := hV.out
    exact ⟨lb2, rfl, V', h4⟩
theorem aw_open (w : World) : Calls Tryz.prog 14 #[.int .i64 1000] w fun e w1 => e = .returned (.pointer (some ⟨w.heap.size + 1, 0, none⟩)) ∧
    Hid (Calls Tryz.prog 15 #[.pointer (some ⟨w.heap.size + 1, 0, none⟩), .int .i64 100] w1 fun e w2 => ∃ lb, e = .returned (.tuple #[.pointer (some ⟨lb, 0, none⟩), .nilIface]) ∧ LW w lb (w.heap.size + 1) 1000 [] (newM 100) w2) := by
  refine (New_any 1000 w).mono ?_
  rintro e w1 ⟨rfl, hb, hs, hd⟩
  refine ⟨rfl, Lib.hid ?_⟩
  refine (Open_empty (w0 := w) (Kp := fun k => k < w.heap.size) hb hd (fun k hk => ⟨hk.1, by omega, by omega⟩) (fun k hk => by omega) 100 (by omega) (by omega)).mono ?_
  rintro e w2 ⟨lb, rfl, h, _⟩
  exact ⟨lb, rfl, newV, h⟩
theorem LW.last_ (h : LW w lb d R S M W) (hk : LogOk M) : Calls Tryz.prog 21 #[.pointer (some ⟨lb, 0, none⟩)] W fun e w' => e = .returned (.int .i64 M.last) ∧ LW w lb d R S M w' ∧ Below W.heap.size W w' := by
  obtain ⟨V, h⟩ := h
  refine (h.Last_ hk).mono ?_
  rintro e w' ⟨rfl, h2, hb⟩
  exact ⟨rfl, ⟨V, h2⟩, hb⟩
theorem LW.synced_ (h : LW w lb d R S M W) : Calls Tryz.prog 19 #[.pointer (some ⟨lb, 0, none⟩)] W fun e w' => e = .returned (.int .i64 M.synced) ∧ W = w' := by
  obtain ⟨V, h⟩ := h
  obtain ⟨Φ, Λ, hl, _⟩ := h.ex
  exact Synced_any hl
theorem aw_get (h : LW w lb d R S (openM 100 0 [] awP) W) : Calls Tryz.prog 26 #[.pointer (some ⟨lb, 0, none⟩), .int .i64 1] W fun e w' => ∃ A c, e = .returned (.tuple #[.slice A 3 c, .bool true]) ∧ Hid (w'.ownsRow W.heap.size 5 1 (.slice A 3 c) 3 (oneB.map (Value.int .u8))) ∧ LW w lb d R S (openM 100 0 [] awP) w' ∧ Below W.heap.size W w' := by
  have hw := h
  obtain ⟨V, h⟩ := h
  obtain ⟨Φ, Λ, hl, _⟩ := h.ex
  have hk : LogOk (openM 100 0 [] awP) := ⟨by decide, by decide, by decide, by decide, by decide, by decide⟩
  refine (Get_any hl hk 1).mono ?_
  rintro e w' (⟨hn, _⟩ | ⟨j, xs, v, h1, h2, rfl, h3, hb⟩)
  · exact absurd (show ((openM 100 0 [] awP).base : Int) < 1 ∧ (1 : Int) ≤ (openM 100 0 [] awP).last from by decide) hn
  · have hb0 : (openM 100 0 [] awP).base = 0 := rfl
    rw [hb0] at h1
    obtain rfl : j = 0 := by omega
    have h4 : (openM 100 0 [] awP).recs[0]? = some oneB := rfl
    rw [h4] at h2
    obtain rfl := Option.some.inj h2
    obtain ⟨A, c, rfl, _⟩ := Rd.of_own h3
    exact ⟨A, c, rfl, Lib.hid h3, hw.later hb, hb⟩
set_option maxHeartbeats 800000 in
theorem Open_nil (w : World) : Calls Tryz.prog 15 #[.pointer none, .int .i64 100] w fun e w' => ∃ b, e = .returned (.tuple #[.pointer none, .iface 63 (.pointer (some ⟨b, 0, none⟩))]) ∧ w'.cell? ⟨b, 1, none⟩ = some (.iface 49 (.int .i64 1)) ∧ Below w.heap.size w w' := by
  go_enter Tryz.func15, Tryz.ntmps15
  go_wp2_with fail
  have hb : (w.alloc (.cells #[.string ⟨#[]⟩, .iface 49 (.int .i64 1)] 67)).cell? ⟨w.heap.size, 1, none⟩ = some (.iface 49 (.int .i64 1)) := (two_cells (heap_alloc_new w (.cells #[.string ⟨#[]⟩, .iface 49 (.int .i64 1)] 67))).2.1
  have HB := Lib.hid hb
  clear hb
  go_ret2
  exact ⟨_, rfl, HB.out, (Below.refl _ _).alloc (Nat.le_refl _) _⟩
set_option maxHeartbeats 6400000 in
set_option maxRecDepth 100000 in
theorem awake_any (w : World) (ht : Tab w) : Calls Tryz.prog 13 #[] w fun e w' => e = .returned (.bool true) ∧ Below w.heap.size w w' := by
  have HNEW := Lib.hid (aw_open w)
  have H1 : Hid (∀ lb d W, LW w lb d 1000 [] (newM 100) W → _) := Lib.hid fun lb d W h => aw_append1 h ht
  have H2 : Hid (∀ lb d W, LW w lb d 1000 [awF (sealF oneB) 0] ⟨100, [(1, 9)], 0, [], [oneB], 0⟩ W → _) := Lib.hid fun lb d W h => aw_sync h ht
  have H3 : Hid (∀ lb d W, LW w lb d 1000 [awF (sealF oneB) 9] ⟨100, [(1, 9)], 0, [], [oneB], 1⟩ W → _) := Lib.hid fun lb d W h => aw_append2 h ht
  have hk3 : LogOk ⟨100, [(1, 18)], 0, [], [oneB, twoB], 1⟩ := ⟨by decide, by decide, by decide, by decide, by decide, by decide⟩
  have H4 : Hid (∀ lb d W, LW w lb d 1000 [awF (sealF oneB ++ sealF twoB) 9] ⟨100, [(1, 18)], 0, [], [oneB, twoB], 1⟩ W → Calls Tryz.prog 21 #[.pointer (some ⟨lb, 0, none⟩)] W fun e w' => e = .returned (.int .i64 2) ∧ LW w lb d 1000 [awF (sealF oneB ++ sealF twoB) 9] ⟨100, [(1, 18)], 0, [], [oneB, twoB], 1⟩ w' ∧ Below W.heap.size W w') := Lib.hid fun lb d W h => h.last_ hk3
  have H5 : Hid (∀ lb d W, LW w lb d 1000 [awF (sealF oneB ++ sealF twoB) 9] ⟨100, [(1, 18)], 0, [], [oneB, twoB], 1⟩ W → Calls Tryz.prog 19 #[.pointer (some ⟨lb, 0, none⟩)] W fun e w' => e = .returned (.int .i64 1) ∧ W = w') := Lib.hid fun lb d W h => h.synced_
  have H6 : Hid (∀ lb d W, LW w lb d 1000 [awF (sealF oneB ++ sealF twoB) 9] ⟨100, [(1, 18)], 0, [], [oneB, twoB], 1⟩ W → _) := Lib.hid fun lb d W h => aw_crash h ht
  have hk7 : LogOk (openM 100 0 [] awP) := ⟨by decide, by decide, by decide, by decide, by decide, by decide⟩
  have H7 : Hid (∀ lb d W, LW w lb d 1000 (settleF awT (segsP awP)) (openM 100 0 [] awP) W → _) := Lib.hid fun lb d W h => aw_get h
  have H8 : Hid (∀ lb d W, LW w lb d 1000 (settleF awT (segsP awP)) (openM 100 0 [] awP) W → Calls Tryz.prog 21 #[.pointer (some ⟨lb, 0, none⟩)] W fun e w' => e = .returned (.int .i64 1) ∧ LW w lb d 1000 (settleF awT (segsP awP)) (openM 100 0 [] awP) w' ∧ Below W.heap.size W w') := Lib.hid fun lb d W h => h.last_ hk7
  have kc := fun (w : World) (C : Array Value) (n c : Nat) => Lib.run_convert_bytes_const (P := Tryz.prog) w 33 5 C n c Tryz.underlying33 Tryz.underlying5
  clear hk3 hk7 ht
  go_enter Tryz.func13, Tryz.ntmps13
  go_upto_region 5 with (first
    | (go_at_call 14; refine HNEW.out.mono ?_; rintro e w1 ⟨rfl, HO⟩)
    | (go_at_call 15; refine HO.out.mono ?_; rintro e w2 ⟨lb, rfl, h2⟩))
  have L2 := Lib.hid h2
  clear h2 HNEW HO
  go_upto_region 8 with (first
    | (go_at_call 24
       first
       | (refine (H3.out _ _ _ L4.out).mono ?_; rintro e w5 ⟨rfl, h5⟩; have L5 := Lib.hid h5; clear h5)
       | (refine (H1.out _ _ _ L2.out).mono ?_; rintro e w3 ⟨rfl, h3⟩; have L3 := Lib.hid h3; clear h3))
    | (go_at_call 25; refine (H2.out _ _ _ L3.out).mono ?_; rintro e w4 ⟨rfl, h4⟩; have L4 := Lib.hid h4; clear h4)
    | (go_at_call 21; refine (H4.out _ _ _ L5.out).mono ?_; rintro e w6 ⟨rfl, h6, _⟩; have L6 := Lib.hid h6; clear h6)
    | (go_at_call 19; refine (H5.out _ _ _ L6.out).mono ?_; rintro e w7 ⟨rfl, rfl⟩)
    | (go_at_call 20; refine (H6.out _ _ _ L6.out).mono ?_; rintro e w8 ⟨rfl, HOP⟩))
  have HN := Lib.hid (fun W => Open_nil W)
  have HI := Lib.hid (fun b W hb => isBad_any b 1 1 W hb)
  have hone : (strOfNums oneB) = ⟨#[111, 110, 101]⟩ := rfl
  have HONE := Lib.hid hone
  clear hone L2 L3 L4 L5 H1 H2 H3 H4 H5 H6 kc
  go_upto_region 9 with (go_at_call 15; refine HOP.out.mono ?_; rintro e w9 ⟨lb2, rfl, h9⟩; have L9 := Lib.hid h9; clear h9)
  go_upto_region 12 with (go_at_call 26; refine (H7.out _ _ _ L9.out).mono ?_; rintro e w11 ⟨gA, gC, rfl, hown, h11, hb11⟩; have L11 := Lib.hid (And.intro hown.out h11); clear h11 hown hb11)
  go_upto_region 13 with (go_at_call 15; refine (HN.out _).mono ?_; rintro e w12 ⟨bb, rfl, hbc, hb12⟩; have LB := Lib.hid (L11.out.2.later hb12); have OW := Lib.hid (own_below L11.out.1 hb12); clear hb12)
  have HCV : Hid (∀ W, Below w12.heap.size w12 W → (convert 33 9 (.slice gA 3 gC)).run Tryz.prog W = .ok (.string ⟨#[111, 110, 101]⟩) W ∧ W.cell? ⟨bb, 1, none⟩ = some (.iface 49 (.int .i64 1))) := Lib.hid fun W hW => ⟨conv_one (own_below OW.out hW), (hW.cell (World.block_lt_of_cell? _ _ hbc)).trans hbc⟩
  have HBW := Lib.hid LB.out.below
  clear hbc OW
  go_wp2_with (first
    | (go_at_call 21; refine (H8.out _ _ _ LB.out).mono ?_; rintro e w13 ⟨rfl, h13, hb13⟩; obtain ⟨hcv, hbc⟩ := HCV.out _ hb13; have HB13 := Lib.hid h13.below; clear h13 hb13)
    | (go_at_call 35; refine (HI.out _ _ hbc).mono ?_; rintro e w14 ⟨rfl, rfl⟩))
  go_ret
  exact ⟨rfl, HB13.out⟩
end
end Go.Proofs.YtnomicnmpllajaaGreatDoor
end

section
namespace Go.Proofs.YtnomicnmpllajaaGreatDoor
open Go Go.RowKit Go.ChangeShapes Go.WideShapes Go.Deep

/-- A call: what stands in its struct, and what its slice holds. -/
structure OpM where
  kind : Int
  n : Int
  bA : Option Addr
  bn : Nat
  bc : Nat
  b : List Int
def OpM.vals (p : OpM) : List Value := [.int .i64 p.kind, .int .i64 p.n, .slice p.bA p.bn p.bc]
structure OpOk (w : World) (B : Nat) (p : OpM) : Prop where
  rb : Rd w B .u8 p.bA p.bn p.bc p.b
  byt : ∀ x ∈ p.b, 0 ≤ x ∧ x < 256
  ik : -9223372036854775808 ≤ p.kind ∧ p.kind ≤ 9223372036854775807
  i_n : -9223372036854775808 ≤ p.n ∧ p.n ≤ 9223372036854775807
  sb : p.bn ≤ 140737488351232
theorem OpOk.below {w w' : World} {B : Nat} {p : OpM} (h : OpOk w B p) (hb : Below B w w') : OpOk w' B p := ⟨h.rb.below hb, h.byt, h.ik, h.i_n, h.sb⟩

section
variable {H : Type} {enc : TypeId × Value → H} {w : World} {spare : Nat → Bool} {held : Bool} {base : Nat}
theorem reach_num : reachBytes = 140737488351232 := by decide
theorem bytes_u8 : Tryz.prog.bytesOf 5 = 1 := by kernel_rfl

/-- A slice of numbers that came in, with what its reading weighs. -/
theorem ints_in {t e : TypeId} {k : IntKind} {fuel bytes : Nat} {v : Value} {x : DataW H × List MemPlace} (ht : Tryz.prog.underlying t = some (.slice e)) (he : Tryz.prog.underlying e = some (.int k)) (hc : Tryz.prog.cellsOf e = 1) (hby : Tryz.prog.bytesOf e = bytes) (h1 : 1 ≤ bytes)
    (h : DataW.trod enc Tryz.prog w base (fun _ => true) held fuel t [v] = some x) (hw : ∀ n ∈ x.1.weights Tryz.prog t, n ≤ reachBytes) :
    ∃ A n c zs, v = .slice A n c ∧ Rd w w.heap.size k A n c zs ∧ (∀ z ∈ zs, (Lit.int k z).wf = true) ∧ n ≤ 140737488351232 ∧ (∀ b o, A = some ⟨b, o, none⟩ → n = 0 ∨ b < w.heap.size) := by
  rcases open_ints ht he hc h with ⟨hcs, _⟩ | ⟨a, l, c, zs, hcs, _, hl, hm, hz, hx, hcell, hwz⟩
  · simp at hcs
    subst hcs
    exact ⟨none, 0, 0, [], rfl, Rd.none_ _ _ _, (fun z hz => by cases hz), by omega, fun b o e => by cases e⟩
  · simp at hcs
    subst hcs
    simp only [if_true] at hz
    have hr := Rd.of_row (w := w) (k := k) (a := some a) (len := l) (cap := c) (zs := zs) (.inr ⟨a, rfl, hl, hm, by simpa using hz, hcell, hwz⟩)
    refine ⟨some a, l, c, zs.take l, rfl, hr.1, hr.2, ?_, fun b o e => ?_⟩
    · have hmem : ((lits (H := H) k (zs.take l)).length + (lits (H := H) k (zs.drop l)).length) * bytes ∈ x.1.weights Tryz.prog t := by
        rw [hx]
        simp [DataW.weights, ht, hby]
      have h2 := hw _ hmem
      rw [reach_num] at h2
      have h3 : (lits (H := H) k (zs.take l)).length = l := by simp [lits]; omega
      rw [h3] at h2
      have h4 : l * 1 ≤ (l + (lits (H := H) k (zs.drop l)).length) * bytes := Nat.mul_le_mul (by omega) h1
      omega
    · by_cases hl0 : l = 0
      · exact .inl hl0
      · obtain ⟨b', o', e', hb, _⟩ := hr.1.cell (j := 0) (by omega)
        rw [e] at e'
        cases e'
        exact .inr hb
theorem one_int {t : TypeId} {fuel : Nat} {v : Value} {x : DataW H × List MemPlace} (ht : Tryz.prog.underlying t = some (.int .i64)) (h : DataW.trod enc Tryz.prog w base spare held fuel t [v] = some x) :
    ∃ n : Int, v = .int .i64 n ∧ -9223372036854775808 ≤ n ∧ n ≤ 9223372036854775807 := by
  obtain ⟨n, hcs, _, hwf⟩ := DataW.trod_int ht h
  simp at hcs
  exact ⟨n, hcs, bounds_i64 hwf⟩

theorem three {α : Type} {l : List α} (h : l.length = 3) : ∃ a b c, l = [a, b, c] := by
  match l, h with
  | [a, b, c], _ => exact ⟨a, b, c, rfl⟩

/-- The struct of a call, off its cells. -/
theorem op_of_trod {fuel : Nat} {cs : List Value} {x : DataW H × List MemPlace} (h : DataW.trod enc Tryz.prog w base (fun _ => true) held fuel 39 cs = some x) (hw : ∀ n ∈ x.1.weights Tryz.prog 39, n ≤ reachBytes) :
    ∃ p : OpM, cs = p.vals ∧ OpOk w w.heap.size p := by
  have hu := Tryz.underlying39
  obtain ⟨xs, n, _, hx, hlen, hxl, hg⟩ := DataW.trod_struct hu h
  have hC : Tryz.prog.cellsOf 39 = 3 := by kernel_rfl
  obtain ⟨v0, v1, v2, rfl⟩ := three (hlen.trans hC)
  obtain ⟨y0, y1, y2, rfl⟩ := three hxl
  have k3 : Tryz.prog.cellsOf 3 = 1 := by kernel_rfl
  have k31 : Tryz.prog.cellsOf 33 = 1 := by kernel_rfl
  have g0 := hg 0 _ rfl
  have g1 := hg 1 _ rfl
  have g2 := hg 2 _ rfl
  simp [k3, k31] at g0 g1 g2
  have hmem : ∀ (j : Nat) (t : TypeId) (y : DataW H × List MemPlace), [3, 3, 33][j]? = some t → [y0, y1, y2][j]? = some y → ∀ k ∈ y.1.weights Tryz.prog t, k ≤ reachBytes := fun j t y ht hy k hk => by
    refine hw k ?_
    rw [hx]
    simp only [DataW.weights, hu]
    refine DataW.weights_mem_each (j := j) (t := t) (d := y.1) ht ?_ k hk
    rw [List.getElem?_map, hy]
    rfl
  obtain ⟨kind, rfl, i0⟩ := one_int Tryz.underlying3 g0
  obtain ⟨nn, rfl, i1⟩ := one_int Tryz.underlying3 g1
  obtain ⟨bA, bn, bc, b, rfl, r3, w3, s3, _⟩ := ints_in Tryz.underlying33 Tryz.underlying5 (by kernel_rfl) bytes_u8 (Nat.le_refl _) g2 (hmem 2 _ _ rfl rfl)
  exact ⟨⟨kind, nn, bA, bn, bc, b⟩, rfl, ⟨r3, wf_bytes w3, i0, i1, s3⟩⟩

theorem weightsAll_mem {P : Program} {e : TypeId} {d : DataW H} : ∀ {l : List (DataW H)}, d ∈ l → ∀ n ∈ d.weights P e, n ∈ DataW.weightsAll P e l
  | a :: r, hd, n, hn => by
    unfold DataW.weightsAll
    rcases List.mem_cons.1 hd with rfl | hd
    · exact List.mem_append.2 (.inl hn)
    · exact List.mem_append.2 (.inr (weightsAll_mem hd n hn))
theorem add_form {a : Addr} {u : Value} (h : w.cell? (a.add 0) = some u) : a = ⟨a.block, a.off, none⟩ := by
  obtain ⟨b, o, sp⟩ := a
  cases sp with
  | none => rfl
  | some x =>
    exfalso
    unfold World.cell? at h
    simp [Addr.add] at h
    split at h
    · cases h
    · cases h
instance : Inhabited OpM := ⟨⟨0, 0, none, 0, 0, []⟩⟩
end

/-- A slice of calls, as a list. -/
structure OpsRd (w : World) (B : Nat) (A : Option Addr) (n c : Nat) (l : List OpM) : Prop where
  len : l.length = n
  cap : n ≤ c
  max : c ≤ maxLen
  place : ∀ j p, l[j]? = some p → ∃ b o, A = some ⟨b, o, none⟩ ∧ b < B ∧ ∀ i u, p.vals[i]? = some u → w.cell? ⟨b, o + (j * 3 + i), none⟩ = some u
  ok : ∀ p ∈ l, OpOk w B p
theorem OpsRd.below {w w' : World} {B : Nat} {A : Option Addr} {n c : Nat} {l : List OpM} (h : OpsRd w B A n c l) (hb : Below B w w') : OpsRd w' B A n c l :=
  ⟨h.len, h.cap, h.max, fun j p hj => by
    obtain ⟨b, o, e, hB, hc⟩ := h.place j p hj
    exact ⟨b, o, e, hB, fun i u hu => by rw [hb.cell (p := ⟨b, o + (j * 3 + i), none⟩) hB]; exact hc i u hu⟩, fun p hp => (h.ok p hp).below hb⟩

theorem ops_in {H : Type} {enc : TypeId × Value → H} {w : World} {held : Bool} {base fuel : Nat} {v : Value} {x : DataW H × List MemPlace} (h : DataW.trod enc Tryz.prog w base (fun _ => true) held fuel 22 [v] = some x)
    (hw : ∀ n ∈ x.1.weights Tryz.prog 22, n ≤ reachBytes) : ∃ A n c l, v = .slice A n c ∧ OpsRd w w.heap.size A n c l := by
  have hC : Tryz.prog.cellsOf 39 = 3 := by kernel_rfl
  rcases open_slice Tryz.underlying22 h with ⟨hcs, _⟩ | ⟨a, len, cap, m, n, D, Pl, hcs, _, hl, hm, hmm, hx, hi⟩
  · simp at hcs
    subst hcs
    exact ⟨none, 0, 0, [], rfl, rfl, Nat.le_refl _, Nat.zero_le _, fun j p hj => by simp at hj, fun p hp => by cases hp⟩
  · simp at hcs
    subst hcs
    simp only [if_true] at hmm
    have key0 : ∀ i, i < len → ∃ p : OpM, (∀ j u, p.vals[j]? = some u → w.cell? (a.add (i * 3 + j)) = some u) ∧ OpOk w w.heap.size p := by
      intro i hil
      obtain ⟨cs', hc, ht⟩ := hi i (by omega)
      obtain ⟨_, hcl, hat⟩ := World.cells?_some hc
      obtain ⟨p, hp, hok⟩ := op_of_trod ht (fun k hk => hw k (by
        rw [hx]
        simp only [DataW.weights, Tryz.underlying22]
        refine List.mem_cons_of_mem _ (List.mem_append.2 (.inl (weightsAll_mem ?_ k hk)))
        exact List.mem_map.2 ⟨i, List.mem_range.2 hil, rfl⟩))
      rw [hC] at hat
      have h6 : p.vals.length = 3 := rfl
      refine ⟨p, fun j u hu => ?_, hok⟩
      have hj : j < 3 := by rw [← h6]; exact (List.getElem?_eq_some_iff.1 hu).1
      have := hat j hj
      rw [add_add, hp, hu] at this
      exact this
    have hform : 0 < len → a = ⟨a.block, a.off, none⟩ := fun h0 => by
      obtain ⟨p, hp, _⟩ := key0 0 h0
      exact add_form (hp 0 _ rfl)
    have key : ∀ i, i < len → ∃ p : OpM, (a = ⟨a.block, a.off, none⟩ ∧ a.block < w.heap.size ∧ ∀ j u, p.vals[j]? = some u → w.cell? ⟨a.block, a.off + (i * 3 + j), none⟩ = some u) ∧ OpOk w w.heap.size p := by
      intro i hil
      obtain ⟨p, hp, hok⟩ := key0 i hil
      have hfm := hform (by omega)
      have hcell : ∀ j u, p.vals[j]? = some u → w.cell? ⟨a.block, a.off + (i * 3 + j), none⟩ = some u := fun j u hu => by
        have := hp j u hu
        rw [hfm, Addr.add_lit] at this
        exact this
      exact ⟨p, ⟨hfm, World.block_lt_of_cell? w ⟨a.block, a.off + (i * 3 + 0), none⟩ (hcell 0 _ rfl), hcell⟩, hok⟩
    obtain ⟨f, hf⟩ := choose_lt key
    refine ⟨some a, len, cap, (List.range len).map f, rfl, by simp, hl, hm, fun j p hj => ?_, fun p hp => ?_⟩
    · rw [List.getElem?_map] at hj
      obtain ⟨i, hi', rfl⟩ := Option.map_eq_some_iff.1 hj
      obtain ⟨h1, h2⟩ := List.getElem?_eq_some_iff.1 hi'
      simp at h1 h2
      subst h2
      obtain ⟨⟨e, hB, hc⟩, _⟩ := hf j h1
      exact ⟨a.block, a.off, by rw [← e], hB, hc⟩
    · obtain ⟨i, hi', rfl⟩ := List.mem_map.1 hp
      exact (hf i (List.mem_range.1 hi')).2
end Go.Proofs.YtnomicnmpllajaaGreatDoor
end

section
namespace Go.Proofs.YtnomicnmpllajaaGreatDoor
open Go Go.RowKit Go.Maps

def weigh (p : OpM) : Nat := p.bn
def weighs (l : List OpM) : Nat := (l.map weigh).sum
theorem weighs_snoc (l : List OpM) (p : OpM) : weighs (l ++ [p]) = weighs l + weigh p := by simp [weighs]
/-- May calls be gone through? -/
def fewF (l : List OpM) : Bool := decide (l.length ≤ 40) && decide (weighs (l.take 41) ≤ 20000)

theorem OpsRd.at {w : World} {B : Nat} {A : Option Addr} {n c : Nat} {l : List OpM} (h : OpsRd w B A n c l) {j : Nat} (hj : j < n) :
    ∃ p b o, l[j]? = some p ∧ p ∈ l ∧ A = some ⟨b, o, none⟩ ∧ b < B ∧ (∀ i u, p.vals[i]? = some u → w.cell? ⟨b, o + (j * 3 + i), none⟩ = some u) ∧ OpOk w B p := by
  have hl : j < l.length := by rw [h.len]; exact hj
  obtain ⟨b, o, e, hB, hc⟩ := h.place j l[j] (List.getElem?_eq_getElem hl)
  exact ⟨l[j], b, o, List.getElem?_eq_getElem hl, List.getElem_mem hl, e, hB, hc, h.ok _ (List.getElem_mem hl)⟩

set_option maxHeartbeats 1600000 in
set_option maxRecDepth 100000 in
theorem few_any {w : World} {B : Nat} {A : Option Addr} {n c : Nat} {l : List OpM} (h : OpsRd w B A n c l) :
    Calls Tryz.prog 11 #[.slice A n c] w fun e w' => e = .returned (.bool (fewF l)) ∧ ∃ q, w' = w.drewN q := by
  have hc := h.cap
  have hm := h.max
  unfold maxLen at hm
  have HD := Lib.hid h
  have HLEN := Lib.hid h.len
  clear h
  go_enter Tryz.func11, Tryz.ntmps11
  go_wp2_with fail
  go_loopw [3, 4] (fun t i wr => ∃ k W : Nat, i = .int .i64 k ∧ t = .int .i64 W ∧ k ≤ n ∧ k ≤ 41 ∧ W ≤ k * 140737488351232 ∧ Hid (weighs (l.take k) = W) ∧ Hid (∃ q, wr = w.drewN q))
    (fun _ i _ => 41 - (intOf i).toNat)
  case atStart => exact ⟨0, 0, rfl, rfl, Nat.zero_le _, by omega, by omega, Lib.hid rfl, Lib.hid ⟨0, rfl⟩⟩
  case round =>
    obtain ⟨k, W, rfl, rfl, hk, hk2, hW, HW, HQ⟩ := hrel
    by_cases hkn : k < n
    · by_cases hk60 : k ≤ 40
      · obtain ⟨p, b, o, hp, _, rfl, hbB, hcell, hok⟩ := HD.out.at hkn
        obtain ⟨q, hq⟩ := HQ.out
        have e2 : wr.cell? ⟨b, o + k * 3 + 2, none⟩ = some (.slice p.bA p.bn p.bc) := by rw [hq]; exact hcell 2 _ rfl
        have s2 := hok.sb
        have HW2 : Hid (weighs (l.take (k + 1)) = W + p.bn) := Lib.hid (by
          rw [List.take_add_one, hp]
          show weighs (l.take k ++ [p]) = _
          rw [weighs_snoc, HW.out]
          rfl)
        have hkn' : (k : Int) < n := by omega
        have hk60' : (k : Int) ≤ 40 := by omega
        have HQ2 := Lib.hid hq
        obtain ⟨pk, pn, pbA, pbn, pbc, pb⟩ := p
        simp only at e2 s2
        clear hp hcell hok hq HQ
        have w1 : IntKind.i64.wrap ((W : Int) + (pbn : Int)) = (W : Int) + (pbn : Int) := IntWalk.i64_in _ (by omega)
        have w2 : IntKind.i64.wrap ((k : Int) + 1) = (k : Int) + 1 := IntWalk.i64_in _ (by omega)
        go_wp2_with fail
        go_roundw
        case rel => exact ⟨k + 1, W + pbn, by go_num, by go_num, by omega, by omega, by omega, HW2, Lib.hid ⟨q, HQ2.out⟩⟩
        case measure => simp [intOf]; omega
      · have hk61 : k = 41 := by omega
        subst hk61
        have hkn' : (41 : Int) < n := by omega
        have HF : Hid (fewF l = false) := Lib.hid (by
          unfold fewF
          rw [decide_eq_false (by rw [HLEN.out]; omega)]
          rfl)
        have hn60 : (40 : Int) < n := by omega
        obtain ⟨q, hq⟩ := HQ.out
        have HQ2 := Lib.hid hq
        clear hq
        go_wp2_with fail
        go_ret
        exact ⟨by rw [HF.out]; rfl, q, HQ2.out⟩
    · obtain rfl : k = n := by omega
      obtain ⟨q, hq⟩ := HQ.out
      have HQ2 := Lib.hid hq
      clear hq
      have htk : l.take 41 = l.take k := by
        by_cases h61 : k = 41
        · rw [h61]
        · rw [List.take_of_length_le (by rw [HLEN.out]; omega), List.take_of_length_le (by rw [HLEN.out]; omega)]
      have HF : Hid (fewF l = (decide ((k : Int) ≤ 40) && decide ((W : Int) ≤ 20000))) := Lib.hid (by
        unfold fewF
        rw [HLEN.out, htk, HW.out]
        congr 1
        · exact decide_eq_decide.2 (by omega)
        · exact decide_eq_decide.2 (by omega))
      clear htk
      by_cases hk60 : (k : Int) ≤ 40
      · by_cases hw30 : (W : Int) ≤ 20000
        · have d1 : decide ((k : Int) ≤ 40) = true := decide_eq_true hk60
          have d2 : decide ((W : Int) ≤ 20000) = true := decide_eq_true hw30
          go_wp2_with fail
          go_ret
          exact ⟨by rw [HF.out, d1, d2]; rfl, q, HQ2.out⟩
        · have d1 : decide ((k : Int) ≤ 40) = true := decide_eq_true hk60
          have d2 : decide ((W : Int) ≤ 20000) = false := decide_eq_false hw30
          replace hw30 : (20000 : Int) < W := by omega
          go_wp2_with fail
          go_ret
          exact ⟨by rw [HF.out, d1, d2]; rfl, q, HQ2.out⟩
      · have d1 : decide ((k : Int) ≤ 40) = false := decide_eq_false hk60
        replace hk60 : (40 : Int) < k := by omega
        go_wp2_with fail
        go_ret
        exact ⟨by rw [HF.out, d1]; rfl, q, HQ2.out⟩

set_option maxHeartbeats 400000 in
/-- 'small'. -/
theorem small_any (n : Int) (w : World) : Calls Tryz.prog 12 #[.int .i64 n] w fun e w' => e = .returned (.bool (decide (16 ≤ n ∧ n ≤ 65536))) ∧ w' = w := by
  by_cases h1 : 16 ≤ n
  · by_cases h2 : n ≤ 65536
    · rw [decide_eq_true (And.intro h1 h2)]
      go_enter Tryz.func12, Tryz.ntmps12
      go_wp2_with fail
      go_ret
      exact ⟨rfl, rfl⟩
    · rw [decide_eq_false (fun h => h2 h.2)]
      have d2 : decide (n ≤ 65536) = false := decide_eq_false h2
      replace h2 : 65536 < n := by omega
      go_enter Tryz.func12, Tryz.ntmps12
      go_wp2_with fail
      go_ret
      exact ⟨rfl, rfl⟩
  · rw [decide_eq_false (fun h => h1 h.1)]
    replace h1 : n < 16 := by omega
    go_enter Tryz.func12, Tryz.ntmps12
    go_wp2_with fail
    go_ret
    exact ⟨rfl, rfl⟩
end Go.Proofs.YtnomicnmpllajaaGreatDoor
end
