/- What is proved here: Tick makes of parts that say a plain queue parts that say the next one. -/
/- What is proved here: what Ids answers. -/
/- What is proved here: Receive of what it refuses. -/
import Derived.Test.YtdjieapobodakaaGreatDoorPEx31
import Derived.Test.YtdjieapobodakaaGreatDoorPEx24
import Derived.Test.YtdjieapobodakaaGreatDoorPEx10
import Derived.Test.YtdjieapobodakaaGreatDoorLibI
import Derived.Deep.DeepFit
import Derived.Test.YtdjieapobodakaaGreatDoorPEx27
section
namespace Go.Proofs.YtdjieapobodakaaGreatDoor
open Go Go.RowKit Go.Maps Go.WideMaps

/-- What goes to the dead letters, as it is given out. -/
def letM (x : Ms) : List Value := [.int .i64 x.id, .int .i64 x.count, .string x.body, .string x.group]
def notIn (ids : List Int) (k : Int) : Bool := decide (k ∉ ids)
section
variable {V : QV} {Q : QM} {T : Nat}
theorem drop_step {α : Type} (f : α → Int) (A : List α) (i : Int) (r : List Int) : (A.filter fun x => decide (f x ≠ i)).filter (fun x => notIn r (f x)) = A.filter fun x => notIn (i :: r) (f x) := by
  rw [List.filter_filter]
  apply List.filter_congr
  intro x _
  unfold notIn
  simp [Bool.and_comm]
theorem rmI_is : ∀ (ids : List Int) (V : QV), rmI V ids = { V with M := V.M.filter (fun x => notIn ids x.id), Lt := V.Lt.filter (fun x => notIn ids x.id), R1 := V.R1.filter (fun x => notIn ids x.1), R2 := V.R2.filter (fun x => notIn ids x.1) }
  | [], V => by
    have h0 : ∀ {α : Type} (f : α → Int) (l : List α), l.filter (fun x => notIn [] (f x)) = l := fun f l => by
      apply List.filter_eq_self.2
      intro x _
      simp [notIn]
    rw [h0, h0, h0, h0]
    rfl
  | i :: r, V => by
    show rmI (rmV V i) r = _
    rw [rmI_is r (rmV V i)]
    unfold rmV dropM Lan.dropT Tim.dropR
    simp only [drop_step]
theorem QRel.rmI {V : QV} {Q : QM} (h : QRel V Q) (ids : List Int) : QRel (Go.Proofs.YtdjieapobodakaaGreatDoor.rmI V ids) { Q with L := Q.L.filter fun x => notIn ids x.id } := by
  induction ids generalizing V Q with
  | nil =>
    have : Q.L.filter (fun x => notIn [] x.id) = Q.L := by
      apply List.filter_eq_self.2
      intro x _
      simp [notIn]
    rw [this]
    exact h
  | cons i r ih =>
    have h2 := ih (h.rm i)
    have e : (dropL Q.L i).filter (fun x => notIn r x.id) = Q.L.filter fun x => notIn (i :: r) x.id := drop_step Ms.id Q.L i r
    rw [← e]
    exact h2
theorem rmI_exp (V : QV) : Go.Proofs.YtdjieapobodakaaGreatDoor.rmI (expV V) (expIds V) = Go.Proofs.YtdjieapobodakaaGreatDoor.rmI V (expIds V) := by
  rw [rmI_is, rmI_is]
  have e : (expV V).R2.filter (fun x => notIn (expIds V) x.1) = V.R2.filter fun x => notIn (expIds V) x.1 := by
    unfold expV expIds
    generalize Tim.dueN V.R2 (V.now - V.A.ret) = n
    have e1 : V.R2 = V.R2.take n ++ V.R2.drop n := (List.take_append_drop n V.R2).symm
    have e2 : (V.R2.take n).filter (fun x => notIn ((V.R2.take n).map Prod.fst) x.1) = [] := by
      rw [List.filter_eq_nil_iff]
      intro x hx
      unfold notIn
      rw [decide_eq_true_eq]
      exact fun hn => hn (List.mem_map_of_mem hx)
    show (V.R2.drop n).filter _ = _
    conv => rhs; arg 2; rw [e1]
    rw [List.filter_append, e2, List.nil_append]
  rw [e]
  rfl
/-- Of a row in order, those that are due are the first. -/
theorem due_take {R : List Tim.It} (h : R.Pairwise fun a b => a.2 ≤ b.2) (t : Int) : R.take (Tim.dueN R t) = R.filter (fun x => decide (x.2 ≤ t)) ∧ R.drop (Tim.dueN R t) = R.filter (fun x => decide (t < x.2)) := by
  induction R with
  | nil => exact ⟨rfl, rfl⟩
  | cons x r ih =>
    obtain ⟨h1, h2⟩ := List.pairwise_cons.1 h
    rw [Tim.dueN_cons]
    by_cases hx : x.2 ≤ t
    · rw [if_pos hx, List.filter_cons_of_pos (by simpa using hx), List.filter_cons_of_neg (by simp; omega), List.take_succ_cons, List.drop_succ_cons, (ih h2).1, (ih h2).2]
      exact ⟨rfl, rfl⟩
    · rw [if_neg hx, List.filter_cons_of_neg (by simpa using hx), List.filter_cons_of_pos (by simp; omega)]
      refine ⟨?_, ?_⟩
      · symm
        rw [List.take_zero, List.filter_eq_nil_iff]
        intro y hy
        have := h1 y hy
        simp
        omega
      · rw [List.drop_zero, List.filter_eq_self.2]
        intro y hy
        have := h1 y hy
        simp
        omega
def dueL (Q : QM) (now : Int) : List Ms := Q.L.filter fun x => x.lsd && decide (x.at_ ≤ now)
def wokeQ (Q : QM) (now : Int) : QM := { Q with now := now, L := Q.L.map (wake now) }
theorem leases_woke (L : List Ms) (now : Int) : leases (L.map (wake now)) = (leases L).filter fun x => decide (now < x.2) := by
  unfold leases
  rw [List.filter_map, List.filter_map, List.filter_filter, List.map_map]
  have e1 : ∀ x ∈ L.filter (Ms.lsd ∘ wake now), ((fun x => (x.id, x.at_)) ∘ wake now) x = (x.id, x.at_) := fun x hx => by
    have h1 := (List.mem_filter.1 hx).2
    show ((wake now x).id, (wake now x).at_) = _
    change (wake now x).lsd = true at h1
    unfold wake at h1 ⊢
    split at h1
    · cases h1
    · rename_i h2
      rw [if_neg h2]
  rw [List.map_congr_left e1]
  congr 1
  apply List.filter_congr
  intro x _
  show (wake now x).lsd = (decide (now < x.at_) && x.lsd)
  unfold wake
  cases hl : x.lsd with
  | false => simp [hl]
  | true =>
    by_cases ha : x.at_ ≤ now
    · have : ¬ now < x.at_ := by omega
      simp [ha, this]
    · have : now < x.at_ := by omega
      simp [ha, this, hl]
/-- The leases that are over are taken away. -/
theorem QRel.woke (h : QRel V Q) (ho : Tim.Ord V.R1) {now : Int} (hn : Q.now ≤ now) : QRel (relV V now) (wokeQ Q now) := by
  obtain ⟨fr, hM, hf⟩ := h.ms
  have hd := due_take (R := V.R1) (ho.1.imp fun {a b} hab => by unfold Tim.bef at hab; omega) now
  refine ⟨h.A, rfl, h.last, h.K, ⟨fr, ?_, fun y hy => ?_⟩, ?_, h.nb, ?_, ?_⟩
  · show V.M = (Q.L.map (wake now)).map (mmOf fr)
    rw [hM, List.map_map]
    apply List.map_congr_left
    intro x _
    obtain ⟨w1, w2, w3, w4, w5⟩ := wake_id now x
    show Mm.mk x.id x.body x.count (fr x.id) = Mm.mk (wake now x).id (wake now x).body (wake now x).count (fr (wake now x).id)
    rw [w1, w3, w4]
  · obtain ⟨x, hx, rfl⟩ := List.mem_map.1 hy
    obtain ⟨f1, f2⟩ := hf x hx
    rw [(wake_id now x).1]
    generalize fr x.id = f at f1 f2
    show (f ≤ now ↔ _) ∧ _
    unfold wake
    cases hl : x.lsd with
    | true =>
      have h1 : f ≤ Q.now := f1.2 (.inl hl)
      by_cases ha : x.at_ ≤ now
      · simp only [ha, decide_true, Bool.and_self, if_true]
        exact ⟨⟨fun _ => .inr (Int.le_refl _), fun _ => by omega⟩, fun _ h3 => by have h4 : now < now := h3; omega⟩
      · simp only [ha, decide_false, Bool.and_false, Bool.false_eq_true, if_false]
        exact ⟨⟨fun _ => .inl hl, fun _ => by omega⟩, fun h3 => by rw [hl] at h3; cases h3⟩
    | false =>
      simp only [Bool.false_and, Bool.false_eq_true, if_false]
      have f2' := f2 hl
      have f1' : f ≤ Q.now ↔ x.at_ ≤ Q.now := f1.trans ⟨fun h1 => h1.resolve_left (by rw [hl]; decide), .inr⟩
      refine ⟨⟨fun h1 => .inr ?_, fun h1 => ?_⟩, fun _ h3 => f2' (by have h4 : now < x.at_ := h3; omega)⟩
      · show x.at_ ≤ now
        by_cases h4 : Q.now < x.at_
        · rw [f2' h4] at h1; exact h1
        · omega
      · have h5 : x.at_ ≤ now := h1.resolve_left (by rw [hl]; decide)
        by_cases h4 : Q.now < x.at_
        · rw [f2' h4]; exact h5
        · have := f1'.2 (by omega)
          omega
  · show V.Lt.map _ = (Q.L.map (wake now)).map _
    rw [h.lt, List.map_map]
    apply List.map_congr_left
    intro x _
    show (x.id, x.group) = ((wake now x).id, (wake now x).group)
    rw [(wake_id now x).1, (wake_id now x).2.2.2.2]
  · show (V.R1.drop (Tim.dueN V.R1 now)).Perm (leases (Q.L.map (wake now)))
    rw [hd.2, leases_woke]
    exact h.r1.filter _
  · show V.R2 = sents (Q.L.map (wake now))
    rw [h.r2]
    unfold sents
    rw [List.map_map]
    apply List.map_congr_left
    intro x _
    show (x.id, x.sent) = ((wake now x).id, (wake now x).sent)
    rw [(wake_id now x).1, (wake_id now x).2.1]
theorem QRel.dead (h : QRel V Q) (fr : Int → Int) (now : Int) : ((dueL Q now).map (mmOf fr)).filter (deadM V.A) = (deadL Q now).map (mmOf fr) ∨ Q.A.max < 0 := by
  by_cases h0 : Q.A.max < 0
  · exact .inr h0
  · left
    unfold dueL deadL
    rw [List.filter_map, List.filter_filter]
    congr 1
    apply List.filter_congr
    intro x _
    unfold deadM isDead
    rw [h.A]
    show (!(decide (Q.A.max = 0) || decide (x.count < Q.A.max)) && (x.lsd && decide (x.at_ ≤ now))) = (x.lsd && decide (x.at_ ≤ now) && decide (0 < Q.A.max) && decide (Q.A.max ≤ x.count))
    cases x.lsd && decide (x.at_ ≤ now) with
    | false => simp
    | true =>
      simp only [Bool.and_true, Bool.true_and]
      by_cases h1 : Q.A.max = 0
      · have : ¬ 0 < Q.A.max := by omega
        simp [h1]
      · have h2 : 0 < Q.A.max := by omega
        by_cases h3 : x.count < Q.A.max
        · have : ¬ Q.A.max ≤ x.count := by omega
          simp [h3, this]
        · have : Q.A.max ≤ x.count := by omega
          simp [h1, h3, h2, this]
theorem filter_ids {L : List Ms} (hp : L.Pairwise fun a b => a.id < b.id) (p : Ms → Bool) : (L.filter fun x => notIn ((L.filter p).map Ms.id) x.id) = L.filter fun x => !p x := by
  apply List.filter_congr
  intro x hx
  unfold notIn
  rw [decide_not]
  congr 1
  cases hpx : p x with
  | true => exact decide_eq_true (List.mem_map_of_mem (List.mem_filter.2 ⟨hx, hpx⟩))
  | false =>
    refine decide_eq_false fun hm => ?_
    obtain ⟨y, hy, e⟩ := List.mem_map.1 hm
    obtain ⟨h1, h2⟩ := List.mem_filter.1 hy
    rw [ms_one hp h1 hx e, hpx] at h2
    cases h2
theorem let_is (h : QRel V Q) (hk : QOk Q T) (fr : Int → Int) (now : Int) : ∀ R : List Ms, (∀ x ∈ R, x ∈ Q.L) → letCs (relV V now) (R.map (mmOf fr)) = R.flatMap letM
  | [], _ => rfl
  | x :: R, hR => by
    have e := let_is h hk fr now R fun y hy => hR y (List.mem_cons_of_mem _ hy)
    show letC (relV V now) (mmOf fr x) ++ letCs (relV V now) (R.map (mmOf fr)) = letM x ++ R.flatMap letM
    rw [e]
    congr 1
    show [Value.int .i64 x.id, .int .i64 x.count, .string x.body, .string (groupOf V x.id)] = _
    rw [h.group hk (hR x (List.mem_cons_self ..))]
    rfl
theorem rest_is (hp : Q.L.Pairwise fun a b => a.id < b.id) (now : Int) : ((Q.L.map (wake now)).filter fun x => notIn ((deadL Q now).map Ms.id) x.id) = rest1 Q now := by
  unfold rest1 deadL
  rw [List.filter_map]
  congr 1
  rw [← filter_ids hp]
  apply List.filter_congr
  intro x _
  show notIn _ (wake now x).id = _
  rw [(wake_id now x).1]
/-- What Tick makes of both. -/
theorem QRel.tick (h : QRel V Q) (hk : QOk Q T) (ho : Tim.Ord V.R1) {now : Int} (hc : canTick Q now = true) : ∃ (ys : List Tim.It) (ms : List Mm), ys.Perm (V.R1.take (Tim.dueN V.R1 now)) ∧ (ys.Pairwise fun a b => a.1 < b.1) ∧ ms.map Mm.id = ys.map Prod.fst ∧ (∀ m ∈ ms, m ∈ V.M) ∧ letCs (relV V now) (ms.filter (deadM V.A)) = (tickD Q now).flatMap letM ∧ (ms.filter (deadM V.A)).length = (tickD Q now).length ∧ expIds (rmN (relV V now) (ms.filter (deadM V.A))) = tickG Q now ∧ QRel (tickV V now (ms.filter (deadM V.A))) (tickQ Q now) := by
  obtain ⟨fr, hM, _⟩ := h.ms
  have hA := Att.right_parts hk.right
  have hc' := hc
  unfold canTick within at hc'
  simp only [Bool.and_eq_true, decide_eq_true_eq] at hc'
  have hd := due_take (R := V.R1) (ho.1.imp fun {a b} hab => by unfold Tim.bef at hab; omega) now
  have hD : ((dueL Q now).map (mmOf fr)).filter (deadM V.A) = (deadL Q now).map (mmOf fr) := (h.dead fr now).resolve_right (by omega)
  have hrest : (rest1 Q now).Pairwise fun a b => a.id < b.id := by
    unfold rest1
    exact List.Pairwise.map _ (fun a b hab => by rw [(wake_id now a).1, (wake_id now b).1]; exact hab) (hk.ids.filter _)
  have hsent : (rest1 Q now).Pairwise fun a b => a.sent ≤ b.sent := by
    unfold rest1
    exact List.Pairwise.map _ (fun a b hab => by rw [(wake_id now a).2.1, (wake_id now b).2.1]; exact hab) (hk.sents.filter _)
  have hw := h.woke ho hc'.1
  have h1 : QRel (rmN (relV V now) ((deadL Q now).map (mmOf fr))) { wokeQ Q now with L := rest1 Q now } := by
    have e : rmN (relV V now) ((deadL Q now).map (mmOf fr)) = Go.Proofs.YtdjieapobodakaaGreatDoor.rmI (relV V now) ((deadL Q now).map Ms.id) := by
      rw [rmN_rmI, List.map_map]
      rfl
    have h2 := hw.rmI ((deadL Q now).map Ms.id)
    rw [← e] at h2
    rw [← rest_is hk.ids]
    exact h2
  have hids : expIds (rmN (relV V now) ((deadL Q now).map (mmOf fr))) = (goneL Q now).map Ms.id := by
    unfold expIds
    rw [h1.r2, h1.A, h1.now]
    have hs : (sents (rest1 Q now)).Pairwise fun a b => a.2 ≤ b.2 := List.Pairwise.map _ (fun a b hab => hab) hsent
    show ((sents (rest1 Q now)).take (Tim.dueN (sents (rest1 Q now)) (now - Q.A.ret))).map Prod.fst = _
    rw [(due_take hs _).1]
    unfold sents goneL
    rw [List.filter_map, List.map_map]
    have e : (rest1 Q now).filter ((fun x : Tim.It => decide (x.2 ≤ now - Q.A.ret)) ∘ fun x => (x.id, x.sent)) = (rest1 Q now).filter (old Q.A now) := by
      apply List.filter_congr
      intro x _
      unfold old
      exact decide_eq_decide.2 (by show x.sent ≤ now - Q.A.ret ↔ _; omega)
    rw [e]
    rfl
  refine ⟨leases (dueL Q now), (dueL Q now).map (mmOf fr), ?_, ?_, ?_, fun m hm => ?_, ?_, ?_, ?_, ?_⟩
  · rw [hd.1]
    have e : leases (dueL Q now) = (leases Q.L).filter fun x => decide (x.2 ≤ now) := by
      unfold leases dueL
      rw [List.filter_map, List.filter_filter, List.filter_filter]
      congr 1
      apply List.filter_congr
      intro x _
      show (x.lsd && (x.lsd && decide (x.at_ ≤ now))) = (decide (x.at_ ≤ now) && x.lsd)
      cases x.lsd <;> simp
    rw [e]
    exact (h.r1.filter _).symm
  · unfold leases
    exact List.Pairwise.map _ (fun a b hab => hab) ((hk.ids.filter _).filter _)
  · unfold leases
    rw [List.map_map, List.map_map, List.filter_eq_self.2]
    · rfl
    · intro x hx
      have := (List.mem_filter.1 hx).2
      rw [Bool.and_eq_true] at this
      exact this.1
  · obtain ⟨x, hx, rfl⟩ := List.mem_map.1 hm
    rw [hM]
    exact List.mem_map_of_mem (List.mem_filter.1 hx).1
  · rw [hD]
    unfold tickD
    rw [if_pos hc]
    exact let_is h hk fr now _ fun x hx => (List.mem_filter.1 hx).1
  · rw [hD, List.length_map]
    unfold tickD
    rw [if_pos hc]
  · rw [hD, hids]
    unfold tickG
    rw [if_pos hc]
  · rw [hD]
    unfold tickV tickQ
    rw [if_pos hc, rmI_exp, hids]
    have h2 := h1.rmI ((goneL Q now).map Ms.id)
    have e : ((rest1 Q now).filter fun x => notIn ((goneL Q now).map Ms.id) x.id) = leftL Q now := by
      unfold goneL leftL
      exact filter_ids hrest _
    have h3 : QRel (Go.Proofs.YtdjieapobodakaaGreatDoor.rmI (rmN (relV V now) ((deadL Q now).map (mmOf fr))) ((goneL Q now).map Ms.id)) { wokeQ Q now with L := leftL Q now } := by
      rw [← e]
      exact h2
    exact ⟨h3.A, h3.now, h3.last, by show Led.leftE V.K now = Led.leftE Q.K now; rw [h.K], h3.ms, h3.lt, h3.nb, h3.r1, h3.r2⟩
end
end Go.Proofs.YtdjieapobodakaaGreatDoor
end

section
namespace Go.Proofs.YtdjieapobodakaaGreatDoor
open Go Go.RowKit Go.Maps Go.WideMaps Go.Shelf Go.Lib

section
variable {w w' : World} {q : Nat} {V : QV} {S : QS}
theorem sorts_in (m : Nat) : AnyZI.SortsIn Tryz.prog Tryz.sortedA_ren Fence.wide m :=
  ⟨fun blk off cap ss W hH hblk hsz => callsIn_wide.2 (AnyM.slices_Sort_int Tryz.sortA blk off cap ss W hH hblk hsz),
   fun p cap W => callsIn_wide.2 (AnyM.slices_Sort_int_none Tryz.sortA p cap W)⟩
theorem place_ids (h : QL w q V S) : ∃ D : DataW Value, w.ownsMap Tryz.prog 3 anyV S.m V.M.length D ∧ Maps.size D = V.M.length ∧ (V.M.map Mm.id).Perm (intKeys D) := by
  obtain ⟨D, hM, hs, hv⟩ := h.mp
  refine ⟨D, hM, hs, ?_⟩
  refine CollectedI.perm (left := fun _ => false) ⟨h.nodup, fun x => ?_⟩ hM Lan.keyed_int Tryz.underlying3 fun _ => rfl
  rw [(hv _).1, h.pl]
  cases ha : findM V.M x with
  | none =>
    constructor
    · intro hx
      obtain ⟨y, hy, e⟩ := List.mem_map.1 hx
      exact absurd e (findM_none.1 ha y hy)
    · rintro ⟨hx, _⟩
      cases hx
  | some y =>
    obtain ⟨hy, e⟩ := findM_some ha
    exact ⟨fun _ => ⟨rfl, rfl⟩, fun _ => List.mem_map.2 ⟨y, hy, e⟩⟩
theorem KeysM_any (pm : Nat) (w : World) : Calls Tryz.prog 53 #[.map (some pm)] w fun e w' => e = .returned (.func (.func 82) #[] #[.pointer (some ⟨w.heap.size, 0, none⟩)]) ∧ w' = w.alloc (.cells #[.map (some pm)] 76) :=
  callsIn_wide.1 (AnyZI.keys_in Tryz.keysA Fence.wide 6 trivial rfl (some pm) w)
theorem sorted_ids {ss ids : List Int} (hp : ss.Perm ids) (hi : ids.Pairwise fun a b => a < b) : ss.mergeSort (fun x y => decide (x ≤ y)) = ids := by
  have h1 : (ss.mergeSort (fun x y => decide (x ≤ y))).Pairwise fun a b => decide (a ≤ b) = true := List.pairwise_mergeSort (fun a b c h1 h2 => by simp at *; omega) (fun a b => by simp; omega) ss
  refine ((List.mergeSort_perm ss _).trans hp).eq_of_pairwise (le := fun a b => a ≤ b) (fun a b _ _ h2 h3 => Int.le_antisymm h2 h3) (h1.imp fun h2 => by simpa using h2) (hi.imp fun h2 => by omega)
theorem SortedM_any {Bm : Nat} (h : QL w q V S) (hM : V.M.length < 900000) (hi : (V.M.map Mm.id).Pairwise fun a b => a < b) (hB : Bm < w.heap.size) (hm : w.cell? ⟨Bm, 0, none⟩ = some (.map (some S.m))) :
    Calls Tryz.prog 52 #[.func (.func 82) #[] #[.pointer (some ⟨Bm, 0, none⟩)]] w (Lan.RowSaid (V.M.map Mm.id) w) := by
  obtain ⟨D, hown, hsz, hperm⟩ := place_ids h
  have hseq : SeqGives Fence.wide (6 - 1 - 1) Tryz.prog 82 #[.pointer (some ⟨Bm, 0, none⟩)] encZ (fun ss => ss.Perm (intKeys D)) (Maps.size D) w :=
    AnyZI.keys_gives (ρ := Tryz.keysA_ren) { Tryz.keysA with } Fence.wide (6 - 1 - 1) trivial rfl (by omega) Bm S.m V.M.length D w hB hm hown
  have cS := AnyZI.sorted_in Tryz.sortedA Fence.wide 7 trivial trivial trivial trivial rfl (by omega) (sorts_in _) (enters_of Tryz.func81 (by kernel_rfl) rfl) 82 #[.pointer (some ⟨Bm, 0, none⟩)] trivial (enters_of Tryz.func82 (by kernel_rfl) rfl) (fun ss => ss.Perm (intKeys D)) (Maps.size D) (by unfold maxLen; omega) (by omega) w hseq
  have cW := callsIn_wide.1 cS
  change Calls Tryz.prog 52 _ _ _ at cW
  refine cW.mono ?_
  rintro e w' ⟨v, ss, rfl, hS, hrow, hnil, hb⟩
  have e1 := sorted_ids (hS.trans hperm.symm) hi
  have hl : ss.length = (V.M.map Mm.id).length := (hS.trans hperm.symm).length_eq
  rw [e1, hl] at hrow
  obtain ⟨A, c, rfl⟩ := Lan.own_slice hrow
  exact ⟨A, c, rfl, hrow, hb⟩
set_option maxHeartbeats 800000 in
set_option maxRecDepth 100000 in
theorem Ids_any (h : QL w q V S) (hM : V.M.length < 900000) (hi : (V.M.map Mm.id).Pairwise fun a b => a < b) :
    Calls Tryz.prog 25 #[.pointer (some ⟨q, 0, none⟩)] w (Lan.RowSaid (V.M.map Mm.id) w) := by
  obtain ⟨c0, c1, c2, c3, c4, c5, c6, c7, c8, c9, c10, c11, c12, c13⟩ := h.cells
  have hb : Below w.heap.size w (w.alloc (.cells #[.map (some S.m)] 76)) := (Below.refl _ _).alloc (Nat.le_refl _) _
  have HK := Lib.hid (KeysM_any S.m w)
  have HS := Lib.hid (SortedM_any (h.below hb).1 hM hi (Bm := w.heap.size) (by simp) (by simp))
  have HB := Lib.hid hb
  clear h hb
  generalize V.M.map Mm.id = xs at *
  go_enter Tryz.func25, Tryz.ntmps25
  go_wp2_with (first
    | (go_at_call 53; refine HK.out.mono ?_; rintro e w1 ⟨rfl, rfl⟩)
    | (go_at_call 52; refine HS.out.mono ?_; rintro e w2 ⟨A, c, rfl, ho, hb⟩))
  go_ret
  exact ⟨A, c, rfl, own_base ho HB.out.size, HB.out.trans (hb.mono HB.out.size)⟩
end
end Go.Proofs.YtdjieapobodakaaGreatDoor
end

section
namespace Go.Proofs.YtdjieapobodakaaGreatDoor
open Go Go.RowKit Go.Maps Go.WideMaps

section
set_option maxHeartbeats 800000 in
set_option maxRecDepth 100000 in
theorem Recv_no (w : World) (q : Nat) {n v : Int} (hc : canRecv n v = false) :
    Calls Tryz.prog 19 #[.pointer (some ⟨q, 0, none⟩), .int .i64 n, .int .i64 v] w fun e w' => e = .returned (.tuple #[.slice none 0 0, .int .i64 1]) ∧ w = w' := by
  have HW := Lib.hid fun x a b w => within_any x a b w
  have hcase : within n 1 10 = false ∨ (within n 1 10 = true ∧ within v 0 1048576 = false) := by
    unfold canRecv at hc
    cases hn : within n 1 10 with
    | false => exact .inl rfl
    | true =>
      rw [hn, Bool.true_and] at hc
      exact .inr ⟨rfl, hc⟩
  clear hc
  rcases hcase with h1 | ⟨h1, h2⟩
  · have H1 := Lib.hid (HW.out n 1 10 w)
    rw [h1] at H1
    clear HW
    go_enter Tryz.func19, Tryz.ntmps19
    go_wp2_with (go_at_call 33; refine H1.out.mono ?_; rintro e w1 ⟨rfl, rfl⟩)
    all_goals try go_ret2
    all_goals exact ⟨rfl, rfl⟩
  · have H1 := Lib.hid (HW.out n 1 10 w)
    have H2 := Lib.hid (HW.out v 0 1048576 w)
    rw [h1] at H1
    rw [h2] at H2
    clear HW
    go_enter Tryz.func19, Tryz.ntmps19
    go_wp2_with (first
      | (go_at_call 33; refine H1.out.mono ?_; rintro e w1 ⟨rfl, rfl⟩; clear H1)
      | (go_at_call 33; refine H2.out.mono ?_; rintro e w1 ⟨rfl, rfl⟩; clear H2))
    all_goals try go_ret2
    all_goals exact ⟨rfl, rfl⟩
end
end Go.Proofs.YtdjieapobodakaaGreatDoor
end
