/- What is proved here: the groups of the heads have, together, as many things as all (outside the walk). -/
import Derived.Test.YticmdeepfeiobaaHeads
namespace Go.Proofs.Yticmdeepfeiobaa
open Go Go.RowKit

theorem sum_none (H : List Th) (s : ByteArray) (hs : s ∉ H.map Th.g) : (H.map fun x => if s = x.g then 1 else 0).sum = 0 := by
  induction H with
  | nil => rfl
  | cons x r ih =>
    rw [List.map_cons, List.mem_cons, not_or] at hs
    rw [List.map_cons, List.sum_cons, if_neg hs.1, ih hs.2]
theorem sum_one (H : List Th) (hd : (H.map Th.g).Nodup) (s : ByteArray) (hs : s ∈ H.map Th.g) : (H.map fun x => if s = x.g then 1 else 0).sum = 1 := by
  induction H with
  | nil => cases hs
  | cons x r ih =>
    rw [List.map_cons, List.nodup_cons] at hd
    rw [List.map_cons, List.mem_cons] at hs
    rw [List.map_cons, List.sum_cons]
    by_cases he : s = x.g
    · rw [if_pos he, sum_none r s (by rw [he]; exact hd.1)]
    · rw [if_neg he, ih hd.2 (hs.resolve_left he)]
theorem sum_add (H : List Th) (f g : Th → Nat) : (H.map fun x => f x + g x).sum = (H.map f).sum + (H.map g).sum := by
  induction H with
  | nil => rfl
  | cons x r ih =>
    rw [List.map_cons, List.map_cons, List.map_cons, List.sum_cons, List.sum_cons, List.sum_cons, ih]
    omega
theorem sum_zero (H : List Th) : (H.map fun _ => 0).sum = 0 := by
  induction H with
  | nil => rfl
  | cons x r ih => rw [List.map_cons, List.sum_cons, ih]
theorem sum_groups (H : List Th) (hd : (H.map Th.g).Nodup) : ∀ L : List Th, (∀ y ∈ L, y.g ∈ H.map Th.g) → (H.map fun x => (L.filter fun y => decide (y.g = x.g)).length).sum = L.length
  | [], _ => by
    have : (fun x : Th => (([] : List Th).filter fun y => decide (y.g = x.g)).length) = fun _ => 0 := rfl
    rw [this, sum_zero]
    rfl
  | y :: r, hm => by
    have h1 := sum_groups H hd r fun z hz => hm z (List.mem_cons_of_mem _ hz)
    have h2 := sum_one H hd y.g (hm y (List.mem_cons_self ..))
    have h3 : (fun x : Th => ((y :: r).filter fun z => decide (z.g = x.g)).length) = fun x => (r.filter fun z => decide (z.g = x.g)).length + (if y.g = x.g then 1 else 0) := by
      funext x
      by_cases he : y.g = x.g
      · rw [List.filter_cons_of_pos (by simpa using he), if_pos he]; rfl
      · rw [List.filter_cons_of_neg (by simpa using he), if_neg he]; rfl
    rw [h3, sum_add, h1, h2]
    rfl
theorem parts {L : List Th} (hn : (ids L).Nodup) : ((headsT L).map fun x => (ofG L x.g).length).sum = L.length := by
  have hd : ((headsT L).map Th.g).Nodup := by
    refine List.pairwise_map.2 ((nodup_heads hn).imp_of_mem fun {x y} hx hy hne e => hne (head_one hn hx hy e))
  rw [← sum_groups (headsT L) hd L fun y hy => ?_]
  · apply congrArg
    apply List.map_congr_left
    intro x _
    unfold ofG
    rw [List.length_map]
  · obtain ⟨x, hx, hg, _⟩ := head_there (L := L) (s := y.g) (fun e => by
      have : y.id ∈ ofG L y.g := by
        unfold ofG
        exact List.mem_map.2 ⟨y, List.mem_filter.2 ⟨hy, by simp⟩, rfl⟩
      rw [e] at this
      cases this)
    exact List.mem_map.2 ⟨x, hx, hg⟩
/-- The sum as far as the k-th head. -/
def sumN (L : List Th) (k : Nat) : Nat := (((headsT L).take k).map fun x => (ofG L x.g).length).sum
theorem sumN_step {L : List Th} {k : Nat} {x : Th} (h : (headsT L)[k]? = some x) : sumN L (k + 1) = sumN L k + (ofG L x.g).length := by
  unfold sumN
  rw [List.take_add_one, h]
  simp
theorem sumN_end {L : List Th} (hn : (ids L).Nodup) {k : Nat} (h : k = (headsT L).length) : sumN L k = L.length := by
  unfold sumN
  rw [h, List.take_length, parts hn]
end Go.Proofs.Yticmdeepfeiobaa
