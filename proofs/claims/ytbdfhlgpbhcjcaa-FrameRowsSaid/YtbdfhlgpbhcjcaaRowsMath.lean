/- What is proved here: plain lemmas: frames that stand one behind the other are read, and a torn one behind them is none; what a slice of slices reads as; one law on append in a region that draws its order. -/
import Derived.Test.YtbdfhlgpbhcjcaaUsed
import Derived.Test.YtbdfhlgpbhcjcaaTearMath
import Derived.Deep.RegionLaw
namespace Go.Proofs.Ytbdfhlgpbhcjcaa
open Go Go.RowKit

/-- The frames of all parts, one behind the other. -/
def allF (l : List Part) : List Int := l.flatMap fun p => sealF p.all
theorem allF_nil : allF [] = [] := rfl
theorem allF_cons (p : Part) (l : List Part) : allF (p :: l) = sealF p.all ++ allF l := rfl
theorem allF_snoc (l : List Part) (p : Part) : allF (l ++ [p]) = allF l ++ sealF p.all := by unfold allF; simp
theorem allF_bytes {l : List Part} (h : ∀ p ∈ l, ∀ x ∈ p.all, 0 ≤ x ∧ x < 256) : ∀ x ∈ allF l, 0 ≤ x ∧ x < 256 := by
  intro x hx
  obtain ⟨p, hp, hx⟩ := List.mem_flatMap.1 hx
  exact sealF_bytes (h p hp) x hx
theorem allF_chain : ∀ (l : List Part) (Y : List Int), (∀ p ∈ l, p.all.length ≤ 4096 ∧ ∀ x ∈ p.all, 0 ≤ x ∧ x < 256) → Chain (l.map Part.all) (allF l ++ Y) (allF l).length
  | [], _, _ => rfl
  | p :: l, Y, h => by
    have hp := h p (List.mem_cons_self ..)
    have ih := allF_chain l Y fun q hq => h q (List.mem_cons_of_mem _ hq)
    rw [allF_cons, List.append_assoc]
    refine ⟨seal_why hp.1 hp.2 _, (seal_body (by omega) _).symm, (allF l).length, ?_, ?_⟩
    · rw [seal_size (by omega), List.length_append, sealF_length]; omega
    · rw [seal_rest (by omega)]; exact ih
theorem cut_why' {xs : List Int} (hn : xs.length ≤ 4096) {j : Nat} (hj : j < xs.length + 6) : whyF ((sealF xs).take j) = 3 := by
  have hl : ((sealF xs).take j).length = j := by rw [List.length_take, sealF_length]; omega
  unfold whyF
  rw [hl]
  by_cases h6 : j < 6
  · rw [if_pos h6]
  · have hsz : sizeF ((sealF xs).take j) = xs.length := by
      unfold sizeF
      rw [List.take_take, Nat.min_eq_left (by omega)]
      have := seal_take2 xs []
      rw [List.append_nil] at this
      rw [this, headF_low (by omega)]
    rw [if_neg h6, hsz, if_neg (by omega), if_pos (by omega)]

/-- A slice value that reads as a list of slices of bytes. -/
structure RdS (w : World) (B : Nat) (A : Option Addr) (n c : Nat) (l : List Part) : Prop where
  len : l.length = n
  cap : n ≤ c
  max : c ≤ maxLen
  place : ∀ j p, l[j]? = some p → ∃ b o, A = some ⟨b, o, none⟩ ∧ b < B ∧ w.cell? ⟨b, o + j, none⟩ = some p.val
  ok : ∀ p ∈ l, p.ok w B
theorem RdS.below {w w' : World} {B : Nat} {A : Option Addr} {n c : Nat} {l : List Part} (h : RdS w B A n c l) (hb : Below B w w') : RdS w' B A n c l :=
  ⟨h.len, h.cap, h.max, fun j p hp => by
    obtain ⟨b, o, e, hB, hc⟩ := h.place j p hp
    exact ⟨b, o, e, hB, (hb.cell (p := ⟨b, o + j, none⟩) hB).trans hc⟩, fun p hp => ⟨(h.ok p hp).1.below hb, (h.ok p hp).2⟩⟩
theorem RdS.at {w : World} {B : Nat} {A : Option Addr} {n c : Nat} {l : List Part} (h : RdS w B A n c l) {j : Nat} (hj : j < n) : ∃ p b o, l[j]? = some p ∧ p ∈ l ∧ A = some ⟨b, o, none⟩ ∧ b < B ∧ w.cell? ⟨b, o + j, none⟩ = some p.val := by
  have hl : j < l.length := by rw [h.len]; exact hj
  obtain ⟨b, o, e, hB, hc⟩ := h.place j l[j] (List.getElem?_eq_getElem hl)
  exact ⟨l[j], b, o, List.getElem?_eq_getElem hl, List.getElem_mem hl, e, hB, hc⟩

section
variable {P : Program} {w : World}
/-- 'append' to a row of the call's own, as one step of a region that draws its order. -/
theorem step_append_src {ops : Array Oper} {o : Oper} {a : Act} {K : Act → World → Prop} {Q : Exit → Act → World → Prop} {E : Prop} (hgd : o.guard = none) (s x : Operand) (t : TypeId)
    (ho : o.op = .call { callee := .builtin .append, args := #[s, x], argTypes := #[t, t] })
    (base : Nat) (e : TypeId) (i : TypeInfo) (z : Value) (size bytes : Nat) (ht : P.underlying t = some (.slice e)) (hi : P.info? e = some i) (hz : i.zero = some z)
    (hsize : i.size = size) (hby : i.bytes = bytes) (hzs : z.cells.size = size) (hsz : 0 < size)
    (v : Value) (n : Nat) (xs : List Value) (hs : a.eval s = v) (hown : w.ownsRow base e size v n xs)
    (A : Option Addr) (m c : Nat) (news : List Value) (hx : a.eval x = .slice A m c) (hl : news.length = m * size) (hnil : A = none → m = 0 ∧ c = 0)
    (hnews : ∀ ad, A = some ad → ∀ j u, news[j]? = some u → w.cell? (ad.add j) = some u) (h1 : ∀ u ∈ news, u.oneCell' = true)
    (h63 : n + m ≤ maxLen) (hbytes : (n + m) * bytes ≤ 140737488355328) (hbase : base ≤ w.heap.size)
    (h : ∀ v' w', w'.ownsRow base e size v' (n + m) (xs ++ news) → w.grownBy w' v.ownBlock → K (a.put o.dst v') w') :
    if Region.wanted o (yielded ops a.tmps) = true then Oper.wp P o a w K Q else E := by
  have hw : Region.wanted o (yielded ops a.tmps) = true := by simp [Region.wanted, hgd]
  rw [if_pos hw]
  rcases A with _ | ad
  · obtain ⟨rfl, rfl⟩ := hnil rfl
    have hn : news = [] := List.eq_nil_of_length_eq_zero (by simpa using hl)
    subst hn
    have hrun := run_append_owned_none (P := P) w base t o.type e i size ht hi v n xs hown
    unfold Oper.wp
    simp [execOp, ho, resolve, invoke, builtin, hs, hx, hrun, Result.andThen]
    exact h v w (by simpa using hown) (World.grownBy.refl _ _)
  · obtain ⟨v', w', hrun, h2, h3, _⟩ := run_append_own (P := P) w base t o.type e i z size bytes ht hi hz hsize hby hzs hsz v n xs hown ad m c news hl (hnews ad rfl) h1 h63 hbytes hbase
    unfold Oper.wp
    simp [execOp, ho, resolve, invoke, builtin, hs, hx, hrun, Result.andThen]
    exact h v' w' h2 h3
end
end Go.Proofs.Ytbdfhlgpbhcjcaa
