/- What is proved here: what a reader's inner functions for a list returns, whatever the memory. Slices of at most a million elements. -/
import Derived.Test.YtjoifbfnkjbkhaaRead3
namespace Go.Proofs.Ytjoifbfnkjbkhaa
open Go Go.RowKit

/-- The list that is read: so many numbers, one behind the other. -/
def numsF : Nat → List Int → Nat → List Int → List Int × Nat × Nat
  | 0, acc, used, _ => (acc, used, 0)
  | k + 1, acc, used, l => if (numF 9 0 0 l).2.2 = 0 then numsF k (acc ++ [((numF 9 0 0 l).1 : Int)]) (used + (numF 9 0 0 l).2.1) (l.drop (numF 9 0 0 l).2.1) else ([], 0, (numF 9 0 0 l).2.2)

theorem numsF_on {l : List Int} {v u : Nat} (h : numF 9 0 0 l = (v, u, 0)) (k : Nat) (acc : List Int) (used : Nat) : numsF (k + 1) acc used l = numsF k (acc ++ [(v : Int)]) (used + u) (l.drop u) := by
  rw [numsF, h, if_pos rfl]
theorem numsF_no {l : List Int} {er : Nat} (h : numF 9 0 0 l = (0, 0, er)) (he : er = 2 ∨ er = 3) (k : Nat) (acc : List Int) (used : Nat) : numsF (k + 1) acc used l = ([], 0, er) := by
  rw [numsF, h, if_neg (by rcases he with rfl | rfl <;> simp)]

theorem own_below {w w1 : World} {base e size n : Nat} {v : Value} {ys : List Value} (h : w.ownsRow base e size v n ys) (hb : Below w.heap.size w w1) : w1.ownsRow base e size v n ys :=
  h.kept (row := Option.none) ⟨hb.os, hb.tape, hb.output, hb.size, fun k hk _ => hb.block k hk⟩ (by cases hv : v.ownBlock <;> simp)

theorem own_base {w : World} {base base' e size n : Nat} {v : Value} {ys : List Value} (h : w.ownsRow base e size v n ys) (hb : base' ≤ base) : w.ownsRow base' e size v n ys := by
  obtain ⟨h1, h2⟩ := h
  refine ⟨h1, ?_⟩
  rcases h2 with h2 | ⟨g, cap, cur, hv, hg, r⟩
  · exact .inl h2
  · exact .inr ⟨g, cap, cur, hv, by omega, r⟩

theorem news_set (w : World) (a b : Addr) (x y u : Value) (t : TypeId) : ∀ ad, some (⟨w.heap.size, 0, none⟩ : Addr) = some ad → ∀ j z, [u][j]? = some z → (((w.setCell a x).setCell b y).alloc (.cells #[u] t)).cell? (ad.add j) = some z := by
  have h := news_new ((w.setCell a x).setCell b y) u t
  rw [show ((w.setCell a x).setCell b y).heap.size = w.heap.size by simp [World.setCell]] at h
  exact h

theorem info_int : (Try.prog.info? 3).map (fun i => (i.zero, i.size, i.bytes)) = some (some (.int .i64 0), 1, 8) := by kernel_rfl

section
variable (A : Option Addr) (n c B : Nat) (xs : List Int) (p : Nat) (w : World) (h : Rd w B .u8 A n c xs) (hB : B ≤ w.heap.size) (hx : ∀ x ∈ xs, 0 ≤ x ∧ x < 256) (hn : n ≤ 1000000) (hp : p ≤ n)
include h hB hx hn hp

end
end Go.Proofs.Ytjoifbfnkjbkhaa

