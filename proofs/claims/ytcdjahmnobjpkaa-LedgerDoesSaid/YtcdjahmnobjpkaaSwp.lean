/- What is proved here: while a ledger's values are gone through, and what has been collected of them. -/
import Derived.Test.YtcdjahmnobjpkaaSort1
import Derived.Maps.Ext
import Derived.Maps.RangeWalk
import Derived.Sort.KeysCollected
namespace Go.Proofs.Ytcdjahmnobjpkaa
open Go Go.RowKit Go.Maps Go.WideMaps Go.Sort

/-- Those that are past, and those that are left. -/
def pastE (L : List En) (now : Int) : List En := L.filter fun x => decide (x.t ≤ now)
def leftE (L : List En) (now : Int) : List En := L.filter fun x => !decide (x.t ≤ now)
theorem mem_past {L : List En} {now : Int} {x : En} : x ∈ pastE L now ↔ x ∈ L ∧ x.t ≤ now := by simp [pastE]
theorem mem_left {L : List En} {now : Int} {x : En} : x ∈ leftE L now ↔ x ∈ L ∧ ¬ x.t ≤ now := by simp [leftE]
theorem keyE_one {L : List En} (hR : Rising En.nm L) {x y : En} (hx : x ∈ L) (hy : y ∈ L) (e : x.k = y.k) : x = y := hR.one hx hy (by unfold En.nm; rw [e])
/-- What has been collected. -/
structure Coll (P : List En) (left : Lit → Bool) (xs : List En) : Prop where
  sub : ∀ x ∈ xs, x ∈ P ∧ left (strK x.k) = false
  nodup : xs.Nodup
  all : ∀ x ∈ P, left (strK x.k) = false → x ∈ xs
theorem self_key (s : ByteArray) : (strK s).sameKey (strK s) = true := by simp [strK, Lit.sameKey]
theorem Coll.step {P L : List En} {left : Lit → Bool} {xs : List En} (h : Coll P left xs) (hR : Rising En.nm L) (hP : ∀ x ∈ P, x ∈ L) {x : En} (hx : x ∈ P) (hl : left (strK x.k) = true) : Coll P (fun z => left z && !z.sameKey (strK x.k)) (xs ++ [x]) := by
  have hself := self_key x.k
  refine ⟨fun y hy => ?_, ?_, fun y hy he => ?_⟩
  · rcases List.mem_append.1 hy with hy | hy
    · obtain ⟨h1, h2⟩ := h.sub y hy
      exact ⟨h1, by simp [h2]⟩
    · simp at hy
      subst hy
      exact ⟨hx, by simp [hself]⟩
  · rw [List.nodup_append]
    refine ⟨h.nodup, by simp, fun a ha b hb e => ?_⟩
    simp at hb
    have := (h.sub a ha).2
    rw [e, hb, hl] at this
    cases this
  · by_cases hg : y.k = x.k
    · rw [keyE_one hR (hP y hy) (hP x hx) hg]
      simp
    · have hne : strK y.k ≠ strK x.k := fun e => hg (strK_inj e)
      simp only [sameKey_ne hne, Bool.not_false, Bool.and_true] at he
      exact List.mem_append_left _ (h.all y hy he)
theorem Coll.skip {P L : List En} {left : Lit → Bool} {xs : List En} (h : Coll P left xs) (hR : Rising En.nm L) (hP : ∀ x ∈ P, x ∈ L) {x : En} (hx : x ∈ L) (hx2 : x ∉ P) : Coll P (fun z => left z && !z.sameKey (strK x.k)) xs := by
  refine ⟨fun y hy => ?_, h.nodup, fun y hy he => ?_⟩
  · obtain ⟨h1, h2⟩ := h.sub y hy
    exact ⟨h1, by simp [h2]⟩
  · by_cases hg : y.k = x.k
    · rw [keyE_one hR (hP y hy) hx hg] at hy
      exact absurd hy hx2
    · have hne : strK y.k ≠ strK x.k := fun e => hg (strK_inj e)
      simp only [sameKey_ne hne, Bool.not_false, Bool.and_true] at he
      exact h.all y hy he
theorem Coll.perm {P : List En} {left : Lit → Bool} {xs : List En} (h : Coll P left xs) (hn : P.Nodup) (hl : ∀ k, left k = false) : xs.Perm P :=
  (List.perm_ext_iff_of_nodup h.nodup hn).2 fun x => ⟨fun hx => (h.sub x hx).1, fun hx => h.all x hx (hl _)⟩
theorem past_nodup {L : List En} (hR : Rising En.nm L) (now : Int) : (pastE L now).Nodup := (rise_nodup hR).sublist List.filter_sublist
theorem nodup_le {l m : List En} (hl : l.Nodup) (hm : m.Nodup) (h : ∀ x ∈ l, x ∈ m) : l.length ≤ m.length := by
  classical
  have hp : l.Perm (m.filter fun x => decide (x ∈ l)) := (List.perm_ext_iff_of_nodup hl (hm.sublist List.filter_sublist)).2 fun x => by
    rw [List.mem_filter]
    exact ⟨fun hx => ⟨h x hx, by simpa using hx⟩, fun hx => by simpa using hx.2⟩
  rw [hp.length_eq]
  exact List.length_filter_le _ _
theorem Coll.le {L : List En} (hR : Rising En.nm L) {now : Int} {left : Lit → Bool} {xs : List En} (h : Coll (pastE L now) left xs) : xs.length ≤ L.length := by
  have : xs.length ≤ (pastE L now).length := nodup_le h.nodup ((rise_nodup hR).sublist List.filter_sublist) fun x hx => (h.sub x hx).1
  have h2 : (pastE L now).length ≤ L.length := List.length_filter_le _ _
  omega

theorem strV_inv (key : Value) (kl : Lit) (h : keyOf Try.prog 9 key = some kl) : ∃ s : ByteArray, key = .string s := by
  obtain ⟨x, rfl, _⟩ := Maps.keyOf_str Try.underlying9 h
  exact ⟨_, rfl⟩
theorem str_key {s : ByteArray} {kl : Lit} (h : keyOf Try.prog 9 (.string s) = some kl) : kl = strK s ∧ s.size ≤ maxLen := by
  obtain ⟨x', ek, rfl, hxl⟩ := Maps.keyOf_str Try.underlying9 h
  have e : s = ⟨x'.toArray⟩ := by simpa [encStr] using ek
  refine ⟨by rw [e]; simp [strK], ?_⟩
  rw [e]
  simpa [ByteArray.size] using hxl

/-- While the values are gone through. -/
structure SwpRel (w : World) (m : Nat) (L : List En) (now : Int) (D : DataW Value) (r : Nat) (v : Value) (wr : World) (left : Lit → Bool) (cnt : Nat) (xs : List En) : Prop where
  low : Below w.heap.size w wr
  rng : wr.ranges Try.prog 9 anyV m r L.length D left cnt
  new : w.heap.size ≤ r
  row : wr.ownsRow w.heap.size 9 1 v xs.length (xs.map keyV)
  col : Coll (pastE L now) left xs
theorem own_cells {w : World} {base e n c rb : Nat} {xs : List Value} (h : w.ownsRow base e 1 (.slice (some ⟨rb, 0, none⟩) n c) n xs) : ∃ cur, w.heap[rb]? = some (.cells cur e (0, 0)) ∧ n ≤ c ∧ c ≤ maxLen := by
  rcases h.2 with ⟨e1, _⟩ | ⟨g, cap, cur, e1, _, hg, h1, h2, _⟩
  · cases e1
  · cases e1
    exact ⟨cur, hg, h1, h2⟩
theorem own_slice {w : World} {base e n : Nat} {v : Value} {xs : List Value} (h : w.ownsRow base e 1 v n xs) : ∃ A c, v = .slice A n c := by
  rcases h.2 with ⟨rfl, h0⟩ | ⟨g, cap, _, rfl, _⟩
  · exact ⟨none, 0, by rw [h0]⟩
  · exact ⟨_, _, rfl⟩
theorem own_up {w : World} {base base' e n : Nat} {v : Value} {xs : List Value} (h : w.ownsRow base e 1 v n xs) (hb : ∀ g, v.ownBlock = some g → base' ≤ g) : w.ownsRow base' e 1 v n xs := by
  refine ⟨h.1, ?_⟩
  rcases h.2 with h1 | ⟨g, cap, cur, rfl, _, r⟩
  · exact .inl h1
  · exact .inr ⟨g, cap, cur, rfl, hb g rfl, r⟩
theorem swp_round {w wr w1 : World} {l m room r cnt cnt1 : Nat} {L : List En} {f : Lit → Option Value} {Φ : Nat → Prop} {now : Int} {D : DataW Value} {left : Lit → Bool} {v : Value} {xs : List En} (h : LedL w l m room L f Φ) (hD : ViewV D f)
    (hrel : SwpRel w m L now D r v wr left cnt xs) {s : ByteArray} {c : Value} {kl : Lit} {y : DataW Value × List MemPlace} (hkey : keyOf Try.prog 9 (.string s) = some kl) (hv : anyV c = some y)
    (hat : ∀ z, D.atKey kl z = y.1) (hrg : w1.ranges Try.prog 9 anyV m r L.length D (fun z => left z && !z.sameKey kl) cnt1) (hg : wr.grownBy w1 (some r)) (hlk : left kl = true) :
    ∃ (n t : Int), c = .agg #[.int .i64 n, .int .i64 t] ∧ w1.ownsRow w.heap.size 9 1 v xs.length (xs.map keyV) ∧ w.heap.size ≤ w1.heap.size ∧
      (∀ B, (t ≤ now) → ∀ v2 w2, w2.ownsRow w.heap.size 9 1 v2 (xs.length + 1) (xs.map keyV ++ [.string s]) → ((w1.alloc B).alloc (.cells #[.string s] 9)).grownBy w2 v.ownBlock → ∃ ys, ys.length = xs.length + 1 ∧ SwpRel w m L now D r v2 w2 (fun z => left z && !z.sameKey kl) cnt1 ys) ∧
      (∀ B, ¬ t ≤ now → SwpRel w m L now D r v (w1.alloc B) (fun z => left z && !z.sameKey kl) cnt1 xs) := by
  obtain ⟨rfl, hsl⟩ := str_key hkey
  have hc : f (strK s) = some c := hD.at fun z => by rw [hat z, ← Option.some.inj hv]
  rw [h.pl] at hc
  obtain ⟨x, hx, rfl⟩ := Option.map_eq_some_iff.1 hc
  obtain ⟨hxL, rfl⟩ := findE_some hx
  obtain ⟨n, hn⟩ := h.vs x hxL
  have hb1 : Below w.heap.size w w1 := hrel.low.grown hg hrel.low.size fun k e => by cases e; exact hrel.new
  obtain ⟨_, _, since, seen, c0, _, _, _, _, hri, _⟩ := hrel.rng
  have hvr : v.ownBlock = none ∨ v.ownBlock ≠ some r := by
    rcases hrel.row.2 with ⟨e, _⟩ | ⟨g, cap, cur, e, _, hgb, _⟩
    · exact .inl (by rw [e]; rfl)
    · refine .inr fun e2 => ?_
      rw [e] at e2
      simp [Value.ownBlock] at e2
      subst e2
      rw [hri] at hgb
      cases hgb
  have hrow1 := hrel.row.kept hg hvr
  have hvb : ∀ k, v.ownBlock = some k → w.heap.size ≤ k ∧ k < w1.heap.size := fun k hk => hrow1.lt k hk
  refine ⟨n, x.t, by unfold valE; rw [hn], hrow1, hb1.size, fun B ht v2 w2 ho2 hg2 => ⟨xs ++ [x], by simp, ?_⟩, fun B ht => ?_⟩
  · have hbA : Below w.heap.size w ((w1.alloc B).alloc (.cells #[.string x.k] 9)) := (hb1.alloc hb1.size _).alloc (by simp; have := hb1.size; omega) _
    have hrA := (hrg.alloc B).alloc (.cells #[.string x.k] 9)
    refine ⟨hbA.grown hg2 (by simp; have := hb1.size; omega) fun k hk => (hvb k hk).1, hrA.kept hg2 (fun e => ?_) (fun e => ?_), hrel.new, ?_, hrel.col.step h.ok.srt (fun x hx => (mem_past.1 hx).1) (mem_past.2 ⟨hxL, ht⟩) hlk⟩
    · have h9 := (hvb m e.symm).1
      have := h.mp.lt
      omega
    · rcases hvr with h9 | h9
      · rw [h9] at e; cases e
      · exact h9 e.symm
    · rw [List.length_append, List.map_append]
      exact ho2
  · exact ⟨hb1.alloc hb1.size _, hrg.alloc B, hrel.new, own_below hrow1 ((Below.refl _ _).alloc (Nat.le_refl _) _), hrel.col.skip h.ok.srt (fun x hx => (mem_past.1 hx).1) hxL fun hp => ht (mem_past.1 hp).2⟩
end Go.Proofs.Ytcdjahmnobjpkaa
