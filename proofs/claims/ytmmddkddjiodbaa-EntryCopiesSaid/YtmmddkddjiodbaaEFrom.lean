/- What is proved here: a log's From. -/
import Derived.Test.YtmmddkddjiodbaaECopy
namespace Go.Proofs.Ytmmddkddjiodbaa
open Go Go.RowKit Go.Maps Go.WideMaps

section
variable {w : World} {b : Nat} {B T : Int} {L : List En} {Φ : Nat → Prop}
/-- The first place from k on. -/
def firstN (B : Int) (n : Nat) (k : Int) : Nat := if B < k then (if n < k - B - 1 then n else (k - B - 1).toNat) else 0
def manyN (m : Nat) (most : Int) : Nat := if most < 0 then 0 else if m < most then m else most.toNat
def fromF (B : Int) (L : List En) (k most : Int) : List En := (L.drop (firstN B L.length k)).take (manyN (L.length - firstN B L.length k) most)
/-- What From returns. -/
def RowSaid (F : List En) (w : World) (e : Ending) (w' : World) : Prop :=
  ∃ A c, e = .returned (.slice A F.length c) ∧ w'.ownsRow w.heap.size 36 2 (.slice A F.length c) F.length (F.flatMap enC) ∧ Below w.heap.size w w'
theorem first_is (B : Int) (n : Nat) (k : Int) : (k ≤ B ∧ firstN B n k = 0) ∨ (k = B + 1 + (firstN B n k : Nat) ∧ firstN B n k ≤ n) ∨ (B < k ∧ n < k - B - 1 ∧ firstN B n k = n) := by
  unfold firstN
  by_cases h1 : B < k
  · rw [if_pos h1]
    by_cases h2 : n < k - B - 1
    · rw [if_pos h2]
      exact .inr (.inr ⟨h1, h2, rfl⟩)
    · rw [if_neg h2]
      exact .inr (.inl ⟨by omega, by omega⟩)
  · rw [if_neg h1]
    exact .inl ⟨by omega, rfl⟩
theorem many_is (m : Nat) (most : Int) : (most < 0 ∧ manyN m most = 0) ∨ (most = (manyN m most : Nat) ∧ manyN m most ≤ m) ∨ (m < most ∧ manyN m most = m) := by
  unfold manyN
  by_cases h1 : most < 0
  · rw [if_pos h1]
    exact .inl ⟨h1, rfl⟩
  · rw [if_neg h1]
    by_cases h2 : m < most
    · rw [if_pos h2]
      exact .inr (.inr ⟨h2, rfl⟩)
    · rw [if_neg h2]
      exact .inr (.inl ⟨by omega, by omega⟩)
theorem first_le (B : Int) (n : Nat) (k : Int) : firstN B n k ≤ n := by have := first_is B n k; omega
theorem many_le (m : Nat) (most : Int) : manyN m most ≤ m := by have := many_is m most; omega
theorem SRd.from_ {α : Type} {f : α → List Value} {s : Nat} (hs : ∀ x, (f x).length = s) {Ψ : Nat → Prop} {A : Option Addr} {n c : Nat} {M : List α} (h : SRd f w Ψ A n c M) {m : Nat} (hm : m ≤ n) :
    ∃ A2, SRd f w Ψ A2 (n - m) (c - m) (M.drop m) ∧ ((A = none ∧ A2 = none ∧ m = 0 ∧ n = 0 ∧ c = 0) ∨ ∃ g o, A = some ⟨g, o, none⟩ ∧ ((c = m ∧ A2 = some ⟨g, o, none⟩) ∨ (¬ c = m ∧ A2 = some ⟨g, o + m * s, none⟩))) := by
  cases hA : A with
  | none =>
    subst hA
    obtain ⟨rfl, rfl⟩ := h.nil rfl
    obtain rfl : m = 0 := by omega
    exact ⟨none, by simpa using h, .inl ⟨rfl, rfl, rfl, rfl, rfl⟩⟩
  | some ad =>
    subst hA
    obtain ⟨g, o, rfl, _⟩ := h.place _ rfl
    have h2 := h.drop hs hm
    by_cases e : c = m
    · rw [if_pos e] at h2
      exact ⟨_, h2, .inr ⟨g, o, rfl, .inl ⟨e, rfl⟩⟩⟩
    · rw [if_neg e] at h2
      exact ⟨_, h2, .inr ⟨g, o, rfl, .inr ⟨e, rfl⟩⟩⟩
set_option maxHeartbeats 12800000 in
set_option maxRecDepth 100000 in
theorem From_any (h : LogAt w b B T L Φ) (h0 : 0 ≤ B) (h1 : B ≤ 4611686018427387904) (hL : L.length < 1000000) {k most : Int} (hk : I64 k) (hm : I64 most) :
    Calls Try.prog 19 #[.pointer (some ⟨b, 0, none⟩), .int .i64 k, .int .i64 most] w (RowSaid (fromF B L k most) w) := by
  unfold I64 at hk hm
  obtain ⟨A, n, c, h⟩ := h
  obtain ⟨c0, c1, c2⟩ := h.cells
  have hcap := h.row.caps
  obtain ⟨A2, hr, hA⟩ := h.srd.from_ en_len (first_le B n k)
  have hfl : fromF B L k most = (L.drop (firstN B n k)).take (manyN (n - firstN B n k) most) := by unfold fromF; rw [h.len]
  have hrl := h.len
  rw [hfl]
  have HFL : Hid (((L.drop (firstN B n k)).take (manyN (n - firstN B n k) most)).length = manyN (n - firstN B n k) most) := Lib.hid (by
    rw [List.length_take, List.length_drop, h.len]
    have := many_le (n - firstN B n k) most
    omega)
  have HC : Hid (∀ q, Calls Try.prog 28 #[.slice A2 (manyN (n - firstN B n k) most) (c - firstN B n k)] (w.drewN q) (RowSaid ((L.drop (firstN B n k)).take (manyN (n - firstN B n k) most)) w)) := Lib.hid fun q => by
    have hb : Below w.heap.size w (w.drewN q) := (Chg.drewN (Φ := fun _ => False) w q).below (Nat.le_refl _) fun _ h => h.elim
    refine (Clone_any (hr.take en_len (many_le _ most) |>.below hb) (by have := many_le (n - firstN B n k) most; omega)).mono ?_
    rintro e w' ⟨A', c', rfl, ho, hb2⟩
    exact ⟨A', c', rfl, ho, hb.trans (hb2.mono hb.size)⟩
  have HC0 : Hid (Calls Try.prog 28 #[.slice A2 (manyN (n - firstN B n k) most) (c - firstN B n k)] w (RowSaid ((L.drop (firstN B n k)).take (manyN (n - firstN B n k) most)) w)) := Lib.hid (by
    have := HC.out 0
    exact this)
  have hfi := first_is B n k
  have hfn := first_le B n k
  have hmi := many_is (n - firstN B n k) most
  have hmn := many_le (n - firstN B n k) most
  have hn : n < 1000000 := by omega
  clear h hr hfl hrl hL
  generalize manyN (n - firstN B n k) most = m at *
  generalize firstN B n k = f at *
  generalize (L.drop f).take m = F at *
  rcases hfi with ⟨d1, rfl⟩ | ⟨rfl, d2⟩ | ⟨d1, d2, rfl⟩
  · clear hk HC
    rw [Nat.sub_zero] at hmi hmn HC0
    rcases hA with ⟨rfl, rfl, h3, rfl, rfl⟩ | ⟨g, o, rfl, ⟨h3, rfl⟩ | ⟨hne, rfl⟩⟩
    · obtain rfl : m = 0 := by omega
      rcases hmi with ⟨g1, -⟩ | ⟨g1, -⟩ | ⟨g1, -⟩
      · go_enter Try.func19, Try.ntmps19
        go_wp2_with (go_at_call 28; refine (HC0.out).mono ?_; intro e w2 hh; obtain ⟨A3, c3, rfl, ho, hb⟩ := hh; have HX := Lib.hid (And.intro ho hb); clear ho hb)
        go_ret
        exact ⟨A3, c3, rfl, HX.out.1, HX.out.2⟩
      · obtain rfl : most = 0 := by omega
        clear g1
        go_enter Try.func19, Try.ntmps19
        go_wp2_with (go_at_call 28; refine (HC0.out).mono ?_; intro e w2 hh; obtain ⟨A3, c3, rfl, ho, hb⟩ := hh; have HX := Lib.hid (And.intro ho hb); clear ho hb)
        go_ret
        exact ⟨A3, c3, rfl, HX.out.1, HX.out.2⟩
      · replace g1 : 0 < most := by omega
        go_enter Try.func19, Try.ntmps19
        go_wp2_with (go_at_call 28; refine (HC0.out).mono ?_; intro e w2 hh; obtain ⟨A3, c3, rfl, ho, hb⟩ := hh; have HX := Lib.hid (And.intro ho hb); clear ho hb)
        go_ret
        exact ⟨A3, c3, rfl, HX.out.1, HX.out.2⟩
    · subst h3
      obtain rfl : n = 0 := by omega
      obtain rfl : m = 0 := by omega
      rcases hmi with ⟨g1, -⟩ | ⟨g1, -⟩ | ⟨g1, -⟩
      · go_enter Try.func19, Try.ntmps19
        go_wp2_with (go_at_call 28; refine (HC0.out).mono ?_; intro e w2 hh; obtain ⟨A3, c3, rfl, ho, hb⟩ := hh; have HX := Lib.hid (And.intro ho hb); clear ho hb)
        go_ret
        exact ⟨A3, c3, rfl, HX.out.1, HX.out.2⟩
      · obtain rfl : most = 0 := by omega
        clear g1
        go_enter Try.func19, Try.ntmps19
        go_wp2_with (go_at_call 28; refine (HC0.out).mono ?_; intro e w2 hh; obtain ⟨A3, c3, rfl, ho, hb⟩ := hh; have HX := Lib.hid (And.intro ho hb); clear ho hb)
        go_ret
        exact ⟨A3, c3, rfl, HX.out.1, HX.out.2⟩
      · replace g1 : 0 < most := by omega
        go_enter Try.func19, Try.ntmps19
        go_wp2_with (go_at_call 28; refine (HC0.out).mono ?_; intro e w2 hh; obtain ⟨A3, c3, rfl, ho, hb⟩ := hh; have HX := Lib.hid (And.intro ho hb); clear ho hb)
        go_ret
        exact ⟨A3, c3, rfl, HX.out.1, HX.out.2⟩
    · simp only [Nat.zero_mul, Nat.add_zero] at HC0
      rcases hmi with ⟨g1, rfl⟩ | ⟨rfl, g2⟩ | ⟨g1, rfl⟩
      · go_enter Try.func19, Try.ntmps19
        go_wp2_with (go_at_call 28; refine (HC0.out).mono ?_; intro e w2 hh; obtain ⟨A3, c3, rfl, ho, hb⟩ := hh; have HX := Lib.hid (And.intro ho hb); clear ho hb)
        go_ret
        exact ⟨A3, c3, rfl, HX.out.1, HX.out.2⟩
      · go_enter Try.func19, Try.ntmps19
        go_wp2_with (go_at_call 28; refine (HC0.out).mono ?_; intro e w2 hh; obtain ⟨A3, c3, rfl, ho, hb⟩ := hh; have HX := Lib.hid (And.intro ho hb); clear ho hb)
        go_ret
        exact ⟨A3, c3, rfl, HX.out.1, HX.out.2⟩
      · go_enter Try.func19, Try.ntmps19
        go_wp2_with (go_at_call 28; refine (HC0.out).mono ?_; intro e w2 hh; obtain ⟨A3, c3, rfl, ho, hb⟩ := hh; have HX := Lib.hid (And.intro ho hb); clear ho hb)
        go_ret
        exact ⟨A3, c3, rfl, HX.out.1, HX.out.2⟩
  · have e1 : decide (B < B + 1 + (f : Int)) = true := decide_eq_true (by omega)
    have hw1 : IntKind.i64.wrap (B + 1 + (f : Int) - B) = 1 + f := by rw [show B + 1 + (f : Int) - B = 1 + f by omega]; exact IntWalk.i64_in _ (by omega)
    have hw2 : IntKind.i64.wrap (1 + (f : Int) - 1) = f := by rw [show 1 + (f : Int) - 1 = f by omega]; exact IntWalk.i64_in _ (by omega)
    have e2 : ¬ (n : Int) < f := by omega
    have e3 : (f : Int) ≤ n := by omega
    have HC2 : Hid (∀ q, (w.drewN q).cell? ⟨b, 2, none⟩ = some (.slice A n c)) := Lib.hid fun _ => c2
    clear hk HC0
    rcases hA with ⟨rfl, rfl, h3, rfl, rfl⟩ | ⟨g, o, rfl, ⟨h3, rfl⟩ | ⟨hne, rfl⟩⟩
    · obtain rfl : m = 0 := by omega
      subst h3
      rw [show B + 1 + ((0 : Nat) : Int) = B + 1 by omega] at *
      clear e1 hw1 hw2 e2 e3
      have e1 : decide (B < B + 1) = true := decide_eq_true (by omega)
      have hw1 : IntKind.i64.wrap (B + 1 - B) = 1 := by rw [show B + 1 - B = 1 by omega]; exact IntWalk.i64_in _ (by omega)
      have hw2 : (0 : Int) ≤ 0 := by omega
      simp only [Nat.sub_self] at HC
      rcases hmi with ⟨g1, -⟩ | ⟨g1, -⟩ | ⟨g1, -⟩
      · go_enter Try.func19, Try.ntmps19
        go_wp2_with fail
        go_quiet (fail)
        clear hw1 hw2
        have c2' := HC2.out nq
        go_wp2_with (go_at_call 28; refine (HC.out _).mono ?_; intro e w2 hh; obtain ⟨A3, c3, rfl, ho, hb⟩ := hh; have HX := Lib.hid (And.intro ho hb); clear ho hb)
        go_ret
        exact ⟨A3, c3, rfl, HX.out.1, HX.out.2⟩
      · obtain rfl : most = 0 := by omega
        clear g1
        go_enter Try.func19, Try.ntmps19
        go_wp2_with fail
        go_quiet (fail)
        clear hw1 hw2
        have c2' := HC2.out nq
        go_wp2_with (go_at_call 28; refine (HC.out _).mono ?_; intro e w2 hh; obtain ⟨A3, c3, rfl, ho, hb⟩ := hh; have HX := Lib.hid (And.intro ho hb); clear ho hb)
        go_ret
        exact ⟨A3, c3, rfl, HX.out.1, HX.out.2⟩
      · replace g1 : 0 < most := by omega
        go_enter Try.func19, Try.ntmps19
        go_wp2_with fail
        go_quiet (fail)
        clear hw1 hw2
        have c2' := HC2.out nq
        go_wp2_with (go_at_call 28; refine (HC.out _).mono ?_; intro e w2 hh; obtain ⟨A3, c3, rfl, ho, hb⟩ := hh; have HX := Lib.hid (And.intro ho hb); clear ho hb)
        go_ret
        exact ⟨A3, c3, rfl, HX.out.1, HX.out.2⟩
    · subst h3
      obtain rfl : n = c := by omega
      obtain rfl : m = 0 := by omega
      simp only [Nat.sub_self] at HC
      rcases hmi with ⟨g1, -⟩ | ⟨g1, -⟩ | ⟨g1, -⟩
      · go_enter Try.func19, Try.ntmps19
        go_wp2_with fail
        go_quiet (fail)
        clear hw1 hw2
        have c2' := HC2.out nq
        go_wp2_with (go_at_call 28; refine (HC.out _).mono ?_; intro e w2 hh; obtain ⟨A3, c3, rfl, ho, hb⟩ := hh; have HX := Lib.hid (And.intro ho hb); clear ho hb)
        go_ret
        exact ⟨A3, c3, rfl, HX.out.1, HX.out.2⟩
      · obtain rfl : most = 0 := by omega
        clear g1
        go_enter Try.func19, Try.ntmps19
        go_wp2_with fail
        go_quiet (fail)
        clear hw1 hw2
        have c2' := HC2.out nq
        go_wp2_with (go_at_call 28; refine (HC.out _).mono ?_; intro e w2 hh; obtain ⟨A3, c3, rfl, ho, hb⟩ := hh; have HX := Lib.hid (And.intro ho hb); clear ho hb)
        go_ret
        exact ⟨A3, c3, rfl, HX.out.1, HX.out.2⟩
      · replace g1 : 0 < most := by omega
        go_enter Try.func19, Try.ntmps19
        go_wp2_with fail
        go_quiet (fail)
        clear hw1 hw2
        have c2' := HC2.out nq
        go_wp2_with (go_at_call 28; refine (HC.out _).mono ?_; intro e w2 hh; obtain ⟨A3, c3, rfl, ho, hb⟩ := hh; have HX := Lib.hid (And.intro ho hb); clear ho hb)
        go_ret
        exact ⟨A3, c3, rfl, HX.out.1, HX.out.2⟩
    · rcases hmi with ⟨g1, rfl⟩ | ⟨rfl, g2⟩ | ⟨g1, rfl⟩
      · go_enter Try.func19, Try.ntmps19
        go_wp2_with fail
        go_quiet (fail)
        clear hw1 hw2
        have c2' := HC2.out nq
        go_wp2_with (go_at_call 28; refine (HC.out _).mono ?_; intro e w2 hh; obtain ⟨A3, c3, rfl, ho, hb⟩ := hh; have HX := Lib.hid (And.intro ho hb); clear ho hb)
        go_ret
        exact ⟨A3, c3, rfl, HX.out.1, HX.out.2⟩
      · go_enter Try.func19, Try.ntmps19
        go_wp2_with fail
        go_quiet (fail)
        clear hw1 hw2
        have c2' := HC2.out nq
        go_wp2_with (go_at_call 28; refine (HC.out _).mono ?_; intro e w2 hh; obtain ⟨A3, c3, rfl, ho, hb⟩ := hh; have HX := Lib.hid (And.intro ho hb); clear ho hb)
        go_ret
        exact ⟨A3, c3, rfl, HX.out.1, HX.out.2⟩
      · go_enter Try.func19, Try.ntmps19
        go_wp2_with fail
        go_quiet (fail)
        clear hw1 hw2
        have c2' := HC2.out nq
        go_wp2_with (go_at_call 28; refine (HC.out _).mono ?_; intro e w2 hh; obtain ⟨A3, c3, rfl, ho, hb⟩ := hh; have HX := Lib.hid (And.intro ho hb); clear ho hb)
        go_ret
        exact ⟨A3, c3, rfl, HX.out.1, HX.out.2⟩
  · have e1 : decide (B < k) = true := decide_eq_true d1
    have hw1 : IntKind.i64.wrap (k - B) = k - B := IntWalk.i64_in _ (by omega)
    have hw2 : IntKind.i64.wrap (k - B - 1) = k - B - 1 := IntWalk.i64_in _ (by omega)
    have HC2 : Hid (∀ q, (w.drewN q).cell? ⟨b, 2, none⟩ = some (.slice A f c)) := Lib.hid fun _ => c2
    clear hk HC0
    rcases hA with ⟨rfl, rfl, h3, rfl, rfl⟩ | ⟨g, o, rfl, ⟨h3, rfl⟩ | ⟨hne, rfl⟩⟩
    · obtain rfl : m = 0 := by omega
      simp only [Nat.sub_self] at HC
      rcases hmi with ⟨g1, -⟩ | ⟨g1, -⟩ | ⟨g1, -⟩
      · go_enter Try.func19, Try.ntmps19
        go_wp2_with fail
        go_quiet (fail)
        clear hw1 hw2
        have c2' := HC2.out nq
        go_wp2_with (go_at_call 28; refine (HC.out _).mono ?_; intro e w2 hh; obtain ⟨A3, c3, rfl, ho, hb⟩ := hh; have HX := Lib.hid (And.intro ho hb); clear ho hb)
        go_ret
        exact ⟨A3, c3, rfl, HX.out.1, HX.out.2⟩
      · obtain rfl : most = 0 := by omega
        clear g1
        go_enter Try.func19, Try.ntmps19
        go_wp2_with fail
        go_quiet (fail)
        clear hw1 hw2
        have c2' := HC2.out nq
        go_wp2_with (go_at_call 28; refine (HC.out _).mono ?_; intro e w2 hh; obtain ⟨A3, c3, rfl, ho, hb⟩ := hh; have HX := Lib.hid (And.intro ho hb); clear ho hb)
        go_ret
        exact ⟨A3, c3, rfl, HX.out.1, HX.out.2⟩
      · replace g1 : 0 < most := by omega
        go_enter Try.func19, Try.ntmps19
        go_wp2_with fail
        go_quiet (fail)
        clear hw1 hw2
        have c2' := HC2.out nq
        go_wp2_with (go_at_call 28; refine (HC.out _).mono ?_; intro e w2 hh; obtain ⟨A3, c3, rfl, ho, hb⟩ := hh; have HX := Lib.hid (And.intro ho hb); clear ho hb)
        go_ret
        exact ⟨A3, c3, rfl, HX.out.1, HX.out.2⟩
    · subst h3
      obtain rfl : m = 0 := by omega
      simp only [Nat.sub_self] at HC
      rcases hmi with ⟨g1, -⟩ | ⟨g1, -⟩ | ⟨g1, -⟩
      · go_enter Try.func19, Try.ntmps19
        go_wp2_with fail
        go_quiet (fail)
        clear hw1 hw2
        have c2' := HC2.out nq
        go_wp2_with (go_at_call 28; refine (HC.out _).mono ?_; intro e w2 hh; obtain ⟨A3, c3, rfl, ho, hb⟩ := hh; have HX := Lib.hid (And.intro ho hb); clear ho hb)
        go_ret
        exact ⟨A3, c3, rfl, HX.out.1, HX.out.2⟩
      · obtain rfl : most = 0 := by omega
        clear g1
        go_enter Try.func19, Try.ntmps19
        go_wp2_with fail
        go_quiet (fail)
        clear hw1 hw2
        have c2' := HC2.out nq
        go_wp2_with (go_at_call 28; refine (HC.out _).mono ?_; intro e w2 hh; obtain ⟨A3, c3, rfl, ho, hb⟩ := hh; have HX := Lib.hid (And.intro ho hb); clear ho hb)
        go_ret
        exact ⟨A3, c3, rfl, HX.out.1, HX.out.2⟩
      · replace g1 : 0 < most := by omega
        go_enter Try.func19, Try.ntmps19
        go_wp2_with fail
        go_quiet (fail)
        clear hw1 hw2
        have c2' := HC2.out nq
        go_wp2_with (go_at_call 28; refine (HC.out _).mono ?_; intro e w2 hh; obtain ⟨A3, c3, rfl, ho, hb⟩ := hh; have HX := Lib.hid (And.intro ho hb); clear ho hb)
        go_ret
        exact ⟨A3, c3, rfl, HX.out.1, HX.out.2⟩
    · obtain rfl : m = 0 := by omega
      rcases hmi with ⟨g1, -⟩ | ⟨g1, -⟩ | ⟨g1, -⟩
      · go_enter Try.func19, Try.ntmps19
        go_wp2_with fail
        go_quiet (fail)
        clear hw1 hw2
        have c2' := HC2.out nq
        go_wp2_with (go_at_call 28; refine (HC.out _).mono ?_; intro e w2 hh; obtain ⟨A3, c3, rfl, ho, hb⟩ := hh; have HX := Lib.hid (And.intro ho hb); clear ho hb)
        go_ret
        exact ⟨A3, c3, rfl, HX.out.1, HX.out.2⟩
      · obtain rfl : most = 0 := by omega
        clear g1
        go_enter Try.func19, Try.ntmps19
        go_wp2_with fail
        go_quiet (fail)
        clear hw1 hw2
        have c2' := HC2.out nq
        go_wp2_with (go_at_call 28; refine (HC.out _).mono ?_; intro e w2 hh; obtain ⟨A3, c3, rfl, ho, hb⟩ := hh; have HX := Lib.hid (And.intro ho hb); clear ho hb)
        go_ret
        exact ⟨A3, c3, rfl, HX.out.1, HX.out.2⟩
      · replace g1 : 0 < most := by omega
        go_enter Try.func19, Try.ntmps19
        go_wp2_with fail
        go_quiet (fail)
        clear hw1 hw2
        have c2' := HC2.out nq
        go_wp2_with (go_at_call 28; refine (HC.out _).mono ?_; intro e w2 hh; obtain ⟨A3, c3, rfl, ho, hb⟩ := hh; have HX := Lib.hid (And.intro ho hb); clear ho hb)
        go_ret
        exact ⟨A3, c3, rfl, HX.out.1, HX.out.2⟩
end
end Go.Proofs.Ytmmddkddjiodbaa
