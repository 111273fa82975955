/- What is proved here: what frame.All returns, in new memory; none that was there is changed. -/
import Derived.Test.YtbdfhlgpbhcjcaaAwake
namespace Go.Proofs.Ytbdfhlgpbhcjcaa
open Go Go.RowKit

/-- So many frames, one behind the other, and how many bytes they have. -/
def Chain : List (List Int) → List Int → Nat → Prop
  | [], _, u => u = 0
  | y :: ys, xs, u => whyF xs = 0 ∧ y = (xs.drop 6).take (sizeF xs) ∧ ∃ u', u = 6 + sizeF xs + u' ∧ Chain ys (xs.drop (6 + sizeF xs)) u'
theorem Chain.snoc : ∀ (ys : List (List Int)) (xs : List Int) (u : Nat), Chain ys xs u → whyF (xs.drop u) = 0 → Chain (ys ++ [((xs.drop u).drop 6).take (sizeF (xs.drop u))]) xs (u + (6 + sizeF (xs.drop u)))
  | [], xs, u, h, hw => by
    have h0 : u = 0 := h
    subst h0
    rw [List.drop_zero] at hw ⊢
    exact ⟨hw, rfl, 0, by omega, rfl⟩
  | y :: ys, xs, u, ⟨h1, h2, u', h3, h4⟩, hw => by
    have e : xs.drop u = (xs.drop (6 + sizeF xs)).drop u' := by rw [List.drop_drop, h3]
    rw [e] at hw ⊢
    exact ⟨h1, h2, _, by omega, Chain.snoc ys _ u' h4 hw⟩

theorem own_apart {w : World} {b1 b2 e1 e2 s1 s2 n1 n2 : Nat} {v1 v2 : Value} {xs ys : List Value} (h1 : w.ownsRow b1 e1 s1 v1 n1 xs) (h2 : w.ownsRow b2 e2 s2 v2 n2 ys) (he : e1 ≠ e2) : v1.ownBlock = none ∨ v1.ownBlock ≠ v2.ownBlock := by
  rcases h1.2 with ⟨rfl, _⟩ | ⟨g, cap, cur, rfl, hb, hg, _⟩
  · exact .inl rfl
  · refine .inr ?_
    rcases h2.2 with ⟨rfl, _⟩ | ⟨g', cap', cur', rfl, hb', hg', _⟩
    · simp [Value.ownBlock]
    · simp only [Value.ownBlock, ne_eq, Option.some.injEq]
      intro e
      subst e
      rw [hg] at hg'
      simp only [Option.some.injEq, Obj.cells.injEq] at hg'
      exact he hg'.2.1

theorem one_slice (A : Option Addr) (n c : Nat) : ∀ u ∈ [Value.slice A n c], u.oneCell' = true := by
  intro u hu
  simp at hu
  subst hu
  rfl
theorem info_row : (Try.prog.info? 22).map (fun i => (i.zero, i.size, i.bytes)) = some (some (.slice none 0 0), 1, 24) := by kernel_rfl

/-- What 'All' answers. -/
def AllSaid (w : World) (n : Nat) (xs : List Int) (e : Ending) (w' : World) : Prop :=
  ∃ (l : List Part) (v : Value) (u : Nat), Chain (l.map Part.all) xs u ∧ u ≤ n ∧ l.length ≤ n ∧ (u < n → whyF (xs.drop u) ≠ 0) ∧ e = .returned (.tuple #[v, .int .i64 u, .int .i64 ((if u = n then 0 else whyF (xs.drop u) : Nat) : Int)]) ∧
    w'.ownsRow w.heap.size 22 1 v l.length (l.map Part.val) ∧ (∀ p ∈ l, w'.ownsRow w.heap.size 5 1 p.val p.len (p.all.map (Value.int .u8))) ∧ Below w.heap.size w w'

set_option maxHeartbeats 1600000 in
set_option maxRecDepth 100000 in
theorem All_any (A : Option Addr) (n c : Nat) (xs : List Int) (w : World) (h : Rd w w.heap.size .u8 A n c xs) (hx : ∀ x ∈ xs, 0 ≤ x ∧ x < 256) (hn2 : n ≤ 1000000) :
    Calls Try.prog 19 #[.slice A n c] w (AllSaid w n xs) := by
  obtain ⟨i0, hi, hz0, hz1, hz2⟩ := info_parts info_row
  have hm := h.max
  have hc := h.cap
  unfold maxLen at hm
  have HL := Lib.hid h.len
  have HX := Lib.hid hx
  clear hx
  go_enter Try.func19, Try.ntmps19
  go_wp2_with fail
  go_loopw [2, 3] (fun v i wr => ∃ (l : List Part) (u N : Nat), i = .int .i64 u ∧ u ≤ n ∧ Hid (N = l.length) ∧ N ≤ u ∧ Hid (Chain (l.map Part.all) xs u) ∧ wr.ownsRow w.heap.size 22 1 v N (l.map Part.val) ∧ Hid (∀ p ∈ l, wr.ownsRow w.heap.size 5 1 p.val p.len (p.all.map (Value.int .u8))) ∧ Below w.heap.size w wr)
    (fun _ i _ => n - (intOf i).toNat)
  case atStart => exact ⟨[], 0, 0, rfl, Nat.zero_le _, Lib.hid rfl, Nat.le_refl _, Lib.hid rfl, World.ownsRow_nil _ _ _ _, Lib.hid (fun p hp => by cases hp), Below.refl _ _⟩
  case round =>
    obtain ⟨l, u, N, rfl, hu, HN, hN, HCH, hown, HP, hb⟩ := hrel
    have hbz := hb.size
    by_cases hun : u < n
    · obtain ⟨b, o, rfl, _⟩ := h.cell (j := 0) (by omega)
      have hcu : ¬ (c = u) := by omega
      have hr1 := ((h.drop (m := u) (by omega)).below hb).more hbz
      have HF := Lib.hid (first_any _ _ _ _ wr hr1 (drop_bytes HX.out u) (by omega))
      clear hr1
      go_wp2_with fail
      refine HF.out.mono ?_
      rintro e w1 ⟨hb1, ⟨hw, rfl⟩ | ⟨hw, A1, c1, rfl, hr1, hle⟩⟩
      · have HW := Lib.hid hw
        have hwb : (((whyF (xs.drop u) : Nat) : Int) != 0) = true := by rw [bne_iff_ne]; omega
        have hown1 := own_below hown hb1
        clear hw HF hown
        generalize hq : whyF (xs.drop u) = q at *
        have HQ := Lib.hid hq
        clear hq
        go_wp2_with fail
        go_ret3
        have hN2 := HN.out
        subst hN2
        refine ⟨l, _, u, HCH.out, hu, by omega, fun _ => by rw [HQ.out]; exact HW.out, ?_, hown1, fun p hp => own_below (HP.out p hp) hb1, hb.trans (hb1.mono hbz)⟩
        rw [if_neg (by omega), HQ.out]
        rfl
      · have HW := Lib.hid hw
        have hchain := Chain.snoc _ _ _ HCH.out hw
        have HCH2 := Lib.hid hchain
        have hz01 := hb1.size
        have hr1' := hr1.more (B' := w1.heap.size) hz01
        clear hw HF hchain HCH hr1
        generalize hbody : ((xs.drop u).drop 6).take (sizeF (xs.drop u)) = body at *
        generalize sizeF (xs.drop u) = M at *
        have hown1 := own_below hown hb1
        have HP1 : Hid (∀ p ∈ l, w1.ownsRow w.heap.size 5 1 p.val p.len (p.all.map (Value.int .u8))) := Lib.hid fun p hp => own_below (HP.out p hp) hb1
        have hbw1 := hb.trans (hb1.mono hbz)
        have hbz1 := hbw1.size
        clear hown HP hb hb1 hbody
        go_wp2_with fail
        refine (Clone_any _ _ _ _ w1 hr1' (by omega)).mono ?_
        rintro e w2 ⟨v2, rfl, hown2, hb2⟩
        have hown3 := own_below hown1 hb2
        have HP2 : Hid (∀ p ∈ l, w2.ownsRow w.heap.size 5 1 p.val p.len (p.all.map (Value.int .u8))) := Lib.hid fun p hp => own_below (HP1.out p hp) hb2
        have hown2' := own_base hown2 hbz1
        have hbw2 := hbw1.trans (hb2.mono hbz1)
        have hbz2 := hbw2.size
        obtain ⟨A2, c2, rfl, _⟩ := Rd.of_own hown2'
        have HOW := Lib.hid hown2'
        clear hown1 HP1 hown2 hown2' hb2 hbw1
        go_wp2_with (at_builtin; refine wpList_append_src rfl _ _ 36 rfl w.heap.size 22 i0 _ 1 24 Try.underlying36 hi hz0 hz1 hz2 rfl (by omega) _ N (l.map Part.val) rfl (hown3.alloc _) (some ⟨w2.heap.size, 0, none⟩) 1 1 [.slice A2 M c2] rfl rfl (fun h => by cases h) (news_new _ _ _) (one_slice _ _ _) (by unfold maxLen; omega) (by omega) (by simp; omega) ?_; intro v6 w6 hown6 hg6)
        have hb6 : Below w.heap.size w w6 := (hbw2.alloc hbz2 _).grown hg6 (by simp; omega) (fun k hk => (hown3.lt k hk).1)
        have HP6 : Hid (∀ p ∈ l ++ [⟨A2, M, c2, body⟩], w6.ownsRow w.heap.size 5 1 p.val p.len (p.all.map (Value.int .u8))) := Lib.hid fun p hp => by
          rcases List.mem_append.1 hp with hp | hp
          · have h1 := HP2.out p hp
            exact (h1.alloc _).kept hg6 (own_apart h1 hown3 (by decide))
          · simp at hp
            subst hp
            exact (HOW.out.alloc _).kept hg6 (own_apart HOW.out hown3 (by decide))
        go_roundw
        case rel =>
          refine ⟨l ++ [⟨A2, M, c2, body⟩], u + (6 + M), N + 1, by go_num, by omega, Lib.hid ?_, by omega, Lib.hid ?_, ?_, HP6, hb6⟩
          · rw [HN.out]; simp
          · simpa using HCH2.out
          · simpa [Part.val] using hown6
        case measure => simp [intOf]; omega
    · go_wp2_with fail
      go_ret3
      have hN2 := HN.out
      subst hN2
      have hun' : u = n := by omega
      subst hun'
      exact ⟨l, _, u, HCH.out, Nat.le_refl _, hN, fun hh => absurd hh (Nat.lt_irrefl _), by rw [if_pos rfl]; rfl, hown, HP.out, hb⟩
end Go.Proofs.Ytbdfhlgpbhcjcaa
