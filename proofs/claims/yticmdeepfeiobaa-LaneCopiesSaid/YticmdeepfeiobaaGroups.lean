/- What is proved here: that each thing's group is the one in which it came, and a group's head the first of it (LaneGroups). -/
import Derived.Test.YticmdeepfeiobaaPair
namespace Go.Proofs.Yticmdeepfeiobaa
open Go Go.RowKit Go.Maps Go.WideMaps

/-- What ends the round: the two calls that a thing makes. -/
theorem drop_two {w wr V : World} {l N n2 c2 bx : Nat} {A2 : Option Addr} {L : List Th} {kd : Int} {p : OpM} (h : LT w wr l L N A2 n2 c2 L) (hV : V = wr.alloc (.cells #[.int .i64 kd, .int .i64 p.id, .string p.g] 28)) (hbx : bx = wr.heap.size) (hN : N < 900000) (hn : n2 < 900000) (hk : wfk p.id) :
    Calls Try.prog 13 #[.pointer (some ⟨l, 0, none⟩), .int .i64 p.id] V fun e w' => e = .returned (.bool (at_ L p.id).isSome) ∧ w'.cell? ⟨bx, 1, none⟩ = some (.int .i64 p.id) ∧
      Hid (Calls Try.prog 12 #[.slice A2 n2 c2, .int .i64 p.id] w' fun e w'' => ∃ A3 n3 c3, e = .returned (.tuple #[.slice A3 n3 c3, .bool (at_ L p.id).isSome]) ∧ n3 ≤ n2 ∧ Hid (n3 = (dropT L p.id).length ∧ LT w w'' l (dropT L p.id) N A3 n3 c3 (dropT L p.id))) := by
  have hb : Below wr.heap.size wr V := by rw [hV]; exact (Below.refl _ _).alloc (Nat.le_refl _) _
  refine (h.drop hb hN hk).mono ?_
  rintro e w' ⟨rfl, hc, hT⟩
  refine ⟨rfl, ?_, Lib.hid ((hT.out.rdrop hn p.id).mono ?_)⟩
  · rw [hc ⟨bx, 1, none⟩ (by rw [hbx]; exact Nat.le_refl _) (by rw [hbx, hV]; simp), hV, hbx]
    simp
  · rintro e w'' ⟨A3, n3, c3, rfl, hn3, _, hT3⟩
    refine ⟨A3, n3, c3, rfl, ?_, Lib.hid ⟨hn3, hT3.out⟩⟩
    have := length_dropT_le L p.id
    have := h.row.len
    omega
theorem add_two {w wr V : World} {l N n2 c2 bx : Nat} {A2 : Option Addr} {L : List Th} {kd : Int} {p : OpM} (h : LT w wr l L N A2 n2 c2 L) (hV : V = wr.alloc (.cells #[.int .i64 kd, .int .i64 p.id, .string p.g] 28)) (hbx : bx = wr.heap.size) (hN : N < 900000) (hn : n2 < 900000) (hk : wfk p.id) (hs : p.g.size ≤ maxLen) :
    Calls Try.prog 11 #[.pointer (some ⟨l, 0, none⟩), .string p.g, .int .i64 p.id] V fun e w' => e = .returned (.bool (at_ L p.id).isNone) ∧ w'.cell? ⟨bx, 1, none⟩ = some (.int .i64 p.id) ∧ w'.cell? ⟨bx, 2, none⟩ = some (.string p.g) ∧
      Hid (Calls Try.prog 10 #[.slice A2 n2 c2, .string p.g, .int .i64 p.id] w' fun e w'' => ∃ A3 n3 c3, e = .returned (.tuple #[.slice A3 n3 c3, .bool (at_ L p.id).isNone]) ∧ n3 ≤ n2 + 1 ∧ Hid (n3 = (addT L p.g p.id N).length ∧ LT w w'' l (addT L p.g p.id N) (addN L p.id N) A3 n3 c3 (addT L p.g p.id N))) := by
  have hb : Below wr.heap.size wr V := by rw [hV]; exact (Below.refl _ _).alloc (Nat.le_refl _) _
  have hl := h.row.len
  refine (h.add hb hN (by omega) hs hk).mono ?_
  rintro e w' ⟨rfl, hc, hT⟩
  refine ⟨rfl, ?_, ?_, Lib.hid ((hT.out.radd hn p.g p.id N).mono ?_)⟩
  · rw [hc ⟨bx, 1, none⟩ (by rw [hbx]; exact Nat.le_refl _) (by rw [hbx, hV]; simp), hV, hbx]
    simp
  · rw [hc ⟨bx, 2, none⟩ (by rw [hbx]; exact Nat.le_refl _) (by rw [hbx, hV]; simp), hV, hbx]
    simp
  · rintro e w'' ⟨A3, n3, c3, rfl, hn3, _, hT3⟩
    refine ⟨A3, n3, c3, rfl, ?_, Lib.hid ⟨hn3, hT3.out⟩⟩
    have := length_addT L p.g p.id N
    omega

set_option maxHeartbeats 6400000 in
set_option maxRecDepth 100000 in
theorem laneGroups_any {w : World} {A : Option Addr} {n c : Nat} {ops : List OpM} (hops : OpsRd w w.heap.size A n c ops) (s : ByteArray) (hs : s.size ≤ maxLen) (id : Int) (hid : wfk id) :
    Calls Try.prog 4 #[.slice A n c, .string s, .int .i64 id] w fun e w' => e = .returned (.bool true) ∧ Below w.heap.size w w' := by
  have HAW := Lib.hid fun W => awake_any W
  have hcm := hops.max
  have hcc := hops.cap
  unfold maxLen at hcm
  have HK := Lib.hid hops
  have HN := Lib.hid (New_any w)
  have HS := Lib.hid hs
  have HID := Lib.hid hid
  clear hops hs hid
  by_cases h60 : 60 < n
  · have h60' : (60 : Int) < n := by omega
    go_enter Try.func4, Try.ntmps4
    go_wp2_with (go_at_call 8; refine (HAW.out _).mono ?_; rintro e w1 ⟨rfl, hb⟩; have HB := Lib.hid hb; clear hb)
    go_ret
    exact ⟨rfl, HB.out⟩
  · have h60' : ¬ (60 : Int) < n := by omega
    have hn60 : n ≤ 60 := by omega
    by_cases h20 : 20 < s.size
    · have h20' : (20 : Int) < s.size := by omega
      go_enter Try.func4, Try.ntmps4
      go_wp2_with (go_at_call 8; refine (HAW.out _).mono ?_; rintro e w1 ⟨rfl, hb⟩; have HB := Lib.hid hb; clear hb)
      go_ret
      exact ⟨rfl, HB.out⟩
    · have h20' : ¬ (20 : Int) < s.size := by omega
      go_enter Try.func4, Try.ntmps4
      go_wp2_with (go_at_call 9; refine HN.out.mono ?_; rintro e w1 ⟨rfl, hb, ht⟩; have HT0 := Lib.hid (LT.start (LN.new (Below.refl _ _) hb ht)); clear hb ht)
      generalize w.heap.size + 2 = l at *
      clear HN h60 h20
      go_loopw [8, 31] (fun v i wr => ∃ (k : Nat) (A2 : Option Addr) (n2 c2 N : Nat) (L : List Th), v = .slice A2 n2 c2 ∧ i = .int .i64 k ∧ k ≤ n ∧ n2 ≤ k ∧ N ≤ k ∧ Hid (n2 = L.length) ∧ Hid (LT w wr l L N A2 n2 c2 L)) (fun _ i _ => n - (intOf i).toNat)
      case atStart => exact ⟨0, none, 0, 0, 0, [], rfl, rfl, Nat.zero_le _, Nat.le_refl _, Nat.le_refl _, Lib.hid rfl, HT0⟩
      case round =>
        clear HT0
        obtain ⟨k, A2, n2, c2, N, L, rfl, rfl, hkn, hn2k, hNk, HNN, HT⟩ := hrel
        by_cases hlt : k < n
        · obtain ⟨p, b, o, hok, hpl, hA, r0, r1, r2⟩ := HK.out.op HT.out.low hlt
          subst hA
          have hlt' : (k : Int) < n := by omega
          obtain ⟨V, hV⟩ : ∃ V, V = wr.alloc (.cells #[.int .i64 p.kind, .int .i64 p.id, .string p.g] 28) := ⟨_, rfl⟩
          have v0 : V.cell? ⟨wr.heap.size, 0, none⟩ = some (.int .i64 p.kind) := by rw [hV]; simp
          have v1 : V.cell? ⟨wr.heap.size, 1, none⟩ = some (.int .i64 p.id) := by rw [hV]; simp
          have v2 : V.cell? ⟨wr.heap.size, 2, none⟩ = some (.string p.g) := by rw [hV]; simp
          have HC1 := Lib.hid (drop_two (kd := p.kind) HT.out hV rfl (by omega) (by omega) hok.ii)
          have HC2 : Hid (¬ 20 < p.g.size → _) := Lib.hid fun h20 => add_two (kd := p.kind) HT.out hV rfl (by omega) (by omega) hok.ii (by unfold maxLen; omega)
          have HLOW : Hid (Below w.heap.size w V) := Lib.hid (HT.out.low.trans (by rw [hV]; exact ((Below.refl wr.heap.size wr).alloc (Nat.le_refl _) _).mono HT.out.low.size))
          have HLD := Lib.hid (length_dropT_le L p.id)
          have HLA := Lib.hid (length_addT L p.g p.id N)
          have HNA := Lib.hid (addN_le L p.id N)
          have HV := Lib.hid hV
          clear hV hpl
          go_upto_region 10 with fail
          rw [← HV.out]
          clear r0 r1 r2
          generalize wr.heap.size = bx at *
          by_cases h20g : 20 < p.g.size
          · have h20g' : (20 : Int) < p.g.size := by omega
            go_wp2_with (go_at_call 8; refine (HAW.out _).mono ?_; rintro e w1 ⟨rfl, hb⟩; have HB := Lib.hid (HLOW.out.trans (hb.mono HLOW.out.size)); clear hb)
            go_ret
            exact ⟨rfl, HB.out⟩
          · have h20g' : ¬ (20 : Int) < p.g.size := by omega
            have HC2' := Lib.hid (HC2.out h20g)
            by_cases hk1 : p.kind = 1
            · have hkb : (p.kind == 1) = true := by simpa using hk1
              generalize dropT L p.id = L3 at *
              generalize at_ L p.id = q at *
              go_wp2_with (first
                | (go_at_call 13; refine HC1.out.mono ?_; rintro e w2 ⟨rfl, e1, HC3⟩)
                | (go_at_call 12; refine HC3.out.mono ?_; rintro e w3 ⟨A3, n3, c3, rfl, hn3, HX⟩))
              go_roundw
              case rel => exact ⟨k + 1, A3, n3, c3, N, L3, rfl, by go_num, by omega, by omega, by omega, Lib.hid HX.out.1, Lib.hid HX.out.2⟩
              case measure => simp [intOf]; omega
            · have hkb : (p.kind == 1) = false := beq_eq_false_iff_ne.2 hk1
              have hNA := HNA.out
              generalize addT L p.g p.id N = L3 at *
              generalize addN L p.id N = N3 at *
              generalize at_ L p.id = q at *
              go_wp2_with (first
                | (go_at_call 11; refine HC2'.out.mono ?_; rintro e w2 ⟨rfl, e1, e2, HC3⟩)
                | (go_at_call 10; refine HC3.out.mono ?_; rintro e w3 ⟨A3, n3, c3, rfl, hn3, HX⟩))
              go_roundw
              case rel => exact ⟨k + 1, A3, n3, c3, N3, L3, rfl, by go_num, by omega, by omega, by omega, Lib.hid HX.out.1, Lib.hid HX.out.2⟩
              case measure => simp [intOf]; omega
        · obtain rfl : k = n := by omega
          have hd0 : decide ((k : Int) < (k : Int)) = false := decide_eq_false (by omega)
          have HGR : Hid (Calls Try.prog 22 #[.pointer (some ⟨l, 0, none⟩), .int .i64 id] wr fun e w' => e = groupE (at_ L id) ∧ Hid (LT w w' l L N A2 n2 c2 L)) := Lib.hid (by
            obtain ⟨Φ, g1, _⟩ := HT.out
            exact (Group_any g1 HID.out).mono fun _ _ ⟨he, hb⟩ => ⟨he, Lib.hid (HT.out.later hb)⟩)
          have HAT : Hid (∀ w2, LT w w2 l L N A2 n2 c2 L → Calls Try.prog 23 #[.slice A2 n2 c2, .int .i64 id] w2 fun e w' => AtSaid L id e ∧ w2 = w') := Lib.hid fun w2 h => refAt_any h.row id
          have HHD : Hid (∀ w2, LT w w2 l L N A2 n2 c2 L → Calls Try.prog 24 #[.pointer (some ⟨l, 0, none⟩), .string s] w2 fun e w' => e = headE (ofG L s) ∧ w2 = w') := Lib.hid fun w2 h => by
            obtain ⟨Φ, g1, _⟩ := h
            exact Head_any g1 HS.out
          have HOF : Hid (∀ w2, LT w w2 l L N A2 n2 c2 L → Calls Try.prog 21 #[.slice A2 n2 c2, .string s] w2 (RowSaid (ofG L s) w2)) := Lib.hid fun w2 h => refOf_any h.row (by omega) s
          obtain ⟨hn2c, hc2m⟩ := HT.out.row.caps
          cases hq : at_ L id with
          | none =>
            have HG2 : Hid (Calls Try.prog 22 #[.pointer (some ⟨l, 0, none⟩), .int .i64 id] wr fun e w' => e = .returned (.tuple #[.string ⟨#[]⟩, .bool false]) ∧ Hid (LT w w' l L N A2 n2 c2 L)) := Lib.hid (by have := HGR.out; rw [hq] at this; exact this)
            have HA2 : Hid (∀ e, AtSaid L id e → e = .returned (.int .i64 (-1))) := Lib.hid fun e he => by
              rcases he with ⟨h1, _⟩ | ⟨j, y, _, _, h2⟩
              · exact h1
              · rw [hq] at h2; cases h2
            clear hq HGR
            go_upto_region 22 with (first
              | (go_at_call 22; refine HG2.out.mono ?_; rintro e w2 ⟨rfl, HT2⟩)
              | (go_at_call 23; refine (HAT.out _ HT2.out).mono ?_; rintro e w3 ⟨he, rfl⟩; obtain rfl := HA2.out e he; clear he))
            cases hof : ofG L s with
            | nil =>
              rw [hof] at HHD HOF
              have HHE : Hid (∀ w2, LT w w2 l L N _ n2 c2 L → Calls Try.prog 24 #[.pointer (some ⟨l, 0, none⟩), .string s] w2 fun e w' => e = .returned (.tuple #[.int .i64 0, .bool false]) ∧ w2 = w') := Lib.hid HHD.out
              go_wp2_with (first
                | (go_at_call 24; refine (HHE.out _ HT2.out).mono ?_; rintro e w3 ⟨rfl, rfl⟩)
                | (go_at_call 21; refine (HOF.out _ HT2.out).mono ?_; rintro e w4 ⟨A4, c4, rfl, _, hb4⟩; have HB4 := Lib.hid (HT2.out.low.trans (hb4.mono HT2.out.low.size)); clear hb4)
                | (go_at_call 8; refine (HAW.out _).mono ?_; rintro e w5 ⟨rfl, hb5⟩; have HB5 := Lib.hid (HB4.out.trans (hb5.mono HB4.out.size)); clear hb5))
              go_ret
              exact ⟨rfl, HB5.out⟩
            | cons x0 r0 =>
              rw [hof] at HHD HOF
              have hrl : 0 < (x0 :: r0).length := by simp
              generalize hxs : x0 :: r0 = xs at HOF hrl
              have HXS := Lib.hid hxs
              clear hxs
              have HHE : Hid (∀ w2, LT w w2 l L N _ n2 c2 L → Calls Try.prog 24 #[.pointer (some ⟨l, 0, none⟩), .string s] w2 fun e w' => e = .returned (.tuple #[.int .i64 x0, .bool true]) ∧ w2 = w') := Lib.hid HHD.out
              go_wp2_with (first
                | (go_at_call 24; refine (HHE.out _ HT2.out).mono ?_; rintro e w3 ⟨rfl, rfl⟩)
                | (go_at_call 21; refine (HOF.out _ HT2.out).mono ?_; rintro e w4 ⟨A4, c4, rfl, ho4, hb4⟩; have HB4 := Lib.hid (HT2.out.low.trans (hb4.mono HT2.out.low.size)); obtain ⟨b4, d4, e4, _⟩ := ho4.form hrl; obtain ⟨rfl, rfl⟩ : A4 = some ⟨b4, 0, none⟩ ∧ c4 = d4 := (by simpa using e4); have q4 : w4.cell? ⟨b4, 0, none⟩ = some (.int .i64 x0) := (by rw [ho4.cellAt 0 (by omega), ← HXS.out]; rfl); obtain ⟨_, _, k4, k5⟩ := own_cells ho4; unfold maxLen at k5; generalize xs.length = m4 at *; clear hb4 ho4 e4)
                | (go_at_call 8; refine (HAW.out _).mono ?_; rintro e w5 ⟨rfl, hb5⟩; have HB5 := Lib.hid (HB4.out.trans (hb5.mono HB4.out.size)); clear hb5))
              go_ret
              exact ⟨rfl, HB5.out⟩
          | some y =>
            have HG2 : Hid (Calls Try.prog 22 #[.pointer (some ⟨l, 0, none⟩), .int .i64 id] wr fun e w' => e = .returned (.tuple #[.string y.g, .bool true]) ∧ Hid (LT w w' l L N A2 n2 c2 L)) := Lib.hid (by have := HGR.out; rw [hq] at this; exact this)
            have HA2 : Hid (∀ w2 e, LT w w2 l L N A2 n2 c2 L → AtSaid L id e → ∃ j b : Nat, e = .returned (.int .i64 j) ∧ j < n2 ∧ A2 = some ⟨b, 0, none⟩ ∧ w2.cell? ⟨b, j * 2, none⟩ = some (.string y.g)) := Lib.hid fun w2 e h he => by
              rcases he with ⟨_, h1⟩ | ⟨j, z, h1, h2, h3⟩
              · rw [hq] at h1; cases h1
              · rw [hq] at h3
                obtain rfl := Option.some.inj h3
                obtain ⟨b, hA, _, r0, _⟩ := h.row.cell h2
                have h4 := (List.getElem?_eq_some_iff.1 h2).1
                have h5 := h.row.len
                exact ⟨j, b, h1, by omega, hA, r0⟩
            clear hq HGR
            go_upto_region 22 with (first
              | (go_at_call 22; refine HG2.out.mono ?_; rintro e w2 ⟨rfl, HT2⟩)
              | (go_at_call 23; (refine (HAT.out _ HT2.out).mono ?_; rintro e w3 ⟨he, rfl⟩; obtain ⟨j, b, rfl, hjn, hA2, r0⟩ := HA2.out _ e HT2.out he; subst hA2; have hjn' : (j : Int) < n2 := (by omega); clear he)))
            cases hof : ofG L s with
            | nil =>
              rw [hof] at HHD HOF
              have HHE : Hid (∀ w2, LT w w2 l L N _ n2 c2 L → Calls Try.prog 24 #[.pointer (some ⟨l, 0, none⟩), .string s] w2 fun e w' => e = .returned (.tuple #[.int .i64 0, .bool false]) ∧ w2 = w') := Lib.hid HHD.out
              go_wp2_with (first
                | (go_at_call 24; refine (HHE.out _ HT2.out).mono ?_; rintro e w3 ⟨rfl, rfl⟩)
                | (go_at_call 21; refine (HOF.out _ HT2.out).mono ?_; rintro e w4 ⟨A4, c4, rfl, _, hb4⟩; have HB4 := Lib.hid (HT2.out.low.trans (hb4.mono HT2.out.low.size)); clear hb4)
                | (go_at_call 8; refine (HAW.out _).mono ?_; rintro e w5 ⟨rfl, hb5⟩; have HB5 := Lib.hid (HB4.out.trans (hb5.mono HB4.out.size)); clear hb5))
              go_ret
              exact ⟨rfl, HB5.out⟩
            | cons x0 r0 =>
              rw [hof] at HHD HOF
              have hrl : 0 < (x0 :: r0).length := by simp
              generalize hxs : x0 :: r0 = xs at HOF hrl
              have HXS := Lib.hid hxs
              clear hxs
              have HHE : Hid (∀ w2, LT w w2 l L N _ n2 c2 L → Calls Try.prog 24 #[.pointer (some ⟨l, 0, none⟩), .string s] w2 fun e w' => e = .returned (.tuple #[.int .i64 x0, .bool true]) ∧ w2 = w') := Lib.hid HHD.out
              go_wp2_with (first
                | (go_at_call 24; refine (HHE.out _ HT2.out).mono ?_; rintro e w3 ⟨rfl, rfl⟩)
                | (go_at_call 21; refine (HOF.out _ HT2.out).mono ?_; rintro e w4 ⟨A4, c4, rfl, ho4, hb4⟩; have HB4 := Lib.hid (HT2.out.low.trans (hb4.mono HT2.out.low.size)); obtain ⟨b4, d4, e4, _⟩ := ho4.form hrl; obtain ⟨rfl, rfl⟩ : A4 = some ⟨b4, 0, none⟩ ∧ c4 = d4 := (by simpa using e4); have q4 : w4.cell? ⟨b4, 0, none⟩ = some (.int .i64 x0) := (by rw [ho4.cellAt 0 (by omega), ← HXS.out]; rfl); obtain ⟨_, _, k4, k5⟩ := own_cells ho4; unfold maxLen at k5; generalize xs.length = m4 at *; clear hb4 ho4 e4)
                | (go_at_call 8; refine (HAW.out _).mono ?_; rintro e w5 ⟨rfl, hb5⟩; have HB5 := Lib.hid (HB4.out.trans (hb5.mono HB4.out.size)); clear hb5))
              go_ret
              exact ⟨rfl, HB5.out⟩
end Go.Proofs.Yticmdeepfeiobaa
