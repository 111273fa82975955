/- What is proved here: the document's own reader of a text reads what the program's does. -/
import Derived.Test.YtkdncnhjlgidnaaGreatDoorCNum1
import Derived.StillTailTactics
namespace Go.Proofs.YtkdncnhjlgidnaaGreatDoor
open Go Go.RowKit Go.Maps

theorem goText_no {xs : List Int} {p er : Nat} {most : Int} (h : goNum xs p 0 = (0, p, er)) (he : er = 2 ∨ er = 3) : goText xs p 0 most = ([], p, er) := by
  unfold goNum at h
  rw [if_pos rfl] at h
  unfold goText textR
  rw [if_pos rfl]
  by_cases h0 : (numF 9 0 0 (xs.drop p)).2.2 = 0
  · rw [if_pos h0] at h
    simp only [Prod.mk.injEq] at h
    omega
  · rw [if_neg h0] at h
    simp only [Prod.mk.injEq, true_and] at h
    rw [if_neg h0]
    simp only
    rw [if_neg h0, h]
theorem goText_yes {xs : List Int} {p v q : Nat} {most : Int} (h : goNum xs p 0 = (v, q, 0)) : goText xs p 0 most =
    if most < (v : Int) then ([], p, 2) else if xs.length - q < v then ([], p, 3) else ((xs.drop q).take v, q + v, 0) := by
  unfold goNum at h
  rw [if_pos rfl] at h
  unfold goText textR
  rw [if_pos rfl]
  by_cases h0 : (numF 9 0 0 (xs.drop p)).2.2 = 0
  · rw [if_pos h0] at h
    simp only [Prod.mk.injEq, and_true] at h
    obtain ⟨rfl, rfl⟩ := h
    rw [if_pos h0]
    by_cases h1 : most < ((numF 9 0 0 (xs.drop p)).1 : Int)
    · rw [if_pos h1, if_pos h1]; rfl
    · rw [if_neg h1, if_neg h1]
      by_cases h2 : xs.length - (p + (numF 9 0 0 (xs.drop p)).2.1) < (numF 9 0 0 (xs.drop p)).1
      · rw [if_pos h2, if_pos h2]; rfl
      · rw [if_neg h2, if_neg h2]
        simp [Nat.add_assoc]
  · rw [if_neg h0] at h
    simp only [Prod.mk.injEq] at h
    omega
theorem goNum_more {xs : List Int} {p v q : Nat} (h : goNum xs p 0 = (v, q, 0)) (hp : p ≤ xs.length) : q ≤ xs.length ∧ p < q := by
  unfold goNum at h
  rw [if_pos rfl] at h
  rcases numF_is 9 0 0 (xs.drop p) (by simp) (by omega) with ⟨v', u, e, hv, hu0, hul⟩ | ⟨er, e, he⟩
  · rw [e, if_pos rfl] at h
    simp only [Prod.mk.injEq, and_true] at h
    rw [List.length_drop] at hul
    omega
  · rw [e, if_neg (by show ¬ er = 0; omega)] at h
    simp only [Prod.mk.injEq] at h
    omega

set_option maxHeartbeats 3200000 in
set_option maxRecDepth 100000 in
theorem ReadText1_any (A : Option Addr) (n d : Nat) (xs : List Int) (p : Nat) (w : World) (h : Rd w w.heap.size .u8 A n d xs) (hx : ∀ x ∈ xs, 0 ≤ x ∧ x < 256) (hn : n ≤ 1000000) (hp : p ≤ n) :
    Calls Tryz.prog 47 #[.slice A n d, .int .i64 p, .int .i64 256] w fun e w' => e = .returned (.tuple #[.string (strOfNums (goText xs p 0 256).1), .int .i64 (goText xs p 0 256).2.1, .int .i64 (goText xs p 0 256).2.2]) ∧ Below w.heap.size w w' := by
  have hlen := h.len
  have HR := Lib.hid (Read1_any A n d xs p w h hx hn hp)
  have HL := Lib.hid h; have HLEN := Lib.hid hlen
  have hne : (strOfNums []) = ⟨#[]⟩ := rfl
  have HNE := Lib.hid hne
  have hcs := goNum_cases xs p
  clear h hlen hx hne
  rcases hcs with ⟨v, q, hN⟩ | hN | hN
  · have hq := goNum_more hN (by rw [HLEN.out]; exact hp)
    rw [HLEN.out] at hq
    rw [hN] at HR
    by_cases h1 : 256 < v
    · have HT : Hid (goText xs p 0 256 = ([], p, 2)) := Lib.hid (by rw [goText_yes hN, if_pos (by omega)])
      have h1z : (256 : Int) < v := by omega
      clear hN hq
      go_enter Tryz.func47, Tryz.ntmps47
      go_wp2_with (go_at_call 46; refine HR.out.mono ?_; rintro e w1 ⟨rfl, hb⟩; have HB := Lib.hid hb; clear hb)
      go_ret3
      exact ⟨by rw [HT.out]; rfl, HB.out⟩
    · by_cases h2 : n - q < v
      · have HT : Hid (goText xs p 0 256 = ([], p, 3)) := Lib.hid (by rw [goText_yes hN, if_neg (by omega), if_pos (by rw [HLEN.out]; exact h2)])
        have d1 : decide ((256 : Int) < v) = false := decide_eq_false (by omega)
        have d2 : decide ((n : Int) - q < v) = true := decide_eq_true (by omega)
        have w1 : IntKind.i64.wrap ((n : Int) - q) = n - q := IntWalk.i64_in _ (by omega)
        clear hN hq
        go_enter Tryz.func47, Tryz.ntmps47
        go_wp2_with (go_at_call 46; refine HR.out.mono ?_; rintro e w1 ⟨rfl, hb⟩; have HB := Lib.hid hb; clear hb)
        go_ret3
        exact ⟨by rw [HT.out]; rfl, HB.out⟩
      · have HT : Hid (goText xs p 0 256 = ((xs.drop q).take v, q + v, 0)) := Lib.hid (by rw [goText_yes hN, if_neg (by omega), if_neg (by rw [HLEN.out]; exact h2)])
        have d1 : decide ((256 : Int) < v) = false := decide_eq_false (by omega)
        have d2 : decide ((n : Int) - q < v) = false := decide_eq_false (by omega)
        have w1 : IntKind.i64.wrap ((n : Int) - q) = n - q := IntWalk.i64_in _ (by omega)
        have w2 : IntKind.i64.wrap ((q : Int) + v) = q + v := IntWalk.i64_in _ (by omega)
        have hcap := HL.out.cap
        obtain ⟨b, o, rfl, hbl, _⟩ := rd_at HL.out (j := p) (by omega)
        have q1 : (0 : Int) ≤ q := by omega
        have q2 : (q : Int) ≤ q + v := by omega
        have q3 : (q : Int) + v ≤ d := by omega
        have q5 : ((q : Int)).toNat = q := by omega
        have q6 : ((q : Int) + v).toNat = q + v := by omega
        have q7 : q + v - q = v := by omega
        by_cases q4 : d = q
        · obtain rfl : v = 0 := by omega
          have hconv : Hid (∀ W, (convert 22 9 (.slice (some ⟨b, o, none⟩) 0 0)).run Tryz.prog W = .ok (.string ⟨#[]⟩) W) := Lib.hid fun W => by
            refine run_convert_bytes_arg _ 22 5 Tryz.underlying22 Tryz.underlying5 b o 0 _ [] rfl (fun i hi => absurd hi (by omega)) 9 Tryz.underlying9
          subst q4
          simp only [Nat.sub_self, Nat.add_zero, Int.add_zero, Int.natCast_zero] at *
          clear hN
          go_enter Tryz.func47, Tryz.ntmps47
          go_wp2_with (go_at_call 46; refine HR.out.mono ?_; rintro e w1 ⟨rfl, hb⟩; have HB := Lib.hid hb; have hcv := hconv.out w1; clear hb)
          go_ret3
          exact ⟨by rw [HT.out]; rfl, HB.out⟩
        · have HCV : Hid (∀ W, Below w.heap.size w W → (convert 22 9 (.slice (some ⟨b, o + q, none⟩) v (d - q))).run Tryz.prog W = .ok (.string (strOfNums ((xs.drop q).take v))) W) := Lib.hid fun W hW => by
            refine run_convert_bytes_arg _ 22 5 Tryz.underlying22 Tryz.underlying5 b (o + q) v _ _ (by rw [List.length_take, List.length_drop, HLEN.out]; omega) (fun i hi => ?_) 9 Tryz.underlying9
            obtain ⟨b', o', e', _, hc⟩ := rd_at (HL.out.below hW) (j := q + i) (by omega)
            obtain ⟨rfl, rfl⟩ : b = b' ∧ o = o' := by simpa using e'
            rw [Nat.add_assoc]
            refine Eq.trans hc ?_
            rw [List.getD_eq_getElem?_getD, List.getD_eq_getElem?_getD, List.getElem?_take, if_pos hi, List.getElem?_drop]
          generalize hS : strOfNums ((xs.drop q).take v) = S at HCV
          have HS := Lib.hid hS
          clear hN hS
          go_enter Tryz.func47, Tryz.ntmps47
          go_wp2_with (go_at_call 46; refine HR.out.mono ?_; rintro e w1 ⟨rfl, hb⟩; have HB := Lib.hid hb; have hcv := HCV.out w1 hb; clear hb)
          go_ret3
          exact ⟨by rw [HT.out]; simp only [HS.out]; rfl, HB.out⟩
  · rw [hN] at HR
    have HT := Lib.hid (goText_no (most := 256) hN (.inl rfl))
    clear hN
    go_enter Tryz.func47, Tryz.ntmps47
    go_wp2_with (go_at_call 46; refine HR.out.mono ?_; rintro e w1 ⟨rfl, hb⟩; have HB := Lib.hid hb; clear hb)
    go_ret3
    exact ⟨by rw [HT.out]; rfl, HB.out⟩
  · rw [hN] at HR
    have HT := Lib.hid (goText_no (most := 256) hN (.inr rfl))
    clear hN
    go_enter Tryz.func47, Tryz.ntmps47
    go_wp2_with (go_at_call 46; refine HR.out.mono ?_; rintro e w1 ⟨rfl, hb⟩; have HB := Lib.hid hb; clear hb)
    go_ret3
    exact ⟨by rw [HT.out]; rfl, HB.out⟩
end Go.Proofs.YtkdncnhjlgidnaaGreatDoor
