/- What is proved here: what bytes.Clone and frame.first return. -/
import Derived.Test.YtbdfhlgpbhcjcaaSumOf
import Derived.Deep.QuietTactic
import Derived.BigQuiet
import Derived.Deep.DeepCutAuto
import Derived.Deep.RegionWith
import Derived.WalkSmall
namespace Go.Proofs.Ytbdfhlgpbhcjcaa
open Go Go.RowKit

set_option maxHeartbeats 400000 in
theorem Clone_any (A : Option Addr) (n c : Nat) (xs : List Int) (w : World) (h : Rd w w.heap.size .u8 A n c xs) (hn : n ≤ 1000000) :
    Calls Try.prog 24 #[.slice A n c] w fun e w' =>
      ∃ v, e = .returned v ∧ w'.ownsRow w.heap.size 5 1 v n (xs.map (Value.int .u8)) ∧ Below w.heap.size w w' := by
  obtain ⟨i0, hi, hz0, hz1, hz2⟩ := info_parts info_u8
  rcases A with _ | a
  · obtain ⟨rfl, rfl⟩ := h.nil rfl
    have hx : xs = [] := List.eq_nil_of_length_eq_zero h.len
    subst hx
    have hq := @Lib.run_eql_slice_nil Try.prog
    go_enter Try.func24, Try.ntmps24
    go_wp2
    go_ret
    exact ⟨_, rfl, World.ownsRow_nil _ _ _ _, Below.refl _ _⟩
  · have hq := @Lib.run_eql_slice_nil Try.prog
    have hl := h.len
    have hown0 := fun (W : World) => World.ownsRow_lit (e := 5) (size := 1) W #[] 0 (Nat.le_refl _) (by decide) rfl
    have HO := Lib.hid hown0
    clear hown0
    go_enter Try.func24, Try.ntmps24
    go_wp2_with (at_builtin
                 refine wpList_append_src rfl _ _ 22 rfl w.heap.size 5 i0 _ 1 1 Try.underlying22 hi hz0 hz1 hz2 rfl (by omega) _ 0 [] rfl (HO.out w) (some a) n c (xs.map (Value.int .u8)) rfl (by simpa using hl) h.nil (h.alloc (Nat.le_refl _) _).news (ints_oneCell _ _) (by unfold maxLen; omega) (by omega) (by simp) ?_
                 intro v2 w2 hown2 hg2)
    go_ret
    refine ⟨v2, rfl, by simpa using hown2, ((Below.refl _ _).alloc (Nat.le_refl _) _).grown hg2 (by simp) (fun k hk => ((HO.out w).lt k hk).1)⟩
set_option maxHeartbeats 400000 in
theorem first_short (A : Option Addr) (n c : Nat) (xs : List Int) (B : Nat) (w : World) (h : Rd w B .u8 A n c xs) (hn : n < 6) :
    Calls Try.prog 23 #[.slice A n c] w fun e w' => e = .returned (.tuple #[.slice none 0 0, .int .i64 0, .int .i64 3]) ∧ w = w' := by
  have hm := h.max
  have hc := h.cap
  unfold maxLen at hm
  have hn' : (n : Int) < 6 := by omega
  go_enter Try.func23, Try.ntmps23
  go_wp2
  go_ret3
  exact ⟨rfl, rfl⟩
/-- A slice's first elements. -/
theorem Rd.take {w : World} {B : Nat} {k : IntKind} {A : Option Addr} {n c : Nat} {xs : List Int} (h : Rd w B k A n c xs) {m : Nat} (hm : m ≤ n) : Rd w B k A m c (xs.take m) :=
  ⟨by rw [List.length_take, h.len]; omega, by have := h.cap; omega, h.max, fun e => by have := h.nil e; omega, fun j u hu => by
    rw [List.getElem?_take] at hu
    split at hu
    · exact h.place j u hu
    · cases hu⟩
/-- What is behind a slice's first elements. -/
theorem Rd.drop {w : World} {B : Nat} {k : IntKind} {b o n c : Nat} {xs : List Int} (h : Rd w B k (some ⟨b, o, none⟩) n c xs) {m : Nat} (hm : m ≤ n) : Rd w B k (some ⟨b, o + m, none⟩) (n - m) (c - m) (xs.drop m) :=
  ⟨by rw [List.length_drop, h.len], by have := h.cap; omega, by have := h.max; omega, (fun e => by cases e), fun j u hu => by
    rw [List.getElem?_drop] at hu
    obtain ⟨b', o', e, hb, hc⟩ := h.place _ _ hu
    obtain ⟨rfl, rfl⟩ : b = b' ∧ o = o' := by simpa using e
    exact ⟨b, o + m, rfl, hb, by rw [Nat.add_assoc]; exact hc⟩⟩
theorem Rd.empty {w : World} {B : Nat} {k : IntKind} (a : Addr) : Rd w B k (some a) 0 0 [] := ⟨rfl, Nat.le_refl _, Nat.zero_le _, (fun e => by cases e), fun j u hu => by simp at hu⟩

theorem sumOf_two (A1 A2 : Option Addr) (n1 c1 n2 c2 g : Nat) (xs ys : List Int) (w : World) (h1 : w.cell? ⟨g, 0, none⟩ = some (.slice A1 n1 c1)) (h2 : w.cell? ⟨g, 1, none⟩ = some (.slice A2 n2 c2)) (hg : g < w.heap.size)
    (r1 : Rd w w.heap.size .u8 A1 n1 c1 xs) (r2 : Rd w w.heap.size .u8 A2 n2 c2 ys) (b1 : ∀ x ∈ xs, 0 ≤ x ∧ x < 256) (b2 : ∀ x ∈ ys, 0 ≤ x ∧ x < 256) (k1 : n1 ≤ 1000000) (k2 : n2 ≤ 1000000) :
    Calls Try.prog 20 #[.slice (some ⟨g, 0, none⟩) 2 2] w fun e w' => e = .returned (.int .u32 (sumL (xs ++ ys))) ∧ Below w.heap.size w w' := by
  have HS := sumOf_any g 0 2 2 [⟨A1, n1, c1, xs⟩, ⟨A2, n2, c2, ys⟩] w rfl (by omega) (by omega) (fun j p hj => by
      rcases j with _ | _ | j
      · simp at hj; subst hj; exact h1
      · simp at hj; subst hj; exact h2
      · simp at hj) hg (fun p hp => by
      simp at hp
      rcases hp with rfl | rfl
      · exact ⟨⟨r1, b1⟩, k1⟩
      · exact ⟨⟨r2, b2⟩, k2⟩)
  rwa [show bytesOf [⟨A1, n1, c1, xs⟩, ⟨A2, n2, c2, ys⟩] = xs ++ ys by unfold bytesOf; simp] at HS

theorem take_bytes {xs : List Int} (h : ∀ x ∈ xs, 0 ≤ x ∧ x < 256) (k : Nat) : ∀ x ∈ xs.take k, 0 ≤ x ∧ x < 256 := fun x hx => h x (List.mem_of_mem_take hx)
theorem drop_bytes {xs : List Int} (h : ∀ x ∈ xs, 0 ≤ x ∧ x < 256) (k : Nat) : ∀ x ∈ xs.drop k, 0 ≤ x ∧ x < 256 := fun x hx => h x (List.mem_of_mem_drop hx)

/-- The number that a frame's first two bytes are. -/
def sizeF (xs : List Int) : Nat := lowN (xs.take 2)
/-- Does the sum say what the rest is? -/
def sumF (xs : List Int) : Bool := decide (lowN ((xs.drop 2).take 4) = sumL (xs.take 2 ++ (xs.drop 6).take (sizeF xs)))
/-- Why no frame begins here: 0 where one does. -/
def whyF (xs : List Int) : Nat :=
  if xs.length < 6 then 3 else if 4096 < sizeF xs then 2 else if xs.length - 6 < sizeF xs then 3 else if sumF xs then 0 else 4

theorem neq_nat (a b : Nat) : ((a : Int) != (b : Int)) = !decide (a = b) := by
  by_cases h : a = b
  · subst h; simp
  · rw [decide_eq_false h, Bool.not_false, bne_iff_ne]; omega
/-- What 'first' answers. -/
def FirstSaid (w : World) (n : Nat) (xs : List Int) (e : Ending) (w' : World) : Prop :=
  Below w.heap.size w w' ∧ ((whyF xs ≠ 0 ∧ e = .returned (.tuple #[.slice none 0 0, .int .i64 0, .int .i64 (whyF xs)])) ∨
    (whyF xs = 0 ∧ ∃ A c, e = .returned (.tuple #[.slice A (sizeF xs) c, .int .i64 ((6 + sizeF xs : Nat) : Int), .int .i64 0]) ∧ Rd w' w.heap.size .u8 A (sizeF xs) c ((xs.drop 6).take (sizeF xs)) ∧ 6 + sizeF xs ≤ n))
theorem FirstSaid.bad {w w' : World} {n : Nat} {xs : List Int} {e : Ending} {er : Nat} (hw : whyF xs = er) (h0 : er ≠ 0) (he : e = .returned (.tuple #[.slice none 0 0, .int .i64 0, .int .i64 er])) (hb : Below w.heap.size w w') : FirstSaid w n xs e w' :=
  ⟨hb, .inl ⟨by rw [hw]; exact h0, by rw [hw]; exact he⟩⟩

set_option maxHeartbeats 1600000 in
set_option maxRecDepth 100000 in
theorem first_long (b o n c : Nat) (xs : List Int) (w : World) (h : Rd w w.heap.size .u8 (some ⟨b, o, none⟩) n c xs) (hx : ∀ x ∈ xs, 0 ≤ x ∧ x < 256) (hn : 6 ≤ n) (hn2 : n ≤ 1000000) :
    Calls Try.prog 23 #[.slice (some ⟨b, o, none⟩) n c] w (FirstSaid w n xs) := by
  have hm := h.max
  have hc := h.cap
  unfold maxLen at hm
  have hn' : (6 : Int) ≤ n := by omega
  have hc' : (6 : Int) ≤ c := by omega
  have hc2 : (n : Int) ≤ c := by omega
  have hs := lowN_lt _ (take_bytes hx 2)
  have HL := Lib.hid h.len
  have HX := Lib.hid hx
  clear hx
  rw [List.length_take, HL.out, Nat.min_eq_left (by omega)] at hs
  have HSZ : Hid (lowN (xs.take 2) = sizeF xs) := Lib.hid rfl
  rw [HSZ.out] at hs
  have hlow1 : ∀ W, (∀ p, W.cell? p = w.cell? p) → Calls Try.prog 26 #[.slice (some ⟨b, o, none⟩) 2 c] W fun e w' => e = .returned (.int .u32 (sizeF xs)) ∧ W = w' := fun W hW => by
    have := low_any _ _ _ _ _ W ((h.keep (w' := W) fun p _ => hW p).take (m := 2) (by omega)) (take_bytes HX.out 2) (by omega)
    rwa [HSZ.out] at this
  have HL1 := Lib.hid hlow1
  have HD := Lib.hid h
  clear hlow1 h
  go_enter Try.func23, Try.ntmps23
  go_upto_region 3 with fail
  go_cut [5, 6] (fun s5 s6 wx => ∃ (A6 : Option Addr), s5 = .slice (some ⟨b, o, none⟩) 6 c ∧ s6 = .slice A6 (n - 6) (c - 6) ∧ Hid (∀ p, wx.cell? p = w.cell? p) ∧ Below w.heap.size w wx ∧ Hid (Rd w w.heap.size .u8 A6 (n - 6) (c - 6) (xs.drop 6)))
  case first =>
    by_cases hc6 : c = 6
    · subst hc6
      have hn6 : n = 6 := by omega
      subst hn6
      go_quiet (fail)
      go_wp2_with fail
      go_meet
      case rel =>
        refine ⟨_, rfl, rfl, Lib.hid fun p => rfl, below_drewN (Below.refl _ _) _, Lib.hid ?_⟩
        rw [List.drop_of_length_le (by rw [HL.out]; omega)]
        exact Rd.empty _
    · have hc7 : (c = 6) = False := by simpa using hc6
      go_quiet (fail)
      go_wp2_with fail
      go_meet
      case rel =>
        exact ⟨_, rfl, rfl, Lib.hid fun p => rfl, below_drewN (Below.refl _ _) _, Lib.hid (HD.out.drop (by omega))⟩
  case rest =>
    obtain ⟨A6, rfl, rfl, HW0, hb, HR⟩ := hcut
    go_wp2_with fail
    refine (HL1.out wc HW0.out).mono ?_
    rintro e w1 ⟨rfl, rfl⟩
    by_cases h1 : 4096 < sizeF xs
    · have HW : Hid (whyF xs = 2) := Lib.hid (by unfold whyF; rw [if_neg (by rw [HL.out]; omega), if_pos h1])
      generalize sizeF xs = N at *
      go_wp2_with fail
      go_ret3
      exact FirstSaid.bad HW.out (by omega) rfl hb
    · by_cases h2 : n - 6 < sizeF xs
      · have HW : Hid (whyF xs = 3) := Lib.hid (by unfold whyF; rw [if_neg (by rw [HL.out]; omega), if_neg h1, HL.out, if_pos h2])
        generalize sizeF xs = N at *
        go_wp2_with fail
        go_ret3
        exact FirstSaid.bad HW.out (by omega) rfl hb
      · have hlow2 : ∀ V, Below wc.heap.size wc V → Calls Try.prog 26 #[.slice (some ⟨b, o + 2, none⟩) 4 (c - 2)] V fun e w' => e = .returned (.int .u32 (lowN ((xs.drop 2).take 4))) ∧ V = w' := fun V hV => by
          have hD2 := ((HD.out.drop (m := 2) (by omega)).take (m := 4) (by omega)).below (hb.trans (hV.mono hb.size))
          exact low_any _ _ _ _ _ V hD2 (take_bytes (drop_bytes HX.out 2) 4) (by omega)
        have hsum : ∀ V, Below wc.heap.size wc V → wc.heap.size < V.heap.size → V.cell? ⟨wc.heap.size, 0, none⟩ = some (.slice (some ⟨b, o, none⟩) 2 c) → V.cell? ⟨wc.heap.size, 1, none⟩ = some (.slice A6 (sizeF xs) (c - 6)) →
            Calls Try.prog 20 #[.slice (some ⟨wc.heap.size, 0, none⟩) 2 2] V fun e w' => e = .returned (.int .u32 (sumL (xs.take 2 ++ (xs.drop 6).take (sizeF xs)))) ∧ Below w.heap.size w w' := fun V hV hs1 hc1 hc2 => by
          have hbV := hb.trans (hV.mono hb.size)
          refine (sumOf_two _ _ _ _ _ _ wc.heap.size _ _ V hc1 hc2 hs1 (((HD.out.take (m := 2) (by omega)).below hbV).more hbV.size) (((HR.out.take (m := sizeF xs) (by omega)).below hbV).more hbV.size) (take_bytes HX.out 2) (take_bytes (drop_bytes HX.out 6) _) (by omega) (by omega)).mono ?_
          rintro e w' ⟨rfl, hw'⟩
          exact ⟨rfl, hbV.trans (hw'.mono hbV.size)⟩
        have HE : Hid ((((lowN ((xs.drop 2).take 4) : Nat) : Int) != ((sumL (xs.take 2 ++ (xs.drop 6).take (sizeF xs)) : Nat) : Int)) = !sumF xs) := Lib.hid (neq_nat _ _)
        have HLOW := Lib.hid hlow2
        have HSUM := Lib.hid hsum
        clear hlow2 hsum
        have hbc := hb.size
        have hne : ¬ (c = 2) := by omega
        go_upto_region 10 with fail
        go_cut [36] (fun s36 wx => s36 = .bool (!sumF xs) ∧ Below w.heap.size w wx)
        case first =>
          go_region_with (first
            | (go_at_call 26; refine (HLOW.out _ (by repeat (first | exact Below.refl _ _ | refine Below.drew ?_ | refine Below.alloc ?_ (by simp) _))).mono ?_; rintro e w1 ⟨rfl, rfl⟩)
            | (go_at_call 20; refine (HSUM.out _ (by repeat (first | exact Below.refl _ _ | refine Below.drew ?_ | refine Below.alloc ?_ (by simp) _)) (by simp) (by simp [go_sem]) (by simp [go_sem])).mono ?_; rintro e w1 ⟨rfl, hb1⟩))
          all_goals
            go_wp2_with fail
            go_meet
            case rel => exact ⟨congrArg Value.bool HE.out, hb1⟩
        case rest =>
          obtain ⟨rfl, hb2⟩ := hcut
          by_cases hsf : sumF xs = true
          · have HW : Hid (whyF xs = 0) := Lib.hid (by unfold whyF; rw [if_neg (by rw [HL.out]; omega), if_neg h1, HL.out, if_neg h2, if_pos hsf])
            have HR2 := Lib.hid ((HR.out.take (m := sizeF xs) (by omega)).below hb2)
            rw [hsf]
            clear hsf HE
            generalize hN : sizeF xs = N at *
            have HN := Lib.hid hN
            clear hN
            go_wp2_with fail
            go_ret3
            have hN := HN.out
            subst hN
            exact ⟨hb2, .inr ⟨HW.out, A6, c - 6, rfl, HR2.out, by omega⟩⟩
          · have hsf' : sumF xs = false := by simpa using hsf
            have HW : Hid (whyF xs = 4) := Lib.hid (by unfold whyF; rw [if_neg (by rw [HL.out]; omega), if_neg h1, HL.out, if_neg h2, if_neg hsf])
            rw [hsf']
            clear hsf hsf' HE
            generalize sizeF xs = N at *
            go_wp2_with fail
            go_ret3
            exact FirstSaid.bad HW.out (by omega) rfl hb2
end Go.Proofs.Ytbdfhlgpbhcjcaa
