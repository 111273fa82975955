/- What is proved here: 'CoilStops' returns true for any bytes and any calls, whatever the memory in which it is called (the package's one variable as its text lays it), and nothing that was there has changed. -/
import Derived.Test.YtogennogjnleaaaDoorErr
import Derived.Test.YtogennogjnleaaaDoorAwake
import Derived.Deep.RegionHeld3
import Derived.Deep.Draws
namespace Go.Proofs.YtogennogjnleaaaDoor
open Go Go.RowKit

/-- A list of calls that came in: of each its kind and its bound. -/
def Calls2 (w : World) (B : Nat) (A : Option Addr) (m : Nat) (K M : Nat → Int) : Prop :=
  ∀ i, i < m → ∃ b o, A = some ⟨b, o, none⟩ ∧ b < B ∧ w.cell? ⟨b, o + i * 2, none⟩ = some (.int .i64 (K i)) ∧ w.cell? ⟨b, o + i * 2 + 1, none⟩ = some (.int .i64 (M i))

theorem goNum_stop (xs : List Int) (p why : Nat) (h : why ≠ 0) : goNum xs p why = (0, p, why) := by unfold goNum; rw [if_neg h]
theorem goText_stop (xs : List Int) (p why : Nat) (most : Int) (h : why ≠ 0) : goText xs p why most = ([], p, why) := by unfold goText; rw [if_neg h]
theorem goNums_stop (xs : List Int) (p why : Nat) (most : Int) (h : why ≠ 0) : goNums xs p why most = ([], p, why) := by unfold goNums; rw [if_neg h]

/-- A reader that stands still, in whatever later world. -/
def Stands (g : Nat) (A : Option Addr) (n c : Nat) (xs : List Int) (p why B : Nat) (w0 w : World) : Prop := Rdr w g A n c xs p why ∧ Below B w0 w
theorem Stands.drew {g : Nat} {A : Option Addr} {n c : Nat} {xs : List Int} {p why B : Nat} {w0 w : World} (h : Stands g A n c xs p why B w0 w) : Stands g A n c xs p why B w0 w.drew := ⟨⟨h.1.1.drew, h.1.2.keep (fun _ _ => rfl)⟩, h.2.drew⟩
theorem Stands.box {g : Nat} {A : Option Addr} {n c : Nat} {xs : List Int} {p why B : Nat} {w0 w : World} (h : Stands g A n c xs p why B w0 w) (hB : B ≤ w0.heap.size) (o : Obj) : Stands g A n c xs p why B w0 (w.alloc o) :=
  ⟨h.1.keep ((Below.refl _ _).alloc (Nat.le_refl _) _), h.2.alloc (Nat.le_trans hB h.2.size) o⟩
theorem Stands.cells {g : Nat} {A : Option Addr} {n c : Nat} {xs : List Int} {p why B : Nat} {w0 w : World} (h : Stands g A n c xs p why B w0 w) : w.cell? ⟨g, 0, none⟩ = some (.slice A n c) ∧ w.cell? ⟨g, 1, none⟩ = some (.int .i64 p) := by
  have c0 := h.1.1.cell 0
  have c1 := h.1.1.cell 1
  simp at c0 c1
  exact ⟨c0, c1⟩

section
variable (g : Nat) (A : Option Addr) (n c : Nat) (xs : List Int) (p why B : Nat) (w0 w : World) (h : Stands g A n c xs p why B w0 w) (hB : B ≤ w0.heap.size) (hn : n ≤ 1000000) (hp : p ≤ n)
include h hB
theorem At_stands : Calls Tryd.prog 11 #[.agg #[.slice A n c, .int .i64 p]] w fun e w' => e = .returned (.int .i64 p) ∧ w'.cell? ⟨g, 0, none⟩ = some (.slice A n c) ∧ w'.cell? ⟨g, 1, none⟩ = some (.int .i64 p) ∧ Stands g A n c xs p why B w0 w' :=
  (At_any A n c p w).mono fun e w' ⟨he, hw⟩ => by
    subst hw
    exact ⟨he, (h.box hB _).cells.1, (h.box hB _).cells.2, h.box hB _⟩
include hn hp
theorem Left_stands : Calls Tryd.prog 9 #[.agg #[.slice A n c, .int .i64 p]] w fun e w' => e = .returned (.int .i64 (n - p)) ∧ w'.cell? ⟨g, 0, none⟩ = some (.slice A n c) ∧ w'.cell? ⟨g, 1, none⟩ = some (.int .i64 p) ∧ Stands g A n c xs p why B w0 w' :=
  (Left_any A n c p w hn (by omega) (by omega)).mono fun e w' ⟨he, hw⟩ => by
    subst hw
    exact ⟨he, (h.box hB _).cells.1, (h.box hB _).cells.2, h.box hB _⟩
end

set_option maxHeartbeats 2000000 in
set_option maxRecDepth 100000 in
theorem stops_short (A : Option Addr) (n c : Nat) (xs : List Int) (A2 : Option Addr) (m d : Nat) (K M : Nat → Int) (w : World) (hE : ErrType w) (h : Rd w w.heap.size .u8 A n c xs) (hx : ∀ x ∈ xs, 0 ≤ x ∧ x < 256) (hn : n ≤ 400) (hm : m ≤ 400)
    (hl : Calls2 w w.heap.size A2 m K M) :
    Calls Tryd.prog 4 #[.slice A n c, .slice A2 m d] w fun e w' => e = .returned (.bool true) ∧ Below w.heap.size w w' := by
  obtain ⟨i0, hi, hz0, hz1, hz2⟩ := info_parts info_u8
  have hlit : ∀ W : World, (W.alloc (.cells #[] 5)).ownsRow W.heap.size 5 1 (.slice (some ⟨W.heap.size, 0, none⟩) 0 0) 0 [] := fun W => World.ownsRow_lit (e := 5) (size := 1) W #[] 0 (Nat.le_refl _) (by decide) rfl
  have HLIT := Lib.hid hlit
  have HX : Hid (∀ x ∈ xs ++ [128], 0 ≤ x ∧ x < 256) := Lib.hid (by
    intro x hx'
    rcases List.mem_append.1 hx' with h1 | h1
    · exact hx x h1
    · simp at h1; omega)
  have HLEN := Lib.hid h.len
  clear hlit hx
  go_enter Tryd.func4, Tryd.ntmps4
  go_wp2_with (first
    | (at_builtin
       refine wpList_append_src rfl _ _ 22 rfl w.heap.size 5 i0 _ 1 1 Tryd.underlying22 hi hz0 hz1 hz2 rfl (by omega) _ 0 [] rfl (HLIT.out w) A n c (xs.map (Value.int .u8)) rfl (by have := h.len; simpa using this) h.nil (h.alloc (Nat.le_refl _) _).news (ints_oneCell _ _) (by unfold maxLen; omega) (by omega) (by simp) ?_
       intro v1 w1 hown1 hg1
       rw [Nat.zero_add, List.nil_append] at hown1
       have hb1 : Below w.heap.size w w1 := ((Below.refl _ _).alloc (Nat.le_refl _) _).grown hg1 (by simp) (fun k hk => ((HLIT.out w).lt k hk).1)
       clear hg1)
    | (at_builtin
       refine wpList_append_src rfl _ _ 22 rfl w.heap.size 5 i0 _ 1 1 Tryd.underlying22 hi hz0 hz1 hz2 rfl (by omega) _ n (xs.map (Value.int .u8)) rfl (hown1.alloc _) (some ⟨w1.heap.size, 0, none⟩) 1 1 [.int .u8 128] rfl rfl (fun h => by cases h) (news_new _ _ _) (one_cell _ _) (by unfold maxLen; omega) (by omega) (by have := hb1.size; simp; omega) ?_
       intro v2 w2 hown2 hg2
       have hb2 : Below w.heap.size w w2 := (hb1.alloc hb1.size _).grown hg2 (by have := hb1.size; simp; omega) (fun k hk => (hown1.lt k hk).1)
       have hown3 : w2.ownsRow w.heap.size 5 1 v2 (n + 1) ((xs ++ [128]).map (Value.int .u8)) := by rw [List.map_append]; exact hown2
       obtain ⟨A3, c3, rfl, hrd⟩ := Rd.of_own hown3
       clear hown1 hown2 hown3 hg2 hb1))
  refine (Of_any A3 (n + 1) c3 _ w2 hrd (by omega)).mono ?_
  rintro e w3 ⟨g, A4, c4, rfl, hg, hr, hb3⟩
  have hz2 := hb2.size
  have hb4 := hb2.trans (hb3.mono hz2)
  clear hb2 hb3 hrd
  go_wp2_with fail
  -- THE LOOPS
  have hX1 : (xs ++ [128]).length = n + 1 := by rw [List.length_append, HLEN.out]; rfl
  have HX1 := Lib.hid hX1
  clear hX1
  go_loopw [33] (fun v33 wr => ∃ j p why : Nat, v33 = .int .i64 j ∧ j ≤ n + 1 ∧ p ≤ n + 1 ∧ Hid (why = 0 ∨ why = 2 ∨ why = 3) ∧ Hid (why = 0 → j ≤ p ∧ p ≤ n) ∧ Rdr wr g A4 (n + 1) c4 (xs ++ [128]) p why ∧ Below w.heap.size w wr)
    (fun i _ => n + 1 - (intOf i).toNat)
  case atStart => exact ⟨0, 0, 0, rfl, by omega, by omega, Lib.hid (.inl rfl), Lib.hid (fun _ => by omega), hr, hb4⟩
  case round =>
    obtain ⟨j, p, why, rfl, hj, hp, hwhy, hgo, hrd, hb⟩ := hrel
    clear hr hb4
    have hz := hb.size
    by_cases hlt : j < n + 1
    · have hlt' : (j : Int) < n + 1 := by omega
      have hnext : Hid ((goNum (xs ++ [128]) p why).2.2 = 0 → j + 1 ≤ (goNum (xs ++ [128]) p why).2.1 ∧ (goNum (xs ++ [128]) p why).2.1 ≤ n) := Lib.hid (by
        intro h0
        by_cases hw0 : why = 0
        · subst hw0
          have h1 := hgo.out rfl
          have h2 := goNum_open xs p (by rw [HLEN.out]; omega) h0
          rw [HLEN.out] at h2
          omega
        · rw [goNum_stop _ _ _ hw0] at h0
          exact absurd h0 hw0)
      have his := goNum_is (xs ++ [128]) p why (by rw [HX1.out]; exact hp) hwhy.out
      rw [HX1.out] at his
      have hp' := his.1
      have HW := Lib.hid his.2.2
      have H := Lib.hid (ReaderNum_any g A4 (n + 1) c4 (xs ++ [128]) p why wr hrd hwhy.out HX.out (by omega) hp)
      clear his hgo hrd
      generalize goNum (xs ++ [128]) p why = T at *
      go_wp2_with fail
      refine H.out.mono ?_
      rintro e w4 ⟨rfl, hrd, hgr⟩
      go_wp2_with fail
      go_roundw
      case rel => exact ⟨j + 1, T.2.1, T.2.2, by go_num, by omega, hp', HW, hnext, hrd, hb.trans (below_grow hgr (by omega) hz)⟩
      case measure => simp [intOf]; omega
    · have hlt' : (n : Int) + 1 ≤ j := by omega
      have hbad : why = 2 ∨ why = 3 := by
        rcases hwhy.out with h0 | h0
        · have := hgo.out h0; omega
        · exact h0
      have HB := Lib.hid hbad
      have hne : why ≠ 0 := by omega
      have HNE := Lib.hid hne
      clear hbad hne hgo hwhy
      go_wp2_with fail
      refine (Err_bad g A4 (n + 1) c4 _ p why wr hrd HB.out).mono ?_
      rintro e w4 ⟨f, rfl, _, hb4⟩
      have st : Stands g A4 (n + 1) c4 (xs ++ [128]) p why w.heap.size w w4 := ⟨hrd.keep hb4, hb.trans (hb4.mono hz)⟩
      have ST := Lib.hid st
      obtain ⟨c0, c1⟩ := st.cells
      clear st hrd hb hb4 hz
      go_wp2_with fail
      go_region_held3 (fun w' => w'.cell? ⟨g, 0, none⟩ = some (.slice A4 (n + 1) c4) ∧ w'.cell? ⟨g, 1, none⟩ = some (.int .i64 (p : Int)) ∧ Stands g A4 (n + 1) c4 (xs ++ [128]) p why w.heap.size w w')
        (first | exact ⟨by assumption, by assumption, by assumption⟩ | exact ⟨c0, c1, ST.out⟩ | exact ⟨by assumption, by assumption, Stands.drew (by assumption)⟩ | exact ⟨c0, c1, ST.out.drew⟩)
        (first
          | (go_at_call 11; refine (At_stands g A4 (n + 1) c4 (xs ++ [128]) p why w.heap.size w _ (by first | assumption | exact ST.out | exact ST.out.drew) (Nat.le_refl _)).mono ?_; rintro e w' ⟨rfl, h1, h2, h3⟩)
          | (go_at_call 9; refine (Left_stands g A4 (n + 1) c4 (xs ++ [128]) p why w.heap.size w _ (by first | assumption | exact ST.out | exact ST.out.drew) (Nat.le_refl _) (by omega) hp).mono ?_; rintro e w' ⟨rfl, h1, h2, h3⟩))
      clear h1 h2 c0 c1 ST
      go_wp2_with fail
      go_loopw [54] (fun v54 wr2 => ∃ i : Nat, v54 = .int .i64 i ∧ i ≤ m ∧ Stands g A4 (n + 1) c4 (xs ++ [128]) p why w.heap.size w wr2) (fun i _ => m - (intOf i).toNat)
      case atStart => exact ⟨0, rfl, Nat.zero_le _, h3⟩
      case round =>
        obtain ⟨i, rfl, him, st⟩ := hrel
        clear h3
        by_cases hi' : i < m
        · obtain ⟨b, o, rfl, hbl, hk, hq⟩ := hl i hi'
          have k0 := (st.2.cell (p := ⟨b, o + i * 2, none⟩) hbl).trans hk
          have k1 := (st.2.cell (p := ⟨b, o + i * 2 + 1, none⟩) hbl).trans hq
          have ST := Lib.hid st
          clear hk hq st
          generalize K i = k at *
          generalize M i = q at *
          by_cases hk0 : k = 0
          · subst hk0
            have SB := Lib.hid (ST.out.box (Nat.le_refl _) (.cells #[.int .i64 0, .int .i64 q] 45))
            have H := ReaderNum_any g A4 (n + 1) c4 (xs ++ [128]) p why _ SB.out.1 (.inr HB.out) HX.out (by omega) hp
            rw [goNum_stop _ _ _ HNE.out] at H
            have HH := Lib.hid H
            clear H
            go_wp2_with fail
            refine HH.out.mono ?_
            rintro e w5 ⟨rfl, hrd5, hgr5⟩
            clear HH
            have st5 : Stands g A4 (n + 1) c4 (xs ++ [128]) p why w.heap.size w w5 := ⟨hrd5, SB.out.2.trans (below_grow hgr5 (by omega) SB.out.2.size)⟩
            obtain ⟨c0, c1⟩ := st5.cells
            have hgl := st5.1.1.lt
            have ST5 := Lib.hid st5
            clear st5 hrd5 hgr5 SB k0 k1 ST
            go_wp2_with fail
            refine (At_any A4 (n + 1) c4 p w5).mono ?_
            rintro e w6 ⟨rfl, rfl⟩
            go_wp2_with fail
            refine (Left_any A4 (n + 1) c4 p _ (by omega) (by omega) (by omega)).mono ?_
            rintro e w6 ⟨rfl, rfl⟩
            go_wp2_with fail
            go_roundw
            case rel => exact ⟨i + 1, by go_num, by omega, (ST5.out.box (Nat.le_refl _) _).box (Nat.le_refl _) _⟩
            case measure => simp [intOf]; omega
          · by_cases hk1 : k = 1
            · subst hk1
              clear hk0
              have SB := Lib.hid (ST.out.box (Nat.le_refl _) (.cells #[.int .i64 1, .int .i64 q] 45))
              have H := ReaderText_any g A4 (n + 1) c4 (xs ++ [128]) p why _ SB.out.1 (.inr HB.out) HX.out (by omega) hp q
              rw [goText_stop _ _ _ _ HNE.out, show strOfNums [] = ⟨#[]⟩ from rfl] at H
              have HH := Lib.hid H
              clear H
              go_wp2_with fail
              refine HH.out.mono ?_
              rintro e w5 ⟨rfl, hrd5, hgr5⟩
              clear HH
              have st5 : Stands g A4 (n + 1) c4 (xs ++ [128]) p why w.heap.size w w5 := ⟨hrd5, SB.out.2.trans (below_grow hgr5 (by omega) SB.out.2.size)⟩
              obtain ⟨c0, c1⟩ := st5.cells
              have hgl := st5.1.1.lt
              have ST5 := Lib.hid st5
              clear st5 hrd5 hgr5 SB k0 k1 ST
              go_wp2_with fail
              refine (At_any A4 (n + 1) c4 p w5).mono ?_
              rintro e w6 ⟨rfl, rfl⟩
              go_wp2_with fail
              refine (Left_any A4 (n + 1) c4 p _ (by omega) (by omega) (by omega)).mono ?_
              rintro e w6 ⟨rfl, rfl⟩
              go_wp2_with fail
              go_roundw
              case rel => exact ⟨i + 1, by go_num, by omega, (ST5.out.box (Nat.le_refl _) _).box (Nat.le_refl _) _⟩
              case measure => simp [intOf]; omega
            · have SB := Lib.hid (ST.out.box (Nat.le_refl _) (.cells #[.int .i64 k, .int .i64 q] 45))
              have H := ReaderNums_any g A4 (n + 1) c4 (xs ++ [128]) p why _ SB.out.1 (.inr HB.out) HX.out (by omega) hp q
              rw [goNums_stop _ _ _ _ HNE.out] at H
              have HH := Lib.hid H
              clear H
              go_wp2_with fail
              refine HH.out.mono ?_
              rintro e w5 ⟨r, rfl, hown, hrd5, hgr5⟩
              clear HH
              obtain ⟨A7, c7, rfl, _⟩ := Rd.of_own (n := 0) (xs := []) hown
              clear hown
              have st5 : Stands g A4 (n + 1) c4 (xs ++ [128]) p why w.heap.size w w5 := ⟨hrd5, SB.out.2.trans (below_grow hgr5 (by omega) SB.out.2.size)⟩
              obtain ⟨c0, c1⟩ := st5.cells
              have hgl := st5.1.1.lt
              have ST5 := Lib.hid st5
              clear st5 hrd5 hgr5 SB k0 k1 ST
              go_wp2_with fail
              refine (At_any A4 (n + 1) c4 p w5).mono ?_
              rintro e w6 ⟨rfl, rfl⟩
              go_wp2_with fail
              refine (Left_any A4 (n + 1) c4 p _ (by omega) (by omega) (by omega)).mono ?_
              rintro e w6 ⟨rfl, rfl⟩
              go_wp2_with fail
              go_roundw
              case rel => exact ⟨i + 1, by go_num, by omega, (ST5.out.box (Nat.le_refl _) _).box (Nat.le_refl _) _⟩
              case measure => simp [intOf]; omega
        · have hi2 : (m : Int) ≤ i := by omega
          have ST := Lib.hid st
          clear st
          go_wp2_with fail
          refine (Done_bad g A4 (n + 1) c4 _ p why wr ST.out.1 HB.out).mono ?_
          rintro e w5 ⟨f5, rfl, hf5, hb5⟩
          have hb05 := ST.out.2.trans (hb5.mono ST.out.2.size)
          have hr5 := ST.out.1.keep hb5
          have hE5 := hE.below hb05
          go_wp2_with fail
          refine (Code_any (why : Int) _ _ w5 hE5 (.inr ⟨f5, _, rfl, hf5⟩)).mono ?_
          rintro e w6 ⟨rfl, hb6⟩
          have hb06 := hb05.trans (hb6.mono hb05.size)
          have hr6 := hr5.keep hb6
          clear hb5 hf5 hE5 hr5 hb05
          go_wp2_with fail
          refine (Err_bad g A4 (n + 1) c4 _ p why w6 hr6 HB.out).mono ?_
          rintro e w7 ⟨f7, rfl, hf7, hb7⟩
          have hb07 := hb06.trans (hb7.mono hb06.size)
          have hr7 := hr6.keep hb7
          have hE7 := hE.below hb07
          clear hb6 hb7 hr6 hb06
          go_wp2_with fail
          refine (Code_any (why : Int) _ _ w7 hE7 (.inr ⟨f7, _, rfl, hf7⟩)).mono ?_
          rintro e w8 ⟨rfl, hb8⟩
          have hb08 := hb07.trans (hb8.mono hb07.size)
          have hr8 := hr7.keep hb8
          clear hb8 hf7 hE7 hr7 hb07
          go_wp2_with fail
          refine (Err_bad g A4 (n + 1) c4 _ p why w8 hr8 HB.out).mono ?_
          rintro e w9 ⟨f9, rfl, hf9, hb9⟩
          have hb09 := hb08.trans (hb9.mono hb08.size)
          have hE9 := hE.below hb09
          clear hb9 hr8 hb08
          go_wp2_with fail
          refine (Code_any (why : Int) _ _ w9 hE9 (.inr ⟨f9, _, rfl, hf9⟩)).mono ?_
          rintro e w10 ⟨rfl, hb10⟩
          have hb010 := hb09.trans (hb10.mono hb09.size)
          have hwb : ((why : Int) != 0) = true := by rw [bne_iff_ne]; have := HNE.out; omega
          clear hb10 hf9 hE9 hb09
          go_wp2_with fail
          refine (awake_any w10).mono ?_
          rintro e w11 ⟨rfl, hb11⟩
          go_wp2_with fail
          go_ret
          exact ⟨rfl, hb010.trans (hb11.mono hb010.size)⟩

set_option maxHeartbeats 400000 in
theorem stops_any (A : Option Addr) (n c : Nat) (xs : List Int) (A2 : Option Addr) (m d : Nat) (K M : Nat → Int) (w : World) (hE : ErrType w) (h : Rd w w.heap.size .u8 A n c xs) (hx : ∀ x ∈ xs, 0 ≤ x ∧ x < 256) (hm0 : m ≤ maxLen)
    (hl : Calls2 w w.heap.size A2 m K M) :
    Calls Tryd.prog 4 #[.slice A n c, .slice A2 m d] w fun e w' => e = .returned (.bool true) ∧ Below w.heap.size w w' := by
  have hm1 := h.cap
  have hm2 := h.max
  unfold maxLen at hm0 hm2
  by_cases h1 : n ≤ 400
  · by_cases h2 : m ≤ 400
    · exact stops_short A n c xs A2 m d K M w hE h hx h1 h2 hl
    · have h2' : (400 : Int) < m := by omega
      clear hx hE hl
      go_enter Tryd.func4, Tryd.ntmps4
      go_wp2_with (go_at_call 5; refine (awake_any w).mono ?_; rintro e w1 ⟨rfl, hb1⟩)
      go_ret
      exact ⟨rfl, hb1⟩
  · have h1' : (400 : Int) < n := by omega
    clear hx hE hl
    go_enter Tryd.func4, Tryd.ntmps4
    go_wp2_with (go_at_call 5; refine (awake_any w).mono ?_; rintro e w1 ⟨rfl, hb1⟩)
    go_ret
    exact ⟨rfl, hb1⟩
end Go.Proofs.YtogennogjnleaaaDoor
