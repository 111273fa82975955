/- What is proved here: that a copy goes on of its own (TimerCopies). -/
import Derived.Test.YtednibjemboclaaDues
namespace Go.Proofs.Ytednibjemboclaa
open Go Go.RowKit Go.Maps

section
variable {w0 w w' V : World} {t n c cc : Nat} {R L S : List It} {A : Option Addr}
/-- A call on a timer, where what is new since w stays. -/
theorem TR.setBox (h : TR w0 w t R A n c L) (hn : R.length < 900000) (x : It) (hx : wfk x.1) (hV : Below w.heap.size w V) :
    Calls Try.prog 11 #[.pointer (some ⟨t, 0, none⟩), .int .i64 x.1, .int .i64 x.2] V fun e w' => e = .returned (.tuple #[]) ∧ (∀ p : Addr, w.heap.size ≤ p.block → p.block < V.heap.size → w'.cell? p = V.cell? p) ∧ Hid (TR w0 w' t (setR R x) A n c L) := by
  obtain ⟨Φ, h1, h2, h3, h4⟩ := h
  have h5 : TR w0 V t R A n c L := TR.later ⟨Φ, h1, h2, h3, h4⟩ hV
  have h2' : TimerAt V t R (fun k => Φ k ∧ k < w.heap.size) := (h2.mono fun k hk hp => ⟨hp, hk⟩).below hV
  have h3' : IRd V (fun k => ¬ (Φ k ∧ k < w.heap.size)) A n c L := (h3.mono (Ψ' := fun k => ¬ (Φ k ∧ k < w.heap.size)) fun k _ hp hq => hp hq.1).below hV
  have h6 : TR w0 V t R A n c L := ⟨fun k => Φ k ∧ k < w.heap.size, fun k hk => h1 k hk.1, h2', h3', h4.trans (hV.mono h4.size)⟩
  refine (Set_any h2' hn x hx).mono ?_
  rintro e w' ⟨he, ho, hc⟩
  refine ⟨he, fun p hp1 hp2 => hc.cell hp2 fun hq => by omega, Lib.hid ⟨more (fun k => Φ k ∧ k < w.heap.size) V, fun k hk => ?_, ho, ?_, h6.tm.2.trans (hc.below h6.tm.2.size fun i hi => h1 i hi.1)⟩⟩
  · rcases hk with hk | hk
    · exact h1 k hk.1
    · have := h6.tm.2.size
      omega
  · have h7 : IRd V (fun k => ¬ (Φ k ∧ k < w.heap.size) ∧ k < V.heap.size) A n c L := h3'.mono fun k hk hp => ⟨hp, hk⟩
    exact (h7.keep hc fun k hk => hk.1).mono fun k _ hk hm => by
      rcases hm with hm | hm
      · exact hk.1 hm
      · omega

/-- A timer, a row of the document's, and another timer. -/
def TRC (w0 w : World) (t : Nat) (R : List It) (A : Option Addr) (n c : Nat) (L : List It) (cc : Nat) (S : List It) : Prop :=
  ∃ Φ Ψ : Nat → Prop, (∀ k, Φ k → w0.heap.size ≤ k) ∧ (∀ k, Ψ k → w0.heap.size ≤ k) ∧ (∀ k, Φ k → ¬ Ψ k) ∧ TimerAt w t R Φ ∧ TimerAt w cc S Ψ ∧ IRd w (fun k => ¬ Φ k ∧ ¬ Ψ k) A n c L ∧ Below w0.heap.size w0 w
theorem TRC.tr (h : TRC w0 w t R A n c L cc S) : TR w0 w t R A n c L := by
  obtain ⟨Φ, Ψ, h1, h2, h3, h4, h5, h6, h7⟩ := h
  exact ⟨Φ, h1, h4, h6.mono fun k _ hk => hk.1, h7⟩
theorem TRC.later (h : TRC w0 w t R A n c L cc S) (hb : Below w.heap.size w w') : TRC w0 w' t R A n c L cc S := by
  obtain ⟨Φ, Ψ, h1, h2, h3, h4, h5, h6, h7⟩ := h
  exact ⟨Φ, Ψ, h1, h2, h3, h4.below hb, h5.below hb, h6.below hb, h7.trans (hb.mono h7.size)⟩
theorem TRC.step (h : TRC w0 w t R A n c L cc S) : ∃ Ψ, TimerAt w cc S Ψ ∧ ∀ w' S', TOp cc S' Ψ w w' → TRC w0 w' t R A n c L cc S' := by
  obtain ⟨Φ, Ψ, h1, h2, h3, h4, h5, h6, h7⟩ := h
  refine ⟨Ψ, h5, fun w' S' ⟨ho, hc⟩ => ⟨fun k => Φ k ∧ k < w.heap.size, more Ψ w, fun k hk => h1 k hk.1, fun k hk => ?_, fun k hk hk2 => ?_, (h4.mono fun k hk hp => ⟨hp, hk⟩).keep hc fun k hk hp => h3 k hk.1 hp, ho, ?_, h7.trans (hc.below h7.size h2)⟩⟩
  · rcases hk with hk | hk
    · exact h2 k hk
    · have := h7.size
      omega
  · rcases hk2 with hk2 | hk2
    · exact h3 k hk.1 hk2
    · omega
  · have h8 : IRd w (fun k => (¬ Φ k ∧ ¬ Ψ k) ∧ k < w.heap.size) A n c L := h6.mono fun k hk hp => ⟨hp, hk⟩
    exact (h8.keep hc fun k hk => hk.1.2).mono fun k _ hk => ⟨fun hp => hk.1.1 hp.1, fun hm => by
      rcases hm with hm | hm
      · exact hk.1.2 hm
      · omega⟩
theorem TRC.set (h : TRC w0 w t R A n c L cc S) (hn : S.length < 900000) (x : It) (hx : wfk x.1) :
    Calls Try.prog 11 #[.pointer (some ⟨cc, 0, none⟩), .int .i64 x.1, .int .i64 x.2] w fun e w' => e = .returned (.tuple #[]) ∧ Hid (TRC w0 w' t R A n c L cc (setR S x)) := by
  obtain ⟨Ψ, h1, h2⟩ := h.step
  exact (Set_any h1 hn x hx).mono fun _ _ ⟨he, ho⟩ => ⟨he, Lib.hid (h2 _ _ ho)⟩
theorem TRC.due (h : TRC w0 w t R A n c L cc S) (hn : S.length < 900000) (now : Int) :
    Calls Try.prog 17 #[.pointer (some ⟨cc, 0, none⟩), .int .i64 now] w fun e w' => ∃ v, e = .returned v ∧ Hid (TRC w0 w' t R A n c L cc (S.drop (dueN S now))) := by
  obtain ⟨Ψ, h1, h2⟩ := h.step
  exact (Due_any h1 hn now).mono fun _ _ ⟨v, he, _, ht, hc⟩ => ⟨v, he, Lib.hid (h2 _ _ ⟨ht.mono fun _ _ hk => .inl hk, hc⟩)⟩
theorem TR.copy (h : TR w0 w t R A n c L) (hn : R.length < 900000) :
    Calls Try.prog 18 #[.pointer (some ⟨t, 0, none⟩)] w fun e w' => ∃ cc, e = .returned (.pointer (some ⟨cc, 0, none⟩)) ∧ Hid (TRC w0 w' t R A n c L cc R) := by
  obtain ⟨Φ, h1, h2, h3, h4⟩ := h
  refine (Copy_any h2 hn).mono ?_
  rintro e w' ⟨cc, he, _, ht, hb⟩
  refine ⟨cc, he, Lib.hid ⟨fun k => Φ k ∧ k < w.heap.size, fun k => w.heap.size ≤ k, fun k hk => h1 k hk.1, fun k hk => by have := h4.size; omega, fun k hk hk2 => by omega, (h2.mono fun k hk hp => ⟨hp, hk⟩).below hb, ht, ?_, h4.trans (hb.mono h4.size)⟩⟩
  have h5 : IRd w (fun k => ¬ Φ k ∧ k < w.heap.size) A n c L := h3.mono fun k hk hp => ⟨hp, hk⟩
  exact (h5.below hb).mono fun k _ hk => ⟨fun hp => hk.1 hp.1, by omega⟩
end

/-- A timer and a row beside another row, of the timer's own making, that is being written. -/
def TRB (w0 w : World) (t : Nat) (R : List It) (A : Option Addr) (n c : Nat) (L : List It) (base : Nat) (A5 : Option Addr) (n5 c5 : Nat) (M : List It) : Prop :=
  ∃ Φ : Nat → Prop, (∀ k, Φ k → w0.heap.size ≤ k ∧ k < base) ∧ TimerAt w t R Φ ∧ IRd w (fun k => ¬ Φ k ∧ k < base) A n c L ∧ Below w0.heap.size w0 w ∧ w0.heap.size ≤ base ∧ M.length = n5 ∧ w.ownsRow base 41 2 (.slice A5 n5 c5) n5 (flat M)
theorem TRB.store {w0 w : World} {t n c base n5 c5 gb k : Nat} {R L M : List It} {A : Option Addr} (h : TRB w0 w t R A n c L base (some ⟨gb, 0, none⟩) n5 c5 M) (hk : k < n5) (u : Int) :
    TRB w0 (w.setCell ⟨gb, k * 2 + 1, none⟩ (.int .i64 u)) t R A n c L base (some ⟨gb, 0, none⟩) n5 c5 (M.set k ((g M k).1, u)) := by
  obtain ⟨Φ, h1, h2, h3, h4, h5, h6, h7⟩ := h
  have hg := (h7.lt gb rfl).1
  have hc : Chg (fun i => i = gb) w (w.setCell ⟨gb, k * 2 + 1, none⟩ (.int .i64 u)) := Chg.set w gb _ _
  have hs := (h7.stored (k * 2 + 1) (.int .i64 u)).1
  refine ⟨Φ, h1, h2.keep hc fun i hi e => ?_, h3.keep hc fun i hi e => ?_, h4.trans (hc.below h4.size fun i e => by omega), h5, by rw [List.length_set]; exact h6, ?_⟩
  · have := (h1 i hi).2
    omega
  · have := hi.2
    omega
  · have e : flat (M.set k ((g M k).1, u)) = (flat M).set (k * 2 + 1) (.int .i64 u) := by
      rw [flat_set]
      congr 1
      have h8 := (flat_at (H := M) (j := k) (by omega)).1
      obtain ⟨h9, h10⟩ := List.getElem?_eq_some_iff.1 h8
      rw [← h10]
      exact List.set_getElem_self h9
    rw [e]
    exact hs
theorem TRB.tr {w0 w : World} {t n c base n5 c5 : Nat} {R L M : List It} {A A5 : Option Addr} (h : TRB w0 w t R A n c L base A5 n5 c5 M) : TR w0 w t R A n c L := by
  obtain ⟨Φ, h1, h2, h3, h4, h5, h6, h7⟩ := h
  exact ⟨Φ, fun k hk => (h1 k hk).1, h2, h3.mono fun k _ hk => hk.1, h4⟩
theorem TR.all {w0 w : World} {t n c : Nat} {R L : List It} {A : Option Addr} (h : TR w0 w t R A n c L) (hn : R.length < 900000) :
    Calls Try.prog 20 #[.pointer (some ⟨t, 0, none⟩)] w fun e w' => ∃ A5 c5, e = .returned (.slice A5 R.length c5) ∧ Hid (TRB w0 w' t R A n c L w.heap.size A5 R.length c5 R) := by
  obtain ⟨Φ, h1, h2, h3, h4⟩ := h
  refine (All_any h2 hn).mono ?_
  rintro e w' ⟨A5, c5, he, ho, hb⟩
  exact ⟨A5, c5, he, Lib.hid ⟨fun k => Φ k ∧ k < w.heap.size, fun k hk => ⟨h1 k hk.1, hk.2⟩, (h2.mono fun k hk hp => ⟨hp, hk⟩).below hb, (h3.mono (Ψ' := fun k => ¬ (Φ k ∧ k < w.heap.size) ∧ k < w.heap.size) fun k hk hp => ⟨fun hq => hp hq.1, hk⟩).below hb, h4.trans (hb.mono h4.size), h4.size, rfl, ho⟩⟩

set_option maxHeartbeats 3200000 in
set_option maxRecDepth 100000 in
theorem timerCopies_any {w : World} {A B : Option Addr} {n c m d : Nat} {l l' : List (List Int)} (hk : KRd w 2 A n c l) (hk' : KRd w 2 B m d l') (now : Int) :
    Calls Try.prog 8 #[.slice A n c, .slice B m d, .int .i64 now] w fun e w' => e = .returned (.bool true) ∧ Below w.heap.size w w' := by
  obtain ⟨hI, hwf⟩ := hk.items
  obtain ⟨hI', hwf'⟩ := hk'.items
  generalize items l = L at *
  generalize items l' = L' at *
  have HAW := Lib.hid fun W => awake_any W
  have hcm := hI.max
  have hcc := hI.cap
  have hdm := hI'.max
  have hdc := hI'.cap
  unfold maxLen at hcm hdm
  have HI := Lib.hid hI
  have HL := Lib.hid hI.len
  have HWF := Lib.hid hwf
  have HI' := Lib.hid hI'
  have HL' := Lib.hid hI'.len
  have HWF' := Lib.hid hwf'
  have HN := Lib.hid (New_any w)
  clear hk hI hwf hk' hI' hwf'
  have hbig : ∀ (h80 : 80 < n ∨ 80 < m), Calls Try.prog 8 #[.slice A n c, .slice B m d, .int .i64 now] w fun e w' => e = .returned (.bool true) ∧ Below w.heap.size w w' := by
    intro h80
    by_cases h1 : 80 < n
    · have h1' : (80 : Int) < n := by omega
      have hd : decide ((80 : Int) < (n : Int)) = true := decide_eq_true h1'
      go_enter Try.func8, Try.ntmps8
      go_wp2_with (go_at_call 9; refine (HAW.out _).mono ?_; rintro e w1 ⟨rfl, hb⟩; have HB := Lib.hid hb; clear hb)
      go_ret
      exact ⟨rfl, HB.out⟩
    · have h1' : ¬ (80 : Int) < n := by omega
      have hd : decide ((80 : Int) < (n : Int)) = false := decide_eq_false h1'
      have h2' : (80 : Int) < m := by omega
      have hd2 : decide ((80 : Int) < (m : Int)) = true := decide_eq_true h2'
      go_enter Try.func8, Try.ntmps8
      go_wp2_with (go_at_call 9; refine (HAW.out _).mono ?_; rintro e w1 ⟨rfl, hb⟩; have HB := Lib.hid hb; clear hb)
      go_ret
      exact ⟨rfl, HB.out⟩
  by_cases h80 : 80 < n ∨ 80 < m
  · exact hbig h80
  · have h1' : ¬ (80 : Int) < n := by omega
    have hd1 : decide ((80 : Int) < (n : Int)) = false := decide_eq_false h1'
    have h2' : ¬ (80 : Int) < m := by omega
    have hd2 : decide ((80 : Int) < (m : Int)) = false := decide_eq_false h2'
    have hn80 : n ≤ 80 ∧ m ≤ 80 := by omega
    clear hbig h80
    go_enter Try.func8, Try.ntmps8
    go_wp2_with (go_at_call 10; refine HN.out.mono ?_; rintro e w1 ⟨rfl, hb, _, ht⟩; have HT0 := Lib.hid (TR.of_tm (Tm.new (Below.refl _ _) hb ht)); clear hb ht)
    generalize w.heap.size + 1 = t at *
    clear HN
    go_loopw [8, 30] (fun v i wr => ∃ (k : Nat) (A' : Option Addr) (c' N : Nat), v = .slice A' N c' ∧ i = .int .i64 k ∧ k ≤ n ∧ Hid (N = (setAll (L.take k)).length) ∧ Hid (TR w wr t (setAll (L.take k)) A' N c' (setAll (L.take k)))) (fun _ i _ => n - (intOf i).toNat)
    case atStart => exact ⟨0, none, 0, 0, rfl, rfl, Nat.zero_le _, Lib.hid rfl, HT0⟩
    case round =>
      clear HT0
      obtain ⟨k, A', c', N, rfl, rfl, hkn, HNN, HT⟩ := hrel
      by_cases hlt : k < n
      · obtain ⟨b, o, hA, r0, r1⟩ := HI.out.there HT.out.tm.2 hlt
        subst hA
        have hlt' : (k : Int) < n := by omega
        have hkL : k < L.length := by rw [HL.out]; exact hlt
        have hlen : (setAll (L.take k)).length < 900000 := by
          have := setAll_len (L.take k)
          rw [List.length_take] at this
          omega
        have HC1 : Hid (Calls Try.prog 11 #[.pointer (some ⟨t, 0, none⟩), .int .i64 (g L k).1, .int .i64 (g L k).2] (wr.alloc (.cells #[.int .i64 (g L k).1, .int .i64 (g L k).2] 44)) fun e w' => e = .returned (.tuple #[]) ∧
            w'.cell? ⟨wr.heap.size, 0, none⟩ = some (.int .i64 (g L k).1) ∧ w'.cell? ⟨wr.heap.size, 1, none⟩ = some (.int .i64 (g L k).2) ∧
            Hid (Calls Try.prog 12 #[.slice A' N c', .int .i64 (g L k).1, .int .i64 (g L k).2] w' fun e w'' => ∃ A2 c2 N2, e = .returned (.slice A2 N2 c2) ∧ Hid (N2 = (setAll (L.take (k + 1))).length) ∧ Hid (TR w w'' t (setAll (L.take (k + 1))) A2 N2 c2 (setAll (L.take (k + 1)))))) := Lib.hid (by
          refine (HT.out.setBox hlen _ (HWF.out _ (g_mem hkL)).1 ((Below.refl _ _).alloc (Nat.le_refl _) _)).mono ?_
          rintro e w' ⟨he, hp, hT⟩
          refine ⟨he, (hp ⟨wr.heap.size, 0, none⟩ (Nat.le_refl _) (by simp)).trans (by simp), (hp ⟨wr.heap.size, 1, none⟩ (Nat.le_refl _) (by simp)).trans (by simp), Lib.hid ((hT.out.rset (by rw [HNN.out]; exact hlen) _).mono ?_)⟩
          rintro e w'' ⟨A2, c2, he2, hT2⟩
          rw [setAll_take hkL]
          exact ⟨A2, c2, _, he2, Lib.hid rfl, hT2⟩)
        clear hlen
        generalize g L k = x at *
        go_wp2_with (first
          | (go_at_call 11; refine HC1.out.mono ?_; rintro e w2 ⟨rfl, e0, e1, HC2⟩)
          | (go_at_call 12; refine HC2.out.mono ?_; rintro e w3 ⟨A2, c2, N2, rfl, HN2, HT2⟩))
        go_roundw
        case rel => exact ⟨k + 1, A2, c2, N2, rfl, by go_num, by omega, HN2, HT2⟩
        case measure => simp [intOf]; omega
      · obtain rfl : k = n := by omega
        obtain ⟨R, hR⟩ : ∃ R, R = setAll L := ⟨_, rfl⟩
        have HNR : Hid (N = R.length) := Lib.hid (by
          have := HNN.out
          rwa [List.take_of_length_le (by rw [HL.out]; exact Nat.le_refl _), ← hR] at this)
        have HTR : Hid (TR w wr t R A' N c' R) := Lib.hid (by
          have := HT.out
          rwa [List.take_of_length_le (by rw [HL.out]; exact Nat.le_refl _), ← hR] at this)
        have hRl : R.length ≤ 80 := by
          have := setAll_len L
          rw [hR]
          have := HL.out
          omega
        have HCP := Lib.hid (HTR.out.copy (by omega))
        clear HT hR HNN HTR
        go_upto_region 16 with (go_at_call 18; refine HCP.out.mono ?_; rintro e w1 ⟨cc, rfl, HTC⟩)
        clear HCP
        go_wp2_with fail
        go_loopw [53] (fun i wq => ∃ (j : Nat) (S : List It), i = .int .i64 j ∧ j ≤ m ∧ S.length ≤ 80 + j ∧ Hid (TRC w wq t R A' N c' R cc S)) (fun i _ => m - (intOf i).toNat)
        case atStart => exact ⟨0, R, rfl, Nat.zero_le _, by omega, HTC⟩
        case round =>
          clear HTC
          obtain ⟨j, S, rfl, hjm, hSl, HTC⟩ := hrel
          by_cases hjlt : j < m
          · obtain ⟨b, o, hB, r0, r1⟩ := HI'.out.there HTC.out.tr.tm.2 hjlt
            subst hB
            have hlt' : (j : Int) < m := by omega
            have hkL : j < L'.length := by rw [HL'.out]; exact hjlt
            have HS : Hid (∀ V, Below wr.heap.size wr V → Calls Try.prog 11 #[.pointer (some ⟨cc, 0, none⟩), .int .i64 (g L' j).1, .int .i64 (g L' j).2] V fun e w' => e = .returned (.tuple #[]) ∧ Hid (TRC w w' t R A' N c' R cc (setR S (g L' j)))) := Lib.hid fun V hV =>
              (HTC.out.later hV).set (by omega) _ (HWF'.out _ (g_mem hkL)).1
            have hS2 := length_setR S (g L' j)
            generalize g L' j = x at *
            go_wp2_with (go_at_call 11; refine (HS.out _ (by first | exact (Below.refl _ _).alloc (Nat.le_refl _) _ | exact (((Below.refl _ _).alloc (Nat.le_refl _) _).setCell (Nat.le_refl _) _).setCell (Nat.le_refl _) _)).mono ?_; rintro e w2 ⟨rfl, HT2⟩)
            go_roundw
            case rel => exact ⟨j + 1, _, by go_num, by omega, by omega, HT2⟩
            case measure => simp [intOf]; omega
          · obtain rfl : j = m := by omega
            have HDU := Lib.hid (HTC.out.due (by omega) now)
            clear HTC
            go_upto_region 22 with (go_at_call 17; refine HDU.out.mono ?_; rintro e w2 ⟨v5, rfl, HTC2⟩)
            have HAL := Lib.hid (HTC2.out.tr.all (by omega))
            clear HDU
            go_upto_region 23 with (go_at_call 20; refine HAL.out.mono ?_; rintro e w3 ⟨A5, c5, rfl, HTB⟩)
            generalize w2.heap.size = base at *
            clear HAL HTC2
            go_wp2_with fail
            go_loopw [71] (fun i wz => ∃ (i5 : Nat) (M : List It), i = .int .i64 i5 ∧ i5 ≤ R.length ∧ Hid (TRB w wz t R A' N c' R base A5 R.length c5 M)) (fun i _ => R.length - (intOf i).toNat)
            case atStart => exact ⟨0, R, rfl, Nat.zero_le _, HTB⟩
            case round =>
              clear HTB
              obtain ⟨i5, M, rfl, hi5, HTB⟩ := hrel
              by_cases hilt : i5 < R.length
              · have hilt' : (i5 : Int) < R.length := by omega
                have HOW : Hid (wr.ownsRow base 41 2 (.slice A5 R.length c5) R.length (flat M) ∧ M.length = R.length) := Lib.hid (by
                  obtain ⟨Φ, h1, h2, h3, h4, h5, h6, h7⟩ := HTB.out
                  exact ⟨h7, h6⟩)
                obtain ⟨gb, cap, hv, _, _⟩ := HOW.out.1.form (by omega)
                obtain ⟨rfl, _, _⟩ := Value.slice.inj hv
                obtain ⟨h8, h9⟩ := flat_at (H := M) (j := i5) (by have := HOW.out.2; omega)
                have r1 := (HOW.out.1.cellAt (i5 * 2 + 1) (by omega)).trans h9
                have f1 := HOW.out.1.frozenAt (i5 * 2 + 1)
                have HST := Lib.hid fun u => HTB.out.store hilt u
                obtain ⟨_, _, hx, hcm5, hcn5, _⟩ := own_isSlice HOW.out.1
                obtain ⟨rfl, _, rfl⟩ := Value.slice.inj hx
                unfold maxLen at hcm5
                clear hv h8 h9 hx
                generalize g M i5 = y at *
                go_wp2_with fail
                go_roundw
                case rel => exact ⟨i5 + 1, _, by go_num, by omega, Lib.hid (HST.out _)⟩
                case measure => simp [intOf]; omega
              · obtain rfl : i5 = R.length := by omega
                have HAL2 := Lib.hid (HTB.out.tr.all (by omega))
                have HND : Hid (∀ q V, Below V.heap.size V (V.drewN q)) := Lib.hid fun q V => ⟨rfl, rfl, rfl, Nat.le_refl _, fun _ _ => rfl⟩
                obtain rfl := HNR.out
                clear HTB
                go_wp2_with (first
                  | (go_at_call 20; refine HAL2.out.mono ?_; rintro e w4 ⟨A6, c6, rfl, HTB2⟩; have HT6 := Lib.hid HTB2.out.tr; have HSM := Lib.hid (same_any (w := w4) (Ψ := fun _ => True) (A := A6) (n := R.length) (c := c6) (L := R) (by obtain ⟨Φ, h1, h2, h3, h4, h5, h6, h7⟩ := HTB2.out; exact IRd.of_slice h7 fun _ _ => trivial) HT6.out.rd (by omega)))
                  | (go_at_call 16; refine HSM.out.mono ?_; rintro e w5 ⟨rfl, q, rfl⟩; have HT7 := Lib.hid (HT6.out.later (HND.out q _)); have HLN := Lib.hid HT7.out.tm.len)
                  | (go_at_call 19; refine HLN.out.mono ?_; rintro e w6 ⟨rfl, rfl⟩)
                  | (go_at_call 9; refine (HAW.out _).mono ?_; rintro e w7 ⟨rfl, hb⟩; have HB := Lib.hid hb; clear hb))
                go_ret
                exact ⟨rfl, HT7.out.tm.2.trans (HB.out.mono HT7.out.tm.2.size)⟩
end Go.Proofs.Ytednibjemboclaa
