/- What is proved here: that the next one is the first of all, and that each has the time that it was set to last (TimerNext). -/
import Derived.Test.YtednibjemboclaaCopies
import Derived.Test.YtednibjemboclaaLate
namespace Go.Proofs.Ytednibjemboclaa
open Go Go.RowKit Go.Maps

section
variable {w0 w w' V : World} {t n c : Nat} {R L : List It} {A : Option Addr}
/-- A call on a timer, where what is new since w stays. -/
theorem TR.boxStep (h : TR w0 w t R A n c L) (hV : Below w.heap.size w V) : ∃ Φ, TimerAt V t R Φ ∧ ∀ w' R', TOp t R' Φ V w' → (∀ p : Addr, w.heap.size ≤ p.block → p.block < V.heap.size → w'.cell? p = V.cell? p) ∧ TR w0 w' t R' A n c L := by
  obtain ⟨Φ, h1, h2, h3, h4⟩ := h
  have h2' : TimerAt V t R (fun k => Φ k ∧ k < w.heap.size) := (h2.mono fun k hk hp => ⟨hp, hk⟩).below hV
  have h3' : IRd V (fun k => ¬ (Φ k ∧ k < w.heap.size)) A n c L := (h3.mono (Ψ' := fun k => ¬ (Φ k ∧ k < w.heap.size)) fun k _ hp hq => hp hq.1).below hV
  have h4' : Below w0.heap.size w0 V := h4.trans (hV.mono h4.size)
  refine ⟨_, h2', fun w' R' ⟨ho, hc⟩ => ⟨fun p hp1 hp2 => hc.cell hp2 fun hq => by omega, more (fun k => Φ k ∧ k < w.heap.size) V, fun k hk => ?_, ho, ?_, h4'.trans (hc.below h4'.size fun i hi => h1 i hi.1)⟩⟩
  · rcases hk with hk | hk
    · exact h1 k hk.1
    · have := h4'.size
      omega
  · have h7 : IRd V (fun k => ¬ (Φ k ∧ k < w.heap.size) ∧ k < V.heap.size) A n c L := h3'.mono fun k hk hp => ⟨hp, hk⟩
    exact (h7.keep hc fun k hk => hk.1).mono fun k _ hk hm => by
      rcases hm with hm | hm
      · exact hk.1 hm
      · omega
theorem TR.next (h : TR w0 w t R A n c L) : Calls Try.prog 21 #[.pointer (some ⟨t, 0, none⟩)] w fun e w' => e = nextE R ∧ Below w.heap.size w w' := by
  obtain ⟨Φ, h1, h2, h3, h4⟩ := h
  exact Next_any h2
theorem TR.ord (h : TR w0 w t R A n c L) : Ord R := by
  obtain ⟨Φ, h1, h2, h3, h4⟩ := h
  exact h2.1
theorem TR.at (h : TR w0 w t R A n c L) (id : Int) (hid : wfk id) : Calls Try.prog 22 #[.pointer (some ⟨t, 0, none⟩), .int .i64 id] w fun e w' => atE R id e ∧ w = w' := by
  obtain ⟨Φ, h1, h2, h3, h4⟩ := h
  exact At_any h2 id hid
end

/-- A call that came in, in a later world. -/
theorem KRd.op {w w' : World} {A : Option Addr} {n c : Nat} {l : List (List Int)} (h : KRd w 3 A n c l) (hb : Below w.heap.size w w') {j : Nat} (hj : j < n) :
    ∃ kd id tm : Int, wfk id ∧ ∃ b o, A = some ⟨b, o, none⟩ ∧ w'.cell? ⟨b, o + j * 3, none⟩ = some (.int .i64 kd) ∧ w'.cell? ⟨b, o + j * 3 + 1, none⟩ = some (.int .i64 id) ∧ w'.cell? ⟨b, o + j * 3 + 2, none⟩ = some (.int .i64 tm) := by
  have hjl : j < l.length := by rw [h.len]; exact hj
  obtain ⟨hr, hw, b, o, hA, hbl, hc⟩ := h.place j _ (List.getElem?_eq_getElem hjl)
  obtain ⟨kd, id, tm, e⟩ := list_three hr
  rw [e] at hc hw
  refine ⟨kd, id, tm, hw id (by simp), b, o, hA, ?_, ?_, ?_⟩
  · exact (hb.cell (p := ⟨b, o + j * 3, none⟩) hbl).trans (hc 0 kd rfl)
  · rw [Nat.add_assoc]
    exact (hb.cell (p := ⟨b, o + (j * 3 + 1), none⟩) hbl).trans (hc 1 id rfl)
  · rw [Nat.add_assoc]
    exact (hb.cell (p := ⟨b, o + (j * 3 + 2), none⟩) hbl).trans (hc 2 tm rfl)

/-- What the last loop knows of the first ones. -/
def Wants (T : List It) (id wt : Int) (hs : Bool) : Prop := (hs = false ∧ wt = 0 ∧ ∀ y ∈ T, y.1 ≠ id) ∨ (hs = true ∧ ∃ y ∈ T, y.1 = id ∧ wt = y.2)
theorem Wants.skip {T : List It} {id wt : Int} {hs : Bool} {y : It} (h : Wants T id wt hs) (hy : y.1 ≠ id) : Wants (T ++ [y]) id wt hs := by
  rcases h with ⟨h1, h2, h3⟩ | ⟨h1, x, hx, h2, h3⟩
  · refine .inl ⟨h1, h2, fun z hz => ?_⟩
    rcases List.mem_append.1 hz with hz | hz
    · exact h3 z hz
    · simp at hz
      rw [hz]
      exact hy
  · exact .inr ⟨h1, x, List.mem_append_left _ hx, h2, h3⟩
theorem Wants.hit {T : List It} {id : Int} {y : It} (hy : y.1 = id) : Wants (T ++ [y]) id y.2 true := .inr ⟨rfl, y, by simp, hy, rfl⟩

set_option maxHeartbeats 3200000 in
set_option maxRecDepth 100000 in
theorem timerNext_any {w : World} {A : Option Addr} {n c : Nat} {l : List (List Int)} (hk : KRd w 3 A n c l) (id : Int) (hid : wfk id) :
    Calls Try.prog 4 #[.slice A n c, .int .i64 id] w fun e w' => e = .returned (.bool true) ∧ Below w.heap.size w w' := by
  have HAW := Lib.hid fun W => awake_any W
  have hcm := hk.max
  have hcc := hk.cap
  unfold maxLen at hcm
  have HK := Lib.hid hk
  have HN := Lib.hid (New_any w)
  have HID := Lib.hid hid
  clear hk hid
  by_cases h80 : 80 < n
  · have h80' : (80 : Int) < n := by omega
    have hd : decide ((80 : Int) < (n : Int)) = true := decide_eq_true h80'
    go_enter Try.func4, Try.ntmps4
    go_wp2_with (go_at_call 9; refine (HAW.out _).mono ?_; rintro e w1 ⟨rfl, hb⟩; have HB := Lib.hid hb; clear hb)
    go_ret
    exact ⟨rfl, HB.out⟩
  · have h80' : ¬ (80 : Int) < n := by omega
    have hd : decide ((80 : Int) < (n : Int)) = false := decide_eq_false h80'
    have hn80 : n ≤ 80 := by omega
    go_enter Try.func4, Try.ntmps4
    go_wp2_with (go_at_call 10; refine HN.out.mono ?_; rintro e w1 ⟨rfl, hb, _, ht⟩; have HT0 := Lib.hid (TR.of_tm (Tm.new (Below.refl _ _) hb ht)); clear hb ht)
    generalize w.heap.size + 1 = t at *
    clear HN h80
    go_loopw [6, 28] (fun v i wr => ∃ (k : Nat) (A' : Option Addr) (c' N : Nat) (R : List It), v = .slice A' N c' ∧ i = .int .i64 k ∧ k ≤ n ∧ R.length ≤ k ∧ Hid (N = R.length) ∧ Hid (TR w wr t R A' N c' R)) (fun _ i _ => n - (intOf i).toNat)
    case atStart => exact ⟨0, none, 0, 0, [], rfl, rfl, Nat.zero_le _, Nat.le_refl _, Lib.hid rfl, HT0⟩
    case round =>
      clear HT0
      obtain ⟨k, A', c', N, R, rfl, rfl, hkn, hRk, HNN, HT⟩ := hrel
      by_cases hlt : k < n
      · obtain ⟨kd, oi, tm, hoi, b, o, hA, r0, r1, r2⟩ := HK.out.op HT.out.tm.2 hlt
        subst hA
        have HOI := Lib.hid hoi
        have hlt' : (k : Int) < n := by omega
        have hVb : Below wr.heap.size wr (wr.alloc (.cells #[.int .i64 kd, .int .i64 oi, .int .i64 tm] 28)) := (Below.refl _ _).alloc (Nat.le_refl _) _
        clear hoi
        by_cases hk1 : kd = 1
        · subst hk1
          have HC1 : Hid (Calls Try.prog 14 #[.pointer (some ⟨t, 0, none⟩), .int .i64 oi] (wr.alloc (.cells #[.int .i64 1, .int .i64 oi, .int .i64 tm] 28)) fun e w' => ∃ bb, e = .returned (.bool bb) ∧ w'.cell? ⟨wr.heap.size, 1, none⟩ = some (.int .i64 oi) ∧
              Hid (Calls Try.prog 13 #[.slice A' N c', .int .i64 oi] w' fun e w'' => ∃ A2 c2 N2, e = .returned (.slice A2 N2 c2) ∧ Hid (N2 = (dropR R oi).length) ∧ Hid (TR w w'' t (dropR R oi) A2 N2 c2 (dropR R oi)))) := Lib.hid (by
            obtain ⟨Φ, p1, p2⟩ := HT.out.boxStep hVb
            refine (Drop_any p1 (by omega) oi HOI.out).mono ?_
            rintro e w' ⟨he, ho⟩
            obtain ⟨q1, q2⟩ := p2 _ _ ho
            refine ⟨_, he, (q1 ⟨wr.heap.size, 1, none⟩ (Nat.le_refl _) (by simp)).trans (by simp), Lib.hid ((q2.rdrop (by rw [HNN.out]; omega) oi).mono ?_)⟩
            rintro e w'' ⟨A2, c2, he2, hT2⟩
            exact ⟨A2, c2, _, he2, Lib.hid rfl, hT2⟩)
          have hdl : (dropR R oi).length ≤ R.length := List.length_filter_le _ _
          clear hVb
          go_wp2_with (first
            | (go_at_call 14; refine HC1.out.mono ?_; rintro e w2 ⟨bb, rfl, e1, HC2⟩)
            | (go_at_call 13; refine HC2.out.mono ?_; rintro e w3 ⟨A2, c2, N2, rfl, HN2, HT2⟩))
          go_roundw
          case rel => exact ⟨k + 1, A2, c2, N2, _, rfl, by go_num, by omega, by omega, HN2, HT2⟩
          case measure => simp [intOf]; omega
        · have hkb : (kd == 1) = false := beq_eq_false_iff_ne.2 hk1
          obtain ⟨R', hR'⟩ : ∃ R', R' = setR R (oi, tm) := ⟨_, rfl⟩
          have hR'l : R'.length ≤ k + 1 := by rw [hR']; have := length_setR R (oi, tm); omega
          obtain ⟨y, rest, hyr⟩ : ∃ y rest, R' = y :: rest := by
            cases e : R' with
            | nil =>
              have : (oi, tm) ∈ R' := by rw [hR']; exact mem_setR.2 (.inl rfl)
              rw [e] at this
              cases this
            | cons y rest => exact ⟨y, rest, rfl⟩
          have HYR := Lib.hid hyr
          have HC1 : Hid (Calls Try.prog 11 #[.pointer (some ⟨t, 0, none⟩), .int .i64 oi, .int .i64 tm] (wr.alloc (.cells #[.int .i64 kd, .int .i64 oi, .int .i64 tm] 28)) fun e w' => e = .returned (.tuple #[]) ∧ w'.cell? ⟨wr.heap.size, 1, none⟩ = some (.int .i64 oi) ∧ w'.cell? ⟨wr.heap.size, 2, none⟩ = some (.int .i64 tm) ∧
              Hid (Calls Try.prog 12 #[.slice A' N c', .int .i64 oi, .int .i64 tm] w' fun e w'' => ∃ A2 c2 N2, e = .returned (.slice A2 N2 c2) ∧ Hid (N2 = R'.length ∧ TR w w'' t R' A2 N2 c2 R'))) := Lib.hid (by
            obtain ⟨Φ, p1, p2⟩ := HT.out.boxStep hVb
            refine (Set_any p1 (by omega) (oi, tm) HOI.out).mono ?_
            rintro e w' ⟨he, ho⟩
            obtain ⟨q1, q2⟩ := p2 _ _ ho
            refine ⟨he, (q1 ⟨wr.heap.size, 1, none⟩ (Nat.le_refl _) (by simp)).trans (by simp), (q1 ⟨wr.heap.size, 2, none⟩ (Nat.le_refl _) (by simp)).trans (by simp), Lib.hid ((q2.rset (by rw [HNN.out]; omega) (oi, tm)).mono ?_)⟩
            rintro e w'' ⟨A2, c2, he2, hT2⟩
            rw [← hR'] at he2 hT2
            exact ⟨A2, c2, _, he2, Lib.hid ⟨rfl, hT2.out⟩⟩)
          have HNX : Hid (∀ w'' A2 c2 N2, N2 = R'.length ∧ TR w w'' t R' A2 N2 c2 R' → (∃ b2 o2, A2 = some ⟨b2, o2, none⟩ ∧ 0 < N2 ∧ N2 ≤ c2 ∧ c2 ≤ 9223372036854775807 ∧ Calls Try.prog 21 #[.pointer (some ⟨t, 0, none⟩)] w'' fun e w4 => e = .returned (.tuple #[.agg #[.int .i64 y.1, .int .i64 y.2], .bool true]) ∧ w4.cell? ⟨b2, o2, none⟩ = some (.int .i64 y.1) ∧ w4.cell? ⟨b2, o2 + 1, none⟩ = some (.int .i64 y.2) ∧ b2 < w4.heap.size ∧ Hid (TR w w4 t R' A2 N2 c2 R'))) := Lib.hid fun w'' A2 c2 N2 ⟨hN2, hT2⟩ => by
            have hpos : 0 < N2 := by rw [hN2, HYR.out]; simp
            have hrd := hT2.rd
            obtain ⟨b2, o2, hA2, hbl, _, s0, s1⟩ := hrd.place 0 hpos
            have hg0 : g R' 0 = y := by rw [HYR.out]; rfl
            rw [hg0] at s0 s1
            have hm := hrd.max
            unfold maxLen at hm
            refine ⟨b2, o2, hA2, hpos, hrd.cap, by omega, hT2.next.mono ?_⟩
            rintro e w4 ⟨he, hb4⟩
            refine ⟨by rw [he, HYR.out]; rfl, ?_, ?_, Nat.lt_of_lt_of_le hbl hb4.size, Lib.hid (hT2.later hb4)⟩
            · have := (hb4.cell (p := ⟨b2, o2 + 0 * 2, none⟩) hbl).trans s0
              exact this
            · have := (hb4.cell (p := ⟨b2, o2 + 0 * 2 + 1, none⟩) hbl).trans s1
              rw [Nat.zero_mul, Nat.add_zero] at this
              exact this
          have HVB : Hid (∀ w4 : World, ∀ A2 c2 N2, TR w w4 t R' A2 N2 c2 R' → TR w (w4.alloc (.cells #[.int .i64 y.1, .int .i64 y.2] 41)) t R' A2 N2 c2 R') := Lib.hid fun w4 A2 c2 N2 hT => hT.later ((Below.refl _ _).alloc (Nat.le_refl _) _)
          clear hVb hR' hyr
          go_upto_region 15 with (first
            | (go_at_call 11; refine HC1.out.mono ?_; rintro e w2 ⟨rfl, e1, e2, HC2⟩)
            | (go_at_call 12; refine HC2.out.mono ?_; rintro e w3 ⟨A2, c2, N2, rfl, HT2⟩))
          obtain ⟨b2, o2, rfl, hp2, hm2, hm3, hnx⟩ := HNX.out _ _ _ _ HT2.out
          have HNC := Lib.hid hnx
          have HN2 : Hid (N2 = R'.length) := Lib.hid HT2.out.1
          have hp2' : (0 : Int) < N2 := by omega
          clear hnx HNX HT2 HC1 HC2
          go_upto_region 16 with (go_at_call 21; refine HNC.out.mono ?_; rintro e w4 ⟨rfl, f0, f1, hb2, HT4⟩)
          have d1 : (y.1 != y.1) = false := by simp
          have d2 : (y.2 != y.2) = false := by simp
          have HT5 := Lib.hid (HVB.out _ _ _ _ HT4.out)
          go_quiet (fail)
          have HT6 := Lib.hid (HT5.out.later (w' := (w4.alloc (.cells #[.int .i64 y.1, .int .i64 y.2] 41)).drewN nq) ⟨rfl, rfl, rfl, Nat.le_refl _, fun _ _ => rfl⟩)
          go_wp2
          go_roundw
          case rel => exact ⟨k + 1, _, c2, N2, R', rfl, by go_num, by omega, hR'l, HN2, HT6⟩
          case measure => simp [intOf]; omega
      · obtain rfl : k = n := by omega
        obtain rfl := HNN.out
        have HO : Hid (Ord R) := Lib.hid HT.out.ord
        have HAT := Lib.hid (HT.out.at id HID.out)
        -- what is there of that number
        obtain ⟨av, ab, hav⟩ : ∃ (av : Int) (ab : Bool), (ab = false ∧ av = 0 ∧ ∀ y ∈ R, y.1 ≠ id) ∨ (ab = true ∧ ∃ y ∈ R, y.1 = id ∧ av = y.2) := by
          by_cases hin : ∃ y ∈ R, y.1 = id
          · obtain ⟨y, hy, e⟩ := hin
            exact ⟨y.2, true, .inr ⟨rfl, y, hy, e, rfl⟩⟩
          · exact ⟨0, false, .inl ⟨rfl, rfl, fun y hy e => hin ⟨y, hy, e⟩⟩⟩
        have HAV : Hid (Wants R id av ab) := Lib.hid hav
        have HAT2 : Hid (Calls Try.prog 22 #[.pointer (some ⟨t, 0, none⟩), .int .i64 id] wr fun e w' => e = .returned (.tuple #[.int .i64 av, .bool ab]) ∧ wr = w') := Lib.hid (HAT.out.mono (by
          rintro e w' ⟨h1, h3⟩
          refine ⟨?_, h3⟩
          rcases hav with ⟨rfl, rfl, hno⟩ | ⟨rfl, y, hy, hyi, rfl⟩
          · rcases h1 with ⟨h1, _⟩ | ⟨x, hx, hxi, _⟩
            · exact h1
            · exact absurd hxi (hno x hx)
          · rcases h1 with ⟨_, h1⟩ | ⟨x, hx, hxi, h1⟩
            · exact absurd hyi (h1 y hy)
            · rw [h1, HO.out.same hx hy (hxi.trans hyi.symm)]))
        clear hav HAT HNN
        go_upto_region 22 with (go_at_call 22; refine HAT2.out.mono ?_; rintro e w5 ⟨rfl, rfl⟩)
        clear HAT2
        go_wp2_with fail
        go_loopw [13, 14, 89] (fun wt hs i wq => ∃ (j : Nat) (wv : Int) (hb : Bool), i = .int .i64 j ∧ wt = .int .i64 wv ∧ hs = .bool hb ∧ j ≤ R.length ∧ Hid (Wants (R.take j) id wv hb) ∧ Hid (TR w wq t R A' R.length c' R)) (fun _ _ i _ => R.length - (intOf i).toNat)
        case atStart => exact ⟨0, 0, false, rfl, rfl, rfl, Nat.zero_le _, Lib.hid (.inl ⟨rfl, rfl, fun y hy => by simp at hy⟩), HT⟩
        case round =>
          clear HT
          obtain ⟨j, wv, hb, rfl, rfl, rfl, hj, HWT, HT⟩ := hrel
          have m1 := HT.out.rd.max
          have m2 := HT.out.rd.cap
          unfold maxLen at m1
          by_cases hjd : j < R.length
          · obtain ⟨b, o, hA, hbl, _, r0, r1⟩ := HT.out.rd.place j hjd
            subst hA
            have hjd' : (j : Int) < R.length := by omega
            have htk := take_g (L := R) (k := j) hjd
            have HLT : Hid (∀ V, Below wr.heap.size wr V → TR w V t R _ R.length c' R) := Lib.hid fun V hV => HT.out.later hV
            by_cases hie : (g R j).1 = id
            · have he : ((g R j).1 == id) = true := beq_iff_eq.2 hie
              have HW2 : Hid (Wants (R.take (j + 1)) id (g R j).2 true) := Lib.hid (by rw [htk]; exact Wants.hit hie)
              clear htk hie
              generalize g R j = y at *
              go_wp2_with fail
              go_roundw
              case rel => exact ⟨j + 1, y.2, true, by go_num, rfl, rfl, by omega, HW2, Lib.hid (HLT.out _ (by first | exact (Below.refl _ _).alloc (Nat.le_refl _) _ | exact (((Below.refl _ _).alloc (Nat.le_refl _) _).setCell (Nat.le_refl _) _).setCell (Nat.le_refl _) _))⟩
              case measure => simp [intOf]; omega
            · have he : ((g R j).1 == id) = false := beq_eq_false_iff_ne.2 hie
              have HW2 : Hid (Wants (R.take (j + 1)) id wv hb) := Lib.hid (by rw [htk]; exact HWT.out.skip hie)
              clear htk hie
              generalize g R j = y at *
              go_wp2_with fail
              go_roundw
              case rel => exact ⟨j + 1, wv, hb, by go_num, rfl, rfl, by omega, HW2, Lib.hid (HLT.out _ (by first | exact (Below.refl _ _).alloc (Nat.le_refl _) _ | exact (((Below.refl _ _).alloc (Nat.le_refl _) _).setCell (Nat.le_refl _) _).setCell (Nat.le_refl _) _))⟩
              case measure => simp [intOf]; omega
          · have hjR : j = R.length := by omega
            have hsame : wv = av ∧ hb = ab := by
              have h1 := HWT.out
              rw [List.take_of_length_le (by omega)] at h1
              rcases h1 with ⟨rfl, rfl, h1⟩ | ⟨rfl, y, hy, hyi, rfl⟩ <;> rcases HAV.out with ⟨rfl, rfl, h2⟩ | ⟨rfl, x, hx, hxi, rfl⟩
              · exact ⟨rfl, rfl⟩
              · exact absurd hxi (h1 x hx)
              · exact absurd hyi (h2 y hy)
              · exact ⟨by rw [HO.out.same hx hy (hxi.trans hyi.symm)], rfl⟩
            obtain ⟨rfl, rfl⟩ := hsame
            have HNX := Lib.hid HT.out.next
            have HLT : Hid (∀ V, Below wr.heap.size wr V → Below w.heap.size w V) := Lib.hid fun V hV => (HT.out.later hV).tm.2
            have d1 : (wv == wv) = true := beq_self_eq_true _
            have d2 : (hb == hb) = true := beq_self_eq_true _
            clear HT HWT HAV
            by_cases hRe : R = []
            · have hR := hRe
              rw [hR] at HNX
              have HNX2 : Hid (Calls Try.prog 21 #[.pointer (some ⟨t, 0, none⟩)] wr fun e w' => e = .returned (.tuple #[.agg #[.int .i64 0, .int .i64 0], .bool false]) ∧ Below wr.heap.size wr w') := HNX
              have hj0 : j = 0 := by rw [hjR, hR]; rfl
              subst hR
              have e0 : (List.length ([] : List It)) = 0 := rfl
              clear HNX hjR hj hjd hRk hRe
              rw [e0] at m2 ⊢
              subst hj0
              clear e0
              go_wp2_with (first
                | (go_at_call 21; refine HNX2.out.mono ?_; rintro e w6 ⟨rfl, hb6⟩; have HB6 := Lib.hid hb6; clear hb6)
                | (go_at_call 9; refine (HAW.out _).mono ?_; rintro e w8 ⟨rfl, hb8⟩; have HB := Lib.hid hb8; clear hb8))
              go_ret
              refine ⟨rfl, ?_⟩
              have h6 : Below wr.heap.size wr (w6.alloc (.cells #[.int .i64 0, .int .i64 0] 41)) := HB6.out.alloc HB6.out.size _
              exact (HLT.out _ h6).trans (HB.out.mono (HLT.out _ h6).size)
            · obtain ⟨y, rest, hR⟩ : ∃ y rest, R = y :: rest := by
                cases hR : R with
                | nil => exact absurd hR hRe
                | cons y rest => exact ⟨y, rest, rfl⟩
              rw [hR] at HNX
              have HNX2 : Hid (Calls Try.prog 21 #[.pointer (some ⟨t, 0, none⟩)] wr fun e w' => e = .returned (.tuple #[.agg #[.int .i64 y.1, .int .i64 y.2], .bool true]) ∧ Below wr.heap.size wr w') := HNX
              have hpos : 0 < R.length := by rw [hR]; simp
              have hpos' : (0 : Int) < R.length := by omega
              have d3 : decide ((0 : Int) < (R.length : Int)) = true := decide_eq_true hpos'
              have d4 : decide (0 < R.length) = true := decide_eq_true hpos
              subst hjR
              clear hR HNX hj hjd hRe
              go_wp2_with (first
                | (go_at_call 21; refine HNX2.out.mono ?_; rintro e w6 ⟨rfl, hb6⟩; have HB6 := Lib.hid hb6; clear hb6)
                | (go_at_call 9; refine (HAW.out _).mono ?_; rintro e w8 ⟨rfl, hb8⟩; have HB := Lib.hid hb8; clear hb8))
              go_ret
              refine ⟨rfl, ?_⟩
              have h6 : Below wr.heap.size wr (w6.alloc (.cells #[.int .i64 y.1, .int .i64 y.2] 41)) := HB6.out.alloc HB6.out.size _
              exact (HLT.out _ h6).trans (HB.out.mono (HLT.out _ h6).size)
end Go.Proofs.Ytednibjemboclaa
