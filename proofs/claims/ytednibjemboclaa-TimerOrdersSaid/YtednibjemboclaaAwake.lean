/- What is proved here: that the law's 'awake' says yes; a timer beside a row of the document's, and what each call makes of the two. -/
import Derived.Test.YtednibjemboclaaRowSet
namespace Go.Proofs.Ytednibjemboclaa
open Go Go.RowKit Go.Maps

/-- A timer in memory that is new since w0. -/
def Tm (w0 w : World) (t : Nat) (R : List It) : Prop := TimerAt w t R (fun k => w0.heap.size ≤ k) ∧ Below w0.heap.size w0 w
theorem Tm.op {w0 w w' : World} {t : Nat} {R R' : List It} (h : Tm w0 w t R) (ho : TOp t R' (fun k => w0.heap.size ≤ k) w w') : Tm w0 w' t R' := by
  have hs := h.2.size
  exact ⟨ho.1.mono fun k _ hk => by
    rcases hk with hk | hk
    · exact hk
    · omega, h.2.trans (ho.2.below hs fun i hi => hi)⟩
theorem Tm.later {w0 w w' : World} {t : Nat} {R : List It} (h : Tm w0 w t R) (hb : Below w.heap.size w w') : Tm w0 w' t R := ⟨h.1.below hb, h.2.trans (hb.mono h.2.size)⟩
theorem Tm.new {w0 w w' : World} {t : Nat} (hb : Below w0.heap.size w0 w) (h : Below w.heap.size w w') (ht : TimerAt w' t [] (fun k => w.heap.size ≤ k)) : Tm w0 w' t [] :=
  ⟨ht.mono fun k _ hk => by have := hb.size; omega, hb.trans (h.mono hb.size)⟩
theorem Tm.set {w0 w : World} {t : Nat} {R : List It} (h : Tm w0 w t R) (hn : R.length < 900000) (x : It) (hx : wfk x.1) :
    Calls Try.prog 11 #[.pointer (some ⟨t, 0, none⟩), .int .i64 x.1, .int .i64 x.2] w fun e w' => e = .returned (.tuple #[]) ∧ Hid (Tm w0 w' t (setR R x)) :=
  (Set_any h.1 hn x hx).mono fun _ _ ⟨he, ho⟩ => ⟨he, Lib.hid (h.op ho)⟩
theorem Tm.due {w0 w : World} {t : Nat} {R : List It} (h : Tm w0 w t R) (hn : R.length < 900000) (now : Int) :
    Calls Try.prog 17 #[.pointer (some ⟨t, 0, none⟩), .int .i64 now] w fun e w' => ∃ A c, e = .returned (.slice A (dueN R now) c) ∧ Hid (IRd w' (fun k => w.heap.size ≤ k) A (dueN R now) c (R.take (dueN R now)) ∧ w'.ownsRow w.heap.size 41 2 (.slice A (dueN R now) c) (dueN R now) (flat (R.take (dueN R now))) ∧ Tm w0 w' t (R.drop (dueN R now))) :=
  (Due_any h.1 hn now).mono fun _ _ ⟨_, he, hr, ho⟩ => by
    obtain ⟨A, c, rfl, hr2⟩ := IRd.of_own (Ψ := fun k => _ ≤ k) hr fun k hk => hk
    exact ⟨A, c, he, Lib.hid ⟨hr2, hr, h.op ⟨ho.1.mono fun _ _ hk => .inl hk, ho.2⟩⟩⟩
theorem Tm.len {w0 w : World} {t : Nat} {R : List It} (h : Tm w0 w t R) : Calls Try.prog 19 #[.pointer (some ⟨t, 0, none⟩)] w fun e w' => e = .returned (.int .i64 R.length) ∧ w = w' := Len_any h.1

theorem awake_rows : setR (setR (setR [] (1, 5)) (2, 3)) (3, 5) = [(2, 3), (1, 5), (3, 5)] := by decide
theorem awake_due : dueN [(2, 3), (1, 5), (3, 5)] 5 = 3 := by decide
set_option maxHeartbeats 1600000 in
set_option maxRecDepth 100000 in
theorem awake_any (w : World) : Calls Try.prog 9 #[] w fun e w' => e = .returned (.bool true) ∧ Below w.heap.size w w' := by
  have HN := Lib.hid (New_any w)
  have HS : Hid (∀ w1 t R, Tm w w1 t R → R.length < 900000 → ∀ x : It, wfk x.1 → _) := Lib.hid fun w1 t R h hn x hx => Tm.set (w0 := w) (w := w1) (t := t) (R := R) h hn x hx
  have HD : Hid (∀ w1 t R, Tm w w1 t R → R.length < 900000 → ∀ now, _) := Lib.hid fun w1 t R h hn now => Tm.due (w0 := w) (w := w1) (t := t) (R := R) h hn now
  go_enter Try.func9, Try.ntmps9
  go_upto_region 4 with (go_at_call 10; refine HN.out.mono ?_; rintro e w1 ⟨rfl, hb, _, ht⟩; have HT := Lib.hid (Tm.new (Below.refl _ _) hb ht); clear hb ht)
  generalize w.heap.size + 1 = t at *
  have h0 : (setR [] (1, 5)).length = 1 := by decide
  have h1 : (setR (setR [] (1, 5)) (2, 3)).length = 2 := by decide
  have H0 := Lib.hid h0
  have H1 := Lib.hid h1
  clear h0 h1
  have C1 := Lib.hid (HS.out w1 t [] HT.out (by simp) (1, 5) (by unfold wfk; decide))
  go_upto_region 5 with (go_at_call 11; refine C1.out.mono ?_; rintro e w2 ⟨rfl, HT2⟩)
  have C2 := Lib.hid (HS.out w2 t _ HT2.out (by rw [H0.out]; omega) (2, 3) (by unfold wfk; decide))
  go_upto_region 6 with (go_at_call 11; refine C2.out.mono ?_; rintro e w3 ⟨rfl, HT3⟩)
  have C3 := Lib.hid (HS.out w3 t _ HT3.out (by rw [H1.out]; omega) (3, 5) (by unfold wfk; decide))
  go_upto_region 7 with (go_at_call 11; refine C3.out.mono ?_; rintro e w4 ⟨rfl, HT4⟩)
  have HT5 : Hid (Tm w w4 t [(2, 3), (1, 5), (3, 5)]) := Lib.hid (by have := HT4.out; rwa [awake_rows] at this)
  have hd := HD.out w4 t _ HT5.out (by simp) 5
  rw [awake_due] at hd
  have C4 := Lib.hid hd
  clear hd HT4
  go_upto_region 8 with (go_at_call 17; refine C4.out.mono ?_; rintro e w5 ⟨A, c, rfl, HX⟩)
  obtain ⟨b, o, rfl, _, _, r0, _⟩ := HX.out.1.place 0 (by omega)
  obtain ⟨b1, o1, e1, _, _, s0, _⟩ := HX.out.1.place 1 (by omega)
  obtain ⟨b2, o2, e2, _, _, u0, _⟩ := HX.out.1.place 2 (by omega)
  cases e1
  cases e2
  have HB := Lib.hid HX.out.2.2.2
  have C5 := Lib.hid (Tm.len HX.out.2.2)
  have hcm := HX.out.1.max
  have hcc := HX.out.1.cap
  unfold maxLen at hcm
  have g0 : w5.cell? ⟨b, o, none⟩ = some (.int .i64 2) := r0
  have g1 : w5.cell? ⟨b, o + 2, none⟩ = some (.int .i64 1) := s0
  have g2 : w5.cell? ⟨b, o + 4, none⟩ = some (.int .i64 3) := u0
  clear r0 s0 u0
  go_wp2_with (go_at_call 19; refine C5.out.mono ?_; rintro e w6 ⟨rfl, rfl⟩)
  go_ret
  exact ⟨rfl, HB.out⟩

/-- Two timers in memory that are new since w0, each in blocks of its own. -/
def Two (w0 w : World) (t : Nat) (R : List It) (c : Nat) (S : List It) : Prop :=
  ∃ Φ Ψ : Nat → Prop, (∀ k, Φ k → w0.heap.size ≤ k) ∧ (∀ k, Ψ k → w0.heap.size ≤ k) ∧ (∀ k, Φ k → ¬ Ψ k) ∧ TimerAt w t R Φ ∧ TimerAt w c S Ψ ∧ Below w0.heap.size w0 w
section
variable {w0 w w' : World} {t c : Nat} {R S : List It}
theorem Two.swap (h : Two w0 w t R c S) : Two w0 w c S t R := by
  obtain ⟨Φ, Ψ, h1, h2, h3, h4, h5, h6⟩ := h
  exact ⟨Ψ, Φ, h2, h1, fun k hk hk2 => h3 k hk2 hk, h5, h4, h6⟩
theorem Two.later (h : Two w0 w t R c S) (hb : Below w.heap.size w w') : Two w0 w' t R c S := by
  obtain ⟨Φ, Ψ, h1, h2, h3, h4, h5, h6⟩ := h
  exact ⟨Φ, Ψ, h1, h2, h3, h4.below hb, h5.below hb, h6.trans (hb.mono h6.size)⟩
theorem Two.step (h : Two w0 w t R c S) : ∃ Φ, TimerAt w t R Φ ∧ ∀ w' R', TOp t R' Φ w w' → Two w0 w' t R' c S := by
  obtain ⟨Φ, Ψ, h1, h2, h3, h4, h5, h6⟩ := h
  refine ⟨Φ, h4, fun w' R' ⟨ho, hc⟩ => ⟨more Φ w, fun k => Ψ k ∧ k < w.heap.size, fun k hk => ?_, fun k hk => h2 k hk.1, fun k hk hk2 => ?_, ho, ?_, h6.trans (hc.below h6.size h1)⟩⟩
  · rcases hk with hk | hk
    · exact h1 k hk
    · have := h6.size
      omega
  · rcases hk with hk | hk
    · exact h3 k hk hk2.1
    · omega
  · exact (h5.mono fun k hk hp => ⟨hp, hk⟩).keep hc fun k hk hp => h3 k hp hk.1
theorem Two.tm (h : Two w0 w t R c S) : Tm w0 w t R := by
  obtain ⟨Φ, Ψ, h1, h2, h3, h4, h5, h6⟩ := h
  exact ⟨h4.mono fun k _ hk => h1 k hk, h6⟩
theorem Two.set (h : Two w0 w t R c S) (hn : R.length < 900000) (x : It) (hx : wfk x.1) :
    Calls Try.prog 11 #[.pointer (some ⟨t, 0, none⟩), .int .i64 x.1, .int .i64 x.2] w fun e w' => e = .returned (.tuple #[]) ∧ Hid (Two w0 w' t (setR R x) c S) := by
  obtain ⟨Φ, h1, h2⟩ := h.step
  exact (Set_any h1 hn x hx).mono fun _ _ ⟨he, ho⟩ => ⟨he, Lib.hid (h2 _ _ ho)⟩
theorem Two.drop (h : Two w0 w t R c S) (hn : R.length < 900000) (id : Int) (hid : wfk id) :
    Calls Try.prog 14 #[.pointer (some ⟨t, 0, none⟩), .int .i64 id] w fun e w' => e = .returned (.bool (decide ((dropR R id).length < R.length))) ∧ Hid (Two w0 w' t (dropR R id) c S) := by
  obtain ⟨Φ, h1, h2⟩ := h.step
  exact (Drop_any h1 hn id hid).mono fun _ _ ⟨he, ho⟩ => ⟨he, Lib.hid (h2 _ _ ho)⟩
/-- Due, and what it returns apart from both timers. -/
theorem Two.due (h : Two w0 w t R c S) (hn : R.length < 900000) (now : Int) :
    Calls Try.prog 17 #[.pointer (some ⟨t, 0, none⟩), .int .i64 now] w fun e w' => ∃ A n, e = .returned (.slice A (dueN R now) n) ∧
      Hid (w'.ownsRow w.heap.size 41 2 (.slice A (dueN R now) n) (dueN R now) (flat (R.take (dueN R now))) ∧ w.heap.size ≤ w'.heap.size ∧
        ∃ Φ Ψ : Nat → Prop, (∀ k, Φ k → w0.heap.size ≤ k ∧ k < w.heap.size) ∧ (∀ k, Ψ k → w0.heap.size ≤ k ∧ k < w.heap.size) ∧ (∀ k, Φ k → ¬ Ψ k) ∧ TimerAt w' t (R.drop (dueN R now)) Φ ∧ TimerAt w' c S Ψ ∧ Below w0.heap.size w0 w') := by
  obtain ⟨Φ, Ψ, h1, h2, h3, h4, h5, h6⟩ := h
  have h4' : TimerAt w t R (fun k => Φ k ∧ k < w.heap.size) := h4.mono fun k hk hp => ⟨hp, hk⟩
  have h5' : TimerAt w c S (fun k => Ψ k ∧ k < w.heap.size) := h5.mono fun k hk hp => ⟨hp, hk⟩
  refine (Due_any h4' hn now).mono ?_
  rintro e w' ⟨v, rfl, hr, ht, hc⟩
  obtain ⟨A, n, rfl, _⟩ := own_isSlice hr
  exact ⟨A, n, rfl, Lib.hid ⟨hr, hc.size, _, _, fun k hk => ⟨h1 k hk.1, hk.2⟩, fun k hk => ⟨h2 k hk.1, hk.2⟩, fun k hk hk2 => h3 k hk.1 hk2.1, ht, h5'.keep hc fun k hk hp => h3 k hp.1 hk.1, h6.trans (hc.below h6.size fun i hi => h1 i hi.1)⟩⟩
theorem Tm.copy (h : Tm w0 w t R) (hn : R.length < 900000) :
    Calls Try.prog 18 #[.pointer (some ⟨t, 0, none⟩)] w fun e w' => ∃ t', e = .returned (.pointer (some ⟨t', 0, none⟩)) ∧ Hid (Two w0 w' t R t' R) :=
  (Copy_any h.1 hn).mono fun _ _ ⟨t', he, _, h2, h3⟩ => ⟨t', he, Lib.hid ⟨fun k => w0.heap.size ≤ k ∧ k < w.heap.size, fun k => w.heap.size ≤ k, fun k hk => hk.1, fun k hk => by have := h.2.size; omega, fun k hk hk2 => by omega,
    (h.1.mono fun k hk hp => ⟨hp, hk⟩).below h3, h2, h.2.trans (h3.mono h.2.size)⟩⟩
end

/-- A timer that is new since w0, and beside it a row of the document's. -/
def TR (w0 w : World) (t : Nat) (R : List It) (A : Option Addr) (n c : Nat) (L : List It) : Prop :=
  ∃ Φ : Nat → Prop, (∀ k, Φ k → w0.heap.size ≤ k) ∧ TimerAt w t R Φ ∧ IRd w (fun k => ¬ Φ k) A n c L ∧ Below w0.heap.size w0 w
section
variable {w0 w w' : World} {t n c : Nat} {R L : List It} {A : Option Addr}
theorem TR.of_tm (h : Tm w0 w t R) : TR w0 w t R none 0 0 [] := ⟨_, fun _ hk => hk, h.1, IRd.none_ _ _, h.2⟩
theorem TR.tm (h : TR w0 w t R A n c L) : Tm w0 w t R := by
  obtain ⟨Φ, h1, h2, h3, h4⟩ := h
  exact ⟨h2.mono fun k _ hk => h1 k hk, h4⟩
theorem TR.rd (h : TR w0 w t R A n c L) : IRd w (fun _ => True) A n c L := by
  obtain ⟨Φ, h1, h2, h3, h4⟩ := h
  exact h3.mono fun _ _ _ => trivial
theorem TR.later (h : TR w0 w t R A n c L) (hb : Below w.heap.size w w') : TR w0 w' t R A n c L := by
  obtain ⟨Φ, h1, h2, h3, h4⟩ := h
  exact ⟨Φ, h1, h2.below hb, h3.below hb, h4.trans (hb.mono h4.size)⟩
theorem TR.step (h : TR w0 w t R A n c L) : ∃ Φ, TimerAt w t R Φ ∧ ∀ w' R', TOp t R' Φ w w' → TR w0 w' t R' A n c L := by
  obtain ⟨Φ, h1, h2, h3, h4⟩ := h
  refine ⟨Φ, h2, fun w' R' ⟨ho, hc⟩ => ⟨more Φ w, fun k hk => ?_, ho, ?_, h4.trans (hc.below h4.size h1)⟩⟩
  · rcases hk with hk | hk
    · exact h1 k hk
    · have := h4.size
      omega
  · have h5 : IRd w (fun k => ¬ Φ k ∧ k < w.heap.size) A n c L := h3.mono fun k hk hp => ⟨hp, hk⟩
    exact (h5.keep hc fun k hk => hk.1).mono fun k _ hk hm => by
      rcases hm with hm | hm
      · exact hk.1 hm
      · omega
theorem TR.set (h : TR w0 w t R A n c L) (hn : R.length < 900000) (x : It) (hx : wfk x.1) :
    Calls Try.prog 11 #[.pointer (some ⟨t, 0, none⟩), .int .i64 x.1, .int .i64 x.2] w fun e w' => e = .returned (.tuple #[]) ∧ Hid (TR w0 w' t (setR R x) A n c L) := by
  obtain ⟨Φ, h1, h2⟩ := h.step
  exact (Set_any h1 hn x hx).mono fun _ _ ⟨he, ho⟩ => ⟨he, Lib.hid (h2 _ _ ho)⟩
theorem TR.drop (h : TR w0 w t R A n c L) (hn : R.length < 900000) (id : Int) (hid : wfk id) :
    Calls Try.prog 14 #[.pointer (some ⟨t, 0, none⟩), .int .i64 id] w fun e w' => e = .returned (.bool (decide ((dropR R id).length < R.length))) ∧ Hid (TR w0 w' t (dropR R id) A n c L) := by
  obtain ⟨Φ, h1, h2⟩ := h.step
  exact (Drop_any h1 hn id hid).mono fun _ _ ⟨he, ho⟩ => ⟨he, Lib.hid (h2 _ _ ho)⟩
/-- A row of the document's in new memory. -/
theorem TR.row (h : TR w0 w t R A n c L) {M : List It} {e : Ending} (hr : RowSaid M w e w') : ∃ A' c', e = .returned (.slice A' M.length c') ∧ Hid (TR w0 w' t R A' M.length c' M) := by
  obtain ⟨Φ, h1, h2, h3, h4⟩ := h
  obtain ⟨A', c', he, ho, hb⟩ := hr
  refine ⟨A', c', he, Lib.hid ⟨fun k => Φ k ∧ k < w.heap.size, fun k hk => h1 k hk.1, (h2.mono fun k hk hp => ⟨hp, hk⟩).below hb, IRd.of_slice ho fun k hk hp => by omega, h4.trans (hb.mono h4.size)⟩⟩
theorem TR.rset (h : TR w0 w t R A n c L) (hn : n < 900000) (x : It) :
    Calls Try.prog 12 #[.slice A n c, .int .i64 x.1, .int .i64 x.2] w fun e w' => ∃ A' c', e = .returned (.slice A' (setR L x).length c') ∧ Hid (TR w0 w' t R A' (setR L x).length c' (setR L x)) :=
  (refSet_any h.rd hn x).mono fun _ _ hr => h.row hr
theorem TR.rdrop (h : TR w0 w t R A n c L) (hn : n < 900000) (id : Int) :
    Calls Try.prog 13 #[.slice A n c, .int .i64 id] w fun e w' => ∃ A' c', e = .returned (.slice A' (dropR L id).length c') ∧ Hid (TR w0 w' t R A' (dropR L id).length c' (dropR L id)) :=
  (refDrop_any h.rd hn id).mono fun _ _ hr => h.row hr
end
end Go.Proofs.Ytednibjemboclaa
