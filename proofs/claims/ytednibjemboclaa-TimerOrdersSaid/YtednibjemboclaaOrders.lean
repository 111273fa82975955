/- What is proved here: that whatever the order in which things are set, they come in one order (TimerOrders). -/
import Derived.Test.YtednibjemboclaaLate
namespace Go.Proofs.Ytednibjemboclaa
open Go Go.RowKit Go.Maps

theorem plain_bool_inv {v : Value} {z : DataW Unit × List MemPlace} (h : plainElem Try.prog 4 v = some z) : ∃ x, v = .bool x ∧ z = (.lit (.bool x), []) := by
  unfold plainElem at h
  rw [Try.underlying4] at h
  split at h
  · cases h
    exact ⟨_, rfl, rfl⟩
  · exact absurd ‹some TypeDesc.bool = some (TypeDesc.int _)› (by simp)
  · exact absurd ‹some TypeDesc.bool = some TypeDesc.string› (by simp)
  · cases h
theorem zero_bool (w : World) : (zeroValue 4).run Try.prog w = .ok (.bool false) w := by kernel_rfl
/-- Memory holds which numbers were seen. -/
def Seen (w : World) (m : Nat) (ids : List Int) (N : Nat) : Prop :=
  ∃ D : DataW Unit, w.ownsMap Try.prog 3 (plainElem Try.prog 4) m N D ∧ ∀ k, D.atKey (.int .i64 k) (.lit (.bool false)) = .lit (.bool (decide (k ∈ ids)))
section
variable {w w' : World} {m N : Nat} {ids : List Int}
theorem Seen.lt (h : Seen w m ids N) : m < w.heap.size := by
  obtain ⟨D, h1, _⟩ := h
  exact h1.lt
theorem Seen.keep {Φ : Nat → Prop} (h : Seen w m ids N) (hc : Chg Φ w w') (hn : ¬ Φ m) : Seen w' m ids N := by
  obtain ⟨D, ⟨es, clock, hb, r⟩, h2⟩ := h
  exact ⟨D, ⟨es, clock, hc.heap hb hn, r⟩, h2⟩
theorem Seen.made (w : World) : Seen (w.alloc (.map #[] 0)) w.heap.size [] 0 := ⟨.map [], World.ownsMap_made w _ _ _, fun _ => rfl⟩
theorem Seen.look (h : Seen w m ids N) {k : Int} (hk : wfk k) : (Instr.lookup 48 (.map (some m)) (.int .i64 k) false).run Try.prog w = .ok (.bool (decide (k ∈ ids))) w := by
  obtain ⟨D, h1, h2⟩ := h
  obtain ⟨v, ps, hrun, hv⟩ := World.ownsMap.lookup h1 keyed_int Try.underlying48 (zero_bool w) (zd := .lit (.bool false)) (zp := []) (plainElem_bool Try.underlying4 false) (keyOf_int_mk Try.underlying3 (wfk_wf hk))
  obtain ⟨x, rfl, hx⟩ := plain_bool_inv hv
  rw [hrun]
  have e : D.atKey (.int .i64 k) (.lit (.bool false)) = .lit (.bool x) := congrArg Prod.fst hx
  rw [h2 k] at e
  simp at e
  rw [← e]
theorem Seen.put (h : Seen w m ids N) (hN : N < 4000000) {k : Int} (hk : wfk k) :
    ∃ w', (Instr.mapUpdate 48 (.map (some m)) (.int .i64 k) (.bool true)).run Try.prog w = .ok () w' ∧ Seen w' m (ids ++ [k]) (N + 1) ∧ Chg (fun i => i = m) w w' := by
  obtain ⟨D, h1, h2⟩ := h
  have hT := h1.tidy keyed_int
  have hkey := keyOf_int_mk Try.underlying3 (wfk_wf hk)
  obtain ⟨w', hrun, r1, r2⟩ := World.ownsMap.store h1 keyed_int Try.underlying48 (by unfold maxLen; omega) hkey (plainElem_bool Try.underlying4 true)
  refine ⟨w', hrun, ⟨_, r1, fun k' => ?_⟩, Chg.of_turned r2⟩
  by_cases hkk : k' = k
  · subst hkk
    rw [atKey_put_same hT.isMap (keyed_int.key hkey)]
    simp
  · have hne : Lit.int .i64 k' ≠ Lit.int .i64 k := fun e => hkk (by simpa using e)
    rw [atKey_put_other hne, h2 k']
    simp [hkk]
end

/-- Two timers, and the numbers that were seen. -/
def OrdAt (w0 w : World) (a : Nat) (R : List It) (b : Nat) (S : List It) (m : Nat) (ids : List Int) (N : Nat) : Prop :=
  ∃ Φ Ψ : Nat → Prop, (∀ k, Φ k → w0.heap.size ≤ k) ∧ (∀ k, Ψ k → w0.heap.size ≤ k) ∧ (∀ k, Φ k → ¬ Ψ k) ∧ ¬ Φ m ∧ ¬ Ψ m ∧ TimerAt w a R Φ ∧ TimerAt w b S Ψ ∧ Seen w m ids N ∧ Below w0.heap.size w0 w ∧ w0.heap.size ≤ m
section
variable {w0 w w' V : World} {a b m N : Nat} {R S : List It} {ids : List Int}
theorem OrdAt.swap (h : OrdAt w0 w a R b S m ids N) : OrdAt w0 w b S a R m ids N := by
  obtain ⟨Φ, Ψ, h1, h2, h3, h4, h5, h6, h7, h8, h9, h10⟩ := h
  exact ⟨Ψ, Φ, h2, h1, fun k hk hk2 => h3 k hk2 hk, h5, h4, h7, h6, h8, h9, h10⟩
theorem OrdAt.later (h : OrdAt w0 w a R b S m ids N) (hb : Below w.heap.size w w') : OrdAt w0 w' a R b S m ids N := by
  obtain ⟨Φ, Ψ, h1, h2, h3, h4, h5, h6, h7, h8, h9, h10⟩ := h
  exact ⟨Φ, Ψ, h1, h2, h3, h4, h5, h6.below hb, h7.below hb, h8.keep (Φ := fun _ => False) (Chg.of_below hb) id, h9.trans (hb.mono h9.size), h10⟩
theorem OrdAt.below (h : OrdAt w0 w a R b S m ids N) : Below w0.heap.size w0 w := by
  obtain ⟨Φ, Ψ, h1, h2, h3, h4, h5, h6, h7, h8, h9, h10⟩ := h
  exact h9
theorem OrdAt.seen (h : OrdAt w0 w a R b S m ids N) : Seen w m ids N := by
  obtain ⟨Φ, Ψ, h1, h2, h3, h4, h5, h6, h7, h8, h9, h10⟩ := h
  exact h8
theorem OrdAt.two (h : OrdAt w0 w a R b S m ids N) : Two w0 w a R b S := by
  obtain ⟨Φ, Ψ, h1, h2, h3, h4, h5, h6, h7, h8, h9, h10⟩ := h
  exact ⟨Φ, Ψ, h1, h2, h3, h6, h7, h9⟩
/-- A call on the first one, where what is new since w stays. -/
theorem OrdAt.set (h : OrdAt w0 w a R b S m ids N) (hV : Below w.heap.size w V) (hn : R.length < 900000) (x : It) (hx : wfk x.1) :
    Calls Try.prog 11 #[.pointer (some ⟨a, 0, none⟩), .int .i64 x.1, .int .i64 x.2] V fun e w' => e = .returned (.tuple #[]) ∧ Hid (OrdAt w0 w' a (setR R x) b S m ids N) := by
  obtain ⟨Φ, Ψ, h1, h2, h3, h4, h5, h6, h7, h8, h9, h10⟩ := h
  have hm := h8.lt
  have g6 : TimerAt V a R (fun k => Φ k ∧ k < w.heap.size) := (h6.mono fun k hk hp => ⟨hp, hk⟩).below hV
  have g7 : TimerAt V b S (fun k => Ψ k ∧ k < w.heap.size) := (h7.mono fun k hk hp => ⟨hp, hk⟩).below hV
  have g8 := h8.keep (Φ := fun _ => False) (Chg.of_below hV) id
  have g9 := h9.trans (hV.mono h9.size)
  have hs := hV.size
  refine (Set_any g6 hn x hx).mono ?_
  rintro e w' ⟨he, ho, hc⟩
  refine ⟨he, Lib.hid ⟨more (fun k => Φ k ∧ k < w.heap.size) V, fun k => Ψ k ∧ k < w.heap.size, fun k hk => ?_, fun k hk => h2 k hk.1, fun k hk hk2 => ?_, fun hq => ?_, fun hq => h5 hq.1, ho, g7.keep hc fun k hk hp => h3 k hp.1 hk.1, g8.keep hc fun hp => h4 hp.1, g9.trans (hc.below g9.size fun i hi => h1 i hi.1), h10⟩⟩
  · rcases hk with hk | hk
    · exact h1 k hk.1
    · have := g9.size
      omega
  · rcases hk with hk | hk
    · exact h3 k hk.1 hk2.1
    · have := hk2.2
      omega
  · rcases hq with hq | hq
    · exact h4 hq.1
    · omega
theorem OrdAt.see (h : OrdAt w0 w a R b S m ids N) (hN : N < 4000000) {k : Int} (hk : wfk k) :
    ∃ w', (Instr.mapUpdate 48 (.map (some m)) (.int .i64 k) (.bool true)).run Try.prog w = .ok () w' ∧ OrdAt w0 w' a R b S m (ids ++ [k]) (N + 1) ∧ Chg (fun i => i = m) w w' := by
  obtain ⟨Φ, Ψ, h1, h2, h3, h4, h5, h6, h7, h8, h9, h10⟩ := h
  obtain ⟨w', hr, h11, hc⟩ := h8.put hN hk
  exact ⟨w', hr, ⟨Φ, Ψ, h1, h2, h3, h4, h5, h6.keep hc fun k hk e => h4 (by rw [← e]; exact hk), h7.keep hc fun k hk e => h5 (by rw [← e]; exact hk), h11, h9.trans (hc.below h9.size fun i hi => by omega), h10⟩, hc⟩
end

theorem setAll_perm {L : List It} (h : (L.map Prod.fst).Nodup) : ∀ k, k ≤ L.length → (setAll (L.take k)).Perm (L.take k)
  | 0, _ => by simp [setAll]
  | k + 1, hk => by
    have ih := setAll_perm h k (by omega)
    rw [setAll_take (by omega), take_g (by omega)]
    have hno : ∀ y ∈ setAll (L.take k), y.1 ≠ (g L k).1 := fun y hy e => by
      obtain ⟨j, hj, rfl⟩ := mem_g ((ih.mem_iff).1 hy)
      rw [List.length_take] at hj
      have e2 : g (L.take k) j = g L j := g_take (by omega)
      rw [e2] at e
      have := nodup_g h (by omega) (by omega) e
      omega
    have h1 := setR_perm (setAll (L.take k)) (g L k)
    rw [dropR_none hno] at h1
    exact h1.trans ((ih.cons _).trans (List.perm_append_singleton _ _).symm)
/-- Both ways round it is one row. -/
theorem two_ways {L : List It} (h : (L.map Prod.fst).Nodup) : setAll L.reverse = setAll L ∧ (setAll L).Perm L := by
  have h1 := setAll_perm h L.length (Nat.le_refl _)
  rw [List.take_length] at h1
  have h' : (L.reverse.map Prod.fst).Nodup := ((List.reverse_perm L).map Prod.fst).nodup_iff.2 h
  have h2 := setAll_perm h' L.reverse.length (Nat.le_refl _)
  rw [List.take_length] at h2
  exact ⟨ord_one (h2.trans ((List.reverse_perm L).trans h1.symm)) (setAll_ord _) (setAll_ord _), h1⟩
theorem g_reverse {L : List It} {k : Nat} (hk : k < L.length) : g L.reverse k = g L (L.length - 1 - k) := by
  rw [← g_get (show k < L.reverse.length by simpa using hk), ← g_get (show L.length - 1 - k < L.length by omega)]
  simp
theorem due_all {R : List It} {now : Int} (h : ∀ y ∈ R, y.2 ≤ now) : dueN R now = R.length :=
  dueN_eq (Nat.le_refl _) (fun _ hj => h _ (g_mem hj)) fun hlt => absurd hlt (Nat.lt_irrefl _)

set_option maxHeartbeats 6400000 in
set_option maxRecDepth 100000 in
theorem timerOrders_any {w : World} {A : Option Addr} {n c : Nat} {l : List (List Int)} (hk : KRd w 2 A n c l) :
    Calls Try.prog 5 #[.slice A n c] w fun e w' => e = .returned (.bool true) ∧ Below w.heap.size w w' := by
  obtain ⟨hI, hwf⟩ := hk.items
  generalize items l = L at *
  have HAW := Lib.hid fun W => awake_any W
  have hcm := hI.max
  have hcc := hI.cap
  unfold maxLen at hcm
  have HI := Lib.hid hI
  have HL := Lib.hid hI.len
  have HWF := Lib.hid hwf
  clear hk hI hwf
  by_cases h80 : 80 < n
  · have h80' : (80 : Int) < n := by omega
    have hd : decide ((80 : Int) < (n : Int)) = true := decide_eq_true h80'
    go_enter Try.func5, Try.ntmps5
    go_wp2_with (go_at_call 9; refine (HAW.out _).mono ?_; rintro e w1 ⟨rfl, hb⟩; have HB := Lib.hid hb; clear hb)
    go_ret
    exact ⟨rfl, HB.out⟩
  · have h80' : ¬ (80 : Int) < n := by omega
    have hd : decide ((80 : Int) < (n : Int)) = false := decide_eq_false h80'
    have hn80 : n ≤ 80 := by omega
    have HN : Hid (∀ V, Below w.heap.size w V → Calls Try.prog 10 #[] V fun e w' => ∃ t, e = .returned (.pointer (some ⟨t, 0, none⟩)) ∧ Hid (Below V.heap.size V w' ∧ TimerAt w' t [] (fun k => V.heap.size ≤ k))) := Lib.hid fun V hV => (New_any V).mono (by
      rintro e w' ⟨he, hb, _, ht⟩
      exact ⟨_, he, Lib.hid ⟨hb, ht⟩⟩)
    have hmm := @run_makeMap Try.prog
    go_enter Try.func5, Try.ntmps5
    have HA1 := Lib.hid (HN.out w (Below.refl _ _))
    go_upto_region 4 with (first
      | (go_at_call 10; (first | (refine HA2.out.mono ?_; rintro e w2 ⟨b, rfl, HT2⟩) | (refine HA1.out.mono ?_; rintro e w1 ⟨a, rfl, HT1⟩; have HA2 := Lib.hid (HN.out w1 HT1.out.1)))))
    have HO : Hid (OrdAt w (w2.alloc (.map #[] 0)) a [] b [] w2.heap.size [] 0) := Lib.hid (by
      obtain ⟨h1, h2⟩ := HT1.out
      obtain ⟨h3, h4⟩ := HT2.out
      have hb : Below w.heap.size w w2 := h1.trans (h3.mono h1.size)
      have hb2 : Below w2.heap.size w2 (w2.alloc (.map #[] 0)) := (Below.refl _ _).alloc (Nat.le_refl _) _
      refine ⟨fun k => w.heap.size ≤ k ∧ k < w1.heap.size, fun k => w1.heap.size ≤ k ∧ k < w2.heap.size, fun k hk => hk.1, fun k hk => by have := h1.size; omega, fun k hk hk2 => by omega, fun hk => by have := h3.size; omega, fun hk => by omega, ?_, (h4.mono fun k hk hp => ⟨hp, hk⟩).below hb2, Seen.made w2, hb.trans (hb2.mono hb.size), hb.size⟩
      exact ((h2.mono fun k hk hp => (⟨hp, hk⟩ : w.heap.size ≤ k ∧ k < w1.heap.size)).below h3).below hb2)
    go_wp2_with fail
    generalize w2.heap.size = m at *
    clear HT1 HT2 HA1 HA2 HN hmm
    go_loopw [27] (fun i wr => ∃ k : Nat, i = .int .i64 k ∧ k ≤ n ∧ Hid (OrdAt w wr a (setAll (L.take k)) b (setAll (L.reverse.take k)) m ((L.take k).map Prod.fst) k) ∧ Hid (((L.take k).map Prod.fst).Nodup)) (fun i _ => n - (intOf i).toNat)
    case atStart => exact ⟨0, rfl, Nat.zero_le _, HO, Lib.hid (by simp)⟩
    case round =>
      clear HO
      obtain ⟨k, rfl, hkn, HT, HND⟩ := hrel
      by_cases hlt : k < n
      · obtain ⟨b0, o0, hA, r0, r1⟩ := HI.out.there HT.out.below hlt
        subst hA
        have hlt' : (k : Int) < n := by omega
        have hkL : k < L.length := by rw [HL.out]; exact hlt
        have hx : wfk (g L k).1 := (HWF.out _ (g_mem hkL)).1
        obtain ⟨ids, hids⟩ : ∃ ids, ids = (L.take k).map Prod.fst := ⟨_, rfl⟩
        have HLK : Hid (∀ V, Below wr.heap.size wr V → (Instr.lookup 48 (.map (some m)) (.int .i64 (g L k).1) false).run Try.prog V = .ok (.bool (decide ((g L k).1 ∈ ids))) V) := Lib.hid fun V hV => by
          rw [hids]
          exact (HT.out.later hV).seen.look hx
        by_cases hin : (g L k).1 ∈ ids
        · have hd1 : decide ((g L k).1 ∈ ids) = true := decide_eq_true hin
          have HB0 := Lib.hid HT.out.below
          rw [hd1] at HLK
          have hlk1 := HLK.out (wr.alloc (.cells #[.int .i64 (g L k).1, .int .i64 (g L k).2] 44)) ((Below.refl _ _).alloc (Nat.le_refl _) _)
          clear hd1 hx hids HLK hin HT
          generalize g L k = x at *
          go_wp2_with (go_at_call 9; refine (HAW.out _).mono ?_; rintro e w1 ⟨rfl, hb⟩; have HB := Lib.hid hb; clear hb)
          go_ret
          have HV := HB0.out.alloc HB0.out.size (.cells #[.int .i64 x.1, .int .i64 x.2] 44)
          exact ⟨rfl, HV.trans (HB.out.mono HV.size)⟩
        · have hd1 : decide ((g L k).1 ∈ ids) = false := decide_eq_false hin
          rw [hd1] at HLK
          have hlk1 := HLK.out (wr.alloc (.cells #[.int .i64 (g L k).1, .int .i64 (g L k).2] 44)) ((Below.refl _ _).alloc (Nat.le_refl _) _)
          obtain ⟨V, hV⟩ : ∃ V, V = wr.alloc (.cells #[.int .i64 (g L k).1, .int .i64 (g L k).2] 44) := ⟨_, rfl⟩
          rw [← hV] at hlk1
          have hbV : Below wr.heap.size wr V := by rw [hV]; exact (Below.refl _ _).alloc (Nat.le_refl _) _
          have q0 : V.cell? ⟨wr.heap.size, 0, none⟩ = some (.int .i64 (g L k).1) := by rw [hV]; simp
          have q1 : V.cell? ⟨wr.heap.size, 1, none⟩ = some (.int .i64 (g L k).2) := by rw [hV]; simp
          have hVs : wr.heap.size < V.heap.size := by rw [hV]; simp
          have hmm : m < wr.heap.size := HT.out.seen.lt
          obtain ⟨w2, hup, ho2, hc2⟩ := (HT.out.later hbV).see (by omega) hx
          have p0 := (hc2.cell (p := ⟨wr.heap.size, 0, none⟩) hVs (fun e => by have e2 : wr.heap.size = m := e; omega)).trans q0
          have p1 := (hc2.cell (p := ⟨wr.heap.size, 1, none⟩) hVs (fun e => by have e2 : wr.heap.size = m := e; omega)).trans q1
          have hlen : (setAll (L.take k)).length < 900000 ∧ (setAll (L.reverse.take k)).length < 900000 := by
            have h1 := setAll_len (L.take k)
            have h2 := setAll_len (L.reverse.take k)
            rw [List.length_take] at h1 h2
            omega
          obtain ⟨q, hq⟩ : ∃ q, q = n - 1 - k := ⟨_, rfl⟩
          have hqL : q < L.length := by rw [HL.out]; omega
          have hy : wfk (g L q).1 := (HWF.out _ (g_mem hqL)).1
          have HS1 : Hid (Calls Try.prog 11 #[.pointer (some ⟨a, 0, none⟩), .int .i64 (g L k).1, .int .i64 (g L k).2] w2 fun e w' => e = .returned (.tuple #[]) ∧ Hid (OrdAt w w' a (setAll (L.take (k + 1))) b (setAll (L.reverse.take k)) m ((L.take (k + 1)).map Prod.fst) (k + 1))) := Lib.hid (by
            rw [setAll_take hkL, take_g hkL, List.map_append, ← hids]
            rw [← hids] at ho2
            exact ho2.set (Below.refl _ _) hlen.1 _ hx)
          have HS2 : Hid (∀ w3 V3, OrdAt w w3 a (setAll (L.take (k + 1))) b (setAll (L.reverse.take k)) m ((L.take (k + 1)).map Prod.fst) (k + 1) → Below w3.heap.size w3 V3 → Calls Try.prog 11 #[.pointer (some ⟨b, 0, none⟩), .int .i64 (g L q).1, .int .i64 (g L q).2] V3 fun e w' => e = .returned (.tuple #[]) ∧ Hid (OrdAt w w' a (setAll (L.take (k + 1))) b (setAll (L.reverse.take (k + 1))) m ((L.take (k + 1)).map Prod.fst) (k + 1))) := Lib.hid fun w3 V3 h3 hV3 => by
            have e1 : setAll (L.reverse.take (k + 1)) = setR (setAll (L.reverse.take k)) (g L q) := by
              rw [setAll_take (by simpa using hkL), g_reverse hkL, HL.out, ← hq]
            rw [e1]
            exact (h3.swap.set hV3 hlen.2 _ hy).mono fun _ _ ⟨he, ho⟩ => ⟨he, Lib.hid ho.out.swap⟩
          have HN2 : Hid (((L.take (k + 1)).map Prod.fst).Nodup) := Lib.hid (by
            rw [take_g hkL, List.map_append, ← hids]
            have h1 := HND.out
            rw [← hids] at h1
            exact List.nodup_append.2 ⟨h1, by simp, fun u hu v hv e => by
              simp at hv
              rw [hv] at e
              rw [e] at hu
              exact hin hu⟩)
          have HTH := Lib.hid fun w3 (h3 : Below w.heap.size w w3) => HI.out.there h3 (j := q) (by omega)
          have hq1 : (n : Int) - 1 - k = q := by omega
          have hq2 : ((n - 1 : Nat) : Int) - k = q := by omega
          have hqn : (q : Int) < n := by omega
          have HQ := Lib.hid hq
          clear hq hlen hy ho2 hc2 hmm hbV HLK hd1 hids hin hx HT HND
          generalize (L.take k).map Prod.fst = z at *
          generalize g L k = x at *
          generalize g L q = y at *
          have HV := Lib.hid hV
          clear hV
          go_upto_region 10 with fail
          rw [← HV.out]
          go_upto_region 13 with fail
          go_upto_region 14 with (go_at_call 11; refine HS1.out.mono ?_; rintro e w3 ⟨rfl, HO3⟩)
          obtain ⟨b1, o1, hA1, s0, s1⟩ := HTH.out w3 HO3.out.below
          cases hA1
          have HS3 := Lib.hid fun V3 hV3 => HS2.out w3 V3 HO3.out hV3
          clear HS1 HS2 HTH hup p0 p1 q0 q1 hlk1 HO3 r0 r1
          go_upto_region 15 with fail
          go_wp2_with (go_at_call 11; refine (HS3.out _ ((Below.refl _ _).alloc (Nat.le_refl _) _)).mono ?_; rintro e w4 ⟨rfl, HO4⟩)
          go_roundw
          case rel => exact ⟨k + 1, by go_num, by omega, HO4, HN2⟩
          case measure => simp [intOf]; omega
      · obtain rfl : k = n := by omega
        have e0 : L.take k = L := List.take_of_length_le (by rw [HL.out]; exact Nat.le_refl _)
        have e1 : L.reverse.take k = L.reverse := List.take_of_length_le (by rw [List.length_reverse, HL.out]; exact Nat.le_refl _)
        obtain ⟨R, hR⟩ : ∃ R, R = setAll L := ⟨_, rfl⟩
        have HW2 := two_ways (by have := HND.out; rwa [e0] at this)
        have hRk : R.length = k := by rw [hR, HW2.2.length_eq, HL.out]
        have HTW : Hid (Two w wr a R b R) := Lib.hid (by
          have := HT.out.two
          rw [e0, e1, HW2.1, ← hR] at this
          exact this)
        have HRW : Hid (∀ y ∈ R, y.2 ≤ 9223372036854775807) := Lib.hid fun y hy => by
          rw [hR] at hy
          have := (HWF.out y (HW2.2.mem_iff.1 hy)).2
          unfold wfk at this
          omega
        clear hR HW2 e0 e1 HT HND HI HWF
        have HCH : Hid (∃ Φ Ψ : Nat → Prop, (∀ k, Ψ k → w.heap.size ≤ k ∧ k < wr.heap.size) ∧ TimerAt wr a R Φ ∧ TimerAt wr b R Ψ ∧ Below w.heap.size w wr) := Lib.hid (by
          obtain ⟨Φ, Ψ, p1, p2, p3, p4, p5, p6⟩ := HTW.out
          exact ⟨Φ, fun k => Ψ k ∧ k < wr.heap.size, fun k hk => ⟨p2 k hk.1, hk.2⟩, p4, p5.mono fun k hk hp => ⟨hp, hk⟩, p6⟩)
        obtain ⟨Φ, Ψ, hc⟩ := HCH.out
        have HC := Lib.hid hc
        clear hc HCH HTW
        have HE1 : Hid (Calls Try.prog 20 #[.pointer (some ⟨a, 0, none⟩)] wr fun e w1 => ∃ A1 n1, e = .returned (.slice A1 k n1) ∧ Hid (w1.ownsRow wr.heap.size 41 2 (.slice A1 k n1) k (flat R) ∧ TimerAt w1 b R Ψ ∧ Below w.heap.size w w1)) := Lib.hid (by
          obtain ⟨p2, p4, p5, p6⟩ := HC.out
          refine (All_any p4 (by omega)).mono ?_
          unfold AllSaid
          rw [hRk]
          rintro e w1 ⟨A1, n1, rfl, ho, hb⟩
          exact ⟨A1, n1, rfl, Lib.hid ⟨ho, p5.below hb, p6.trans (hb.mono p6.size)⟩⟩)
        have HE2 : Hid (∀ A1 n1 w1, (w1.ownsRow wr.heap.size 41 2 (.slice A1 k n1) k (flat R) ∧ TimerAt w1 b R Ψ ∧ Below w.heap.size w w1) →
            Calls Try.prog 17 #[.pointer (some ⟨b, 0, none⟩), .int .i64 9223372036854775807] w1 fun e w2 => ∃ A2 n2, e = .returned (.slice A2 k n2) ∧ Hid (IRd w2 (fun _ => True) A1 k n1 R ∧ IRd w2 (fun _ => True) A2 k n2 R ∧ TimerAt w2 b [] Ψ ∧ Below w.heap.size w w2)) := Lib.hid fun A1 n1 w1 ⟨q1, q2, q3⟩ => by
          obtain ⟨p2, p4, p5, p6⟩ := HC.out
          refine (Due_any q2 (by omega) 9223372036854775807).mono ?_
          unfold DueSaid
          rw [due_all HRW.out, List.take_length, List.drop_length, hRk]
          rintro e w2 ⟨v, rfl, hr, ht, hcg⟩
          obtain ⟨A2, n2, rfl, _⟩ := own_isSlice hr
          refine ⟨A2, n2, rfl, Lib.hid ⟨IRd.of_slice (hcg.own q1 fun g hg hp => ?_) fun _ _ => trivial, IRd.of_slice hr fun _ _ => trivial, ht, q3.trans (hcg.below q3.size fun i hi => (p2 i hi).1)⟩⟩
          have h1 := (q1.lt g hg).1
          have h2 := (p2 g hp).2
          omega
        clear HC HRW
        go_upto_region 18 with (first
          | (go_at_call 20; refine HE1.out.mono ?_; rintro e w1 ⟨A1, n1, rfl, HX1⟩; have HE3 := Lib.hid (HE2.out A1 n1 w1 HX1.out))
          | (go_at_call 17; refine HE3.out.mono ?_; rintro e w2 ⟨A2, n2, rfl, HX2⟩))
        clear HE1 HE2 HE3 HX1
        have m1 := HX2.out.1.max
        have m2 := HX2.out.1.cap
        have m3 := HX2.out.2.1.max
        have m4 := HX2.out.2.1.cap
        unfold maxLen at m1 m3
        go_wp2_with fail
        go_loopw [79] (fun i wz => ∃ j q : Nat, i = .int .i64 j ∧ j ≤ k ∧ Hid (wz = w2.drewN q)) (fun i _ => k - (intOf i).toNat)
        case atStart => exact ⟨0, 0, rfl, Nat.zero_le _, Lib.hid rfl⟩
        case round =>
          obtain ⟨j, q, rfl, hj, HW⟩ := hrel
          obtain rfl := HW.out
          by_cases hjd : j < k
          · obtain ⟨b1, o, hA, hbl, _, r0, r1⟩ := HX2.out.1.place j hjd
            obtain ⟨b', o', hB, hbl', _, s0, s1⟩ := HX2.out.2.1.place j hjd
            subst hA hB
            have hjd' : (j : Int) < k := by omega
            generalize g R j = y at *
            have e0 : (y.1 == y.1) = true := beq_self_eq_true _
            have e1 : (y.2 == y.2) = true := beq_self_eq_true _
            go_wp2_with fail
            go_quiet (fail)
            go_wp2
            go_roundw
            case rel => exact ⟨j + 1, _, by go_num, by omega, Lib.hid (by first | rfl | (rw [World.drewN_drewN]))⟩
            case measure => simp [intOf]; omega
          · obtain rfl : j = k := by omega
            have HBZ : Hid (Below w.heap.size w (w2.drewN q)) := Lib.hid (by
              have h1 := HX2.out.2.2.2
              exact ⟨h1.os, h1.tape, h1.output, h1.size, h1.block⟩)
            have HLN : Hid (Calls Try.prog 19 #[.pointer (some ⟨b, 0, none⟩)] (w2.drewN q) fun e w' => e = .returned (.int .i64 0) ∧ w2.drewN q = w') := Lib.hid (Len_any (R := []) (Φ := Ψ) (HX2.out.2.2.1.keep (Ψ := fun _ => False) ⟨rfl, rfl, rfl, Nat.le_refl _, fun _ _ _ => rfl⟩ fun _ _ => id))
            go_wp2_with (first
              | (go_at_call 19; refine HLN.out.mono ?_; rintro e w5 ⟨rfl, rfl⟩)
              | (go_at_call 9; refine (HAW.out _).mono ?_; rintro e w7 ⟨rfl, hb⟩; have HB := Lib.hid hb; clear hb))
            go_ret
            exact ⟨rfl, HBZ.out.trans (HB.out.mono HBZ.out.size)⟩
end Go.Proofs.Ytednibjemboclaa
