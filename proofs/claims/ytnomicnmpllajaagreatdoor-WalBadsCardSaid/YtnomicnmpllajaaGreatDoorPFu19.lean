/- What is proved here: the numbers with which a log's Snap and Cut refuse. -/
/- What is proved here: plain facts: what Snap keeps of a log and its files. -/
/- What is proved here: slices.Delete of a log's last records. -/
/- What is proved here: what a log's Cut does. -/
import Derived.Test.YtnomicnmpllajaaGreatDoorPFu10
import Derived.Test.YtnomicnmpllajaaGreatDoorPFu18
import Derived.Test.YtnomicnmpllajaaGreatDoorPFu12
import Derived.Test.YtnomicnmpllajaaGreatDoorPFu13
import Derived.Outline
section
namespace Go.Proofs.YtnomicnmpllajaaGreatDoor
open Go Go.RowKit

section
variable {w0 w w' : World} {Kp : Nat → Prop} {lb d : Nat} {R : Int} {S S' : List RF} {M : LogM} {V : LogV}
set_option maxHeartbeats 800000 in
set_option maxRecDepth 100000 in
theorem Snap_bad (h : WPair w0 Kp lb d R S M V w) (hKp : ∀ k, Kp k → k < w.heap.size) (k : Int) (A : Option Addr) (n c : Nat) (hk : k < M.base ∨ (M.synced : Int) < k) :
    Calls Tryz.prog 29 #[.pointer (some ⟨lb, 0, none⟩), .int .i64 k, .slice A n c] w fun e w' => e = .returned (.int .i64 1) ∧ WPair w0 Kp lb d R S M V w' ∧ Kept Kp w w' := by
  obtain ⟨_, _, _, _, l3, _, _, l6, _⟩ := h.cells
  have HH := Lib.hid h
  have HKP := Lib.hid hKp
  clear h hKp
  by_cases h1 : k < M.base
  · have e1 : decide (k < M.base) = true := decide_eq_true h1
    clear hk
    go_enter Tryz.func29, Tryz.ntmps29
    go_wp2_with fail
    go_ret
    first | exact ⟨rfl, HH.out, fun _ _ => rfl, Nat.le_refl _⟩ | exact ⟨rfl, HH.out.drewN _, Kept.of_below (drewn_below w _) HKP.out⟩
  · have e1 : decide (k < M.base) = false := decide_eq_false h1
    have h2 : (M.synced : Int) < k := by omega
    have e2 : decide ((M.synced : Int) < k) = true := decide_eq_true h2
    clear hk
    go_enter Tryz.func29, Tryz.ntmps29
    go_wp2_with fail
    go_ret
    first | exact ⟨rfl, HH.out, fun _ _ => rfl, Nat.le_refl _⟩ | exact ⟨rfl, HH.out.drewN _, Kept.of_below (drewn_below w _) HKP.out⟩

set_option maxHeartbeats 800000 in
set_option maxRecDepth 100000 in
theorem Snap_full (h : WPair w0 Kp lb d R S M V w) (hKp : ∀ k, Kp k → k < w.heap.size) (k : Int) (A : Option Addr) (n c : Nat) (hk : (M.base : Int) ≤ k ∧ k ≤ M.synced) (hf : 4000 < n ∨ 100000000 ≤ k) :
    Calls Tryz.prog 29 #[.pointer (some ⟨lb, 0, none⟩), .int .i64 k, .slice A n c] w fun e w' => e = .returned (.int .i64 5) ∧ WPair w0 Kp lb d R S M V w' ∧ Kept Kp w w' := by
  obtain ⟨_, _, _, _, l3, _, _, l6, _⟩ := h.cells
  have HH := Lib.hid h
  have HKP := Lib.hid hKp
  clear h hKp
  have e1 : decide (k < M.base) = false := decide_eq_false (by omega)
  have e2 : decide ((M.synced : Int) < k) = false := decide_eq_false (by omega)
  by_cases h1 : 4000 < n
  · have e3 : decide ((4000 : Int) < n) = true := decide_eq_true (by omega)
    clear hk hf
    go_enter Tryz.func29, Tryz.ntmps29
    go_wp2_with fail
    go_ret
    first | exact ⟨rfl, HH.out, fun _ _ => rfl, Nat.le_refl _⟩ | exact ⟨rfl, HH.out.drewN _, Kept.of_below (drewn_below w _) HKP.out⟩
  · have e3 : decide ((4000 : Int) < n) = false := decide_eq_false (by omega)
    have h2 : (100000000 : Int) ≤ k := by omega
    have e4 : decide ((100000000 : Int) ≤ k) = true := decide_eq_true h2
    clear hk hf
    go_enter Tryz.func29, Tryz.ntmps29
    go_wp2_with fail
    go_ret
    first | exact ⟨rfl, HH.out, fun _ _ => rfl, Nat.le_refl _⟩ | exact ⟨rfl, HH.out.drewN _, Kept.of_below (drewn_below w _) HKP.out⟩

set_option maxHeartbeats 800000 in
set_option maxRecDepth 100000 in
theorem Cut_no (h : WPair w0 Kp lb d R S M V w) (hKp : ∀ k, Kp k → k < w.heap.size) (hok : LogOk M) (k : Int) (hk : k < M.base ∨ (M.last : Int) < k) :
    Calls Tryz.prog 30 #[.pointer (some ⟨lb, 0, none⟩), .int .i64 k] w fun e w' => e = .returned (.int .i64 1) ∧ WPair w0 Kp lb d R S M V w' ∧ Kept Kp w w' := by
  obtain ⟨_, _, _, _, l3, _, _, _, _⟩ := h.cells
  have HH := Lib.hid h
  have HKP := Lib.hid hKp
  have HLA := Lib.hid fun W (hW : WPair w0 Kp lb d R S M V W) => hW.Last_ hok
  clear h hKp hok
  by_cases h1 : k < M.base
  · have e1 : decide (k < M.base) = true := decide_eq_true h1
    clear hk
    go_enter Tryz.func30, Tryz.ntmps30
    go_wp2_with (go_at_call 21; refine (HLA.out _ HH.out).mono ?_; rintro e w2 ⟨rfl, h2, hb2⟩; have HP2 := Lib.hid h2; have HB2 := Lib.hid hb2; clear h2 hb2)
    go_ret
    first | exact ⟨rfl, HH.out, fun _ _ => rfl, Nat.le_refl _⟩ | exact ⟨rfl, HH.out.drewN _, Kept.of_below (drewn_below w _) HKP.out⟩
  · have e1 : decide (k < M.base) = false := decide_eq_false h1
    have h2 : (M.last : Int) < k := by omega
    have e2 : decide ((M.last : Int) < k) = true := decide_eq_true h2
    clear hk
    go_enter Tryz.func30, Tryz.ntmps30
    go_wp2_with (go_at_call 21; refine (HLA.out _ HH.out).mono ?_; rintro e w2 ⟨rfl, h2, hb2⟩; have HP2 := Lib.hid h2; have HB2 := Lib.hid hb2; clear h2 hb2)
    go_ret
    first | exact ⟨rfl, HP2.out, Kept.of_below HB2.out HKP.out⟩ | exact ⟨rfl, HP2.out.drewN _, (Kept.of_below HB2.out HKP.out).trans (Kept.of_below (drewn_below _ _) fun i hi => Nat.lt_of_lt_of_le (HKP.out i hi) HB2.out.size)⟩
end
end Go.Proofs.YtnomicnmpllajaaGreatDoor
end

section
namespace Go.Proofs.YtnomicnmpllajaaGreatDoor
open Go Go.RowKit

section
variable {S : List RF} {M : LogM} {G G0 : List SegR} {st : Nat} {g : SegR}
/-- The snapshot's file, in the place of an elder one. -/
def shotF (S : List RF) (k : Nat) (xs : List Int) : List RF := putN RF.nm ⟨snapN, sealF (enc k ++ xs), (sealF (enc k ++ xs)).length⟩ S
theorem nameOk_new : nameOk newN = true := by decide
theorem nameOk_snap : nameOk snapN = true := by decide
theorem new_ne_snap : newN ≠ snapN := by decide
theorem snapF_eq (hS : Rising RF.nm S) (hno : findN S newN = none) {R : Int} {S' : List RF} {k : Nat} {xs : List Int} (h : appendF R S newN (sealF (enc k ++ xs)) = (S', 0)) : snapF S' = shotF S k xs ∧ (syncF S' newN).1.length = S.length + 1 := by
  have h1 := appendF_put h
  rw [oldRF_none hno] at h1
  have h1 : S' = putN RF.nm ⟨newN, sealF (enc k ++ xs), 0⟩ S := h1
  have hf : findN S' newN = some ⟨newN, sealF (enc k ++ xs), 0⟩ := by rw [h1, findN_put hS, if_pos rfl]
  have h2 : (syncF S' newN).1 = putN RF.nm ⟨newN, sealF (enc k ++ xs), (sealF (enc k ++ xs)).length⟩ S := by
    rw [syncF_put hf, h1]
    exact putN_put hS rfl
  have hf2 : findN (syncF S' newN).1 newN = some ⟨newN, sealF (enc k ++ xs), (sealF (enc k ++ xs)).length⟩ := by rw [h2, findN_put hS, if_pos rfl]
  refine ⟨?_, ?_⟩
  · unfold snapF renameF
    rw [hf2]
    simp only
    rw [if_neg (by rw [nameOk_snap]; simp), if_neg new_ne_snap, h2]
    unfold shotF
    have h3 : delN RF.nm newN (putN RF.nm ⟨newN, sealF (enc k ++ xs), (sealF (enc k ++ xs)).length⟩ S) = S := delN_put (x := ⟨newN, sealF (enc k ++ xs), (sealF (enc k ++ xs)).length⟩) hS hno
    rw [h3]
  · rw [h2]
    unfold putN
    rw [length_insN, delN_none (findN_none hno)]
/-- A snapshot, ahead of what is removed. -/
theorem LI.shoot (h : LI S M G st) {k : Nat} {xs : List Int} (hk1 : M.base ≤ k) (hk2 : k ≤ M.synced) (hx : ∀ x ∈ xs, 0 ≤ x ∧ x < 256) (hn : xs.length ≤ 4000) :
    LI (shotF S k xs) { M with recs := M.recs.drop (k - M.base), base := k, shot := xs } G st := by
  have hs := h.sync
  have hl : LogM.last { M with recs := M.recs.drop (k - M.base), base := k, shot := xs } = M.last := by
    unfold LogM.last at hs ⊢
    simp only [List.length_drop]
    omega
  have hst := h.start
  exact {
    rise := h.rise.putN _
    size := h.size
    segs := h.segs
    runs := by rw [hl]; exact h.runs
    start := ⟨hst.1, by show st ≤ k + 1; omega⟩
    full := h.full
    recs := by
      show M.recs.drop (k - M.base) = (recsR G).drop (k + 1 - st)
      rw [h.recs, List.drop_drop]
      congr 1
      omega
    file := fun x hx => (h.file x hx).put h.rise (seg_ne_snap _)
    names := by
      show logsOf (shotF S k xs) = _
      unfold shotF
      rw [logs_put_other h.rise isLog_snap]
      exact h.names
    other := h.keepOther (.inr rfl)
    snap := .inr ⟨⟨snapN, sealF (enc k ++ xs), (sealF (enc k ++ xs)).length⟩, by unfold shotF; rw [findN_put h.rise, if_pos rfl], rfl, rfl⟩
    sync := ⟨hk2, by rw [hl]; exact hs.2.1, hs.2.2⟩
    many := by rw [hl]; exact h.many
    bytes := h.bytes
    byt := h.byt
    shot := ⟨hn, hx⟩ }
/-- A segment less. -/
theorem LI.less {r : List SegR} (h : LI S M (g :: r) st) (hr : r ≠ []) (hk : ∀ x, r.head? = some x → x.k ≤ M.base + 1) : LI (removeF S (segName g.k)).1 { M with segs := M.segs.drop 1 } r (st + g.rs.length) := by
  obtain ⟨f, hf, _⟩ := h.file g (List.mem_cons_self ..)
  have e : (removeF S (segName g.k)).1 = delN RF.nm (segName g.k) S := by unfold removeF; rw [hf]
  obtain ⟨r1, r2⟩ := h.runs
  have hgd : g.rs ≠ [] := h.full g (by cases r with
    | nil => exact absurd rfl hr
    | cons y ys => exact List.mem_cons_self ..)
  have hlt : ∀ x ∈ r, g.k < x.k := fun x hx => by
    have h1 := (r2.in_ x hx).1
    have h2 := List.length_pos_iff.2 hgd
    omega
  have hne : ∀ x ∈ r, segName x.k ≠ segName g.k := fun x hx e => by
    have h1 := hlt x hx
    have := (segName_inj (h.lt (List.mem_cons_of_mem _ hx)) (h.lt (List.mem_cons_self ..))).1 e
    omega
  have hst := h.start
  have hfst : st + g.rs.length ≤ M.base + 1 := by
    cases r with
    | nil => exact absurd rfl hr
    | cons y ys =>
      have := hk y rfl
      have h3 : y.k = st + g.rs.length := r2.1
      omega
  rw [e]
  exact {
    rise := h.rise.delN _
    size := h.size
    segs := by
      show M.segs.drop 1 = _
      rw [h.segs]
      rfl
    runs := r2
    start := ⟨by omega, hfst⟩
    full := fun x hx => h.full x (by cases r with
      | nil => exact absurd rfl hr
      | cons y ys => exact List.mem_cons_of_mem _ hx)
    recs := by
      show M.recs = (recsR r).drop (M.base + 1 - (st + g.rs.length))
      have e2 : recsR (g :: r) = g.rs ++ recsR r := by simp [recsR]
      rw [h.recs, e2, List.drop_append, List.drop_of_length_le (l := g.rs) (by omega), List.nil_append]
      congr 1
      omega
    file := fun x hx => by
      obtain ⟨f2, a, b⟩ := h.file x (List.mem_cons_of_mem _ hx)
      exact ⟨f2, by rw [findN_del h.rise, if_neg (hne x hx)]; exact a, b⟩
    names := by
      rw [logs_del h.rise, h.names, List.map_cons, List.filter_cons, if_neg (by simp), List.filter_eq_self.2]
      intro n hn
      obtain ⟨x, hx, rfl⟩ := List.mem_map.1 hn
      simpa using hne x hx
    other := fun x hx => h.other x (mem_delN.1 hx).1
    snap := by
      rw [findN_del h.rise, if_neg fun e => seg_ne_snap g.k e.symm]
      exact h.snap
    sync := ⟨h.sync.1, h.sync.2.1, fun x hx => h.sync.2.2 x (List.mem_cons_of_mem _ hx)⟩
    many := h.many
    bytes := fun x hx => h.bytes x (List.mem_cons_of_mem _ hx)
    byt := fun x hx => h.byt x (List.mem_cons_of_mem _ hx)
    shot := h.shot }
theorem LI.gone : ∀ {G : List SegR} {S : List RF} {M : LogM} {st : Nat}, LI S M G st → ∃ st', LI (removes S (M.segs.take (goneN M.segs M.base))) { M with segs := M.segs.drop (goneN M.segs M.base) } (G.drop (goneN M.segs M.base)) st'
  | [], S, M, st, h => by
    have e : M.segs = [] := h.segs
    have e2 : goneN M.segs M.base = 0 := by rw [e]; rfl
    rw [e2]
    exact ⟨st, h⟩
  | [g], S, M, st, h => by
    have e : M.segs = [(g.k, (bytesR g.rs).length)] := h.segs
    have e2 : goneN M.segs M.base = 0 := by rw [e]; rfl
    rw [e2]
    exact ⟨st, h⟩
  | g :: y :: r, S, M, st, h => by
    have e : M.segs = (g.k, (bytesR g.rs).length) :: (y.k, (bytesR y.rs).length) :: segsR r := h.segs
    have e2 : goneN M.segs M.base = if y.k ≤ M.base + 1 then goneN (M.segs.drop 1) M.base + 1 else 0 := by rw [e]; rfl
    by_cases c : y.k ≤ M.base + 1
    · rw [if_pos c] at e2
      have h1 := h.less (by simp) fun x hx => by
        cases hx
        exact c
      obtain ⟨st', h2⟩ := LI.gone h1
      refine ⟨st', ?_⟩
      rw [e2]
      have e3 : M.segs.take (goneN (M.segs.drop 1) M.base + 1) = (g.k, (bytesR g.rs).length) :: (M.segs.drop 1).take (goneN (M.segs.drop 1) M.base) := by rw [e]; rfl
      have e4 : M.segs.drop (goneN (M.segs.drop 1) M.base + 1) = (M.segs.drop 1).drop (goneN (M.segs.drop 1) M.base) := by rw [List.drop_drop, Nat.add_comm]
      rw [e3, e4]
      exact h2
    · rw [if_neg c] at e2
      rw [e2]
      exact ⟨st, h⟩
/-- Behind a Snap that is done. -/
def stepP (S : List RF) (M : LogM) (k : Nat) (xs : List Int) : List RF × LogM :=
  (removes (shotF S k xs) (M.segs.take (goneN M.segs k)), { M with recs := M.recs.drop (k - M.base), base := k, shot := xs, segs := M.segs.drop (goneN M.segs k) })
theorem LI.stepP (h : LI S M G st) {k : Nat} {xs : List Int} (hk1 : M.base ≤ k) (hk2 : k ≤ M.synced) (hx : ∀ x ∈ xs, 0 ≤ x ∧ x < 256) (hn : xs.length ≤ 4000) : ∃ G' st', LI (stepP S M k xs).1 (stepP S M k xs).2 G' st' := by
  obtain ⟨st', h1⟩ := (h.shoot hk1 hk2 hx hn).gone
  exact ⟨_, st', h1⟩
end

section
variable {w0 w w' : World} {Kp : Nat → Prop} {lb d : Nat} {R : Int} {S : List RF} {M : LogM} {V : LogV} {G : List SegR} {st : Nat}
def fitsN (R : Int) (S : List RF) (k : Nat) (xs : List Int) : Prop := xs.length ≤ 4000 ∧ ((usedN S + (sealF (enc k ++ xs)).length : Nat) : Int) ≤ R
theorem Snap_li (h : WPair w0 Kp lb d R S M V w) (hL : LI S M G st) (hKp : ∀ k, Kp k → k < w.heap.size) (ht : Tab w0) {A : Option Addr} {n c : Nat} {xs : List Int} (hr : Rd w w.heap.size .u8 A n c xs) (hx : ∀ x ∈ xs, 0 ≤ x ∧ x < 256) (hA : ∀ a, A = some a → 0 < n → Kp a.block) {k : Nat} (hk1 : M.base ≤ k) (hk2 : k ≤ M.synced) (hf : fitsN R S k xs) :
    Calls Tryz.prog 29 #[.pointer (some ⟨lb, 0, none⟩), .int .i64 k, .slice A n c] w (LSaid w0 Kp lb d R (stepP S M k xs).1 (stepP S M k xs).2 0 w) := by
  have hlen : xs.length = n := hr.len
  have hm := hL.many
  have hs := hL.sync
  have hfew := hL.few
  obtain ⟨hn, hfit⟩ := hf
  have hap : appendF R S newN (sealF (enc k ++ xs)) = (putN RF.nm ⟨newN, (oldRF S newN).b ++ sealF (enc k ++ xs), (oldRF S newN).s⟩ S, 0) := by
    unfold appendF
    rw [if_neg (by rw [nameOk_new]; simp), if_neg (by omega)]
  obtain ⟨h1, h2⟩ := snapF_eq hL.rise hL.nonew hap
  have hfew2 : S.length ≤ 999999 := hL.fewer
  refine (Snap_ok h hKp ht hL.ok hr hx hA (by omega) hk1 hk2 (by omega) (by omega) hfew hap (by rw [h2]; omega)).mono fun e' w' ⟨h4, V', h5, h6⟩ => ⟨h4, Lib.hid ⟨V', ?_, h6⟩⟩
  rw [h1] at h5
  exact h5
theorem Snap_li_no (h : WPair w0 Kp lb d R S M V w) (hL : LI S M G st) (hKp : ∀ k, Kp k → k < w.heap.size) {A : Option Addr} {n c : Nat} {xs : List Int} (hr : Rd w w.heap.size .u8 A n c xs) (hx : ∀ x ∈ xs, 0 ≤ x ∧ x < 256) {k : Nat} (hk1 : M.base ≤ k) (hk2 : k ≤ M.synced) (hf : ¬ fitsN R S k xs) :
    Calls Tryz.prog 29 #[.pointer (some ⟨lb, 0, none⟩), .int .i64 k, .slice A n c] w (LSaid w0 Kp lb d R S M 5 w) := by
  have hlen : xs.length = n := hr.len
  have hm := hL.many
  have hs := hL.sync
  by_cases hn : 4000 < n
  · exact (Snap_full h hKp k A n c ⟨by omega, by omega⟩ (.inl hn)).mono fun e' w' ⟨h4, h5, h6⟩ => ⟨h4, Lib.hid ⟨V, h5, h6⟩⟩
  · have hap : appendF R S newN (sealF (enc k ++ xs)) = (S, 5) := by
      unfold appendF
      rw [if_neg (by rw [nameOk_new]; simp), if_pos (by
        unfold fitsN at hf
        rw [not_and] at hf
        have := hf (by omega)
        omega)]
    exact (Snap_room h hKp hr hx (by omega) hk1 hk2 (by omega) hL.few hap (by decide)).mono fun e' w' ⟨h4, h5, h6⟩ => ⟨h4, Lib.hid ⟨V, h5, h6⟩⟩
end
end Go.Proofs.YtnomicnmpllajaaGreatDoor
end

section
namespace Go.Proofs.YtnomicnmpllajaaGreatDoor
open Go Go.RowKit Go.Lib

theorem zero_rec (w : World) : (zeroValue 33).run Tryz.prog w = .ok (.slice none 0 0) w := by kernel_rfl
set_option maxHeartbeats 3200000 in
set_option maxRecDepth 100000 in
theorem DeleteRecs_any {w : World} {A : Option Addr} {n c i : Nat} {xs : List Value} (h : w.ownsRow 0 33 1 (.slice A n c) n xs) (hi : i ≤ n) :
    Calls Tryz.prog 61 #[.slice A n c, .int .i64 i, .int .i64 n] w fun e w' => e = .returned (.slice A i c) ∧ Hid (w'.ownsRow 0 33 1 (.slice A i c) i (xs.take i) ∧ Chg (fun i => ∃ a, A = some a ∧ a.block = i) w w') := by
  by_cases hin : i = n
  · subst hin
    have hh : Hid (w.ownsRow 0 33 1 (.slice A i c) i (xs.take i)) := Lib.hid (by rw [List.take_of_length_le (by rw [h.1]; omega)]; exact h)
    have hcm : i ≤ c ∧ c ≤ 9223372036854775807 := by
      rcases h.2 with ⟨e, h2⟩ | ⟨g, cap, cur, e, _, _, h4, h5, _⟩
      · have e2 : c = 0 := (Value.slice.inj e).2.2
        omega
      · have e2 : c = cap := (Value.slice.inj e).2.2
        unfold maxLen at h5
        omega
    clear h
    go_enter Tryz.func61, Tryz.ntmps61
    go_wp2_with fail
    go_ret
    exact ⟨rfl, Lib.hid ⟨hh.out, Chg.of_below (Below.refl _ _)⟩⟩
  · have hlt : i < n := by omega
    have hown := h
    obtain ⟨hl, h⟩ := h
    rcases h with ⟨_, h2⟩ | ⟨g, cap, cur, h1, _, h3, h4, h5, h6, h7⟩
    · omega
    cases h1
    unfold maxLen at h5
    rw [Nat.mul_one] at hl h6 h7
    obtain ⟨B, hB, hsrc⟩ : ∃ B : Addr, (if c = n then some (⟨g, 0, none⟩ : Addr) else some ⟨g, n, none⟩) = some B ∧ Hid (∀ t u, ([] : List Value)[t]? = some u → w.drew.cell? (B.add t) = some u) := by
      by_cases e : c = n
      · exact ⟨⟨g, 0, none⟩, by simp [e], Lib.hid fun t u hu => by simp at hu⟩
      · exact ⟨⟨g, n, none⟩, by simp [e], Lib.hid fun t u hu => by simp at hu⟩
    have s1 : Hid (([] : List Value).length = 0 * 1) := Lib.hid rfl
    have s2 : Hid (∀ u ∈ ([] : List Value), u.oneCell' = true) := Lib.hid fun u hu => by simp at hu
    have s3 : Hid (∀ t, t < ([] : List Value).length → (w.drew.cell? ⟨g, 0 + i * 1 + t, none⟩).isSome = true ∧ w.drew.frozen? ⟨g, 0 + i * 1 + t, none⟩ = false) := Lib.hid fun t ht => by simp at ht
    obtain ⟨W1, hW1⟩ : ∃ W1, W1 = w.drew := ⟨_, rfl⟩
    have hW : Hid (W1 = w.drew.setCells g (0 + i * 1) []) := Lib.hid hW1
    have hW1s : ∀ k, k < n → (W1.cell? ⟨g, k, none⟩).isSome = true ∧ W1.frozen? ⟨g, k, none⟩ = false := fun k hk => by
      have e1 : W1.heap[g]? = some (.cells cur 33 (0, 0)) := by rw [hW1]; exact h3
      refine ⟨?_, by simp [World.frozen?, e1]⟩
      rw [cell_of_row _ _ _ _ _ _ e1]
      have : k < cur.size := by rw [h6]; omega
      simp [this]
    have hcl : ∀ ty, (Builtin.clear_ #[34] ty #[.slice (some ⟨g, i, none⟩) (n - i) (c - i)]).run Tryz.prog W1 = .ok (.tuple #[]) (W1.setCells g i (List.replicate (n - i) (.slice none 0 0))) := fun ty =>
      Lib.run_clear_slice W1 _ _ ty _ Tryz.underlying34 zero_rec (by kernel_rfl) rfl g i _ _ (by omega) (fun t ht => (hW1s _ (by omega)).1) (fun t ht => (hW1s _ (by omega)).2)
    have HFIN : Hid ((W1.setCells g i (List.replicate (n - i) (.slice none 0 0))).ownsRow 0 33 1 (.slice (some ⟨g, 0, none⟩) i c) i (xs.take i) ∧ Chg (fun i => ∃ a, some (⟨g, 0, none⟩ : Addr) = some a ∧ a.block = i) w (W1.setCells g i (List.replicate (n - i) (.slice none 0 0)))) := Lib.hid (by
      obtain ⟨c1, e1, e2, e3⟩ := heap_setCells (List.replicate (n - i) (Value.slice none 0 0)) i w.drew cur h3 (by rw [List.length_replicate, h6]; omega)
      rw [hW1]
      refine ⟨⟨by rw [List.length_take, hl]; omega, .inr ⟨g, c, c1, rfl, Nat.zero_le _, e1, by omega, h5, by rw [e2, h6, Nat.mul_one], ?_⟩⟩, ?_⟩
      · rw [Nat.mul_one]
        apply List.ext_getElem?
        intro k
        by_cases hk : k < i
        · rw [List.getElem?_take, if_pos hk, Array.getElem?_toList, e3 k (by omega), if_neg (by omega), List.getElem?_take, if_pos hk, ← h7, List.getElem?_take, if_pos (by omega), Array.getElem?_toList]
        · rw [List.getElem?_take, if_neg hk, List.getElem?_take, if_neg hk]
      · have c1 : Chg (fun i => i = g) w w.drew := Chg.of_below (Below.refl _ _).drew
        exact (c1.trans (chg_setCells (b := g) (List.replicate (n - i) (Value.slice none 0 0)) i w.drew) fun _ _ h => h).mono fun i _ hi => ⟨_, rfl, hi.symm⟩)
    obtain ⟨i0, hi0, hz0, hz1, hz2⟩ := info_parts info_row
    have hnc : n ≤ c := h4
    have hic : i ≤ c := by omega
    clear hown hl h3 h6 h7 hW1 hW1s
    go_enter Tryz.func61, Tryz.ntmps61
    go_wp2_with fail
    go_region_law (refine step_append_room rfl (.tmp 22) (.tmp 25) 34 rfl 33 i0 1 Tryz.underlying34 hi0 hz1 g 0 i c (by simp [Act.eval, Act.put]) B 0 (c - n) [] (by simp [Act.eval, Act.put]) s1.out hsrc.out s2.out (by omega) s3.out ?_; rw [← hW.out])
    go_wp2
    go_ret
    first | exact ⟨rfl, HFIN⟩ | exact ⟨by simp, HFIN⟩
theorem recC_take : ∀ (rv : List (Option Addr × Nat)) (l : List (List Int)) (q : Nat), recC (rv.take q) (l.take q) = (recC rv l).take q
  | rv, l, 0 => by simp [recC]
  | [], l, q + 1 => by simp [recC]
  | x :: rv, [], q + 1 => by simp [recC]
  | x :: rv, y :: l, q + 1 => by
    have := recC_take rv l q
    simpa [recC] using this
section
variable {w0 w : World} {Kp : Nat → Prop} {lb d : Nat} {R : Int} {S : List RF} {M : LogM} {V : LogV}
/-- What slices.Delete makes of a log's records behind the first q. -/
theorem WPair.cutRecs (h : WPair w0 Kp lb d R S M V w) (hKp : ∀ k, Kp k → k < w.heap.size) {q : Nat} (hq : q ≤ M.recs.length) :
    Calls Tryz.prog 61 #[.slice V.rA M.recs.length V.rC, .int .i64 q, .int .i64 M.recs.length] w fun e w' => e = .returned (.slice V.rA q V.rC) ∧ w'.cell? ⟨lb, 5, none⟩ = some (.slice V.rA M.recs.length V.rC) ∧ w'.frozen? ⟨lb, 5, none⟩ = false ∧
      Hid (∃ V2, WPair w0 Kp lb d R S { M with recs := M.recs.take q } V2 (w'.setCell ⟨lb, 5, none⟩ (.slice V.rA q V.rC)) ∧ Kept Kp w (w'.setCell ⟨lb, 5, none⟩ (.slice V.rA q V.rC))) := by
  obtain ⟨Φ, Λ, hlog, _⟩ := h.ex
  refine (DeleteRecs_any hlog.recs hq).mono ?_
  rintro e w' ⟨rfl, hDD⟩
  obtain ⟨ho, hc⟩ := hDD.out
  have hne : ¬ ∃ x, V.rA = some x ∧ x.block = lb := fun ⟨x, e, hb⟩ => hlog.apart.2.1 x e hb
  have hblk := hc.heap hlog.blk hne
  have hlen : (M.recs.take q).length = q := by rw [List.length_take]; omega
  have hp := h.putRecs (w99 := w') (l := M.recs.take q) (rv' := V.rv.take q) (A' := V.rA) (c' := V.rC) hKp (by rw [List.length_take, List.length_take, hlog.rlen]) (by rw [hlen, recC_take]; exact ho) (fun j p xs h1 h2 => by
    rw [List.getElem?_take] at h1 h2
    by_cases e : j < q
    · rw [if_pos e] at h1 h2
      exact ⟨j, h1, h2⟩
    · rw [if_neg e] at h1
      cases h1) hc (fun _ hi => hi) (fun x e => ⟨x, e, rfl⟩)
  rw [hlen] at hp
  refine ⟨rfl, ?_, by simp [World.frozen?, hblk], Lib.hid ⟨_, hp⟩⟩
  rw [cell_of_row _ _ _ _ _ _ hblk]
  rfl
end
end Go.Proofs.YtnomicnmpllajaaGreatDoor
end

section
namespace Go.Proofs.YtnomicnmpllajaaGreatDoor
open Go Go.RowKit

/-- How many bytes the frames of records have. -/
def cutN (l : List (List Int)) : Nat := (l.map fun xs => 6 + xs.length).sum
theorem cutN_snoc (l : List (List Int)) (xs : List Int) : cutN (l ++ [xs]) = cutN l + (6 + xs.length) := by simp [cutN]
theorem cutN_append (l m : List (List Int)) : cutN (l ++ m) = cutN l + cutN m := by simp [cutN]
theorem cutN_take (l : List (List Int)) (n : Nat) : cutN (l.take n) ≤ cutN l := by
  have : cutN l = cutN (l.take n ++ l.drop n) := by rw [List.take_append_drop]
  rw [this, cutN_append]
  omega
theorem cutN_more {l : List (List Int)} {v : Nat} {xs : List Int} (h : l[v]? = some xs) : cutN (l.take (v + 1)) = cutN (l.take v) + (6 + xs.length) := by
  rw [List.take_add_one, h, Option.toList_some, cutN_snoc]
/-- Where the records of the segment that stays end. -/
def EndAt (M : LogM) (j t : Nat) : Prop := (j = M.segs.length ∧ t = M.recs.length) ∨ ∃ s, M.segs[j]? = some s ∧ M.base + t + 1 = s.1
/-- What Cut leaves. -/
def CutTo (M : LogM) (k : Nat) (S : List RF) (M' : LogM) (S' : List RF) : Prop :=
  ∃ j, j ≤ M.segs.length ∧ (∀ i s, j ≤ i → M.segs[i]? = some s → k < s.1) ∧
    ((j = 0 ∧ M' = { M with segs := [], recs := M.recs.take (k - M.base), synced := k } ∧ S' = removes S M.segs.reverse) ∨
     (∃ i s n t, j = i + 1 ∧ M.segs[i]? = some s ∧ s.1 ≤ k ∧ EndAt M j t ∧ n + cutN ((M.recs.take t).drop (k - M.base)) = s.2 ∧
       M' = { M with segs := (M.segs.take j).set i (s.1, n), recs := M.recs.take (k - M.base), synced := k } ∧ S' = (cutF (removes S (M.segs.drop j).reverse) (nameS s.1).data.toList n).1))

def CutSaid (w0 : World) (Kp : Nat → Prop) (lb d : Nat) (R : Int) (S : List RF) (M : LogM) (k : Nat) (w : World) (e : Ending) (w' : World) : Prop :=
  e = .returned (.int .i64 0) ∧ ∃ S' M' V', WPair w0 Kp lb d R S' M' V' w' ∧ Kept Kp w w' ∧ CutTo M k S M' S'

section
variable {w0 w wr w' : World} {Kp Kp' : Nat → Prop} {lb d : Nat} {R : Int} {S S' : List RF} {M : LogM} {V : LogV}
theorem WPair.rec_ (h : WPair w0 Kp lb d R S M V w) {j : Nat} {xs : List Int} (hj : M.recs[j]? = some xs) {a : Addr} (ha : V.rA = some a) : a = ⟨a.block, 0, none⟩ ∧ ∃ p c, w.cell? ⟨a.block, j, none⟩ = some (.slice p xs.length c) ∧ xs.length ≤ 1048576 ∧ xs.length ≤ c ∧ c ≤ 9223372036854775807 := by
  obtain ⟨Φ, Λ, hl, _⟩ := h.ex
  have hjl := (List.getElem?_eq_some_iff.1 hj).1
  obtain ⟨p, hp⟩ : ∃ p, V.rv[j]? = some p := ⟨_, List.getElem?_eq_getElem (by rw [hl.rlen]; exact hjl)⟩
  have hb := hl.each j p xs hp hj
  obtain ⟨g, c, e⟩ : ∃ g c, Value.slice V.rA M.recs.length V.rC = .slice (some ⟨g, 0, none⟩) M.recs.length c := by
    rcases hl.recs.2 with ⟨_, h0⟩ | ⟨g, cap, cur, h1, _⟩
    · omega
    · exact ⟨g, cap, h1⟩
  have e1 := (Value.slice.inj e).1
  rw [ha] at e1
  obtain rfl := Option.some.inj e1
  have := hl.recs.cells (g := g) (by rw [e]; rfl) j _ (recC_at hp hj)
  have hm := hb.rd.max
  unfold maxLen at hm
  refine ⟨rfl, p.1, p.2, ?_, hb.len, hb.rd.cap, by omega⟩
  simpa [Addr.add_lit] using this
set_option maxHeartbeats 25600000 in
set_option maxRecDepth 100000 in
theorem Cut_ok (h : WPair w0 Kp lb d R S M V w) (hKp : ∀ k, Kp k → k < w.heap.size) (ht : Tab w0) (hk : LogOk M) {k : Nat} (hk1 : M.base ≤ k) (hk2 : k ≤ M.last) (hfst : ∀ s ∈ M.segs, s.1 ≤ M.last + 1) (hby : ∀ i s t, M.segs[i]? = some s → s.1 ≤ k → EndAt M (i + 1) t → cutN ((M.recs.take t).drop (k - M.base)) ≤ s.2) :
    Calls Tryz.prog 30 #[.pointer (some ⟨lb, 0, none⟩), .int .i64 k] w (CutSaid w0 Kp lb d R S M k w) := by
  obtain ⟨l8, l0, _, _, l3, _, l5, l6, lf⟩ := h.cells
  have HLA := Lib.hid fun W (hW : WPair w0 Kp lb d R S M V W) => hW.Last_ hk
  have HP0 := Lib.hid h
  have d1 : decide ((k : Int) < M.base) = false := decide_eq_false (by omega)
  have d1' : decide (k < M.base) = false := decide_eq_false (by omega)
  have d2 : decide ((M.last : Int) < k) = false := decide_eq_false (by omega)
  have d2' : decide (M.last < k) = false := decide_eq_false (by omega)
  go_enter Tryz.func30, Tryz.ntmps30
  have HL0 : Hid (∀ W, WPair w0 Kp lb d R S M V W → Calls Tryz.prog 53 #[.pointer (some ⟨lb, 0, none⟩)] W fun e w' => ∃ p, e = .returned (.pointer p) ∧ WPair w0 Kp lb d R S M V w' ∧ Below W.heap.size W w' ∧ ((M.segs.length = 0 ∧ p = none) ∨ ∃ j g, M.segs.length = j + 1 ∧ V.sA = some ⟨g, 0, none⟩ ∧ p = some ⟨g, j * 2, none⟩)) := Lib.hid fun W hW => by
    cases hj : M.segs.length with
    | zero =>
      refine (hW.last0_ (List.eq_nil_of_length_eq_zero hj)).mono ?_
      rintro e w' ⟨rfl, h1, h2⟩
      exact ⟨none, rfl, h1, h2, .inl ⟨rfl, rfl⟩⟩
    | succ j =>
      obtain ⟨g, hg⟩ := hW.row (k := j) (List.getElem?_eq_getElem (by omega))
      refine (hW.last_ hk hj hg).mono ?_
      rintro e w' ⟨rfl, h1, h2⟩
      exact ⟨_, rfl, h1, h2, .inr ⟨j, g, rfl, hg, rfl⟩⟩
  go_upto_region 3 with (go_at_call 21; refine (HLA.out _ HP0.out).mono ?_; rintro e w2 ⟨rfl, h2, hb2⟩; have HP2 := Lib.hid h2; have HB2 := Lib.hid hb2; clear h2 hb2 HP0)
  go_wp2_with (first
    | (go_at_call 21; refine (HLA.out _ HP2.out).mono ?_; rintro e w3 ⟨rfl, h3, hb3⟩; have HP3 := Lib.hid h3; have HB3 := Lib.hid (HB2.out.trans (hb3.mono HB2.out.size)); clear h3 hb3 HP2 HB2)
    | (go_at_call 53; refine (HL0.out _ HP3.out).mono ?_; rintro e w4 ⟨p, rfl, h4, hb4, hp4⟩; have HP4 := Lib.hid h4; have HB4 := Lib.hid (HB3.out.trans (hb4.mono HB3.out.size)); have HPP := Lib.hid hp4; clear h4 hb4 hp4 HP3 HB3))
  have hlast : M.last = M.base + M.recs.length := rfl
  have hlb := hk.base
  have hlr := hk.recn
  have HKP : Hid (∀ W, Kept Kp w W → ∀ i, Kp i → i < W.heap.size) := Lib.hid fun W hW i hi => Nat.lt_of_lt_of_le (hKp i hi) hW.2
  have hlast2 : M.last < 1000000000 := by omega
  have HLAST := Lib.hid hlast
  obtain ⟨q, hq⟩ : ∃ q, q = k - M.base := ⟨_, rfl⟩
  obtain ⟨r, hr⟩ : ∃ r, r = M.recs.length := ⟨_, rfl⟩
  have HR := Lib.hid hr
  have HQ := Lib.hid hq
  have hqr : q ≤ r := by omega
  have hqi : (k : Int) - (M.base : Int) = (q : Int) := by omega
  have hwq : IntKind.i64.wrap (q : Int) = (q : Int) := IntWalk.i64_in _ (by omega)
  have HCR : Hid (∀ W S1 M1, WPair w0 Kp lb d R S1 M1 V W → M1.recs = M.recs → Kept Kp w W → Calls Tryz.prog 61 #[.slice V.rA r V.rC, .int .i64 q, .int .i64 r] W.drew fun e w' => e = .returned (.slice V.rA q V.rC) ∧ w'.cell? ⟨lb, 5, none⟩ = some (.slice V.rA r V.rC) ∧ w'.frozen? ⟨lb, 5, none⟩ = false ∧
      Hid (∃ V2, WPair w0 Kp lb d R S1 { M1 with recs := M.recs.take q } V2 (w'.setCell ⟨lb, 5, none⟩ (.slice V.rA q V.rC)) ∧ Kept Kp w (w'.setCell ⟨lb, 5, none⟩ (.slice V.rA q V.rC)))) := Lib.hid fun W S1 M1 hW hrec hKW => by
    have hb := (Below.refl W.heap.size W).drew
    have hKd := hKW.trans (Kept.of_below hb (HKP.out W hKW))
    have := (hW.later hb).cutRecs (HKP.out _ hKd) (q := q) (by rw [hrec]; omega)
    rw [hrec, ← hr] at this
    refine this.mono ?_
    rintro e w' ⟨rfl, h5, h6, h7⟩
    obtain ⟨V2, h8, h9⟩ := h7.out
    exact ⟨rfl, h5, h6, Lib.hid ⟨V2, h8, hKd.trans h9⟩⟩
  clear hq hr
  have HSTART : Hid (WPair w0 Kp lb d R (removes S (M.segs.drop M.segs.length).reverse) { M with segs := M.segs.take M.segs.length } V w4 ∧ Kept Kp w w4) := Lib.hid (by
    rw [List.drop_length, List.take_length]
    exact ⟨HP4.out, Kept.of_below HB4.out hKp⟩)
  clear hlast HP4 HB4 HLA HL0 l0 l3 l5 l6 l8 lf h
  go_loopw [5, 6] (fun ev sv wr => ∃ (e : Nat) (p : Option Addr) (j : Nat), ev = .int .i64 e ∧ sv = .pointer p ∧ j ≤ M.segs.length ∧ e < 1000000000 ∧ Hid ((j = 0 ∧ p = none) ∨ ∃ i g, j = i + 1 ∧ V.sA = some ⟨g, 0, none⟩ ∧ p = some ⟨g, i * 2, none⟩) ∧ Hid ((j = M.segs.length ∧ e = M.last) ∨ ∃ s, M.segs[j]? = some s ∧ e + 1 = s.1) ∧ Hid (∀ i s, j ≤ i → M.segs[i]? = some s → k < s.1) ∧ Hid (WPair w0 Kp lb d R (removes S (M.segs.drop j).reverse) { M with segs := M.segs.take j } V wr ∧ Kept Kp w wr)) (fun _ sv _ => match sv with | .pointer (some a) => a.off / 2 + 1 | _ => 0)
  case atStart => exact ⟨M.last, p, M.segs.length, rfl, rfl, Nat.le_refl _, hlast2, Lib.hid (by rcases HPP.out with ⟨h1, h2⟩ | ⟨j, g, h1, h2, h3⟩; exact .inl ⟨h1, h2⟩; exact .inr ⟨j, g, h1, h2, h3⟩), Lib.hid (.inl ⟨rfl, rfl⟩), Lib.hid (fun i s hi h => by have := (List.getElem?_eq_some_iff.1 h).1; omega), HSTART⟩
  case round =>
    clear HSTART HPP
    obtain ⟨e, p, j, rfl, rfl, hj, he, HPP, HEE, HGT, HW⟩ := hrel
    rcases HPP.out with ⟨rfl, rfl⟩ | ⟨i, g, rfl, hg, rfl⟩
    · have hk' : LogOk { M with segs := M.segs.take 0 } := ⟨hk.size, by simp, hk.recn, hk.base, fun s h => by simp at h, hk.synced⟩
      have HL9 : Hid (Calls Tryz.prog 53 #[.pointer (some ⟨lb, 0, none⟩)] wr fun e w' => e = .returned (.pointer none) ∧ WPair w0 Kp lb d R (removes S (M.segs.drop 0).reverse) { M with segs := M.segs.take 0 } V w' ∧ Below wr.heap.size wr w') := Lib.hid (HW.out.1.last0_ (by simp))
      go_wp2_with (go_at_call 53; refine HL9.out.mono ?_; rintro e w5 ⟨rfl, h5, hb5⟩; have HP5 := Lib.hid h5; have HK5 := Lib.hid (HW.out.2.trans (Kept.of_below hb5 (HKP.out _ HW.out.2))); clear h5 hb5 HW; obtain ⟨_, _, _, _, z3, _, z5, z6, zf⟩ := HP5.out.cells)
      have HCX := Lib.hid (HCR.out w5 _ _ HP5.out rfl HK5.out)
      rw [← HR.out] at z5
      go_region_with (go_at_call 61; refine HCX.out.mono ?_; rintro e w6 ⟨rfl, y5, yf, HF⟩)
      all_goals
        obtain ⟨V2, h8, h9⟩ := HF.out
        have HP8 := Lib.hid h8
        have HK8 := Lib.hid h9
        clear h8 h9 HF z3 z5 z6 zf y5 yf
        generalize w6.setCell ⟨lb, 5, none⟩ (.slice V.rA q V.rC) = w7 at *
        obtain ⟨_, _, _, _, _, _, _, z6, zf⟩ := HP8.out.cells
        obtain ⟨h9, k9⟩ := HP8.out.setSynced k
        have HP9 := Lib.hid h9
        have HK9 := Lib.hid (HK8.out.trans k9)
        clear h9 k9
        have HE : Hid (CutSaid w0 Kp lb d R S M k w (.returned (.int .i64 0)) (w7.setCell ⟨lb, 6, none⟩ (.int .i64 k))) := Lib.hid ⟨rfl, _, _, V2, HP9.out, HK9.out, 0, Nat.zero_le _, HGT.out, .inl ⟨rfl, by rw [HQ.out]; simp, by simp⟩⟩
        go_wp2_with fail
        go_ret
        exact HE.out
    · obtain ⟨s, hs⟩ : ∃ s, M.segs[i]? = some s := ⟨_, List.getElem?_eq_getElem (by omega)⟩
      have hst : (M.segs.take (i + 1))[i]? = some s := by rw [List.getElem?_take, if_pos (by omega)]; exact hs
      have htl : (M.segs.take (i + 1)).length = i + 1 := by rw [List.length_take]; omega
      obtain ⟨_, c0, _, c2, _, _, _, _, cf⟩ := HW.out.1.cells
      have c2' : wr.cell? ⟨lb, 2, none⟩ = some (.slice (some ⟨g, 0, none⟩) (i + 1) V.sC) := by rw [← hg, ← htl]; exact c2
      obtain ⟨_, x0, x1, _⟩ := HW.out.1.seg hst hg
      have hs1 := (hk.segs s (List.mem_of_getElem? hs)).1
      have hsn := hk.segn
      clear c2
      by_cases hgt : k < s.1
      · have d3 : decide ((k : Int) < s.1) = true := decide_eq_true (by omega)
        have d3' : decide (k < s.1) = true := decide_eq_true hgt
        obtain ⟨e', he'⟩ : ∃ e' : Nat, e' + 1 = s.1 := ⟨s.1 - 1, by omega⟩
        have he1 : (s.1 : Int) - 1 = (e' : Int) := by omega
        have hit : (i : Int) + 1 - 1 = (i : Int) := by omega
        have hsn2 : i < 1000000 := by omega
        have hcap : i ≤ V.sC ∧ V.sC ≤ 9223372036854775807 := by
          obtain ⟨Φ, Λ, hlog, _⟩ := HW.out.1.ex
          have h0 := hlog.segs
          rcases h0.2 with ⟨h1, _⟩ | ⟨g', cap, cur, h1, _, _, h4, h5, _⟩
          · rw [hg] at h1
            cases h1
          · have e1 := (Value.slice.inj h1).2.2
            unfold maxLen at h5
            have : (M.segs.take (i + 1)).length ≤ cap := h4
            omega
        obtain ⟨hcap1, hcap2⟩ := hcap
        have hcap3 : (i : Int) ≤ V.sC := by omega
        have hi0 : (0 : Int) ≤ i := by omega
        have hw1 : IntKind.i64.wrap (e' : Int) = (e' : Int) := IntWalk.i64_in _ (by omega)
        have hw2 : IntKind.i64.wrap (i : Int) = (i : Int) := IntWalk.i64_in _ (by omega)
        have hf : ∀ W S', WPair w0 Kp lb d R S' { M with segs := M.segs.take (i + 1) } V W → W.cell? ⟨lb, 0, none⟩ = some (.pointer (some ⟨d, 0, none⟩)) ∧ W.cell? ⟨lb, 2, none⟩ = some (.slice (some ⟨g, 0, none⟩) (i + 1) V.sC) ∧ W.cell? ⟨g, i * 2, none⟩ = some (.int .i64 s.1) ∧ W.cell? ⟨g, i * 2 + 1, none⟩ = some (.int .i64 s.2) := fun W S' h => by
          obtain ⟨_, q0, _, q2, _⟩ := h.cells
          obtain ⟨_, q3, q4, _⟩ := h.seg hst hg
          have q2' : W.cell? ⟨lb, 2, none⟩ = some (.slice (some ⟨g, 0, none⟩) (i + 1) V.sC) := by rw [← hg, ← htl]; exact q2
          exact ⟨q0, q2', q3, q4⟩
        have erm : (M.segs.drop i).reverse = (M.segs.drop (i + 1)).reverse ++ [s] := by
          have : M.segs.drop i = s :: M.segs.drop (i + 1) := by
            rw [List.drop_eq_getElem_cons (by omega)]
            congr 1
            have := (List.getElem?_eq_some_iff.1 hs).2
            exact this
          rw [this, List.reverse_cons]
        have HNM : Hid (Calls Tryz.prog 54 #[.agg #[.int .i64 s.1, .int .i64 s.2]] wr.drew fun e w2 => e = .returned (.string (nameS s.1)) ∧ w2.cell? ⟨lb, 0, none⟩ = some (.pointer (some ⟨d, 0, none⟩)) ∧ w2.cell? ⟨lb, 2, none⟩ = some (.slice (some ⟨g, 0, none⟩) (i + 1) V.sC) ∧ w2.cell? ⟨g, i * 2, none⟩ = some (.int .i64 s.1) ∧ w2.cell? ⟨g, i * 2 + 1, none⟩ = some (.int .i64 s.2) ∧
            Hid (Calls Tryz.prog 59 #[.pointer (some ⟨d, 0, none⟩), .string (nameS s.1)] w2 fun e w3 => ∃ r : Int, e = .returned (.int .i64 r) ∧ w3.cell? ⟨lb, 0, none⟩ = some (.pointer (some ⟨d, 0, none⟩)) ∧ w3.cell? ⟨lb, 2, none⟩ = some (.slice (some ⟨g, 0, none⟩) (i + 1) V.sC) ∧ w3.cell? ⟨g, i * 2, none⟩ = some (.int .i64 s.1) ∧ w3.cell? ⟨g, i * 2 + 1, none⟩ = some (.int .i64 s.2) ∧ w3.frozen? ⟨lb, 2, none⟩ = false ∧
              Hid ((w3.drew.setCell ⟨lb, 2, none⟩ (.slice (some ⟨g, 0, none⟩) i V.sC)).cell? ⟨g, i * 2, none⟩ = some (.int .i64 s.1) ∧ WPair w0 Kp lb d R (removes S (M.segs.drop i).reverse) { M with segs := M.segs.take i } V (w3.drew.setCell ⟨lb, 2, none⟩ (.slice (some ⟨g, 0, none⟩) i V.sC)) ∧ Kept Kp w (w3.drew.setCell ⟨lb, 2, none⟩ (.slice (some ⟨g, 0, none⟩) i V.sC))))) := Lib.hid (by
          have h1 := HW.out.1.later (Below.refl wr.heap.size wr).drew
          refine (h1.name_ ht s.1 s.2 hs1).mono ?_
          rintro e w2 ⟨rfl, h2, hb2⟩
          obtain ⟨q0, q2, q3, q4⟩ := hf _ _ h2
          have hk2 : Kept Kp w w2 := HW.out.2.trans (Kept.of_below ((Below.refl wr.heap.size wr).drew.trans hb2) (HKP.out wr HW.out.2))
          refine ⟨rfl, q0, q2, q3, q4, Lib.hid ?_⟩
          refine (h2.dremove (HKP.out w2 hk2) (nameS s.1) (by rw [nameS_size]; unfold maxLen; omega)).mono ?_
          rintro e w3 ⟨rfl, h3, hk3⟩
          obtain ⟨q0, q2, q3, q4⟩ := hf _ _ h3
          obtain ⟨_, _, _, _, _, _, _, _, qf⟩ := h3.cells
          have h3d := h3.later (Below.refl w3.heap.size w3).drew
          have hk3d : Kept Kp w w3.drew := (hk2.trans hk3).trans (Kept.of_below (Below.refl w3.heap.size w3).drew (HKP.out w3 (hk2.trans hk3)))
          obtain ⟨h5, hk5⟩ := h3d.takeSegs (HKP.out _ hk3d) (k := i) (by show i ≤ (M.segs.take (i + 1)).length; omega)
          rw [hg] at h5 hk5
          have hgl : g ≠ lb := by
            obtain ⟨Φ, Λ, hlog, _⟩ := h3.ex
            exact hlog.apart.1 _ hg
          refine ⟨_, rfl, q0, q2, q3, q4, qf 2, Lib.hid ⟨?_, ?_, hk3d.trans hk5⟩⟩
          · rw [World.cell?_setCell_other _ _ _ _ (fun e => hgl (by simpa using (congrArg Addr.block e).symm))]
            exact q3
          · rw [nameS_list] at h5
            rw [erm, removes_snoc]
            simp only [List.take_take, Nat.min_eq_left (Nat.le_succ i)] at h5
            exact h5)
        have HLL : Hid (∀ W, WPair w0 Kp lb d R (removes S (M.segs.drop i).reverse) { M with segs := M.segs.take i } V W → Calls Tryz.prog 53 #[.pointer (some ⟨lb, 0, none⟩)] W fun e w' => ∃ p, e = .returned (.pointer p) ∧ WPair w0 Kp lb d R (removes S (M.segs.drop i).reverse) { M with segs := M.segs.take i } V w' ∧ Below W.heap.size W w' ∧ ((i = 0 ∧ p = none) ∨ ∃ i' g', i = i' + 1 ∧ V.sA = some ⟨g', 0, none⟩ ∧ p = some ⟨g', i' * 2, none⟩)) := Lib.hid fun W hW => by
          have hk' : LogOk { M with segs := M.segs.take i } := ⟨hk.size, by show (M.segs.take i).length ≤ _; rw [List.length_take]; omega, hk.recn, hk.base, fun s h => hk.segs s (List.mem_of_mem_take h), hk.synced⟩
          cases i with
          | zero =>
            refine (hW.last0_ (by simp)).mono ?_
            rintro e w' ⟨rfl, h1, h2⟩
            exact ⟨none, rfl, h1, h2, .inl ⟨rfl, rfl⟩⟩
          | succ i' =>
            refine (hW.last_ hk' (k := i') (by show (M.segs.take (i' + 1)).length = i' + 1; rw [List.length_take]; omega) hg).mono ?_
            rintro e w' ⟨rfl, h1, h2⟩
            exact ⟨_, rfl, h1, h2, .inr ⟨i', g, rfl, hg, rfl⟩⟩
        have HGT2 : Hid (∀ i' s', i ≤ i' → M.segs[i']? = some s' → k < s'.1) := Lib.hid fun i' s' h1 h2 => by
          by_cases e : i' = i
          · subst e
            rw [hs] at h2
            cases h2
            exact hgt
          · exact HGT.out i' s' (by omega) h2
        have HEE2 : Hid ((i = M.segs.length ∧ e' = M.last) ∨ ∃ s, M.segs[i]? = some s ∧ e' + 1 = s.1) := Lib.hid (.inr ⟨s, hs, he'⟩)
        clear hf erm HGT HEE HW hst hs htl he' HPP
        go_upto_region 7 with fail
        go_region_held3 (fun w' => w'.cell? ⟨lb, 0, none⟩ = some (.pointer (some ⟨d, 0, none⟩)) ∧ w'.cell? ⟨lb, 2, none⟩ = some (.slice (some ⟨g, 0, none⟩) (i + 1) V.sC) ∧ w'.cell? ⟨g, i * 2, none⟩ = some (.int .i64 s.1) ∧ w'.cell? ⟨g, i * 2 + 1, none⟩ = some (.int .i64 s.2))
          (first | exact ⟨by assumption, by assumption, by assumption, by assumption⟩ | exact ⟨c0, c2', x0, x1⟩)
          (first
            | (go_at_call 54; refine (HNM.out).mono ?_; rintro e w2 ⟨rfl, p0, p1, p2, p3, HRM⟩)
            | (go_at_call 59; refine (HRM.out).mono ?_; rintro e w3 ⟨r, rfl, r0, r1, r2, r3, rf, HW3⟩))
        all_goals
          clear p0 p1 p2 p3 x0 x1 c0 c2' cf HNM HRM
          go_upto_region 8 with fail
          go_still_tail 12, (by kernel_rfl)
          change wpList _ _ _ _ _ w3.drew
          go_upto_region 9 with fail
          have y0 : ((w3.setCell ⟨lb, 2, none⟩ (.slice (some ⟨g, 0, none⟩) i V.sC)).drew).cell? ⟨g, i * 2, none⟩ = some (.int .i64 s.1) := HW3.out.1
          have HP5 : Hid (WPair w0 Kp lb d R (removes S (M.segs.drop i).reverse) { M with segs := M.segs.take i } V ((w3.setCell ⟨lb, 2, none⟩ (.slice (some ⟨g, 0, none⟩) i V.sC)).drew)) := Lib.hid HW3.out.2.1
          have HK5 : Hid (Kept Kp w ((w3.setCell ⟨lb, 2, none⟩ (.slice (some ⟨g, 0, none⟩) i V.sC)).drew)) := Lib.hid HW3.out.2.2
          clear HW3 r0 r1 r2 r3 rf
          generalize (w3.setCell ⟨lb, 2, none⟩ (.slice (some ⟨g, 0, none⟩) i V.sC)).drew = w5 at *
          go_wp2_with (go_at_call 53; refine (HLL.out _ HP5.out).mono ?_; rintro e w6 ⟨p6, rfl, h6, hb6, hp6⟩; have HP6 := Lib.hid h6; have HB6 := Lib.hid hb6; have HPQ := Lib.hid hp6; clear h6 hb6 hp6)
          go_roundw
          case rel => exact ⟨e', p6, i, rfl, rfl, by omega, by omega, HPQ, HEE2, HGT2, Lib.hid ⟨HP6.out, HK5.out.trans (Kept.of_below HB6.out (HKP.out _ HK5.out))⟩⟩
          case measure =>
            rcases HPQ.out with ⟨_, rfl⟩ | ⟨i', g', h1, _, rfl⟩
            · simp
            · simp
              omega
      · have d3 : decide ((k : Int) < s.1) = false := decide_eq_false (by omega)
        have d3' : decide (k < s.1) = false := decide_eq_false hgt
        have hk' : LogOk { M with segs := M.segs.take (i + 1) } := ⟨hk.size, by show (M.segs.take (i + 1)).length ≤ _; omega, hk.recn, hk.base, fun s h => hk.segs s (List.mem_of_mem_take h), hk.synced⟩
        have HL9 := Lib.hid (HW.out.1.last_ hk' (k := i) htl hg)
        go_wp2_with (go_at_call 53; refine HL9.out.mono ?_; rintro e w5 ⟨rfl, h5, hb5⟩; have HP5 := Lib.hid h5; have HK5 := Lib.hid (HW.out.2.trans (Kept.of_below hb5 (HKP.out _ HW.out.2))); clear h5 hb5 HW; obtain ⟨_, y0, _, y2, y3, _, y5, y6, yf⟩ := HP5.out.cells; obtain ⟨_, t0, t1, tf⟩ := HP5.out.seg hst hg)
        obtain ⟨t, ht1⟩ : ∃ t, t = e - M.base := ⟨_, rfl⟩
        have het : M.base ≤ e ∧ q ≤ t ∧ t ≤ r := by
          have h1 := HQ.out
          have h2 := HR.out
          have h3 := HLAST.out
          rcases HEE.out with ⟨_, h4⟩ | ⟨s', h4, h5⟩
          · omega
          · have h6 := HGT.out _ s' (Nat.le_refl _) h4
            have h7 := hfst s' (List.mem_of_getElem? h4)
            omega
        have HT := Lib.hid ht1
        have hti : (e : Int) - (M.base : Int) = (t : Int) := by omega
        have hwt : IntKind.i64.wrap (t : Int) = (t : Int) := IntWalk.i64_in _ (by omega)
        obtain ⟨_, hqt, htr⟩ := het
        clear ht1
        obtain ⟨hrc1, hrc2⟩ : r ≤ V.rC ∧ V.rC ≤ 9223372036854775807 := by
          obtain ⟨Φ, Λ, hlog, _⟩ := HP5.out.ex
          have h0 := hlog.recs
          have h1 := HR.out
          rcases h0.2 with ⟨h2, h3⟩ | ⟨g', cap, cur, h2, _, _, h4, h5, _⟩
          · have h3' : M.recs.length = 0 := h3
            have e1 := (Value.slice.inj h2).2.2
            omega
          · have e1 := (Value.slice.inj h2).2.2
            have h4' : M.recs.length ≤ cap := h4
            unfold maxLen at h5
            omega
        have hqt' : (q : Int) ≤ t := by omega
        have htc' : (t : Int) ≤ V.rC := by omega
        have htc : t ≤ V.rC := by omega
        have hq0 : (0 : Int) ≤ q := by omega
        have y5' : w5.cell? ⟨lb, 5, none⟩ = some (.slice V.rA r V.rC) := by rw [HR.out]; exact y5
        clear y5
        obtain ⟨z, hz⟩ : ∃ z, t = q + z := ⟨t - q, by omega⟩
        have HZ := Lib.hid hz
        have hz1 : (t : Int) - (q : Int) = (z : Int) := by omega
        have hz2 : t - q = z := by omega
        have hz3 : z ≤ 1000000 := by have h1 := HR.out; have h2 := hk.recn; omega
        have hset : ∀ m, (M.segs.take (i + 1)).set i (s.1, m) = (M.segs.take (i + 1)).set i (s.1, m) := fun _ => rfl
        have hset0 : (M.segs.take (i + 1)).set i (s.1, s.2) = M.segs.take (i + 1) := by
          obtain ⟨g1, g2⟩ := List.getElem?_eq_some_iff.1 hst
          rw [← g2]
          exact List.set_getElem_self g1
        have HBY : Hid (cutN ((M.recs.take t).drop q) ≤ s.2) := Lib.hid (by
          rw [HQ.out]
          refine hby i s t hs (by omega) ?_
          rcases HEE.out with ⟨h4, h5⟩ | ⟨s', h4, h5⟩
          · exact .inl ⟨h4, by have := HLAST.out; have := HT.out; omega⟩
          · exact .inr ⟨s', h4, by have := HT.out; omega⟩)
        have HEND : Hid (EndAt M (i + 1) t) := Lib.hid (by
          rcases HEE.out with ⟨h4, h5⟩ | ⟨s', h4, h5⟩
          · exact .inl ⟨h4, by have := HLAST.out; have := HT.out; omega⟩
          · exact .inr ⟨s', h4, by have := HT.out; omega⟩)
        have HST0 : Hid (∀ W, WPair w0 Kp lb d R (removes S (M.segs.drop (i + 1)).reverse) { M with segs := M.segs.take (i + 1) } V W → WPair w0 Kp lb d R (removes S (M.segs.drop (i + 1)).reverse) { M with segs := (M.segs.take (i + 1)).set i (s.1, s.2) } V W) := Lib.hid fun W h => by rw [hset0]; exact h
        clear hset hset0 hz
        cases hrA : V.rA with
        | none =>
          rw [hrA] at y5'
          have hr0 : r = 0 := by
            obtain ⟨Φ, Λ, hlog, _⟩ := HP5.out.ex
            have h1 := HR.out
            rcases hlog.recs.2 with ⟨_, h3⟩ | ⟨g', cap, cur, h2, _⟩
            · have h3' : M.recs.length = 0 := h3
              omega
            · rw [hrA] at h2
              cases h2
          have hz0 : z = 0 := by omega
          have hq0' : q = 0 := by omega
          have ht0' : t = 0 := by omega
          go_upto_region 12 with fail
          go_quiet (fail)
          have HP6 := Lib.hid (HP5.out.drewN nq)
          have HK6 := Lib.hid (HK5.out.trans (Kept.of_below (drewn_below w5 nq) (HKP.out _ HK5.out)))
          generalize w5.drewN nq = w6 at *
          clear y0 y2 y3 y5' y6 yf t0 t1 tf HP5 HK5
          go_wp2_with fail
          have hs2 : s.2 ≤ 1048576 := (hk.segs s (List.mem_of_getElem? hs)).2
          go_loopw [88] (fun iv wr => ∃ (v nb : Nat), iv = .int .i64 v ∧ v ≤ z ∧ nb ≤ 1048576 ∧ Hid (nb + cutN (((M.recs.take t).drop q).take v) = s.2) ∧ Hid (WPair w0 Kp lb d R (removes S (M.segs.drop (i + 1)).reverse) { M with segs := (M.segs.take (i + 1)).set i (s.1, nb) } V wr ∧ Kept Kp w wr)) (fun iv _ => z - (intOf iv).toNat)
          case atStart => exact ⟨0, s.2, rfl, Nat.zero_le _, hs2, Lib.hid (by simp [cutN]), Lib.hid ⟨HST0.out _ HP6.out, HK6.out⟩⟩
          case round =>
            clear HP6 HK6 HST0
            obtain ⟨v, nb, rfl, hv, hnb, HNB, HW9⟩ := hrel
            have HSI : Hid (∀ m, ((M.segs.take (i + 1)).set i (s.1, m))[i]? = some (s.1, m)) := Lib.hid fun m => by
              exact List.getElem?_set_self (List.getElem?_eq_some_iff.1 hst).1
            have HSI := Lib.hid (HSI.out nb)
            by_cases hvz : v < z
            · exact absurd hvz (by omega)
            · obtain rfl : v = z := by omega
              have hd9 : decide ((v : Int) < (v : Int)) = false := decide_eq_false (by omega)
              have HNZ : Hid (nb + cutN ((M.recs.take t).drop q) = s.2) := Lib.hid (by have h1 := HNB.out; rwa [List.take_of_length_le (by rw [List.length_drop, List.length_take]; have := HR.out; have := HZ.out; omega)] at h1)
              obtain ⟨_, j0, _, _, j3, _, j5, j6, jf⟩ := HW9.out.1.cells
              obtain ⟨_, x0, x1, xf⟩ := HW9.out.1.seg (k := i) (s := (s.1, nb)) HSI.out hg
              have HCF : Hid (∀ W S3, WPair w0 Kp lb d R S3 { M with segs := (M.segs.take (i + 1)).set i (s.1, nb) } V W → W.cell? ⟨lb, 0, none⟩ = some (.pointer (some ⟨d, 0, none⟩)) ∧ W.cell? ⟨g, i * 2, none⟩ = some (.int .i64 s.1) ∧ W.cell? ⟨g, i * 2 + 1, none⟩ = some (.int .i64 nb)) := Lib.hid fun W S3 h => by
                obtain ⟨_, p0, p1, _⟩ := h.seg (k := i) (s := (s.1, nb)) HSI.out hg
                exact ⟨h.cells.2.1, p0, p1⟩
              have HNM : Hid (Calls Tryz.prog 54 #[.agg #[.int .i64 s.1, .int .i64 nb]] wr.drew fun e w2 => e = .returned (.string (nameS s.1)) ∧ w2.cell? ⟨lb, 0, none⟩ = some (.pointer (some ⟨d, 0, none⟩)) ∧ w2.cell? ⟨g, i * 2, none⟩ = some (.int .i64 s.1) ∧ w2.cell? ⟨g, i * 2 + 1, none⟩ = some (.int .i64 nb) ∧
                  Hid (Calls Tryz.prog 60 #[.pointer (some ⟨d, 0, none⟩), .string (nameS s.1), .int .i64 nb] w2 fun e w3 => ∃ rr : Int, e = .returned (.int .i64 rr) ∧ w3.cell? ⟨lb, 0, none⟩ = some (.pointer (some ⟨d, 0, none⟩)) ∧ w3.cell? ⟨g, i * 2, none⟩ = some (.int .i64 s.1) ∧ w3.cell? ⟨g, i * 2 + 1, none⟩ = some (.int .i64 nb) ∧
                    Hid (WPair w0 Kp lb d R (cutF (removes S (M.segs.drop (i + 1)).reverse) (nameS s.1).data.toList nb).1 { M with segs := (M.segs.take (i + 1)).set i (s.1, nb) } V w3 ∧ Kept Kp w w3))) := Lib.hid (by
                have h1 := HW9.out.1.later (Below.refl wr.heap.size wr).drew
                refine (h1.name_ ht s.1 nb hs1).mono ?_
                rintro e w2 ⟨rfl, h2, hb2⟩
                obtain ⟨q0, q1, q2⟩ := HCF.out _ _ h2
                have hk2 : Kept Kp w w2 := HW9.out.2.trans (Kept.of_below ((Below.refl wr.heap.size wr).drew.trans hb2) (HKP.out wr HW9.out.2))
                refine ⟨rfl, q0, q1, q2, Lib.hid ?_⟩
                refine (h2.dcut (HKP.out w2 hk2) (nameS s.1) (by rw [nameS_size]; unfold maxLen; omega) nb).mono ?_
                rintro e w3 ⟨rfl, h3, hk3⟩
                obtain ⟨q0, q1, q2⟩ := HCF.out _ _ h3
                exact ⟨_, rfl, q0, q1, q2, Lib.hid ⟨h3, hk2.trans hk3⟩⟩)
              clear j3 j5 j6 jf xf HCF hrA hr0 hz0 hq0' ht0'
              go_upto_region 17 with fail
              go_region_held3 (fun w' => w'.cell? ⟨lb, 0, none⟩ = some (.pointer (some ⟨d, 0, none⟩)) ∧ w'.cell? ⟨g, i * 2, none⟩ = some (.int .i64 s.1) ∧ w'.cell? ⟨g, i * 2 + 1, none⟩ = some (.int .i64 nb))
                (first | exact ⟨by assumption, by assumption, by assumption⟩ | exact ⟨j0, x0, x1⟩)
                (first
                  | (go_at_call 54; refine (HNM.out).mono ?_; rintro e w2 ⟨rfl, p0, p1, p2, HRM⟩)
                  | (go_at_call 60; refine (HRM.out).mono ?_; rintro e w3 ⟨rr, rfl, r0, r1, r2, HW3⟩))
              all_goals
                have HP5 := Lib.hid HW3.out.1
                have HK5 := Lib.hid HW3.out.2
                clear p0 p1 p2 r0 r1 r2 x0 x1 j0 HNM HRM HW3
                go_upto_region 18 with fail
                obtain ⟨_, _, _, _, z3, _, z5, z6, zf⟩ := HP5.out.cells
                have HS2 : Hid (∃ S2, S2 = (cutF (removes S (M.segs.drop (i + 1)).reverse) (nameS s.1).data.toList nb).1) := Lib.hid ⟨_, rfl⟩
                obtain ⟨S2, hS2⟩ := HS2.out
                rw [← hS2] at HP5
                have HCX := Lib.hid (HCR.out w3 S2 { M with segs := (M.segs.take (i + 1)).set i (s.1, nb) } HP5.out rfl HK5.out)
                have HS2 := Lib.hid hS2
                clear hS2
                have z5' : w3.cell? ⟨lb, 5, none⟩ = some (.slice V.rA r V.rC) := by rw [HR.out]; exact z5
                clear z5
                go_region_with (go_at_call 61; refine HCX.out.mono ?_; rintro e w6 ⟨rfl, y5, yf, HF⟩)
                all_goals
                  obtain ⟨V2, h8, h9⟩ := HF.out
                  have HP8 := Lib.hid h8
                  have HK8 := Lib.hid h9
                  clear h8 h9 HF z3 z5' z6 zf y5 yf
                  generalize w6.setCell ⟨lb, 5, none⟩ (.slice V.rA q V.rC) = w7 at *
                  obtain ⟨_, _, _, _, _, _, _, z6, zf⟩ := HP8.out.cells
                  obtain ⟨h9, k9⟩ := HP8.out.setSynced k
                  have HP9 := Lib.hid h9
                  have HK9 := Lib.hid (HK8.out.trans k9)
                  clear h9 k9
                  have HE : Hid (CutSaid w0 Kp lb d R S M k w (.returned (.int .i64 0)) (w7.setCell ⟨lb, 6, none⟩ (.int .i64 k))) := Lib.hid ⟨rfl, _, _, V2, HP9.out, HK9.out, i + 1, hj, HGT.out, .inr ⟨i, s, nb, t, rfl, hs, by omega, HEND.out, by have := HNZ.out; rwa [HQ.out] at this, by rw [HQ.out], HS2.out⟩⟩
                  go_wp2_with fail
                  go_ret
                  exact HE.out
        | some ra =>
          rw [hrA] at y5'
          obtain ⟨B, hB, HBZ⟩ : ∃ B : Addr, (if V.rC = q then some ra else some (ra.add q)) = some B ∧ Hid (0 < z → B = ra.add q) := by
            by_cases e : V.rC = q
            · exact ⟨ra, by rw [if_pos e], Lib.hid fun h => by omega⟩
            · exact ⟨ra.add q, by rw [if_neg e], Lib.hid fun _ => rfl⟩
          go_upto_region 12 with fail
          go_quiet (fail)
          have HP6 := Lib.hid (HP5.out.drewN nq)
          have HK6 := Lib.hid (HK5.out.trans (Kept.of_below (drewn_below w5 nq) (HKP.out _ HK5.out)))
          generalize w5.drewN nq = w6 at *
          clear y0 y2 y3 y5' y6 yf t0 t1 tf HP5 HK5
          go_wp2_with fail
          have hs2 : s.2 ≤ 1048576 := (hk.segs s (List.mem_of_getElem? hs)).2
          go_loopw [88] (fun iv wr => ∃ (v nb : Nat), iv = .int .i64 v ∧ v ≤ z ∧ nb ≤ 1048576 ∧ Hid (nb + cutN (((M.recs.take t).drop q).take v) = s.2) ∧ Hid (WPair w0 Kp lb d R (removes S (M.segs.drop (i + 1)).reverse) { M with segs := (M.segs.take (i + 1)).set i (s.1, nb) } V wr ∧ Kept Kp w wr)) (fun iv _ => z - (intOf iv).toNat)
          case atStart => exact ⟨0, s.2, rfl, Nat.zero_le _, hs2, Lib.hid (by simp [cutN]), Lib.hid ⟨HST0.out _ HP6.out, HK6.out⟩⟩
          case round =>
            clear HP6 HK6 HST0
            obtain ⟨v, nb, rfl, hv, hnb, HNB, HW9⟩ := hrel
            have HSI : Hid (∀ m, ((M.segs.take (i + 1)).set i (s.1, m))[i]? = some (s.1, m)) := Lib.hid fun m => by
              exact List.getElem?_set_self (List.getElem?_eq_some_iff.1 hst).1
            have HSI := Lib.hid (HSI.out nb)
            by_cases hvz : v < z
            · obtain ⟨xs, hxs⟩ : ∃ xs, M.recs[q + v]? = some xs := ⟨_, List.getElem?_eq_getElem (by have := HR.out; have := HZ.out; omega)⟩
              obtain ⟨hra, pA, pc, rx, hxl, hxc, hcm⟩ := HW9.out.1.rec_ hxs hrA
              have hB2 : B = ⟨ra.block, q, none⟩ := by
                rw [HBZ.out (by omega), hra, Addr.add_lit, Nat.zero_add]
              subst hB2
              generalize ra.block = gb at *
              obtain ⟨_, x0, x1, xf⟩ := HW9.out.1.seg (k := i) (s := (s.1, nb)) HSI.out hg
              obtain ⟨nb2, hn2⟩ : ∃ nb2, nb = nb2 + (6 + xs.length) := ⟨nb - (6 + xs.length), by
                have h1 := HNB.out
                have h2 := HBY.out
                have h3 := cutN_take ((M.recs.take t).drop q) (v + 1)
                rw [cutN_more (show ((M.recs.take t).drop q)[v]? = some xs by rw [List.getElem?_drop, List.getElem?_take, if_pos (by have := HZ.out; omega)]; exact hxs)] at h3
                omega⟩
              have HNB2 : Hid (nb2 + cutN (((M.recs.take t).drop q).take (v + 1)) = s.2) := Lib.hid (by
                have h1 := HNB.out
                rw [cutN_more (show ((M.recs.take t).drop q)[v]? = some xs by rw [List.getElem?_drop, List.getElem?_take, if_pos (by have := HZ.out; omega)]; exact hxs)]
                omega)
              obtain ⟨m, hm⟩ : ∃ m, m = xs.length := ⟨_, rfl⟩
              rw [← hm] at rx hxl hxc hn2
              have hni : (nb : Int) - (6 + (m : Int)) = (nb2 : Int) := by omega
              have hni2 : (nb : Int) - ((m : Int) + 6) = (nb2 : Int) := by omega
              have hnb2 : nb2 ≤ 1048576 := by omega
              have hwn : IntKind.i64.wrap (nb2 : Int) = (nb2 : Int) := IntWalk.i64_in _ (by omega)
              have hvz' : (v : Int) < z := by omega
              have HST : Hid (WPair w0 Kp lb d R (removes S (M.segs.drop (i + 1)).reverse) { M with segs := (M.segs.take (i + 1)).set i (s.1, nb2) } V (wr.setCell ⟨g, i * 2 + 1, none⟩ (.int .i64 nb2)) ∧ Kept Kp w (wr.setCell ⟨g, i * 2 + 1, none⟩ (.int .i64 nb2))) := Lib.hid (by
                obtain ⟨h1, h2⟩ := HW9.out.1.setBytes (v := nb2) HSI.out hg
                simp only [List.set_set] at h1
                exact ⟨h1, HW9.out.2.trans h2⟩)
              clear hxs hra hm hn2 HNB HBZ hB HW9 HSI
              go_wp2_with fail
              go_roundw
              case rel => exact ⟨v + 1, nb2, by go_num, by omega, hnb2, HNB2, HST⟩
              case measure => simp [intOf]; omega
            · obtain rfl : v = z := by omega
              have hd9 : decide ((v : Int) < (v : Int)) = false := decide_eq_false (by omega)
              have HNZ : Hid (nb + cutN ((M.recs.take t).drop q) = s.2) := Lib.hid (by have h1 := HNB.out; rwa [List.take_of_length_le (by rw [List.length_drop, List.length_take]; have := HR.out; have := HZ.out; omega)] at h1)
              obtain ⟨_, j0, _, _, j3, _, j5, j6, jf⟩ := HW9.out.1.cells
              obtain ⟨_, x0, x1, xf⟩ := HW9.out.1.seg (k := i) (s := (s.1, nb)) HSI.out hg
              have HCF : Hid (∀ W S3, WPair w0 Kp lb d R S3 { M with segs := (M.segs.take (i + 1)).set i (s.1, nb) } V W → W.cell? ⟨lb, 0, none⟩ = some (.pointer (some ⟨d, 0, none⟩)) ∧ W.cell? ⟨g, i * 2, none⟩ = some (.int .i64 s.1) ∧ W.cell? ⟨g, i * 2 + 1, none⟩ = some (.int .i64 nb)) := Lib.hid fun W S3 h => by
                obtain ⟨_, p0, p1, _⟩ := h.seg (k := i) (s := (s.1, nb)) HSI.out hg
                exact ⟨h.cells.2.1, p0, p1⟩
              have HNM : Hid (Calls Tryz.prog 54 #[.agg #[.int .i64 s.1, .int .i64 nb]] wr.drew fun e w2 => e = .returned (.string (nameS s.1)) ∧ w2.cell? ⟨lb, 0, none⟩ = some (.pointer (some ⟨d, 0, none⟩)) ∧ w2.cell? ⟨g, i * 2, none⟩ = some (.int .i64 s.1) ∧ w2.cell? ⟨g, i * 2 + 1, none⟩ = some (.int .i64 nb) ∧
                  Hid (Calls Tryz.prog 60 #[.pointer (some ⟨d, 0, none⟩), .string (nameS s.1), .int .i64 nb] w2 fun e w3 => ∃ rr : Int, e = .returned (.int .i64 rr) ∧ w3.cell? ⟨lb, 0, none⟩ = some (.pointer (some ⟨d, 0, none⟩)) ∧ w3.cell? ⟨g, i * 2, none⟩ = some (.int .i64 s.1) ∧ w3.cell? ⟨g, i * 2 + 1, none⟩ = some (.int .i64 nb) ∧
                    Hid (WPair w0 Kp lb d R (cutF (removes S (M.segs.drop (i + 1)).reverse) (nameS s.1).data.toList nb).1 { M with segs := (M.segs.take (i + 1)).set i (s.1, nb) } V w3 ∧ Kept Kp w w3))) := Lib.hid (by
                have h1 := HW9.out.1.later (Below.refl wr.heap.size wr).drew
                refine (h1.name_ ht s.1 nb hs1).mono ?_
                rintro e w2 ⟨rfl, h2, hb2⟩
                obtain ⟨q0, q1, q2⟩ := HCF.out _ _ h2
                have hk2 : Kept Kp w w2 := HW9.out.2.trans (Kept.of_below ((Below.refl wr.heap.size wr).drew.trans hb2) (HKP.out wr HW9.out.2))
                refine ⟨rfl, q0, q1, q2, Lib.hid ?_⟩
                refine (h2.dcut (HKP.out w2 hk2) (nameS s.1) (by rw [nameS_size]; unfold maxLen; omega) nb).mono ?_
                rintro e w3 ⟨rfl, h3, hk3⟩
                obtain ⟨q0, q1, q2⟩ := HCF.out _ _ h3
                exact ⟨_, rfl, q0, q1, q2, Lib.hid ⟨h3, hk2.trans hk3⟩⟩)
              clear j3 j5 j6 jf xf HCF hrA
              go_upto_region 17 with fail
              go_region_held3 (fun w' => w'.cell? ⟨lb, 0, none⟩ = some (.pointer (some ⟨d, 0, none⟩)) ∧ w'.cell? ⟨g, i * 2, none⟩ = some (.int .i64 s.1) ∧ w'.cell? ⟨g, i * 2 + 1, none⟩ = some (.int .i64 nb))
                (first | exact ⟨by assumption, by assumption, by assumption⟩ | exact ⟨j0, x0, x1⟩)
                (first
                  | (go_at_call 54; refine (HNM.out).mono ?_; rintro e w2 ⟨rfl, p0, p1, p2, HRM⟩)
                  | (go_at_call 60; refine (HRM.out).mono ?_; rintro e w3 ⟨rr, rfl, r0, r1, r2, HW3⟩))
              all_goals
                have HP5 := Lib.hid HW3.out.1
                have HK5 := Lib.hid HW3.out.2
                clear p0 p1 p2 r0 r1 r2 x0 x1 j0 HNM HRM HW3
                go_upto_region 18 with fail
                obtain ⟨_, _, _, _, z3, _, z5, z6, zf⟩ := HP5.out.cells
                have HS2 : Hid (∃ S2, S2 = (cutF (removes S (M.segs.drop (i + 1)).reverse) (nameS s.1).data.toList nb).1) := Lib.hid ⟨_, rfl⟩
                obtain ⟨S2, hS2⟩ := HS2.out
                rw [← hS2] at HP5
                have HCX := Lib.hid (HCR.out w3 S2 { M with segs := (M.segs.take (i + 1)).set i (s.1, nb) } HP5.out rfl HK5.out)
                have HS2 := Lib.hid hS2
                clear hS2
                have z5' : w3.cell? ⟨lb, 5, none⟩ = some (.slice V.rA r V.rC) := by rw [HR.out]; exact z5
                clear z5
                go_region_with (go_at_call 61; refine HCX.out.mono ?_; rintro e w6 ⟨rfl, y5, yf, HF⟩)
                all_goals
                  obtain ⟨V2, h8, h9⟩ := HF.out
                  have HP8 := Lib.hid h8
                  have HK8 := Lib.hid h9
                  clear h8 h9 HF z3 z5' z6 zf y5 yf
                  generalize w6.setCell ⟨lb, 5, none⟩ (.slice V.rA q V.rC) = w7 at *
                  obtain ⟨_, _, _, _, _, _, _, z6, zf⟩ := HP8.out.cells
                  obtain ⟨h9, k9⟩ := HP8.out.setSynced k
                  have HP9 := Lib.hid h9
                  have HK9 := Lib.hid (HK8.out.trans k9)
                  clear h9 k9
                  have HE : Hid (CutSaid w0 Kp lb d R S M k w (.returned (.int .i64 0)) (w7.setCell ⟨lb, 6, none⟩ (.int .i64 k))) := Lib.hid ⟨rfl, _, _, V2, HP9.out, HK9.out, i + 1, hj, HGT.out, .inr ⟨i, s, nb, t, rfl, hs, by omega, HEND.out, by have := HNZ.out; rwa [HQ.out] at this, by rw [HQ.out], HS2.out⟩⟩
                  go_wp2_with fail
                  go_ret
                  exact HE.out
end
end Go.Proofs.YtnomicnmpllajaaGreatDoor
end
