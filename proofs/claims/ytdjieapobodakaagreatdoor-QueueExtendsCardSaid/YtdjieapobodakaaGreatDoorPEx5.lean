/- What is proved here: what 'settle' does: a thing is put where it belongs. -/
/- What is proved here: plain facts on rows of things in their order: one set, one dropped, those that are due. No program is named. -/
/- What is proved here: what it is that memory holds a timer; what New, Len, Next and At answer. -/
import Derived.Test.YtdjieapobodakaaGreatDoorPEx4
import Derived.Deep.RegionHeld3
import Derived.Test.YtdjieapobodakaaGreatDoorPEx3
section
namespace Go.Proofs.YtdjieapobodakaaGreatDoor.Tim
open Go Go.RowKit Go.Sort
set_option maxRecDepth 100000

/-- What settle leaves. -/
def SettleSaid (t m rb cap N' : Nat) (G : List It) (w : World) (e : Ending) (w' : World) : Prop :=
  e = .returned (.tuple #[]) ∧ ∃ H f, Held w' t m rb cap H f N' ∧ Heap H ∧ Tells f H ∧ H.Perm G ∧ Chg (foot m rb) w w'

set_option maxHeartbeats 1600000 in
set_option maxRecDepth 100000 in
theorem settle_any {w : World} {t m rb cap N N' : Nat} {H : List It} {f : Int → Option Nat} {i : Nat} {x : It} {G : List It} {fx : Option Nat} (h : Hole w t m rb cap N H f i x G fx) (hl : G.length < 1000000) (hN : N < 1000000) (hN' : N' = if fx.isSome then N else N + 1) :
    Calls Tryz.prog 86 #[.pointer (some ⟨t, 0, none⟩), .int .i64 i, .agg #[.int .i64 x.1, .int .i64 x.2]] w (SettleSaid t m rb cap N' G w) := by
  obtain ⟨W, hW⟩ : ∃ W, W = w.alloc (.cells #[.int .i64 x.1, .int .i64 x.2] 130) := ⟨_, rfl⟩
  have hb : Below w.heap.size w W := by rw [hW]; exact (Below.refl _ _).alloc (Nat.le_refl _) _
  have hrb : rb < w.heap.size := (h.held.row.lt rb rfl).2
  have hm : m < w.heap.size := h.held.map.lt
  have q0 : W.cell? ⟨w.heap.size, 0, none⟩ = some (.int .i64 x.1) := by rw [hW]; simp
  have q1 : W.cell? ⟨w.heap.size, 1, none⟩ = some (.int .i64 x.2) := by rw [hW]; simp
  have hsz : w.heap.size < W.heap.size := by rw [hW]; simp
  have hW' := Lib.hid hW
  have hWd : Hole W.drew t m rb cap N H f i x G fx := (h.below hb).keep (Φ := fun _ => False) (Chg.drew W) id id id
  have hcW : Chg (foot m rb) w W.drew := Chg.of_below hb.drew
  have hbf : ¬ foot m rb w.heap.size := fun e => by rcases e with e | e <;> omega
  have hxG : wfk x.1 := h.wf x ((h.perm.mem_iff).1 (by
    have := g_mem (H := H.set i x) (j := i) (by rw [List.length_set]; exact h.told.lt)
    rwa [g_same h.told.lt] at this))
  have HC : Hid (Calls Tryz.prog 108 #[.pointer (some ⟨t, 0, none⟩), .int .i64 i, .agg #[.int .i64 x.1, .int .i64 x.2]] W.drew fun e w1 => ∃ i1 : Nat, e = .returned (.int .i64 i1) ∧ w1.cell? ⟨w.heap.size, 0, none⟩ = some (.int .i64 x.1) ∧ w1.cell? ⟨w.heap.size, 1, none⟩ = some (.int .i64 x.2) ∧
      Hid (Calls Tryz.prog 107 #[.pointer (some ⟨t, 0, none⟩), .int .i64 i1, .agg #[.int .i64 x.1, .int .i64 x.2]] w1 fun e w2 => ∃ i2 : Nat, e = .returned (.int .i64 i2) ∧ w2.cell? ⟨w.heap.size, 0, none⟩ = some (.int .i64 x.1) ∧ w2.cell? ⟨w.heap.size, 1, none⟩ = some (.int .i64 x.2) ∧
        Hid (Calls Tryz.prog 106 #[.pointer (some ⟨t, 0, none⟩), .int .i64 i2, .agg #[.int .i64 x.1, .int .i64 x.2]] w2 (fun e w3 => e = .returned (.tuple #[]) ∧ w3.cell? ⟨w.heap.size, 0, none⟩ = some (.int .i64 x.1) ∧ w3.cell? ⟨w.heap.size, 1, none⟩ = some (.int .i64 x.2) ∧ Hid (SettleSaid t m rb cap N' G w (.returned (.tuple #[])) w3))))) := Lib.hid ((rise_any hWd hl hN).mono (by
    rintro e w1 ⟨H1, f1, i1, rfl, h1, hu, hc1⟩
    refine ⟨i1, rfl, (hc1.cell (p := ⟨w.heap.size, 0, none⟩) hsz hbf).trans q0, (hc1.cell (p := ⟨w.heap.size, 1, none⟩) hsz hbf).trans q1, Lib.hid ((sink_any h1 hu hl hN).mono ?_)⟩
    rintro e w2 ⟨H2, f2, i2, rfl, h2, hheap, hc2⟩
    have hs1 : w.heap.size < w1.heap.size := Nat.lt_of_lt_of_le hsz hc1.size
    refine ⟨i2, rfl, (hc2.cell (p := ⟨w.heap.size, 0, none⟩) hs1 hbf).trans ((hc1.cell (p := ⟨w.heap.size, 0, none⟩) hsz hbf).trans q0), (hc2.cell (p := ⟨w.heap.size, 1, none⟩) hs1 hbf).trans ((hc1.cell (p := ⟨w.heap.size, 1, none⟩) hsz hbf).trans q1), Lib.hid ((put_any h2.held h2.told.lt (by have := h2.len; omega) hN x hxG (N' := N') (by rw [hN', h2.same])).mono ?_)⟩
    rintro e w3 ⟨rfl, hh, hc3⟩
    have hs2 : w.heap.size < w2.heap.size := Nat.lt_of_lt_of_le hs1 hc2.size
    have hcc := (hc1.trans hc2 fun _ _ e => e).trans hc3 fun _ _ e => e
    exact ⟨rfl, (hcc.cell (p := ⟨w.heap.size, 0, none⟩) hsz hbf).trans q0, (hcc.cell (p := ⟨w.heap.size, 1, none⟩) hsz hbf).trans q1, Lib.hid ⟨rfl, _, _, hh, hheap, h2.told.fill, h2.perm, (((hcW.trans hc1 fun _ _ e => e).trans hc2 fun _ _ e => e).trans hc3 fun _ _ e => e)⟩⟩))
  clear h hb hW hWd hcW hN'
  go_enter Tryz.func86, Tryz.ntmps86
  go_wp2_with fail
  rw [← hW'.out]
  go_region_held3 (fun w' => w'.cell? ⟨w.heap.size, 0, none⟩ = some (.int .i64 x.1) ∧ w'.cell? ⟨w.heap.size, 1, none⟩ = some (.int .i64 x.2))
    (first | assumption | exact ⟨by assumption, by assumption⟩ | exact ⟨q0, q1⟩)
    (first
      | (go_at_call 108; refine HC.out.mono ?_; rintro e w1 ⟨i1, rfl, p0, p1, HC1⟩)
      | (go_at_call 107; refine HC1.out.mono ?_; rintro e w2 ⟨i2, rfl, p2, p3, HC2⟩)
      | (go_at_call 106; refine HC2.out.mono ?_; rintro e w3 ⟨rfl, p4, p5, HX⟩))
  all_goals
    go_end0
    exact HX.out
end Go.Proofs.YtdjieapobodakaaGreatDoor.Tim
end

section
namespace Go.Proofs.YtdjieapobodakaaGreatDoor.Tim
open Go
set_option maxRecDepth 100000

def Ord (R : List It) : Prop := R.Pairwise bef ∧ (R.map Prod.fst).Nodup
def dropR (R : List It) (id : Int) : List It := R.filter fun y => decide (y.1 ≠ id)
def insR (x : It) : List It → List It
  | [] => [x]
  | y :: r => if bef x y then x :: y :: r else y :: insR x r
def setR (R : List It) (x : It) : List It := insR x (dropR R x.1)
def dueN (R : List It) (now : Int) : Nat := (R.takeWhile fun y => decide (y.2 ≤ now)).length

theorem ord_nil : Ord [] := ⟨List.Pairwise.nil, List.Pairwise.nil⟩
theorem perm_insR (x : It) : ∀ l : List It, (insR x l).Perm (x :: l)
  | [] => List.Perm.refl _
  | y :: r => by
    unfold insR
    split
    · exact List.Perm.refl _
    · exact ((perm_insR x r).cons y).trans (List.Perm.swap x y r)
theorem length_insR (x : It) (l : List It) : (insR x l).length = l.length + 1 := (perm_insR x l).length_eq
theorem mem_dropR {R : List It} {id : Int} {y : It} : y ∈ dropR R id ↔ y ∈ R ∧ y.1 ≠ id := by
  unfold dropR
  simp [List.mem_filter]
theorem Ord.drop {R : List It} (h : Ord R) (id : Int) : Ord (dropR R id) := ⟨h.1.filter _, (List.Pairwise.sublist (List.Sublist.map _ List.filter_sublist) h.2)⟩
theorem insR_pairwise {x : It} : ∀ {l : List It}, l.Pairwise bef → (∀ y ∈ l, y.1 ≠ x.1) → (insR x l).Pairwise bef
  | [], _, _ => by simp [insR]
  | y :: r, h, hn => by
    obtain ⟨h1, h2⟩ := List.pairwise_cons.1 h
    unfold insR
    split
    · rename_i hb
      exact List.pairwise_cons.2 ⟨fun z hz => by
        rcases List.mem_cons.1 hz with rfl | hz
        · exact hb
        · exact bef_trans hb (h1 z hz), h⟩
    · rename_i hb
      refine List.pairwise_cons.2 ⟨fun z hz => ?_, insR_pairwise h2 fun z hz => hn z (List.mem_cons_of_mem _ hz)⟩
      rcases List.mem_cons.1 ((perm_insR x r).mem_iff.1 hz) with rfl | hz
      · exact bef_of_le hb (hn y (List.mem_cons_self ..))
      · exact h1 z hz
theorem Ord.ins {R : List It} (h : Ord R) {x : It} (hn : ∀ y ∈ R, y.1 ≠ x.1) : Ord (insR x R) := by
  refine ⟨insR_pairwise h.1 hn, (((perm_insR x R).map Prod.fst).nodup_iff).2 ?_⟩
  rw [List.map_cons, List.nodup_cons]
  refine ⟨fun hm => ?_, h.2⟩
  obtain ⟨y, hy, e⟩ := List.mem_map.1 hm
  exact hn y hy e
theorem Ord.set {R : List It} (h : Ord R) (x : It) : Ord (setR R x) := (h.drop x.1).ins fun _ hy => (mem_dropR.1 hy).2
theorem setR_perm (R : List It) (x : It) : (setR R x).Perm (x :: dropR R x.1) := perm_insR _ _
theorem mem_setR {R : List It} {x y : It} : y ∈ setR R x ↔ y = x ∨ (y ∈ R ∧ y.1 ≠ x.1) := by
  rw [(setR_perm R x).mem_iff, List.mem_cons, mem_dropR]
/-- A row in order is one: whatever has the same things, none ahead of an earlier one, is it. -/
theorem ord_eq {D R : List It} (hp : D.Perm R) (hD : D.Pairwise le) (hR : Ord R) : D = R :=
  hp.eq_of_pairwise (le := le) (fun _ _ _ _ h1 h2 => le_antisymm h1 h2) hD (hR.1.imp fun hb => le_of_bef hb)
theorem ord_one {D R : List It} (hp : D.Perm R) (hD : Ord D) (hR : Ord R) : D = R := ord_eq hp (hD.1.imp fun hb => le_of_bef hb) hR
/-- The first of a heap is the first of the row. -/
theorem head_ord {H R : List It} (hH : Heap H) (hp : H.Perm R) (hR : Ord R) (hl : 0 < H.length) : ∃ r, R = g H 0 :: r := by
  have hlR : 0 < R.length := by rw [← hp.length_eq]; exact hl
  cases R with
  | nil => simp at hlR
  | cons x r =>
    refine ⟨r, ?_⟩
    obtain ⟨j, hj, hx⟩ := mem_g ((hp.mem_iff).2 (List.mem_cons_self (a := x) (l := r)))
    have h1 := hH.head j hj
    rw [hx] at h1
    have h2 : g H 0 ∈ x :: r := (hp.mem_iff).1 (g_mem hl)
    rcases List.mem_cons.1 h2 with e | h2
    · rw [e]
    · exact absurd ((List.pairwise_cons.1 hR.1).1 _ h2) h1
theorem nodup_split {H : List It} (h : (H.map Prod.fst).Nodup) {p : Nat} (hp : p < H.length) : dropR H (g H p).1 = H.take p ++ H.drop (p + 1) := by
  have e : H = H.take p ++ g H p :: H.drop (p + 1) := by
    rw [← g_get hp, List.getElem_cons_drop hp, List.take_append_drop]
  have hn := h
  rw [e, List.map_append, List.nodup_append, List.map_cons, List.nodup_cons] at hn
  obtain ⟨_, ⟨h1, _⟩, h2⟩ := hn
  have k1 : (H.take p).filter (fun y => decide (y.1 ≠ (g H p).1)) = H.take p := List.filter_eq_self.2 fun y hy => by
    have := h2 y.1 (List.mem_map_of_mem (f := Prod.fst) hy) (g H p).1 (List.mem_cons_self ..)
    simpa using this
  have k2 : (H.drop (p + 1)).filter (fun y => decide (y.1 ≠ (g H p).1)) = H.drop (p + 1) := List.filter_eq_self.2 fun y hy => by
    have : y.1 ≠ (g H p).1 := fun e => h1 (by rw [← e]; exact List.mem_map_of_mem (f := Prod.fst) hy)
    simpa using this
  have k3 : dropR H (g H p).1 = dropR (H.take p ++ g H p :: H.drop (p + 1)) (g H p).1 := by rw [← e]
  rw [k3]
  unfold dropR
  rw [List.filter_append, List.filter_cons, if_neg (by simp), k1, k2]
theorem set_perm {H : List It} (h : (H.map Prod.fst).Nodup) {p : Nat} (hp : p < H.length) (x : It) : (H.set p x).Perm (x :: dropR H (g H p).1) := by
  rw [nodup_split h hp, List.set_eq_take_append_cons_drop, if_pos hp]
  exact List.perm_middle
theorem self_perm {H : List It} (h : (H.map Prod.fst).Nodup) {p : Nat} (hp : p < H.length) : H.Perm (g H p :: dropR H (g H p).1) := by
  have := set_perm h hp (g H p)
  have e : H.set p (g H p) = H := by
    rw [← g_get hp]
    exact List.set_getElem_self hp
  rwa [e] at this
theorem dropR_none {R : List It} {id : Int} (h : ∀ y ∈ R, y.1 ≠ id) : dropR R id = R := by
  unfold dropR
  rw [List.filter_eq_self]
  intro y hy
  simpa using h y hy
theorem dropR_perm {H R : List It} (hp : H.Perm R) (id : Int) : (dropR H id).Perm (dropR R id) := hp.filter _
/-- The first is dropped. -/
theorem dropR_head {x : It} {r : List It} (h : Ord (x :: r)) : dropR (x :: r) x.1 = r := by
  unfold dropR
  rw [List.filter_cons, if_neg (by simp)]
  have h2 := h.2
  rw [List.map_cons, List.nodup_cons] at h2
  exact List.filter_eq_self.2 fun y hy => by
    have : y.1 ≠ x.1 := fun e => h2.1 (by rw [← e]; exact List.mem_map_of_mem (f := Prod.fst) hy)
    simpa using this
theorem Ord.tail {x : It} {r : List It} (h : Ord (x :: r)) : Ord r := by
  have := h.drop x.1
  rwa [dropR_head h] at this
theorem dropR_length {R : List It} (h : (R.map Prod.fst).Nodup) {x : It} (hx : x ∈ R) : (dropR R x.1).length + 1 = R.length := by
  obtain ⟨p, hp, rfl⟩ := mem_g hx
  have := (self_perm h hp).length_eq
  simp at this
  omega
theorem dueN_le (R : List It) (now : Int) : dueN R now ≤ R.length := by
  unfold dueN
  exact (List.takeWhile_prefix _).length_le
theorem dueN_cons (x : It) (r : List It) (now : Int) : dueN (x :: r) now = if x.2 ≤ now then dueN r now + 1 else 0 := by
  unfold dueN
  rw [List.takeWhile_cons]
  by_cases h : x.2 ≤ now <;> simp [h]
theorem dueN_nil (now : Int) : dueN [] now = 0 := rfl
/-- How it is with the first ones, and with the next one. -/
theorem dueN_lt {R : List It} {now : Int} {j : Nat} (h : j < dueN R now) : (g R j).2 ≤ now := by
  induction R generalizing j with
  | nil => rw [dueN_nil] at h; omega
  | cons x r ih =>
    rw [dueN_cons] at h
    split at h
    · cases j with
      | zero => assumption
      | succ j => exact ih (j := j) (by omega)
    · omega
theorem dueN_at {R : List It} {now : Int} (h : dueN R now < R.length) : ¬ (g R (dueN R now)).2 ≤ now := by
  induction R with
  | nil => simp at h
  | cons x r ih =>
    rw [dueN_cons] at h ⊢
    split
    · rename_i hx
      rw [if_pos hx] at h
      exact ih (by simpa using h)
    · assumption
theorem dueN_eq {R : List It} {now : Int} {k : Nat} (hk : k ≤ R.length) (h1 : ∀ j, j < k → (g R j).2 ≤ now) (h2 : k < R.length → ¬ (g R k).2 ≤ now) : dueN R now = k := by
  rcases Nat.lt_trichotomy (dueN R now) k with h | h | h
  · exact absurd (h1 _ h) (dueN_at (by omega))
  · exact h
  · exact absurd (dueN_lt h) (h2 (by have := dueN_le R now; omega))
/-! how a thing finds its place, one by one -/
theorem insR_after {x : It} : ∀ {l : List It}, (∀ y ∈ l, ¬ bef x y) → insR x l = l ++ [x]
  | [], _ => rfl
  | y :: r, h => by
    unfold insR
    rw [if_neg (h y (List.mem_cons_self ..)), insR_after fun z hz => h z (List.mem_cons_of_mem _ hz)]
    rfl
theorem insR_here {x z : It} : ∀ {l : List It}, (∀ y ∈ l, ¬ bef x y) → bef x z → insR x (l ++ [z]) = l ++ [x] ++ [z]
  | [], _, hz => by simp [insR, hz]
  | y :: r, h, hz => by
    show insR x (y :: (r ++ [z])) = _
    unfold insR
    rw [if_neg (h y (List.mem_cons_self ..)), insR_here (fun w hw => h w (List.mem_cons_of_mem _ hw)) hz]
    rfl
theorem insR_done {x z : It} : ∀ {l : List It}, (∃ y ∈ l, bef x y) → insR x (l ++ [z]) = insR x l ++ [z]
  | [], h => by obtain ⟨y, hy, _⟩ := h; cases hy
  | y :: r, h => by
    show insR x (y :: (r ++ [z])) = _
    unfold insR
    by_cases hb : bef x y
    · rw [if_pos hb, if_pos hb]
      rfl
    · rw [if_neg hb, if_neg hb, insR_done]
      · rfl
      · obtain ⟨w, hw, hwb⟩ := h
        rcases List.mem_cons.1 hw with rfl | hw
        · exact absurd hwb hb
        · exact ⟨w, hw, hwb⟩
end Go.Proofs.YtdjieapobodakaaGreatDoor.Tim
end

section
namespace Go.Proofs.YtdjieapobodakaaGreatDoor.Tim
open Go Go.RowKit Go.Maps
set_option maxRecDepth 100000

/-- Memory holds a timer at block t: a heap of its things. -/
structure TimerL (w : World) (t m : Nat) (v : Value) (H : List It) (f : Int → Option Nat) (Φ : Nat → Prop) : Prop where
  blk : w.heap[t]? = some (.cells #[v, .map (some m)] 132 (0, 0))
  row : w.ownsRow 0 130 2 v H.length (flat H)
  map : Places w m f H.length
  heap : Heap H
  tells : Tells f H
  wf : ∀ y ∈ H, wfk y.1
  inn : Φ t ∧ Φ m ∧ ∀ g, v.ownBlock = some g → Φ g
/-- .. and so does a row of things, in their order. -/
def TimerAt (w : World) (t : Nat) (R : List It) (Φ : Nat → Prop) : Prop := Ord R ∧ ∃ m v H f, H.Perm R ∧ TimerL w t m v H f Φ
/-- What speaks of blocks goes on to speak of them, and of all new ones. -/
def more (Φ : Nat → Prop) (w : World) (k : Nat) : Prop := Φ k ∨ w.heap.size ≤ k
section
variable {w w' : World} {t m : Nat} {v : Value} {H R : List It} {f : Int → Option Nat} {Φ Ψ : Nat → Prop}
theorem own_isSlice {base e size n : Nat} {xs : List Value} (h : w.ownsRow base e size v n xs) : ∃ A c, v = .slice A n c ∧ c ≤ maxLen ∧ n ≤ c ∧ (A = none ∨ ∃ g, A = some ⟨g, 0, none⟩ ∧ g < w.heap.size ∧ ∃ cur, w.heap[g]? = some (.cells cur e (0, 0))) := by
  rcases h.2 with ⟨h1, h2⟩ | ⟨g, cap, cur, h1, _, hg, hc1, hc2, _⟩
  · exact ⟨none, 0, by rw [h1, h2], Nat.zero_le _, by omega, .inl rfl⟩
  · exact ⟨_, cap, h1, hc2, hc1, .inr ⟨g, rfl, lt_of_block hg, cur, hg⟩⟩
theorem TimerL.keep (h : TimerL w t m v H f Φ) (hc : Chg Ψ w w') (hs : ∀ k, Φ k → ¬ Ψ k) : TimerL w' t m v H f Φ :=
  ⟨hc.heap h.blk (hs _ h.inn.1), hc.own h.row fun g hg => hs _ (h.inn.2.2 g hg), h.map.keep hc (hs _ h.inn.2.1), h.heap, h.tells, h.wf, h.inn⟩
theorem TimerL.mono (h : TimerL w t m v H f Φ) (hs : ∀ k, k < w.heap.size → Φ k → Ψ k) : TimerL w t m v H f Ψ :=
  ⟨h.blk, h.row, h.map, h.heap, h.tells, h.wf, hs _ (lt_of_block h.blk) h.inn.1, hs _ h.map.lt h.inn.2.1, fun g hg => hs _ (h.row.lt g hg).2 (h.inn.2.2 g hg)⟩
theorem TimerAt.keep (h : TimerAt w t R Φ) (hc : Chg Ψ w w') (hs : ∀ k, Φ k → ¬ Ψ k) : TimerAt w' t R Φ := by
  obtain ⟨ho, m, v, H, f, hp, hl⟩ := h
  exact ⟨ho, m, v, H, f, hp, hl.keep hc hs⟩
theorem TimerAt.mono (h : TimerAt w t R Φ) (hs : ∀ k, k < w.heap.size → Φ k → Ψ k) : TimerAt w t R Ψ := by
  obtain ⟨ho, m, v, H, f, hp, hl⟩ := h
  exact ⟨ho, m, v, H, f, hp, hl.mono hs⟩
theorem TimerAt.below (h : TimerAt w t R Φ) (hb : Below w.heap.size w w') : TimerAt w' t R Φ := h.keep (Ψ := fun _ => False) (Chg.of_below hb) fun _ _ => id
theorem TimerAt.lt (h : TimerAt w t R Φ) : t < w.heap.size := by
  obtain ⟨ho, m, v, H, f, hp, hl⟩ := h
  exact lt_of_block hl.blk
/-- A timer that has things. -/
theorem TimerL.held (h : TimerL w t m v H f Φ) (hl : 0 < H.length) : ∃ rb cap, v = .slice (some ⟨rb, 0, none⟩) H.length cap ∧ Held w t m rb cap H f H.length := by
  obtain ⟨rb, cap, hv, _⟩ := h.row.form hl
  have h1 := h.blk
  have h2 := h.row
  rw [hv] at h1 h2
  exact ⟨rb, cap, hv, h1, h2, h.map⟩
end

/-- What Next answers. -/
def nextE (R : List It) : Ending := match R with | [] => .returned (.tuple #[.agg #[.int .i64 0, .int .i64 0], .bool false]) | x :: _ => .returned (.tuple #[.agg #[.int .i64 x.1, .int .i64 x.2], .bool true])
theorem New_any (w : World) : Calls Tryz.prog 60 #[] w fun e w' => e = .returned (.pointer (some ⟨w.heap.size + 1, 0, none⟩)) ∧ Below w.heap.size w w' ∧ w'.heap.size = w.heap.size + 2 ∧ TimerAt w' (w.heap.size + 1) [] (fun k => w.heap.size ≤ k) := by
  have HM : Hid (TimerAt ((w.alloc (.map #[] 0)).alloc (.cells #[.slice none 0 0, .map (some w.heap.size)] 132)) (w.heap.size + 1) [] (fun k => w.heap.size ≤ k)) := Lib.hid (by
    refine ⟨ord_nil, w.heap.size, .slice none 0 0, [], fun _ => none, List.Perm.refl _, ?_, ⟨rfl, .inl ⟨rfl, rfl⟩⟩, (Places.made w).keep (Chg.alloc (Φ := fun _ => False) _ _) id, (fun j _ hj => absurd hj (Nat.not_lt_zero _)), ⟨List.Pairwise.nil, (fun j hj => absurd hj (Nat.not_lt_zero _)), (fun k p e => (by cases e))⟩, (fun y hy => (by cases hy)), (by simp), (by simp), (fun g hg => (by simp [Value.ownBlock] at hg))⟩
    have := heap_alloc_new (w.alloc (.map #[] 0)) (.cells #[.slice none 0 0, .map (some w.heap.size)] 132)
    simpa using this)
  have hmm := @run_makeMap Tryz.prog
  go_enter Tryz.func60, Tryz.ntmps60
  go_wp2
  go_ret
  exact ⟨by simp, ((Below.refl _ _).alloc (Nat.le_refl _) _).alloc (by simp) _, by simp, HM.out⟩

/-- What At answers. -/
def atE (R : List It) (id : Int) (e : Ending) : Prop := (e = .returned (.tuple #[.int .i64 0, .bool false]) ∧ ∀ y ∈ R, y.1 ≠ id) ∨ ∃ x ∈ R, x.1 = id ∧ e = .returned (.tuple #[.int .i64 x.2, .bool true])
set_option maxHeartbeats 800000 in
theorem At_any {w : World} {t : Nat} {R : List It} {Φ : Nat → Prop} (h : TimerAt w t R Φ) (id : Int) (hid : wfk id) : Calls Tryz.prog 56 #[.pointer (some ⟨t, 0, none⟩), .int .i64 id] w fun e w' => atE R id e ∧ w = w' := by
  obtain ⟨ho, m, v, H, f, hp, hl⟩ := h
  obtain ⟨c0, c1⟩ := two_cells' hl.blk
  have hlk := hl.map.look hid
  cases hf : f id with
  | none =>
    rw [hf] at hlk
    have HE : Hid (atE R id (.returned (.tuple #[.int .i64 0, .bool false]))) := Lib.hid (.inl ⟨rfl, fun y hy => hl.tells.none hf y ((hp.mem_iff).2 hy)⟩)
    have hlk' : (Instr.lookup 68 (.map (some m)) (.int .i64 id) true).run Tryz.prog w = .ok (.tuple #[.int .i64 (plc f id), .bool false]) w := hlk
    clear hl hp ho hf hlk
    go_enter Tryz.func56, Tryz.ntmps56
    go_wp2
    go_ret2
    exact ⟨HE.out, rfl⟩
  | some p =>
    obtain ⟨hpl, hpi⟩ := hl.tells.place hf
    obtain ⟨rb, cap, rfl, hh⟩ := hl.held (by omega)
    obtain ⟨r0, r1⟩ := hh.cell hpl
    obtain ⟨_, _, hc1, hc2⟩ := hh.rowb
    unfold maxLen at hc2
    have hlk' : (Instr.lookup 68 (.map (some m)) (.int .i64 id) true).run Tryz.prog w = .ok (.tuple #[.int .i64 (p : Int), .bool true]) w := by
      rw [hlk]
      unfold plc
      rw [hf]
      rfl
    have hpl' : (p : Int) < H.length := by omega
    have HE : Hid (atE R id (.returned (.tuple #[.int .i64 (g H p).2, .bool true]))) := Lib.hid (.inr ⟨g H p, (hp.mem_iff).1 (g_mem hpl), hpi, rfl⟩)
    clear hl hp ho hf hlk hh hpi
    go_enter Tryz.func56, Tryz.ntmps56
    go_wp2
    go_ret2
    exact ⟨HE.out, rfl⟩
end Go.Proofs.YtdjieapobodakaaGreatDoor.Tim
end
