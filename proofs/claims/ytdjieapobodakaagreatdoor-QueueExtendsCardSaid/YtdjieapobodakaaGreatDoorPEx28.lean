/- What is proved here: the messages that were kept for long enough go. -/
/- What is proved here: what Tick makes of a queue's parts. -/
/- What is proved here: a queue's block is given parts that are empty. -/
import Derived.Test.YtdjieapobodakaaGreatDoorPEx27
import Derived.Test.YtdjieapobodakaaGreatDoorPEx17
import Derived.Test.YtdjieapobodakaaGreatDoorPEx22
import Derived.Test.YtdjieapobodakaaGreatDoorPEx25
import Derived.Deep.RegionHeld3
import Derived.Deep.DeepCutAuto
section
namespace Go.Proofs.YtdjieapobodakaaGreatDoor
open Go Go.RowKit Go.Maps Go.WideMaps

def rmI (V : QV) (ids : List Int) : QV := ids.foldl rmV V
theorem rmI_snoc (V : QV) (ids : List Int) (i : Int) : rmI V (ids ++ [i]) = rmV (rmI V ids) i := by simp [rmI]
theorem rmN_rmI (V : QV) (ms : List Mm) : rmN V ms = rmI V (ms.map Mm.id) := by unfold rmN rmI; rw [List.foldl_map]
theorem rmI_same : ∀ (ids : List Int) (V : QV), (rmI V ids).A = V.A ∧ (rmI V ids).now = V.now ∧ (rmI V ids).last = V.last ∧ (rmI V ids).N = V.N ∧ (rmI V ids).K = V.K ∧ (rmI V ids).M.length ≤ V.M.length ∧ (rmI V ids).Lt.length ≤ V.Lt.length ∧ (rmI V ids).R1.length ≤ V.R1.length ∧ (rmI V ids).R2.length ≤ V.R2.length
  | [], V => ⟨rfl, rfl, rfl, rfl, rfl, Nat.le_refl _, Nat.le_refl _, Nat.le_refl _, Nat.le_refl _⟩
  | m :: r, V => by
    obtain ⟨a1, a2, a3, a4, a5, a6, a7, a8, a9⟩ := rmI_same r (rmV V m)
    exact ⟨a1, a2, a3, a4, a5, Nat.le_trans a6 (List.length_filter_le _ _), Nat.le_trans a7 (List.length_filter_le _ _), Nat.le_trans a8 (List.length_filter_le _ _), Nat.le_trans a9 (List.length_filter_le _ _)⟩
theorem Few.rmi {V : QV} (h : Few V) (ids : List Int) : Few (rmI V ids) := by
  obtain ⟨_, _, _, a4, a5, a6, a7, a8, a9⟩ := rmI_same ids V
  exact ⟨by rw [a4]; exact h.n, Nat.lt_of_le_of_lt a6 h.m, Nat.lt_of_le_of_lt a7 h.l, Nat.lt_of_le_of_lt a8 h.r1, Nat.lt_of_le_of_lt a9 h.r2, by rw [a5]; exact h.k⟩
/-- While they are gone through. -/
structure ExpAt (w wr : World) (q : Nat) (V : QV) (S : QS) (T : List Tim.It) (A0 : Option Addr) (N cc : Nat) (k : Nat) (A : Option Addr) (c : Nat) (S' : QS) : Prop where
  ql : QL wr q (rmI V ((T.take k).map Prod.fst)) S'
  nx : QNext w wr S S'
  row : wr.ownsRow w.heap.size 3 1 (.slice A k c) k (((T.take k).map Prod.fst).map (Value.int .i64))
  col : ∀ g, (Value.slice A k c).ownBlock = some g → S'.c g = 0
  ids : wr.ownsRow w.heap.size 130 2 (.slice A0 N cc) N (Tim.flat T)
  icol : ∀ g, (Value.slice A0 N cc).ownBlock = some g → S'.c g = 0
theorem ExpAt.below {w wr X : World} {q : Nat} {V : QV} {S : QS} {T : List Tim.It} {A0 A : Option Addr} {N cc k c : Nat} {S' : QS} (h : ExpAt w wr q V S T A0 N cc k A c S') (hb : Below wr.heap.size wr X) : ExpAt w X q V S T A0 N cc k A c S' :=
  ⟨(h.ql.below hb).1, h.nx.trans (h.ql.below hb).2, own_below h.row hb, h.col, own_below h.ids hb, h.icol⟩
def ExpSaid (V : QV) (ids : List Int) (q : Nat) (S : QS) (w : World) (e : Ending) (w' : World) : Prop :=
  ∃ A c, e = .returned (.slice A ids.length c) ∧ Hid (∃ S', QL w' q (rmI V ids) S' ∧ QNext w w' S S' ∧ w'.ownsRow w.heap.size 3 1 (.slice A ids.length c) ids.length (ids.map (Value.int .i64)) ∧ ∀ g, (Value.slice A ids.length c).ownBlock = some g → S'.c g = 0)
section
variable {w w' w2 : World} {q : Nat} {V : QV} {S S' : QS}
set_option maxHeartbeats 6400000 in
set_option maxRecDepth 100000 in
theorem expire_any (h : QL w q V S) (hf : Few V) (hnow : 0 ≤ V.now ∧ V.now ≤ 1099511627776) (hret : 0 ≤ V.A.ret ∧ V.A.ret ≤ 1048576) (hyb : ∀ x ∈ V.R2, 0 ≤ x.1 ∧ x.1 ≤ 900000) {T : List Tim.It} (hT : T = V.R2.take (Tim.dueN V.R2 (V.now - V.A.ret))) :
    Calls Tryz.prog 44 #[.pointer (some ⟨q, 0, none⟩)] w (ExpSaid { V with R2 := V.R2.drop (Tim.dueN V.R2 (V.now - V.A.ret)) } (T.map Prod.fst) q S w) := by
  obtain ⟨i0, hi, hz0, hz1, hz2⟩ := info_parts Lan.info_int
  obtain ⟨c0, c1, c2, c3, c4, c5, c6, c7, c8, c9, c10, c11, c12, c13⟩ := h.cells
  have hle := Tim.dueN_le V.R2 (V.now - V.A.ret)
  obtain ⟨N, hN⟩ : ∃ N, N = Tim.dueN V.R2 (V.now - V.A.ret) := ⟨_, rfl⟩
  have hTl : T.length = N := by rw [hT, hN, List.length_take]; omega
  have hw1 : IntKind.i64.wrap (V.now - V.A.ret) = V.now - V.A.ret := IntWalk.i64_in _ (by omega)
  obtain ⟨V1, hV1⟩ : ∃ V1, V1 = { V with R2 := V.R2.drop (Tim.dueN V.R2 (V.now - V.A.ret)) } := ⟨_, rfl⟩
  rw [← hV1]
  have HD : Hid (Calls Tryz.prog 71 #[.pointer (some ⟨S.t2, 0, none⟩), .int .i64 (V.now - V.A.ret)] w.drew fun e w1 => ∃ A cc, e = .returned (.slice A N cc) ∧ w1.cell? ⟨q, 12, none⟩ = some (.pointer (some ⟨S.t2, 0, none⟩)) ∧ w1.cell? ⟨q, 7, none⟩ = some (.int .i64 V.now) ∧ w1.cell? ⟨q, 1, none⟩ = some (.int .i64 V.A.ret) ∧ Hid (∃ S', ExpAt w w1 q V1 S T A N cc 0 none 0 S')) := Lib.hid (by
    obtain ⟨hd, nd⟩ := h.below ((Below.refl w.heap.size w).drew)
    refine (hd.sDue hf.r2 (V.now - V.A.ret)).mono ?_
    rintro e w1 ⟨v, rfl, hx⟩
    obtain ⟨ho, h1, n1d⟩ := hx.out
    have n1 := nd.trans n1d
    rw [← hT] at ho
    rw [← hN] at ho h1
    obtain ⟨A, cc, rfl⟩ := own_slice5 ho
    obtain ⟨_, e1, _, _, _, _, _, e7, _, _, _, _, e12, _⟩ := h1.cells
    refine ⟨A, cc, rfl, e12, e7, e1, Lib.hid ⟨S, ?_, n1, World.ownsRow_nil _ _ _ _, fun g hg => by simp [Value.ownBlock] at hg, ho, fun b hb => h.new b (ho.lt b hb).1⟩⟩
    rw [hV1, ← hN]
    exact h1)
  have HEND : Hid (∀ wr A0 cc A c, (∃ S', ExpAt w wr q V1 S T A0 N cc N A c S') → ExpSaid V1 (T.map Prod.fst) q S w (.returned (.slice A N c)) wr) := Lib.hid fun wr A0 cc A c ⟨S', hr⟩ => by
    have h1 := hr.ql
    have h2 := hr.row
    have h3 := hr.col
    rw [List.take_of_length_le (by omega)] at h1 h2
    rw [← hTl, ← List.length_map (f := Prod.fst)] at h2 h3 ⊢
    exact ⟨A, c, rfl, Lib.hid ⟨S', h1, hr.nx, h2, h3⟩⟩
  have hNm : N < 900000 := by have := hf.r2; omega
  have HRND : Hid (∀ A0 cc wr k A c, k < N → (∃ S', ExpAt w wr q V1 S T A0 N cc k A c S') → ∃ (g : Nat) (x1 xt : Int), A0 = some ⟨g, 0, none⟩ ∧ N ≤ cc ∧ cc ≤ 9223372036854775807 ∧
      Hid (∀ X, Below wr.heap.size wr X → X.cell? ⟨g, k * 2, none⟩ = some (.int .i64 x1) ∧ X.cell? ⟨g, k * 2 + 1, none⟩ = some (.int .i64 xt)) ∧
      Hid (∀ X, Below wr.heap.size wr X → X.ownsRow w.heap.size 3 1 (.slice A k c) k (((T.take k).map Prod.fst).map (Value.int .i64)) ∧ w.heap.size ≤ X.heap.size ∧ ∀ v2 w3, w3.ownsRow w.heap.size 3 1 v2 (k + 1) (((T.take k).map Prod.fst).map (Value.int .i64) ++ [.int .i64 x1]) → (X.alloc (.cells #[.int .i64 x1] 3)).grownBy w3 (Value.slice A k c).ownBlock → (v2.ownBlock = (Value.slice A k c).ownBlock ∨ v2.ownBlock = some (X.alloc (.cells #[.int .i64 x1] 3)).heap.size) → ∃ A3 c3, v2 = .slice A3 (k + 1) c3 ∧
        Hid (Calls Tryz.prog 55 #[.pointer (some ⟨q, 0, none⟩), .int .i64 x1] w3 fun e w4 => e = .returned (.tuple #[]) ∧ Hid (∃ S', ExpAt w w4 q V1 S T A0 N cc (k + 1) A3 c3 S')))) := Lib.hid fun A0 cc wr k A c hk ⟨S1, hr⟩ => by
    have hkT : k < T.length := by omega
    obtain ⟨x, hx⟩ : ∃ x, x = T[k] := ⟨_, rfl⟩
    have htk : T.take (k + 1) = T.take k ++ [x] := by rw [List.take_succ_eq_append_getElem hkT, hx]
    have hxR : x ∈ V.R2 := by
      have : x ∈ T := by rw [hx]; exact List.getElem_mem hkT
      rw [hT] at this
      exact List.mem_of_mem_take this
    have hwf : Lan.wfk x.1 := by have := hyb x hxR; unfold Lan.wfk; omega
    have hfk : Few (rmI V1 ((T.take k).map Prod.fst)) := Few.rmi (by rw [hV1]; exact ⟨hf.n, hf.m, hf.l, hf.r1, Nat.lt_of_le_of_lt (by rw [List.length_drop]; omega) hf.r2, hf.k⟩) _
    obtain ⟨g, cap, e0, hgl, _⟩ := hr.ids.form (by omega)
    obtain ⟨rfl, rfl⟩ : A0 = some ⟨g, 0, none⟩ ∧ cc = cap := by simpa using e0
    have hcl : N ≤ cc ∧ cc ≤ maxLen := by
      rcases hr.ids.2 with ⟨e1, _⟩ | ⟨g', cap', cur', e1, _, _, h1, h2, _⟩
      · cases e1
      · cases e1
        exact ⟨h1, h2⟩
    have hf2 := Tim.flat_at hkT
    rw [← Tim.g_get hkT, ← hx] at hf2
    unfold maxLen at hcl
    refine ⟨g, x.1, x.2, rfl, hcl.1, hcl.2, Lib.hid fun X hX => ?_, Lib.hid fun X hX => ?_⟩
    · have hi2 := (hr.below hX).ids
      exact ⟨(hi2.cellAt (k * 2) (by omega)).trans hf2.1, (hi2.cellAt (k * 2 + 1) (by omega)).trans hf2.2⟩
    · have hrX := hr.below hX
      refine ⟨hrX.row, hrX.nx.size, fun v2 w3 ho3 hg3 hv3 => ?_⟩
      obtain ⟨A3, c3, rfl⟩ := own_slice5 ho3
      obtain ⟨Y, hY⟩ : ∃ Y, Y = X.alloc (.cells #[.int .i64 x.1] 3) := ⟨_, rfl⟩
      have hbY : Below X.heap.size X Y := by rw [hY]; exact (Below.refl _ _).alloc (Nat.le_refl _) _
      have hYs : Y.heap.size = X.heap.size + 1 := by rw [hY]; simp
      rw [← hY] at hg3 hv3
      clear hY
      have hcg := Chg.of_grown hg3
      obtain ⟨hq4, n4⟩ := hrX.ql.below hbY
      have hq5 := hq4.other hcg fun b hb => hrX.col b hb
      have hq6 := (hrX.nx.trans n4).other hcg fun b hb => (hrX.row.lt b hb).1
      have hcol3 : ∀ g', (Value.slice A3 (k + 1) c3).ownBlock = some g' → S1.c g' = 0 := fun g' hg' => by
        rcases hv3 with e | e
        · exact hrX.col g' (e ▸ hg')
        · rw [e] at hg'
          obtain rfl := Option.some.inj hg'
          exact hrX.ql.new _ (by omega)
      have hids3 := hcg.own (own_below hrX.ids hbY) fun b hb e => rows_apart hrX.ids hrX.row (by decide) hb e rfl
      refine ⟨A3, c3, rfl, Lib.hid ?_⟩
      refine (remove_any hq5 hfk hwf).mono ?_
      rintro e2 w4 ⟨rfl, h4⟩
      obtain ⟨S4, h4q, n4'⟩ := h4.out
      refine ⟨rfl, Lib.hid ⟨S4, ?_, hq6.trans n4', ?_, (n4'.own ho3 hcol3).2, (n4'.own hids3 hrX.icol).1, (n4'.own hids3 hrX.icol).2⟩⟩
      · rw [htk, List.map_append, List.map_singleton, rmI_snoc]
        exact h4q
      · rw [htk, List.map_append, List.map_append]
        exact (n4'.own ho3 hcol3).1
  clear h hf hT hTl hN hle hyb
  clear hV1
  go_enter Tryz.func44, Tryz.ntmps44
  go_wp2_with fail
  go_region_held3 (fun w' => w'.cell? ⟨q, 12, none⟩ = some (.pointer (some ⟨S.t2, 0, none⟩)) ∧ w'.cell? ⟨q, 7, none⟩ = some (.int .i64 V.now) ∧ w'.cell? ⟨q, 1, none⟩ = some (.int .i64 V.A.ret))
    (first | exact ⟨by assumption, by assumption, by assumption⟩)
    (first | (go_at_call 71; refine HD.out.mono ?_; rintro e w1 ⟨A0, cc, rfl, e12, e7, e1, H0⟩))
  clear HD e12 e7 e1
  go_wp2_with fail
  go_loopw [3, 22] (fun l i wr => ∃ (A : Option Addr) (c k : Nat), l = .slice A k c ∧ i = .int .i64 k ∧ k ≤ N ∧ Hid (∃ S', ExpAt w wr q V1 S T A0 N cc k A c S')) (fun _ i _ => N - (intOf i).toNat)
  case atStart => exact ⟨none, 0, 0, rfl, rfl, Nat.zero_le _, H0⟩
  case round =>
    clear H0 c0 c1 c2 c3 c4 c5 c6 c7 c8 c9 c10 c11 c12 c13
    obtain ⟨A, c, k, rfl, rfl, hkN, HR⟩ := hrel
    by_cases hlt : k < N
    · have hlt' : (k : Int) < N := by omega
      obtain ⟨g, x1, xt, rfl, hcap1, hcap2, HC, HA⟩ := HRND.out A0 cc wr k A c hlt HR.out
      clear HR HRND HEND
      obtain ⟨r0, r1⟩ := HC.out wr (Below.refl _ _)
      obtain ⟨X, hX⟩ : ∃ X, X = wr.alloc (.cells #[.int .i64 x1, .int .i64 xt] 130) := ⟨_, rfl⟩
      have hbX : Below wr.heap.size wr X := by rw [hX]; exact (Below.refl _ _).alloc (Nat.le_refl _) _
      have hXs : X.heap.size = wr.heap.size + 1 := by rw [hX]; simp
      have bk := heap_alloc_new wr (.cells #[.int .i64 x1, .int .i64 xt] 130)
      rw [← hX] at bk
      have b0 : X.cell? ⟨wr.heap.size, 0, none⟩ = some (.int .i64 x1) := by simp [World.cell?, bk]
      obtain ⟨how, hsz, hnx⟩ := HA.out X hbX
      have HBK : Hid (∀ w3, (X.alloc (.cells #[.int .i64 x1] 3)).grownBy w3 (Value.slice A k c).ownBlock → w3.cell? ⟨wr.heap.size, 0, none⟩ = some (.int .i64 x1)) := Lib.hid fun w3 hg => by
        have hb1 : Below X.heap.size X (X.alloc (.cells #[.int .i64 x1] 3)) := (Below.refl _ _).alloc (Nat.le_refl _) _
        have hs1 := hb1.size
        refine ((Chg.of_grown hg).cell (p := ⟨wr.heap.size, 0, none⟩) (by show wr.heap.size < _; omega) fun e => ?_).trans ((hb1.cell (p := ⟨wr.heap.size, 0, none⟩) (by show wr.heap.size < _; omega)).trans b0)
        rcases how.2 with ⟨e1, _⟩ | ⟨b', cap', cur', e1, _, hb', _⟩
        · rw [e1] at e
          simp [Value.ownBlock] at e
        · rw [e1] at e
          simp [Value.ownBlock] at e
          rw [e, bk] at hb'
          simp at hb'
      have HOW := Lib.hid how
      have HNX := Lib.hid hnx
      have HW := Lib.hid hX
      have hwX : wr.heap.size < X.heap.size := by omega
      clear how hnx HA HC bk hbX hXs hX
      go_upto_region 5 with fail
      rw [← HW.out]
      clear r0 r1
      go_wp2_with (first
        | (at_builtin; refine wpList_append_where (o := ⟨some 30, _, _, _, _, _⟩) rfl (.tmp 26) (.tmp 29) 48 rfl w.heap.size 3 i0 _ 1 8 Tryz.underlying48 hi hz0 hz1 hz2 rfl (by omega) _ k _ rfl (HOW.out.alloc _) ⟨X.heap.size, 0, none⟩ 1 1 [.int .i64 x1] rfl rfl (news_new X _ _ _ rfl) (one_cell _ _) (by unfold maxLen; omega) (by omega) (by simp; omega) ?_; intro v2 w3 ho3 hg3 hv3; obtain ⟨A3, c3, rfl, HRM⟩ := HNX.out _ _ ho3 hg3 hv3; have b3 := HBK.out _ hg3; clear ho3 hg3 hv3 b0)
        | (go_at_call 55; refine HRM.out.mono ?_; rintro e w4 ⟨rfl, H4⟩))
      go_roundw
      case rel => exact ⟨A3, c3, k + 1, rfl, by go_num, by omega, H4⟩
      case measure => simp [intOf]; omega
    · obtain rfl : k = N := by omega
      have HE := Lib.hid (HEND.out wr A0 cc A c HR.out)
      clear HR HRND HEND
      go_wp2
      go_ret
      exact HE.out
end
end Go.Proofs.YtdjieapobodakaaGreatDoor
end

section
namespace Go.Proofs.YtdjieapobodakaaGreatDoor
open Go Go.RowKit Go.Maps Go.WideMaps

def relV (V : QV) (now : Int) : QV := { V with now := now, R1 := V.R1.drop (Tim.dueN V.R1 now) }
def expV (V : QV) : QV := { V with R2 := V.R2.drop (Tim.dueN V.R2 (V.now - V.A.ret)) }
def expIds (V : QV) : List Int := (V.R2.take (Tim.dueN V.R2 (V.now - V.A.ret))).map Prod.fst
def tickV (V : QV) (now : Int) (D : List Mm) : QV := { rmI (expV (rmN (relV V now) D)) (expIds (rmN (relV V now) D)) with K := Led.leftE V.K now }
theorem rmN_r2 : ∀ (ms : List Mm) (V : QV), ∀ x ∈ (rmN V ms).R2, x ∈ V.R2
  | [], _, _, h => h
  | m :: r, V, x, h => (Tim.mem_dropR.1 (rmN_r2 r (rmV V m.id) x h)).1
section
variable {w w' w2 : World} {q : Nat} {V : QV} {S S' : QS}
theorem QL.kSweep (h : QL w q V S) (hK : V.K.length < 900000) (now : Int) :
    Calls Tryz.prog 45 #[.pointer (some ⟨S.k, 0, none⟩), .int .i64 now] w fun e w' => ∃ v, e = .returned v ∧ Hid (QGot w q { V with K := Led.leftE V.K now } S w') := by
  have hS : Led.pastE V.K now = [] ∨ Led.SortOK (Led.pastE V.K now).length := by
    cases hl : Led.pastE V.K now with
    | nil => exact .inl rfl
    | cons x r =>
      have : (Led.pastE V.K now).length ≤ V.K.length := List.length_filter_le _ _
      rw [hl] at this
      exact .inr (Led.sortN (by simp) (by omega))
  refine (Led.Sweep_any h.key hK hS).mono ?_
  rintro e w1 ⟨A, c, ys, rfl, _, _, _, h1, h2⟩
  exact ⟨_, rfl, Lib.hid (QGot.of (h.keys h1 h2))⟩
set_option maxHeartbeats 800000 in
set_option maxRecDepth 100000 in
theorem Tick_no (h : QL w q V S) {now : Int} (hw : within now V.now 1099511627776 = false) :
    Calls Tryz.prog 20 #[.pointer (some ⟨q, 0, none⟩), .int .i64 now] w fun e w' => e = .returned (.tuple #[.slice none 0 0, .slice none 0 0]) ∧ w = w' := by
  have HW := Lib.hid (within_any now V.now 1099511627776 w)
  rw [hw] at HW
  obtain ⟨c0, c1, c2, c3, c4, c5, c6, c7, c8, c9, c10, c11, c12, c13⟩ := h.cells
  clear h hw
  go_enter Tryz.func20, Tryz.ntmps20
  go_wp2_with (go_at_call 33; refine HW.out.mono ?_; rintro e w1 ⟨rfl, rfl⟩)
  go_ret2
  exact ⟨rfl, rfl⟩
/-- What Tick leaves. -/
def TickSaid (V : QV) (now : Int) (D : List Mm) (q : Nat) (S : QS) (w : World) (e : Ending) (w' : World) : Prop :=
  ∃ A c j A2 c2 n, e = .returned (.tuple #[.slice A j c, .slice A2 n c2]) ∧ Hid (j = D.length ∧ n = (expIds (rmN (relV V now) D)).length ∧ ∃ S', QL w' q (tickV V now D) S' ∧ QNext w w' S S' ∧ w'.ownsRow w.heap.size 70 4 (.slice A j c) j (letCs (relV V now) D) ∧ w'.ownsRow w.heap.size 3 1 (.slice A2 n c2) n ((expIds (rmN (relV V now) D)).map (Value.int .i64)) ∧ (∀ g, (Value.slice A j c).ownBlock = some g → S'.c g = 0) ∧ ∀ g, (Value.slice A2 n c2).ownBlock = some g → S'.c g = 0)
set_option maxHeartbeats 1600000 in
set_option maxRecDepth 100000 in
theorem Tick_ok (h : QL w q V S) (hf : Few V) {now : Int} (hw : within now V.now 1099511627776 = true) (hn0 : 0 ≤ V.now) (hret : 0 ≤ V.A.ret ∧ V.A.ret ≤ 1048576) {ys : List Tim.It} {ms : List Mm} (hys : ys.Perm (V.R1.take (Tim.dueN V.R1 now))) (hyr : ys.Pairwise fun a b => a.1 < b.1) (hyb : ∀ x ∈ V.R1, 0 ≤ x.1 ∧ x.1 ≤ 900000) (hyb2 : ∀ x ∈ V.R2, 0 ≤ x.1 ∧ x.1 ≤ 900000) (hms : ms.map Mm.id = ys.map Prod.fst) (hmm : ∀ m ∈ ms, m ∈ V.M) (hcn : ∀ m ∈ V.M, 0 ≤ m.count ∧ m.count ≤ 900000) :
    Calls Tryz.prog 20 #[.pointer (some ⟨q, 0, none⟩), .int .i64 now] w (TickSaid V now (ms.filter (deadM V.A)) q S w) := by
  have HW := Lib.hid (within_any now V.now 1099511627776 w)
  rw [hw] at HW
  obtain ⟨c0, c1, c2, c3, c4, c5, c6, c7, c8, c9, c10, c11, c12, c13⟩ := h.cells
  have f7 := h.froz 7 (by decide)
  have hnb : V.now ≤ now ∧ now ≤ 1099511627776 := by
    unfold within at hw
    simpa using hw
  obtain ⟨h1, n1⟩ := h.setNow now
  obtain ⟨W, hW⟩ : ∃ W, W = w.setCell ⟨q, 7, none⟩ (.int .i64 now) := ⟨_, rfl⟩
  rw [← hW] at h1 n1
  obtain ⟨D, hD⟩ : ∃ D, D = ms.filter (deadM V.A) := ⟨_, rfl⟩
  rw [← hD]
  have hfr : Few (relV V now) := ⟨hf.n, hf.m, hf.l, Nat.lt_of_le_of_lt (by show (V.R1.drop _).length ≤ _; rw [List.length_drop]; omega) hf.r1, hf.r2, hf.k⟩
  have HR : Hid (Calls Tryz.prog 43 #[.pointer (some ⟨q, 0, none⟩)] W fun e w2 => ∃ A c j, e = .returned (.slice A j c) ∧
      Hid (Calls Tryz.prog 44 #[.pointer (some ⟨q, 0, none⟩)] w2 fun e w3 => ∃ A2 c2 n k, e = .returned (.slice A2 n c2) ∧ w3.cell? ⟨q, 13, none⟩ = some (.pointer (some ⟨k, 0, none⟩)) ∧
      Hid (Calls Tryz.prog 45 #[.pointer (some ⟨k, 0, none⟩), .int .i64 now] w3 fun e w4 => ∃ v, e = .returned v ∧ Hid (TickSaid V now D q S w (.returned (.tuple #[.slice A j c, .slice A2 n c2])) w4)))) := Lib.hid (by
    refine (release_any h1 ⟨hf.n, hf.m, hf.l, hf.r1, hf.r2, hf.k⟩ (ys := ys) (ms := ms) hys hyr hyb hms hmm hcn).mono ?_
    rintro e w2 ⟨A, c, j, rfl, hx⟩
    obtain ⟨hj, S2, h2, n2, row2, col2⟩ := hx.out
    change QL w2 q (rmN (relV V now) (ms.filter (deadM V.A))) S2 at h2
    change w2.ownsRow W.heap.size _ _ _ _ (letCs (relV V now) (ms.filter (deadM V.A))) at row2
    change j = (ms.filter (deadM V.A)).length at hj
    rw [← hD] at h2 row2 hj
    obtain ⟨s1, s2, s3, s4, s5, s6, s7, s8, s9⟩ := rmN_same D (relV V now)
    have hsub : ∀ x ∈ (rmN (relV V now) D).R2, x ∈ V.R2 := rmN_r2 D (relV V now)
    refine ⟨A, c, j, rfl, Lib.hid ?_⟩
    refine (expire_any h2 (Few.rm hfr D) (by rw [s2]; show 0 ≤ now ∧ now ≤ _; omega) (by rw [s1]; exact hret) (fun x hx => hyb2 x (hsub x hx)) rfl).mono ?_
    rintro e w3 ⟨A2, c2, rfl, hy⟩
    obtain ⟨S3, h3, n3, row3, col3⟩ := hy.out
    obtain ⟨t1, t2, t3, t4, t5, _⟩ := rmI_same (expIds (rmN (relV V now) D)) (expV (rmN (relV V now) D))
    refine ⟨A2, c2, _, S3.k, rfl, h3.cells.2.2.2.2.2.2.2.2.2.2.2.2.2, Lib.hid ?_⟩
    have hK : (rmI (expV (rmN (relV V now) D)) (expIds (rmN (relV V now) D))).K = V.K := t5.trans s5
    refine (h3.kSweep (now := now) ?_).mono ?_
    · have := hf.k
      show (rmI (expV (rmN (relV V now) D)) (expIds (rmN (relV V now) D))).K.length < _
      rw [hK]
      exact this
    rintro e w4 ⟨v, rfl, hz⟩
    obtain ⟨S4, h4, n4⟩ := hz.out
    refine ⟨v, rfl, Lib.hid ⟨A, c, j, A2, c2, _, rfl, Lib.hid ⟨hj, rfl, S4, ?_, n1.trans (n2.trans (n3.trans n4)), ?_, ?_, ?_, ?_⟩⟩⟩
    · change QL w4 q { rmI (expV (rmN (relV V now) D)) (expIds (rmN (relV V now) D)) with K := Led.leftE (rmI (expV (rmN (relV V now) D)) (expIds (rmN (relV V now) D))).K now } S4 at h4
      rw [hK] at h4
      exact h4
    · exact own_base ((n3.trans n4).own row2 col2).1 n1.size
    · exact own_base (n4.own row3 col3).1 (Nat.le_trans n1.size n2.size)
    · exact ((n3.trans n4).own row2 col2).2
    · exact (n4.own row3 col3).2)
  have HWW := Lib.hid hW
  clear h hf hw hys hyr hyb hyb2 hms hmm hcn h1 n1 hfr hD hW
  go_enter Tryz.func20, Tryz.ntmps20
  go_wp2_with (first
    | (go_at_call 33; refine HW.out.mono ?_; rintro e w1 ⟨rfl, rfl⟩)
    | (go_at_call 43; rw [← HWW.out]; refine HR.out.mono ?_; rintro e w2 ⟨A, c, j, rfl, HX⟩; clear HR)
    | (go_at_call 44; refine HX.out.mono ?_; rintro e w3 ⟨A2, cc2, n, k, rfl, e13, HS⟩; clear HX)
    | (go_at_call 45; refine HS.out.mono ?_; rintro e w4 ⟨v, rfl, HE⟩; clear HS))
  go_ret2
  exact HE.out
end
end Go.Proofs.YtdjieapobodakaaGreatDoor
end

section
namespace Go.Proofs.YtdjieapobodakaaGreatDoor
open Go Go.RowKit Go.Maps Go.WideMaps

/-- A queue's block, whatever its parts. -/
def QBlk (w : World) (q : Nat) (A : Att) (now last : Int) (x9 x10 x11 x12 : Value) (k : Nat) : Prop :=
  w.heap[q]? = some (.cells #[.int .i64 A.vis, .int .i64 A.ret, .int .i64 A.del, .int .i64 A.win, .int .i64 A.max, .string A.dead, .bool A.fifo, .int .i64 now, .int .i64 last, x9, x10, x11, x12, ptr k] 80 (0, 0))
theorem QBlk.cells {w : World} {q : Nat} {A : Att} {now last : Int} {x9 x10 x11 x12 : Value} {k : Nat} (h : QBlk w q A now last x9 x10 x11 x12 k) :
    w.cell? ⟨q, 9, none⟩ = some x9 ∧ w.cell? ⟨q, 10, none⟩ = some x10 ∧ w.cell? ⟨q, 11, none⟩ = some x11 ∧ w.cell? ⟨q, 12, none⟩ = some x12 ∧ w.frozen? ⟨q, 9, none⟩ = false ∧ w.frozen? ⟨q, 10, none⟩ = false ∧ w.frozen? ⟨q, 11, none⟩ = false ∧ w.frozen? ⟨q, 12, none⟩ = false := by
  unfold QBlk at h
  simp [World.cell?, World.frozen?, h]
theorem QBlk.lt {w : World} {q : Nat} {A : Att} {now last : Int} {x9 x10 x11 x12 : Value} {k : Nat} (h : QBlk w q A now last x9 x10 x11 x12 k) : q < w.heap.size := Lan.lt_of_block h
theorem QBlk.below {w w' : World} {q : Nat} {A : Att} {now last : Int} {x9 x10 x11 x12 : Value} {k : Nat} (h : QBlk w q A now last x9 x10 x11 x12 k) (hb : Below w.heap.size w w') : QBlk w' q A now last x9 x10 x11 x12 k := (Chg.of_below (Φ := fun _ => False) hb).heap h id

/-- Empty parts in new blocks, each of its colour. -/
structure EmptyAt (w w' : World) (q : Nat) (A : Att) (now last : Int) (k m l t1 t2 : Nat) (c : Nat → Nat) : Prop where
  blk : QBlk w' q A now last (.map (some m)) (ptr l) (ptr t1) (ptr t2) k
  mp : MapV Tryz.prog 3 w' m 0 (fun _ => none)
  lan : Lan.LaneAt w' l [] 0 (fun b => c b = 4)
  les : Tim.TimerAt w' t1 [] (fun b => c b = 5)
  snt : Tim.TimerAt w' t2 [] (fun b => c b = 6)
  cm : c m = 2
  low : ∀ b, b < w.heap.size → c b = 0
  new : ∀ b, w'.heap.size ≤ b → c b = 0
  chg : Chg (fun b => b = q) w w'
theorem QBlk.put {w : World} {q : Nat} {A : Att} {now last : Int} {x9 x10 x11 x12 : Value} {k : Nat} (h : QBlk w q A now last x9 x10 x11 x12 k) (y9 y10 y11 y12 : Value) :
    QBlk ((((w.setCell ⟨q, 9, none⟩ y9).setCell ⟨q, 10, none⟩ y10).setCell ⟨q, 11, none⟩ y11).setCell ⟨q, 12, none⟩ y12) q A now last y9 y10 y11 y12 k := by
  unfold QBlk at *
  exact heap_setCell_same (heap_setCell_same (heap_setCell_same (heap_setCell_same h 9 y9) 10 y10) 11 y11) 12 y12
set_option maxHeartbeats 1600000 in
set_option maxRecDepth 100000 in
theorem empty_any {w : World} {q : Nat} {A : Att} {now last : Int} {x9 x10 x11 x12 : Value} {k : Nat} (h : QBlk w q A now last x9 x10 x11 x12 k) :
    Calls Tryz.prog 32 #[.pointer (some ⟨q, 0, none⟩)] w fun e w' => e = .returned (.tuple #[]) ∧ Hid (∃ m l t1 t2 c, EmptyAt w w' q A now last k m l t1 t2 c) := by
  have HL : Hid (Calls Tryz.prog 59 #[] (w.alloc (.map #[] 0)) fun e wL => ∃ l, e = .returned (.pointer (some ⟨l, 0, none⟩)) ∧
      Hid (Calls Tryz.prog 60 #[] wL fun e wT => ∃ t1, e = .returned (.pointer (some ⟨t1, 0, none⟩)) ∧
      Hid (Calls Tryz.prog 60 #[] wT fun e wU => ∃ t2, e = .returned (.pointer (some ⟨t2, 0, none⟩)) ∧ wU.cell? ⟨q, 9, none⟩ = some x9 ∧ wU.cell? ⟨q, 10, none⟩ = some x10 ∧ wU.cell? ⟨q, 11, none⟩ = some x11 ∧ wU.cell? ⟨q, 12, none⟩ = some x12 ∧ wU.frozen? ⟨q, 9, none⟩ = false ∧ wU.frozen? ⟨q, 10, none⟩ = false ∧ wU.frozen? ⟨q, 11, none⟩ = false ∧ wU.frozen? ⟨q, 12, none⟩ = false ∧
      Hid (∃ m l' t1' t2' c, m = w.heap.size ∧ l' = l ∧ t1' = t1 ∧ t2' = t2 ∧ EmptyAt w ((((wU.setCell ⟨q, 9, none⟩ (.map (some m))).setCell ⟨q, 10, none⟩ (ptr l')).setCell ⟨q, 11, none⟩ (ptr t1')).setCell ⟨q, 12, none⟩ (ptr t2')) q A now last k m l' t1' t2' c)))) := Lib.hid (by
    have hm := MapV.made Tryz.prog 3 w
    have hbM : Below w.heap.size w (w.alloc (.map #[] 0)) := (Below.refl _ _).alloc (Nat.le_refl _) _
    obtain ⟨W, hW⟩ : ∃ W, W = w.alloc (.map #[] 0) := ⟨_, rfl⟩
    have hWs : W.heap.size = w.heap.size + 1 := by rw [hW]; simp
    rw [← hW] at hm hbM ⊢
    clear hW
    refine (Lan.New_any W).mono ?_
    rintro e wL ⟨rfl, hbL, hl⟩
    refine ⟨_, rfl, Lib.hid ?_⟩
    refine (Tim.New_any wL).mono ?_
    rintro e wT ⟨rfl, hbT, _, ht1⟩
    refine ⟨_, rfl, Lib.hid ?_⟩
    refine (Tim.New_any wT).mono ?_
    rintro e wU ⟨rfl, hbU, _, ht2⟩
    have s1 := hbL.size
    have s2 := hbT.size
    have s3 := hbU.size
    have hbTU : Below wL.heap.size wL wU := hbT.trans (hbU.mono s2)
    have hbLU : Below W.heap.size W wU := hbL.trans (hbTU.mono s1)
    have hb : Below w.heap.size w wU := hbM.trans (hbLU.mono (by omega))
    have hq := h.below hb
    obtain ⟨c9, c10, c11, c12, f9, f10, f11, f12⟩ := hq.cells
    have hql := h.lt
    refine ⟨_, rfl, c9, c10, c11, c12, f9, f10, f11, f12, Lib.hid ⟨_, _, _, _, fun b => if b = w.heap.size then 2 else if b < W.heap.size then 0 else if b < wL.heap.size then 4 else if b < wT.heap.size then 5 else if b < wU.heap.size then 6 else 0, rfl, rfl, rfl, rfl, ?_⟩⟩
    have hc : Chg (fun b => b = q) wU ((((wU.setCell ⟨q, 9, none⟩ (.map (some w.heap.size))).setCell ⟨q, 10, none⟩ (ptr (W.heap.size + 2))).setCell ⟨q, 11, none⟩ (ptr (wL.heap.size + 1))).setCell ⟨q, 12, none⟩ (ptr (wT.heap.size + 1))) :=
      (((Chg.set _ _ _ _).trans (Chg.set _ _ _ _) fun _ _ e => e).trans (Chg.set _ _ _ _) fun _ _ e => e).trans (Chg.set _ _ _ _) fun _ _ e => e
    have s4 := hc.size
    have hl' := hl.below hbTU
    have ht1' := ht1.below hbU
    refine ⟨hq.put _ _ _ _, (hm.keep (Φ := fun _ => False) (Chg.of_below hbLU) id).keep hc (by show ¬ w.heap.size = q; omega), ?_, ?_, ?_, if_pos rfl, fun b hb => ?_, fun b hb => ?_, (Chg.of_below (Φ := fun b => b = q) hb).trans hc fun _ _ e => e⟩
    · refine ((hl.mono (Ψ := fun b => W.heap.size ≤ b ∧ b < wL.heap.size) fun b h1 h2 => ⟨h2, h1⟩).below hbTU).keep hc (fun b h1 e => by have e' : b = q := e; omega) |>.mono fun b _ h1 => ?_
      show (if b = w.heap.size then 2 else if b < W.heap.size then 0 else if b < wL.heap.size then 4 else if b < wT.heap.size then 5 else if b < wU.heap.size then 6 else 0) = 4
      rw [if_neg (by omega), if_neg (by omega), if_pos (by omega)]
    · refine ((ht1.mono (Ψ := fun b => wL.heap.size ≤ b ∧ b < wT.heap.size) fun b h1 h2 => ⟨h2, h1⟩).below hbU).keep hc (fun b h1 e => by have e' : b = q := e; omega) |>.mono fun b _ h1 => ?_
      show (if b = w.heap.size then 2 else if b < W.heap.size then 0 else if b < wL.heap.size then 4 else if b < wT.heap.size then 5 else if b < wU.heap.size then 6 else 0) = 5
      rw [if_neg (by omega), if_neg (by omega), if_neg (by omega), if_pos (by omega)]
    · refine (ht2.mono (Ψ := fun b => wT.heap.size ≤ b ∧ b < wU.heap.size) fun b h1 h2 => ⟨h2, h1⟩).keep hc (fun b h1 e => by have e' : b = q := e; omega) |>.mono fun b _ h1 => ?_
      show (if b = w.heap.size then 2 else if b < W.heap.size then 0 else if b < wL.heap.size then 4 else if b < wT.heap.size then 5 else if b < wU.heap.size then 6 else 0) = 6
      rw [if_neg (by omega), if_neg (by omega), if_neg (by omega), if_neg (by omega), if_pos (by omega)]
    · show (if b = w.heap.size then 2 else if b < W.heap.size then 0 else if b < wL.heap.size then 4 else if b < wT.heap.size then 5 else if b < wU.heap.size then 6 else 0) = 0
      rw [if_neg (by omega), if_pos (by omega)]
    · show (if b = w.heap.size then 2 else if b < W.heap.size then 0 else if b < wL.heap.size then 4 else if b < wT.heap.size then 5 else if b < wU.heap.size then 6 else 0) = 0
      rw [if_neg (by omega), if_neg (by omega), if_neg (by omega), if_neg (by omega), if_neg (by omega)])
  have hmm := @run_makeMap Tryz.prog
  clear h
  go_enter Tryz.func32, Tryz.ntmps32
  go_wp2_with (first
      | (go_at_call 59; refine HL.out.mono ?_; rintro e wL ⟨l, rfl, HT1⟩; clear HL)
      | (go_at_call 60; refine HT1.out.mono ?_; rintro e wT ⟨t1, rfl, HT2⟩; clear HT1)
      | (go_at_call 60; refine HT2.out.mono ?_; rintro e wU ⟨t2, rfl, c9, c10, c11, c12, f9, f10, f11, f12, HE⟩; clear HT2))
  all_goals go_end0
  refine ⟨rfl, Lib.hid ?_⟩
  obtain ⟨m, l', t1', t2', c, rfl, rfl, rfl, rfl, hE⟩ := HE.out
  exact ⟨_, _, _, _, c, hE⟩

/-- Empty parts beside the keys are a queue's. -/
theorem EmptyAt.ql {w w' : World} {q : Nat} {A : Att} {now last : Int} {k m l t1 t2 : Nat} {c c0 : Nat → Nat} {K : List Led.En} (h : EmptyAt w w' q A now last k m l t1 t2 c) (hq : c0 q = 1) (hql : q < w.heap.size) (hk : Led.LedAt w k 4096 K (fun b => c0 b = 7)) :
    QL w' q ⟨A, now, last, [], [], 0, [], [], K⟩ ⟨m, l, t1, t2, k, fun _ => none, fun _ => 0, fun b => if b < w.heap.size then c0 b else c b⟩ := by
  have hup : ∀ {b j : Nat}, j ≠ 0 → c b = j → (if b < w.heap.size then c0 b else c b) = j := fun {b j} hj hb => by
    rw [if_neg fun hlt => hj (by rw [← hb, h.low b hlt])]; exact hb
  refine ⟨h.blk, h.mp, (fun _ => rfl), (fun x hx => by cases hx), List.Pairwise.nil, (fun x hx => by cases hx), (fun x hx => by cases hx), h.lan.mono fun b _ hb => hup (by decide) hb, h.les.mono fun b _ hb => hup (by decide) hb, h.snt.mono fun b _ hb => hup (by decide) hb, ?_, ?_, hup (by decide) h.cm, (fun x hx => by cases hx), fun b hb => ?_⟩
  · refine ((hk.mono (Ψ := fun b => c0 b = 7 ∧ b < w.heap.size) fun b h1 h2 => ⟨h2, h1⟩).keep h.chg fun b h1 e => ?_).mono fun b _ h1 => ?_
    · have e' : b = q := e
      rw [e', hq] at h1
      cases h1.1
    · show (if b < w.heap.size then c0 b else c b) = 7
      rw [if_pos h1.2]
      exact h1.1
  · show (if q < w.heap.size then c0 q else c q) = 1
    rw [if_pos hql]
    exact hq
  · have := h.chg.size
    show (if b < w.heap.size then c0 b else c b) = 0
    rw [if_neg (by omega)]
    exact h.new b hb
/-- Purge empties it. -/
theorem EmptyAt.purged {w w' : World} {q : Nat} {V : QV} {S : QS} {m l t1 t2 : Nat} {c : Nat → Nat} (hQ : QL w q V S) (h : EmptyAt w w' q V.A V.now V.last S.k m l t1 t2 c) : QGot w q ⟨V.A, V.now, V.last, [], [], 0, [], [], V.K⟩ S w' :=
  ⟨_, h.ql hQ.cq hQ.lt hQ.key, fun b hb => if_pos hb, h.chg.mono fun b _ e => by rw [e, hQ.cq]; decide⟩
end Go.Proofs.YtdjieapobodakaaGreatDoor
end
