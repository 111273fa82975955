/- What is proved here: what Receive makes of a queue's parts. -/
/- What is proved here: things are sorted by their numbers (slices.SortFunc with the function of release). -/
/- What is proved here: the leases that are past end. -/
import Derived.Test.YtdjieapobodakaaGreatDoorPEx26
import Derived.Test.YtdjieapobodakaaGreatDoorPEx24
import Derived.Test.YtdjieapobodakaaGreatDoorPEx7
import Derived.Deep.RegionLaw
import Derived.Test.YtdjieapobodakaaGreatDoorPEx6
section
namespace Go.Proofs.YtdjieapobodakaaGreatDoor
open Go Go.RowKit Go.Maps Go.WideMaps

def tookC (V : QV) (m : Mm) : List Value := [.int .i64 m.id, .int .i64 (m.count + 1), .string (rcptS m.id (m.count + 1)), .string m.body, .string (groupOf V m.id)]
def tookCs (V : QV) (ms : List Mm) : List Value := ms.flatMap (tookC V)
def leaseN (V : QV) (ms : List Mm) (u : Int) : QV := ms.foldl (fun V m => leaseV V m.id u) V
theorem leaseN_snoc (V : QV) (ms : List Mm) (m : Mm) (u : Int) : leaseN V (ms ++ [m]) u = leaseV (leaseN V ms u) m.id u := by simp [leaseN]
theorem leaseN_same (u : Int) : ∀ (ms : List Mm) (V : QV), (leaseN V ms u).A = V.A ∧ (leaseN V ms u).now = V.now ∧ (leaseN V ms u).last = V.last ∧ (leaseN V ms u).Lt = V.Lt ∧ (leaseN V ms u).N = V.N ∧ (leaseN V ms u).R2 = V.R2 ∧ (leaseN V ms u).K = V.K ∧ (leaseN V ms u).M.length = V.M.length
  | [], V => ⟨rfl, rfl, rfl, rfl, rfl, rfl, rfl, rfl⟩
  | m :: r, V => by
    obtain ⟨a1, a2, a3, a4, a5, a6, a7, a8⟩ := leaseN_same u r (leaseV V m.id u)
    exact ⟨a1, a2, a3, a4, a5, a6, a7, a8.trans (bump_len _ _)⟩
theorem setR_len (R : List Tim.It) (x : Tim.It) : (Tim.setR R x).length ≤ R.length + 1 := by
  unfold Tim.setR
  rw [Tim.length_insR]
  exact Nat.succ_le_succ (List.length_filter_le _ _)
theorem leaseN_r1 (u : Int) : ∀ (ms : List Mm) (V : QV), (leaseN V ms u).R1.length ≤ V.R1.length + ms.length
  | [], V => Nat.le_refl _
  | m :: r, V => by
    have h1 := leaseN_r1 u r (leaseV V m.id u)
    have h2 : (leaseV V m.id u).R1.length ≤ V.R1.length + 1 := setR_len _ _
    simp only [List.length_cons]
    show (leaseN (leaseV V m.id u) r u).R1.length ≤ _
    omega
theorem leaseN_mem (u : Int) {m : Mm} : ∀ (ms : List Mm) (V : QV), m ∈ V.M → (∀ x ∈ ms, x.id ≠ m.id) → m ∈ (leaseN V ms u).M
  | [], V, h, _ => h
  | x :: r, V, h, hn => leaseN_mem u r (leaseV V x.id u) (by
    show m ∈ bumpM V.M x.id
    unfold bumpM
    exact List.mem_map.2 ⟨m, h, if_neg fun e => hn x (by simp) e.symm⟩) fun y hy => hn y (by simp [hy])
theorem tookCs_len (V : QV) : ∀ ms : List Mm, (tookCs V ms).length = ms.length * 5
  | [] => rfl
  | m :: r => by
    show (tookC V m ++ tookCs V r).length = _
    rw [List.length_append, tookCs_len V r, List.length_cons]
    show 5 + _ = _
    omega
theorem tookCs_snoc (V : QV) (ms : List Mm) (m : Mm) : tookCs V (ms ++ [m]) = tookCs V ms ++ tookC V m := by simp [tookCs]
/-- 'append' to a row of the call's own; and where the new row lies. -/
theorem wpList_append_where {P : Program} {w : World} {ops : Array Oper} {rest : List Oper} {o : Oper} {a : Act} {Q : Exit → Act → World → Prop} (hgd : o.guard = none) (s x : Operand) (t : TypeId)
    (ho : o.op = .call { callee := .builtin .append, args := #[s, x], argTypes := #[t, t] })
    (base : Nat) (e : TypeId) (i : TypeInfo) (z : Value) (size bytes : Nat) (ht : P.underlying t = some (.slice e)) (hi : P.info? e = some i) (hz : i.zero = some z)
    (hsize : i.size = size) (hby : i.bytes = bytes) (hzs : z.cells.size = size) (hsz : 0 < size)
    (v : Value) (n : Nat) (xs : List Value) (hs : a.eval s = v) (hown : w.ownsRow base e size v n xs)
    (ad : Addr) (m c : Nat) (news : List Value) (hx : a.eval x = .slice (some ad) m c) (hl : news.length = m * size)
    (hnews : ∀ j u, news[j]? = some u → w.cell? (ad.add j) = some u) (h1 : ∀ u ∈ news, u.oneCell' = true)
    (h63 : n + m ≤ maxLen) (hbytes : (n + m) * bytes ≤ 140737488355328) (hbase : base ≤ w.heap.size)
    (h : ∀ v' w', w'.ownsRow base e size v' (n + m) (xs ++ news) → w.grownBy w' v.ownBlock → (v'.ownBlock = v.ownBlock ∨ v'.ownBlock = some w.heap.size) → wpList P ops Q rest (a.put o.dst v') w') : wpList P ops Q (o :: rest) a w := by
  refine wpList_plain hgd fun K' hK' => ?_
  obtain ⟨v', w', hrun, h2, h3, _, h5⟩ := run_append_own_at (P := P) w base t o.type e i z size bytes ht hi hz hsize hby hzs hsz v n xs hown ad m c news hl hnews h1 h63 hbytes hbase
  unfold Oper.wp
  simp [execOp, ho, resolve, invoke, builtin, hs, hx, hrun, Result.andThen]
  exact hK' _ _ (h v' w' h2 h3 h5)
section
variable {w w' w2 : World} {q : Nat} {V : QV} {S S' : QS}
theorem QL.other {Ψ : Nat → Prop} (h : QL w q V S) (hc : Chg Ψ w w') (hΨ : ∀ b, Ψ b → S.c b = 0) : QL w' q V S := by
  have hne : ∀ {j b : Nat}, j ≠ 0 → S.c b = j → ¬ Ψ b := fun hj hb e => hj (by rw [← hb, hΨ _ e])
  exact ⟨hc.heap h.blk (hne (by decide) h.cq), h.mp.keep hc (hne (by decide) h.cm), h.pl, fun y hy => hc.heap (h.ms y hy) (hne (by decide) (h.cp y hy)), h.nodup, h.wf, h.inj, h.lan.keep hc fun _ hb => hne (by decide) hb, h.les.keep hc fun _ hb => hne (by decide) hb, h.snt.keep hc fun _ hb => hne (by decide) hb, h.key.keep hc fun _ hb => hne (by decide) hb, h.cq, h.cm, h.cp, fun b hb => h.new b (Nat.le_trans hc.size hb)⟩
theorem QNext.other {Ψ : Nat → Prop} (h : QNext w w' S S') (hc : Chg Ψ w' w2) (hΨ : ∀ b, Ψ b → w.heap.size ≤ b) : QNext w w2 S S' :=
  ⟨h.1, ⟨hc.os.trans h.2.os, hc.tape.trans h.2.tape, hc.output.trans h.2.output, Nat.le_trans h.2.size hc.size, fun b hb hn => (hc.block b (Nat.lt_of_lt_of_le hb h.2.size) fun e => by have := hΨ b e; omega).trans (h.2.block b hb hn)⟩⟩
theorem info_took : (Tryz.prog.info? 60).map (fun i => (i.zero, i.size, i.bytes)) = some (some (.agg #[.int .i64 0, .int .i64 0, .string ⟨#[]⟩, .string ⟨#[]⟩, .string ⟨#[]⟩]), 5, 64) := by kernel_rfl
theorem news_took (w : World) (V : QV) (m : Mm) : ∀ ad, some (⟨w.heap.size, 0, none⟩ : Addr) = some ad → ∀ j u, (tookC V m)[j]? = some u → (w.alloc (.cells #[.int .i64 m.id, .int .i64 (m.count + 1), .string (rcptS m.id (m.count + 1)), .string m.body, .string (groupOf V m.id)] 60)).cell? (ad.add j) = some u := by
  intro ad e j u hj
  obtain rfl := (Option.some.inj e).symm
  have hb := heap_alloc_new w (.cells #[.int .i64 m.id, .int .i64 (m.count + 1), .string (rcptS m.id (m.count + 1)), .string m.body, .string (groupOf V m.id)] 60)
  have : j < 5 := (List.getElem?_eq_some_iff.1 hj).1
  generalize w.alloc (.cells #[.int .i64 m.id, .int .i64 (m.count + 1), .string (rcptS m.id (m.count + 1)), .string m.body, .string (groupOf V m.id)] 60) = W at *
  obtain rfl | rfl | rfl | rfl | rfl : j = 0 ∨ j = 1 ∨ j = 2 ∨ j = 3 ∨ j = 4 := by omega
  all_goals
    simp [tookC] at hj
    subst hj
    simp [World.cell?, Addr.add, hb]
theorem one_cell5 (V : QV) (m : Mm) : ∀ u ∈ tookC V m, u.oneCell' = true := by
  intro u hu
  simp [tookC] at hu
  rcases hu with rfl | rfl | rfl | rfl | rfl <;> rfl
/-- While they are leased, one by one. -/
structure RecvAt (w wr : World) (q : Nat) (V : QV) (S : QS) (ms : List Mm) (u : Int) (A0 : Option Addr) (N cc : Nat) (k : Nat) (A : Option Addr) (c : Nat) (S' : QS) : Prop where
  ql : QL wr q (leaseN V (ms.take k) u) S'
  nx : QNext w wr S S'
  row : wr.ownsRow w.heap.size 60 5 (.slice A k c) k (tookCs V (ms.take k))
  col : ∀ g, (Value.slice A k c).ownBlock = some g → S'.c g = 0
  ids : wr.ownsRow w.heap.size 3 1 (.slice A0 N cc) N ((ms.map Mm.id).map (Value.int .i64))
  icol : ∀ g, (Value.slice A0 N cc).ownBlock = some g → S'.c g = 0
/-- Behind a lease, ahead of the append. -/
structure LeasedAt (w w2 : World) (q : Nat) (V : QV) (S : QS) (ms : List Mm) (u : Int) (A0 : Option Addr) (N cc : Nat) (k : Nat) (A : Option Addr) (c : Nat) : Prop where
  ex : ∃ S2, QL w2 q (leaseN V (ms.take (k + 1)) u) S2 ∧ QNext w w2 S S2 ∧ (∀ g, (Value.slice A k c).ownBlock = some g → S2.c g = 0) ∧ ∀ g, (Value.slice A0 N cc).ownBlock = some g → S2.c g = 0
  row : w2.ownsRow w.heap.size 60 5 (.slice A k c) k (tookCs V (ms.take k))
  ids : w2.ownsRow w.heap.size 3 1 (.slice A0 N cc) N ((ms.map Mm.id).map (Value.int .i64))
theorem own_slice5 {w : World} {base e size n : Nat} {v : Value} {xs : List Value} (h : w.ownsRow base e size v n xs) : ∃ A c, v = .slice A n c := by
  rcases h.2 with ⟨rfl, h0⟩ | ⟨g, cap, _, rfl, _⟩
  · exact ⟨none, 0, by rw [h0]⟩
  · exact ⟨_, _, rfl⟩
/-- Rows of two types lie apart. -/
theorem rows_apart {w : World} {base base' e e' size size' n n' : Nat} {v v' : Value} {xs xs' : List Value} (h : w.ownsRow base e size v n xs) (h' : w.ownsRow base' e' size' v' n' xs') (hne : e ≠ e') {g g' : Nat} (hg : v.ownBlock = some g) (hg' : v'.ownBlock = some g') : g ≠ g' := by
  intro eq
  rcases h.2 with ⟨rfl, _⟩ | ⟨b, cap, cur, rfl, _, hb, _⟩
  · simp [Value.ownBlock] at hg
  rcases h'.2 with ⟨rfl, _⟩ | ⟨b', cap', cur', rfl, _, hb', _⟩
  · simp [Value.ownBlock] at hg'
  simp [Value.ownBlock] at hg hg'
  rw [hg, eq, ← hg', hb'] at hb
  simp at hb
  exact hne hb.2.symm
/-- What Receive leaves. -/
def RecvSaid (V : QV) (ms : List Mm) (u : Int) (q : Nat) (S : QS) (w : World) (e : Ending) (w' : World) : Prop :=
  ∃ A c, e = .returned (.tuple #[.slice A ms.length c, .int .i64 0]) ∧ Hid (∃ S', QL w' q (leaseN V ms u) S' ∧ QNext w w' S S' ∧ w'.ownsRow w.heap.size 60 5 (.slice A ms.length c) ms.length (tookCs V ms) ∧ ∀ g, (Value.slice A ms.length c).ownBlock = some g → S'.c g = 0)
set_option maxHeartbeats 6400000 in
set_option maxRecDepth 100000 in
theorem Recv_ok (h : QL w q V S) (hf : Few V) (hR : V.R1.length < 800000) (hE : Env w) (h6 : 6 ≤ w.heap.size) (hlow : ∀ b, b < 6 → S.c b = 0) (hs : ∀ id ∈ aheadV V, ∃ m ∈ V.M, m.id = id) (hal : (aheadV V).length < 900000) (hcn : ∀ m ∈ V.M, 0 ≤ m.count ∧ m.count ≤ 900000)
    (hnow : 0 ≤ V.now ∧ V.now ≤ 1099511627776) (hvis : 0 ≤ V.A.vis ∧ V.A.vis ≤ 1048576) {n : Nat} (hn0 : 1 ≤ n) (hn : n ≤ 10) {v : Int} (hv : 0 ≤ v ∧ v ≤ 1048576) {ms : List Mm} (hms : ms.map Mm.id = readyV V n) (hmm : ∀ m ∈ ms, m ∈ V.M) (hnd : (ms.map Mm.id).Nodup) {u : Int} (hu : u = V.now + (if v = 0 then V.A.vis else v)) :
    Calls Tryz.prog 19 #[.pointer (some ⟨q, 0, none⟩), .int .i64 n, .int .i64 v] w (RecvSaid V ms u q S w) := by
  obtain ⟨i0, hi, hz0, hz1, hz2⟩ := info_parts info_took
  have HW := Lib.hid fun x a b w => within_any x a b w
  have hw1 : within (n : Int) 1 10 = true := by unfold within; simp; omega
  have hw2 : within v 0 1048576 = true := by unfold within; simp; omega
  obtain ⟨N, hN⟩ : ∃ N, N = ms.length := ⟨_, rfl⟩
  have hN10 : N ≤ 10 := by
    rw [hN, ← List.length_map (f := Mm.id), hms]
    exact Nat.le_trans (List.length_take_le _ _) hn
  have HRD : Hid (∀ W, Below w.heap.size w W → Calls Tryz.prog 41 #[.pointer (some ⟨q, 0, none⟩), .int .i64 n] W fun e w' => ∃ A c, e = .returned (.slice A N c) ∧ Hid (w'.ownsRow W.heap.size 3 1 (.slice A N c) N ((ms.map Mm.id).map (Value.int .i64)) ∧ Below w.heap.size w w')) := Lib.hid fun W hW => by
    refine (ready_any (h.below hW).1 hf hs hal hn).mono ?_
    rintro e w1 ⟨A, c, rfl, ho, hb⟩
    rw [← hms] at ho ⊢
    rw [List.length_map, ← hN] at ho ⊢
    exact ⟨A, c, rfl, Lib.hid ⟨ho, hW.trans (hb.mono hW.size)⟩⟩
  obtain ⟨c0, c1, c2, c3, c4, c5, c6, c7, c8, c9, c10, c11, c12, c13⟩ := h.cells
  have HST : Hid (∀ w1 A0 cc, w1.ownsRow w.heap.size 3 1 (.slice A0 N cc) N ((ms.map Mm.id).map (Value.int .i64)) ∧ Below w.heap.size w w1 → ∃ S', RecvAt w w1 q V S ms u A0 N cc 0 none 0 S') := Lib.hid fun w1 A0 cc h1 => ⟨S, (h.below h1.2).1, (h.below h1.2).2, World.ownsRow_nil _ _ _ _, fun g hg => by simp [Value.ownBlock] at hg, h1.1, fun g hg => h.new g (h1.1.lt g hg).1⟩
  have HEND : Hid (∀ wr A0 cc A c, (∃ S', RecvAt w wr q V S ms u A0 N cc N A c S') → RecvSaid V ms u q S w (.returned (.tuple #[.slice A N c, .int .i64 0])) wr) := Lib.hid fun wr A0 cc A c ⟨S', hr⟩ => by
    have h1 := hr.ql
    have h2 := hr.row
    have h3 := hr.col
    rw [hN] at h2 h3 ⊢
    rw [hN, List.take_length] at h1
    rw [List.take_length] at h2
    exact ⟨A, c, rfl, Lib.hid ⟨S', h1, hr.nx, h2, h3⟩⟩
  have hnum : IntKind.i64.wrap u = u := IntWalk.i64_in _ (by rw [hu]; split <;> omega)
  have HRND : Hid (∀ A0 cc wr k A c, k < N → (∃ S', RecvAt w wr q V S ms u A0 N cc k A c S') → ∃ (g : Nat) (x : Mm), A0 = some ⟨g, 0, none⟩ ∧ wr.cell? ⟨g, k, none⟩ = some (.int .i64 x.id) ∧ N ≤ cc ∧ wr.cell? ⟨q, 7, none⟩ = some (.int .i64 V.now) ∧
      Hid (Calls Tryz.prog 42 #[.pointer (some ⟨q, 0, none⟩), .int .i64 x.id, .int .i64 u] wr fun e w2 => e = .returned (.agg #[.int .i64 x.id, .int .i64 (x.count + 1), .string (rcptS x.id (x.count + 1)), .string x.body, .string (groupOf V x.id)]) ∧ Hid (LeasedAt w w2 q V S ms u A0 N cc k A c)) ∧
      Hid (∀ w2, (LeasedAt w w2 q V S ms u A0 N cc k A c) → w2.ownsRow w.heap.size 60 5 (.slice A k c) k (tookCs V (ms.take k)) ∧ w.heap.size ≤ w2.heap.size ∧ ∀ v2 w3, w3.ownsRow w.heap.size 60 5 v2 (k + 1) (tookCs V (ms.take k) ++ tookC V x) → (w2.alloc (.cells (tookC V x).toArray 60)).grownBy w3 (Value.slice A k c).ownBlock → (v2.ownBlock = (Value.slice A k c).ownBlock ∨ v2.ownBlock = some (w2.alloc (.cells (tookC V x).toArray 60)).heap.size) → ∃ A3 c3, v2 = .slice A3 (k + 1) c3 ∧ Hid (∃ S3, RecvAt w w3 q V S ms u A0 N cc (k + 1) A3 c3 S3)) ∧ True) := Lib.hid fun A0 cc wr k A c hk ⟨S1, hr⟩ => by
    have hkm : k < ms.length := by omega
    obtain ⟨x, hx⟩ : ∃ x, x = ms[k] := ⟨_, rfl⟩
    have hxm : x ∈ V.M := by rw [hx]; exact hmm _ (List.getElem_mem hkm)
    have htk : ms.take (k + 1) = ms.take k ++ [x] := by rw [List.take_succ_eq_append_getElem hkm, hx]
    obtain ⟨s1, s2, s3, s4, s5, s6, s7, s8⟩ := leaseN_same u (ms.take k) V
    have hr1 := leaseN_r1 u (ms.take k) V
    rw [List.length_take] at hr1
    have hfk : Few (leaseN V (ms.take k) u) := ⟨by rw [s5]; exact hf.n, by rw [s8]; exact hf.m, by rw [s4]; exact hf.l, by omega, by rw [s6]; exact hf.r2, by rw [s7]; exact hf.k⟩
    have hEr : Env wr := hE.below (B := 6) (Nat.le_refl _) (hr.nx.below h6 hlow)
    have hsz := hr.nx.size
    have hlr : ∀ b, b < 6 → S1.c b = 0 := fun b hb => (hr.nx.1 b (by omega)).trans (hlow b hb)
    have hxk : x ∈ (leaseN V (ms.take k) u).M := leaseN_mem u _ _ hxm fun y hy e => by
      have hn2 := hnd
      rw [← List.take_append_drop k ms, List.map_append, List.nodup_append] at hn2
      refine hn2.2.2 y.id (List.mem_map_of_mem hy) x.id (List.mem_map_of_mem ?_) e
      rw [List.drop_eq_getElem_cons hkm, ← hx]
      exact List.mem_cons_self
    have hgr : groupOf (leaseN V (ms.take k) u) x.id = groupOf V x.id := by unfold groupOf; rw [s4]
    obtain ⟨g, cap, e0, hgl, _⟩ := hr.ids.form (by omega)
    obtain ⟨rfl, rfl⟩ : A0 = some ⟨g, 0, none⟩ ∧ cc = cap := by simpa using e0
    obtain ⟨cur, hcur, hle, _⟩ := Lan.own_cells hr.ids
    have hcl := hr.ids.cellAt k (by omega)
    have hnow7 := hr.ql.cells.2.2.2.2.2.2.2.1
    rw [s2] at hnow7
    refine ⟨g, x, rfl, ?_, hle, hnow7, Lib.hid ?_, Lib.hid fun w2 hl => ?_, trivial⟩
    · rw [hcl, List.getElem?_map, List.getElem?_map, List.getElem?_eq_getElem hkm, ← hx]
      rfl
    · refine (lease_any hr.ql hfk hEr (by omega) hlr hxk (hcn x hxm) u).mono ?_
      rintro e w2 ⟨rfl, hq⟩
      obtain ⟨S2, h2, n2⟩ := hq.out
      refine ⟨by rw [hgr]; rfl, Lib.hid ⟨⟨S2, ?_, hr.nx.trans n2, (n2.own hr.row hr.col).2, (n2.own hr.ids hr.icol).2⟩, (n2.own hr.row hr.col).1, (n2.own hr.ids hr.icol).1⟩⟩
      rw [htk, leaseN_snoc]
      exact h2
    · obtain ⟨S2, h2, n2, hc2, hi2⟩ := hl.ex
      have h2s := n2.size
      refine ⟨hl.row, h2s, fun v2 w3 ho3 hg3 hv3 => ?_⟩
      obtain ⟨A3, c3, rfl⟩ := own_slice5 ho3
      obtain ⟨X, hX⟩ : ∃ X, X = w2.alloc (.cells (tookC V x).toArray 60) := ⟨_, rfl⟩
      have hbX : Below w2.heap.size w2 X := by rw [hX]; exact (Below.refl _ _).alloc (Nat.le_refl _) _
      have hXs : X.heap.size = w2.heap.size + 1 := by rw [hX]; simp
      rw [← hX] at hg3 hv3
      clear hX
      have hcg := Chg.of_grown hg3
      obtain ⟨hq4, n4⟩ := h2.below hbX
      have hq5 := hq4.other hcg fun b hb => hc2 b hb
      have hq6 := (n2.trans n4).other hcg fun b hb => (hl.row.lt b hb).1
      refine ⟨A3, c3, rfl, Lib.hid ⟨S2, hq5, hq6, by rw [htk, tookCs_snoc]; exact ho3, fun g' hg' => ?_, ?_, hi2⟩⟩
      · rcases hv3 with e | e
        · exact hc2 g' (e ▸ hg')
        · rw [e] at hg'
          obtain rfl := Option.some.inj hg'
          exact h2.new _ (by omega)
      · refine hcg.own (own_below hl.ids hbX) fun b hb e => ?_
        exact rows_apart hl.ids hl.row (by decide) hb e rfl
  have huv : u = V.now + (if v = 0 then V.A.vis else v) := hu
  clear h hf hR hE hlow hs hal hcn hms hmm hnd hN
  by_cases hv0 : v = 0
  · subst hv0
    rw [if_pos rfl] at huv
    rw [huv] at hnum
    have hnum2 : IntKind.i64.wrap (V.now + V.A.vis) = u := hnum.trans huv.symm
    clear hu huv hnum
    go_enter Tryz.func19, Tryz.ntmps19
    go_wp2_with (first
      | (go_at_call 33; refine (HW.out _ _ _ _).mono ?_; rintro e w1 ⟨rfl, rfl⟩)
      | (go_at_call 41; refine (HRD.out _ (Below.refl _ _)).mono ?_; rintro e w1 ⟨A0, cc, rfl, H1⟩))
    have H0 := Lib.hid (HST.out w1 A0 cc H1.out)
    go_loopw [8, 30] (fun l i wr => ∃ (A : Option Addr) (c k : Nat), l = .slice A k c ∧ i = .int .i64 k ∧ k ≤ N ∧ Hid (∃ S', RecvAt w wr q V S ms u A0 N cc k A c S')) (fun _ i _ => N - (intOf i).toNat)
    case atStart => exact ⟨none, 0, 0, rfl, rfl, Nat.zero_le _, H0⟩
    case round =>
      clear H0 HST
      obtain ⟨A, c, k, rfl, rfl, hkN, HR⟩ := hrel
      by_cases hlt : k < N
      · have hlt' : (k : Int) < N := by omega
        obtain ⟨g, x, rfl, hcell, hcap, hx7, HL, HNX, HSZ⟩ := HRND.out A0 cc wr k A c hlt HR.out
        clear HR HRND
        go_wp2_with (first
          | (go_at_call 42; refine HL.out.mono ?_; rintro e w2 ⟨rfl, HLX⟩; obtain ⟨how, hsz, hnx⟩ := HNX.out w2 HLX.out; have HOW := Lib.hid how; have HN2 := Lib.hid hnx; clear how hnx)
          | (at_builtin; refine wpList_append_where (o := ⟨some 45, _, _, _, _, _⟩) rfl (.tmp 34) (.tmp 44) 44 rfl w.heap.size 60 i0 _ 5 64 Tryz.underlying44 hi hz0 hz1 hz2 rfl (by omega) _ k _ rfl (HOW.out.alloc _) ⟨w2.heap.size, 0, none⟩ 1 1 (tookC V x) rfl rfl (news_took w2 V x _ rfl) (one_cell5 V x) (by unfold maxLen; omega) (by omega) (by simp; omega) ?_; intro v2 w3 ho3 hg3 hv3; obtain ⟨A3, c3, rfl, HX⟩ := HN2.out _ _ ho3 hg3 hv3; clear ho3 hg3 hv3))
        go_roundw
        case rel => exact ⟨A3, c3, k + 1, rfl, by go_num, by omega, HX⟩
        case measure => simp [intOf]; omega
      · obtain rfl : k = N := by omega
        have HE := Lib.hid (HEND.out wr A0 cc A c HR.out)
        go_wp2
        go_ret2
        exact HE.out
  · have hvd : (v == 0) = false := beq_eq_false_iff_ne.2 hv0
    rw [if_neg hv0] at huv
    rw [huv] at hnum
    have hnum2 : IntKind.i64.wrap (V.now + v) = u := hnum.trans huv.symm
    clear hu huv hnum
    go_enter Tryz.func19, Tryz.ntmps19
    go_wp2_with (first
      | (go_at_call 33; refine (HW.out _ _ _ _).mono ?_; rintro e w1 ⟨rfl, rfl⟩)
      | (go_at_call 41; refine (HRD.out _ (Below.refl _ _)).mono ?_; rintro e w1 ⟨A0, cc, rfl, H1⟩))
    have H0 := Lib.hid (HST.out w1 A0 cc H1.out)
    go_loopw [8, 30] (fun l i wr => ∃ (A : Option Addr) (c k : Nat), l = .slice A k c ∧ i = .int .i64 k ∧ k ≤ N ∧ Hid (∃ S', RecvAt w wr q V S ms u A0 N cc k A c S')) (fun _ i _ => N - (intOf i).toNat)
    case atStart => exact ⟨none, 0, 0, rfl, rfl, Nat.zero_le _, H0⟩
    case round =>
      clear H0 HST
      obtain ⟨A, c, k, rfl, rfl, hkN, HR⟩ := hrel
      by_cases hlt : k < N
      · have hlt' : (k : Int) < N := by omega
        obtain ⟨g, x, rfl, hcell, hcap, hx7, HL, HNX, HSZ⟩ := HRND.out A0 cc wr k A c hlt HR.out
        clear HR HRND
        go_wp2_with (first
          | (go_at_call 42; refine HL.out.mono ?_; rintro e w2 ⟨rfl, HLX⟩; obtain ⟨how, hsz, hnx⟩ := HNX.out w2 HLX.out; have HOW := Lib.hid how; have HN2 := Lib.hid hnx; clear how hnx)
          | (at_builtin; refine wpList_append_where (o := ⟨some 45, _, _, _, _, _⟩) rfl (.tmp 34) (.tmp 44) 44 rfl w.heap.size 60 i0 _ 5 64 Tryz.underlying44 hi hz0 hz1 hz2 rfl (by omega) _ k _ rfl (HOW.out.alloc _) ⟨w2.heap.size, 0, none⟩ 1 1 (tookC V x) rfl rfl (news_took w2 V x _ rfl) (one_cell5 V x) (by unfold maxLen; omega) (by omega) (by simp; omega) ?_; intro v2 w3 ho3 hg3 hv3; obtain ⟨A3, c3, rfl, HX⟩ := HN2.out _ _ ho3 hg3 hv3; clear ho3 hg3 hv3))
        go_roundw
        case rel => exact ⟨A3, c3, k + 1, rfl, by go_num, by omega, HX⟩
        case measure => simp [intOf]; omega
      · obtain rfl : k = N := by omega
        have HE := Lib.hid (HEND.out wr A0 cc A c HR.out)
        go_wp2
        go_ret2
        exact HE.out
end
end Go.Proofs.YtdjieapobodakaaGreatDoor
end

section
namespace Go.Proofs.YtdjieapobodakaaGreatDoor
open Go Go.RowKit Go.Maps Go.Sort

/-- A thing whose number is small. -/
structure LIt where
  id : Nat
  lt : id < 1000000
  t : Int
instance : Inhabited LIt := ⟨⟨0, by decide, 0⟩⟩
def LIt.it (x : LIt) : Tim.It := ((x.id : Int), x.t)
def encL (x : LIt) : List Value := Tim.cells2 x.it
def cmpI (x y : LIt) : Int := (x.id : Int) - y.id
theorem SWO_I : SWO (ltOf cmpI) where
  irrefl x := decide_eq_false (by unfold cmpI; omega)
  trans x y z h1 h2 := by
    have h1' := of_decide_eq_true h1
    have h2' := of_decide_eq_true h2
    unfold cmpI at h1' h2'
    exact decide_eq_true (by unfold cmpI; omega)
  ntrans x y z h1 h2 := by
    have h1' := of_decide_eq_false h1
    have h2' := of_decide_eq_false h2
    unfold cmpI at h1' h2'
    exact decide_eq_false (by unfold cmpI; omega)
set_option maxHeartbeats 800000 in
set_option maxRecDepth 100000 in
theorem minus_any (x y : LIt) (w : World) :
    Calls Tryz.prog 73 #[.agg #[.int .i64 (x.id : Int), .int .i64 x.t], .agg #[.int .i64 (y.id : Int), .int .i64 y.t]] w fun e w' => e = .returned (.int .i64 (cmpI x y)) ∧ ∃ q os', w' = grow (w.drewN q) os' := by
  obtain ⟨W, hW⟩ : ∃ W, W = (w.alloc (.cells #[.int .i64 (x.id : Int), .int .i64 x.t] 130)).alloc (.cells #[.int .i64 (y.id : Int), .int .i64 y.t] 130) := ⟨_, rfl⟩
  have q0 : W.cell? ⟨w.heap.size, 0, none⟩ = some (.int .i64 (x.id : Int)) := by rw [hW]; simp
  have q2 : W.cell? ⟨w.heap.size + 1, 0, none⟩ = some (.int .i64 (y.id : Int)) := by rw [hW]; simp
  have hx := x.lt
  have hy := y.lt
  have hw1 : IntKind.i64.wrap ((x.id : Int) - y.id) = (x.id : Int) - y.id := IntWalk.i64_in _ (by omega)
  have HW := Lib.hid hW
  have HC : Hid (cmpI x y = (x.id : Int) - y.id) := Lib.hid rfl
  clear hW
  go_enter Tryz.func73, Tryz.ntmps73
  go_wp2
  go_ret
  rw [HC.out]
  refine ⟨rfl, 0, #[.cells #[.int .i64 (x.id : Int), .int .i64 x.t] 130, .cells #[.int .i64 (y.id : Int), .int .i64 y.t] 130], ?_⟩
  rw [alloc_eq_grow, alloc_eq_grow]
  rfl
theorem minusLays (blk off size : Nat) (w : World) : CmpLays Tryz.prog 73 #[] encL 2 cmpI blk off size w := fun _ _ _ _ x y => minus_any x y _
theorem lits : ∀ H : List Tim.It, (∀ x ∈ H, 0 ≤ x.1 ∧ x.1 ≤ 900000) → ∃ HL : List LIt, HL.map LIt.it = H
  | [], _ => ⟨[], rfl⟩
  | x :: r, h => by
    obtain ⟨HL, hL⟩ := lits r fun y hy => h y (by simp [hy])
    have hx := h x (by simp)
    refine ⟨⟨x.1.toNat, by omega, x.2⟩ :: HL, ?_⟩
    rw [List.map_cons, hL]
    congr 1
    show (((x.1.toNat : Nat) : Int), x.2) = x
    have : ((x.1.toNat : Nat) : Int) = x.1 := by omega
    rw [this]
theorem flatL_flat (HL : List LIt) (t : Nat) (ht : t < HL.length * 2) : (flatK encL 2 HL.toArray)[t]? = (Tim.flat (HL.map LIt.it))[t]? := by
  have e1 : t / 2 < HL.length := by omega
  have e2 : HL.toArray[t / 2]!.it = Tim.g (HL.map LIt.it) (t / 2) := by
    rw [getElem!_pos HL.toArray (t / 2) (by simpa using e1)]
    rw [← Tim.g_get (by rw [List.length_map]; exact e1)]
    simp
  obtain ⟨h1, h2⟩ := Tim.flat_at (H := HL.map LIt.it) (j := t / 2) (by rw [List.length_map]; exact e1)
  have e3 : (flatK encL 2 HL.toArray)[t]? = some ((encL HL.toArray[t / 2]!)[t % 2]!) := by
    rw [← get_flatK encL 2 HL.toArray t (by simpa using ht)]
    rw [getElem!_pos (flatK encL 2 HL.toArray) t (by simpa using ht)]
    exact Array.getElem?_eq_getElem _
  rw [e3]
  unfold encL
  rw [e2]
  have hm : t % 2 = 0 ∨ t % 2 = 1 := by omega
  rcases hm with hm | hm
  · rw [hm]
    have : t / 2 * 2 = t := by omega
    rw [this] at h1
    rw [h1]
    rfl
  · rw [hm]
    have : t / 2 * 2 + 1 = t := by omega
    rw [this] at h2
    rw [h2]
    rfl
theorem heap_sortedL {w : World} {gb n : Nat} {d' : Array LIt} {os : Array Obj} (hg : gb < w.heap.size) {cur : Array Value} {e : TypeId} {fr : Nat × Nat} (hb : w.heap[gb]? = some (.cells cur e fr)) :
    (∃ cur', (sortWorldK encL 2 w gb 0 n d' os).heap[gb]? = some (.cells cur' e fr) ∧ cur'.size = cur.size) ∧ Chg (fun k => k = gb) w (sortWorldK encL 2 w gb 0 n d' os) := by
  unfold sortWorldK putRowK putRow mapBlock
  refine ⟨⟨putCells id 0 (flatK encL 2 d') cur, ?_, by simp [putCells]⟩, rfl, rfl, rfl, ?_, fun k hk hne => ?_⟩
  · rw [heap_grow_old _ _ (by simpa [ahead] using hg)]
    show (w.heap.modify gb (onCells (putCells id 0 (flatK encL 2 d'))))[gb]? = _
    rw [Array.getElem?_modify, if_pos rfl, hb]
    rfl
  · simp
  · rw [heap_grow_old _ _ (by simpa [ahead] using hk)]
    show (w.heap.modify gb (onCells (putCells id 0 (flatK encL 2 d'))))[k]? = _
    rw [Array.getElem?_modify, if_neg (fun e => hne e.symm)]
/-- What the sort leaves of a row of things. -/
def SortedI (w w' : World) (base : Nat) (A : Option Addr) (c : Nat) (H : List Tim.It) : Prop :=
  ∃ ys : List Tim.It, ys.Perm H ∧ ys.Pairwise (fun a b => a.1 ≤ b.1) ∧ w'.ownsRow base 130 2 (.slice A H.length c) H.length (Tim.flat ys) ∧ Chg (fun b => (Value.slice A H.length c).ownBlock = some b) w w'
theorem SortI_any {w1 : World} {base : Nat} {A : Option Addr} {c : Nat} {H : List Tim.It} (hn : H.length < 900000) (hb : ∀ x ∈ H, 0 ≤ x.1 ∧ x.1 ≤ 900000) (h1 : w1.ownsRow base 130 2 (.slice A H.length c) H.length (Tim.flat H)) :
    Calls Tryz.prog 72 #[.slice A H.length c, .func (.func 73) #[] #[]] w1 fun e w' => e = .returned (.tuple #[]) ∧ Hid (SortedI w1 w' base A c H) := by
  by_cases hz : H.length = 0
  · have hcon := AnyF.slices_SortFunc_none Tryz.sortItem A c (.func (.func 73) #[] #[]) w1
    change Calls Tryz.prog 72 _ _ _ at hcon
    obtain rfl : H = [] := List.eq_nil_of_length_eq_zero hz
    exact hcon.mono fun e w' ⟨he, hw⟩ => ⟨he, Lib.hid ⟨[], List.Perm.refl _, List.Pairwise.nil, by rw [hw]; exact h1, by rw [hw]; exact Chg.refl _ _⟩⟩
  · obtain ⟨HL, hHL⟩ := lits H hb
    have hLl : HL.length = H.length := by rw [← hHL, List.length_map]
    rcases h1.2 with ⟨_, e⟩ | ⟨gb, cap, cur, e, hbase, hblk, hnc, hcm, hcs, htake⟩
    · omega
    · obtain ⟨rfl, _, rfl⟩ := Value.slice.inj e
      have hglt := Lan.lt_of_block hblk
      have hH : HoldsK encL 2 w1 gb 0 HL.toArray := fun j hj => by
        rw [size_flatK] at hj
        have hj' : j < H.length * 2 := by rw [← hLl]; simpa using hj
        refine ⟨?_, ?_⟩
        · have h2 := flatL_flat HL j (by omega)
          rw [hHL] at h2
          rw [Nat.zero_add, h1.cellAt j hj', ← h2, getElem!_pos _ j (by rw [size_flatK]; exact hj)]
          exact Array.getElem?_eq_getElem _
        · rw [Nat.zero_add]
          exact h1.frozenAt j
      have eg : ∀ args w, (callFunc 73 args).run Tryz.prog w = .ok (.enter 73 args) w := enters_of Tryz.func73 (by kernel_rfl) rfl
      have hcon := AnyQ.slices_SortFunc Tryz.sortItem 2 Tryz.isAgg130 Tryz.sizeOf130 encL (fun _ => rfl) (fun x v hv => Tim.one_cell2 _ _ v hv) cmpI SWO_I 73 #[] gb 0 c HL.toArray w1 eg (minusLays gb 0 HL.toArray.size w1) hH hglt (by simp; omega)
      change Calls Tryz.prog 72 _ _ _ at hcon
      rw [List.size_toArray, hLl] at hcon
      refine hcon.mono ?_
      rintro e w' ⟨he, d', n, os, ⟨hsz0, _, hperm⟩, hsort, rfl⟩
      have hsz : d'.size = HL.length := by rw [hsz0]; simp
      have hD : d'.toList.Perm HL := by
        have h2 : (d'.extract 0 H.length) = d' := by rw [← hLl, ← hsz]; simp
        have h3 : (HL.toArray.extract 0 H.length) = HL.toArray := by rw [← hLl]; simp
        rw [h2, h3] at hperm
        simpa using hperm
      have hDl : d'.toList.length = HL.length := hD.length_eq
      have hpw : d'.toList.Pairwise fun a b => a.id ≤ b.id := List.pairwise_iff_getElem.2 fun i j hi hj hij => by
        have h4 := hsort i j (Nat.zero_le _) hij (by omega)
        have h5 := of_decide_eq_false h4
        unfold cmpI at h5
        rw [getElem!_pos d' i (by omega), getElem!_pos d' j (by omega)] at h5
        simp only [Array.getElem_toList]
        omega
      obtain ⟨⟨cur', hb', hs'⟩, hc⟩ := heap_sortedL (n := n) (d' := d') (os := os) hglt hblk
      have hholds : HoldsK encL 2 (sortWorldK encL 2 w1 gb 0 n d' os) gb 0 d' := SWK.holds (d0 := HL.toArray) ⟨n, os, rfl⟩ hglt hH hsz0
      refine ⟨he, Lib.hid ⟨d'.toList.map LIt.it, by rw [← hHL]; exact hD.map _, List.Pairwise.map _ (fun a b hab => by show (a.id : Int) ≤ b.id; omega) hpw, ?_, hc.mono fun k _ hk => by rw [hk]; rfl⟩⟩
      refine Tim.own_of_cells hb' hbase (by rw [hs', hcs]) hnc hcm (by rw [List.length_map]; omega) fun j hj => ?_
      have h5 := (hholds j (by rw [size_flatK, hsz]; omega)).1
      rw [Nat.zero_add] at h5
      have h6 := flatL_flat d'.toList j (by omega)
      have h7 : d'.toList.toArray = d' := by simp
      rw [h7] at h6
      rw [h5, ← h6, getElem!_pos _ j (by rw [size_flatK, hsz]; omega)]
      exact (Array.getElem?_eq_getElem _).symm
end Go.Proofs.YtdjieapobodakaaGreatDoor
end

section
namespace Go.Proofs.YtdjieapobodakaaGreatDoor
open Go Go.RowKit Go.Maps Go.WideMaps

def deadM (A : Att) (m : Mm) : Bool := !(decide (A.max = 0) || decide (m.count < A.max))
def letC (V : QV) (m : Mm) : List Value := [.int .i64 m.id, .int .i64 m.count, .string m.body, .string (groupOf V m.id)]
def letCs (V : QV) (ms : List Mm) : List Value := ms.flatMap (letC V)
def rmN (V : QV) (ms : List Mm) : QV := ms.foldl (fun V m => rmV V m.id) V
theorem rmN_snoc (V : QV) (ms : List Mm) (m : Mm) : rmN V (ms ++ [m]) = rmV (rmN V ms) m.id := by simp [rmN]
theorem letCs_snoc (V : QV) (ms : List Mm) (m : Mm) : letCs V (ms ++ [m]) = letCs V ms ++ letC V m := by simp [letCs]
theorem rmN_same : ∀ (ms : List Mm) (V : QV), (rmN V ms).A = V.A ∧ (rmN V ms).now = V.now ∧ (rmN V ms).last = V.last ∧ (rmN V ms).N = V.N ∧ (rmN V ms).K = V.K ∧ (rmN V ms).M.length ≤ V.M.length ∧ (rmN V ms).Lt.length ≤ V.Lt.length ∧ (rmN V ms).R1.length ≤ V.R1.length ∧ (rmN V ms).R2.length ≤ V.R2.length
  | [], V => ⟨rfl, rfl, rfl, rfl, rfl, Nat.le_refl _, Nat.le_refl _, Nat.le_refl _, Nat.le_refl _⟩
  | m :: r, V => by
    obtain ⟨a1, a2, a3, a4, a5, a6, a7, a8, a9⟩ := rmN_same r (rmV V m.id)
    exact ⟨a1, a2, a3, a4, a5, Nat.le_trans a6 (List.length_filter_le _ _), Nat.le_trans a7 (List.length_filter_le _ _), Nat.le_trans a8 (List.length_filter_le _ _), Nat.le_trans a9 (List.length_filter_le _ _)⟩
theorem Few.rm {V : QV} (h : Few V) (ms : List Mm) : Few (rmN V ms) := by
  obtain ⟨_, _, _, a4, a5, a6, a7, a8, a9⟩ := rmN_same ms V
  exact ⟨by rw [a4]; exact h.n, Nat.lt_of_le_of_lt a6 h.m, Nat.lt_of_le_of_lt a7 h.l, Nat.lt_of_le_of_lt a8 h.r1, Nat.lt_of_le_of_lt a9 h.r2, by rw [a5]; exact h.k⟩
theorem rmN_mem {m : Mm} : ∀ (ms : List Mm) (V : QV), m ∈ V.M → (∀ x ∈ ms, x.id ≠ m.id) → m ∈ (rmN V ms).M
  | [], V, h, _ => h
  | x :: r, V, h, hn => rmN_mem r (rmV V x.id) (List.mem_filter.2 ⟨h, by simpa using fun e => hn x (by simp) e.symm⟩) fun y hy => hn y (by simp [hy])
theorem group_drop {V : QV} {a b : Int} (h : a ≠ b) : groupOf (rmV V b) a = groupOf V a := by
  unfold groupOf
  show ((Lan.at_ (Lan.dropT V.Lt b) a).map Lan.Th.g).getD _ = _
  rw [Lan.at_drop_other _ h]
theorem group_rm {m : Mm} : ∀ (ms : List Mm) (V : QV), (∀ x ∈ ms, x.id ≠ m.id) → groupOf (rmN V ms) m.id = groupOf V m.id
  | [], V, _ => rfl
  | x :: r, V, hn => (group_rm r (rmV V x.id) fun y hy => hn y (by simp [hy])).trans (group_drop fun e => hn x (by simp) e.symm)
theorem info_letter : (Tryz.prog.info? 70).map (fun i => (i.zero, i.size, i.bytes)) = some (some (.agg #[.int .i64 0, .int .i64 0, .string ⟨#[]⟩, .string ⟨#[]⟩]), 4, 48) := by kernel_rfl
theorem news_let (w : World) (V : QV) (m : Mm) (g : ByteArray) (hg : g = groupOf V m.id) : ∀ j u, (letC V m)[j]? = some u → (w.alloc (.cells #[.int .i64 m.id, .int .i64 m.count, .string m.body, .string g] 70)).cell? ((⟨w.heap.size, 0, none⟩ : Addr).add j) = some u := by
  intro j u hj
  subst hg
  have hb := heap_alloc_new w (.cells #[.int .i64 m.id, .int .i64 m.count, .string m.body, .string (groupOf V m.id)] 70)
  have : j < 4 := (List.getElem?_eq_some_iff.1 hj).1
  generalize w.alloc (.cells #[.int .i64 m.id, .int .i64 m.count, .string m.body, .string (groupOf V m.id)] 70) = W at *
  obtain rfl | rfl | rfl | rfl : j = 0 ∨ j = 1 ∨ j = 2 ∨ j = 3 := by omega
  all_goals
    simp [letC] at hj
    subst hj
    simp [World.cell?, Addr.add, hb]
theorem one_cell4 (V : QV) (m : Mm) : ∀ u ∈ letC V m, u.oneCell' = true := by
  intro u hu
  simp [letC] at hu
  rcases hu with rfl | rfl | rfl | rfl <;> rfl
theorem perm_sorted : ∀ {ys zs : List Tim.It}, zs.Perm ys → (zs.Pairwise fun a b => a.1 ≤ b.1) → (ys.Pairwise fun a b => a.1 < b.1) → zs = ys
  | [], zs, hp, _, _ => List.Perm.eq_nil hp
  | y :: r, [], hp, _, _ => (List.cons_ne_nil y r hp.symm.eq_nil).elim
  | y :: r, z :: zr, hp, hz, hy => by
    have e : z = y := by
      rcases List.mem_cons.1 (hp.mem_iff.1 (List.mem_cons_self (a := z) (l := zr))) with e | hzr
      · exact e
      · have h1 := (List.pairwise_cons.1 hy).1 z hzr
        rcases List.mem_cons.1 (hp.mem_iff.2 (List.mem_cons_self (a := y) (l := r))) with e | hyz
        · exact e.symm
        · have h2 := (List.pairwise_cons.1 hz).1 y hyz
          omega
    subst e
    rw [perm_sorted (List.Perm.cons_inv hp) (List.pairwise_cons.1 hz).2 (List.pairwise_cons.1 hy).2]
/-- While they are gone through. -/
structure RelAt (w wr : World) (q : Nat) (V : QV) (S : QS) (ys : List Tim.It) (ms : List Mm) (A0 : Option Addr) (N cc : Nat) (k : Nat) (A : Option Addr) (j c : Nat) (S' : QS) : Prop where
  ql : QL wr q (rmN V ((ms.take k).filter (deadM V.A))) S'
  nx : QNext w wr S S'
  len : j = ((ms.take k).filter (deadM V.A)).length
  row : wr.ownsRow w.heap.size 70 4 (.slice A j c) j (letCs V ((ms.take k).filter (deadM V.A)))
  col : ∀ g, (Value.slice A j c).ownBlock = some g → S'.c g = 0
  ids : wr.ownsRow w.heap.size 130 2 (.slice A0 N cc) N (Tim.flat ys)
  icol : ∀ g, (Value.slice A0 N cc).ownBlock = some g → S'.c g = 0
theorem RelAt.below {w wr X : World} {q : Nat} {V : QV} {S : QS} {ys : List Tim.It} {ms : List Mm} {A0 A : Option Addr} {N cc k j c : Nat} {S' : QS} (h : RelAt w wr q V S ys ms A0 N cc k A j c S') (hb : Below wr.heap.size wr X) : RelAt w X q V S ys ms A0 N cc k A j c S' :=
  ⟨(h.ql.below hb).1, h.nx.trans (h.ql.below hb).2, h.len, own_below h.row hb, h.col, own_below h.ids hb, h.icol⟩
/-- What release leaves. -/
def RelSaid (V : QV) (D : List Mm) (q : Nat) (S : QS) (w : World) (e : Ending) (w' : World) : Prop :=
  ∃ A c j, e = .returned (.slice A j c) ∧ Hid (j = D.length ∧ ∃ S', QL w' q (rmN V D) S' ∧ QNext w w' S S' ∧ w'.ownsRow w.heap.size 70 4 (.slice A j c) j (letCs V D) ∧ ∀ g, (Value.slice A j c).ownBlock = some g → S'.c g = 0)
section
variable {w w' w2 : World} {q : Nat} {V : QV} {S S' : QS}
set_option maxHeartbeats 6400000 in
set_option maxRecDepth 100000 in
theorem release_any (h : QL w q V S) (hf : Few V) {ys : List Tim.It} {ms : List Mm} (hys : ys.Perm (V.R1.take (Tim.dueN V.R1 V.now))) (hyr : ys.Pairwise fun a b => a.1 < b.1) (hyb : ∀ x ∈ V.R1, 0 ≤ x.1 ∧ x.1 ≤ 900000) (hms : ms.map Mm.id = ys.map Prod.fst) (hmm : ∀ m ∈ ms, m ∈ V.M) (hcn : ∀ m ∈ V.M, 0 ≤ m.count ∧ m.count ≤ 900000) :
    Calls Tryz.prog 43 #[.pointer (some ⟨q, 0, none⟩)] w (RelSaid { V with R1 := V.R1.drop (Tim.dueN V.R1 V.now) } (ms.filter (deadM V.A)) q S w) := by
  obtain ⟨i0, hi, hz0, hz1, hz2⟩ := info_parts info_letter
  obtain ⟨c0, c1, c2, c3, c4, c5, c6, c7, c8, c9, c10, c11, c12, c13⟩ := h.cells
  obtain ⟨N, hN⟩ : ∃ N, N = ys.length := ⟨_, rfl⟩
  have hle := Tim.dueN_le V.R1 V.now
  have hNd : N = Tim.dueN V.R1 V.now := by rw [hN, hys.length_eq, List.length_take]; omega
  obtain ⟨V1, hV1⟩ : ∃ V1, V1 = { V with R1 := V.R1.drop (Tim.dueN V.R1 V.now) } := ⟨_, rfl⟩
  have HD : Hid (Calls Tryz.prog 71 #[.pointer (some ⟨S.t1, 0, none⟩), .int .i64 V.now] w.drew fun e w1 => ∃ A cc, e = .returned (.slice A N cc) ∧ Hid (Calls Tryz.prog 72 #[.slice A N cc, .func (.func 73) #[] #[]] w1 fun e w2 => e = .returned (.tuple #[]) ∧ Hid (∃ S', RelAt w w2 q V1 S ys ms A N cc 0 none 0 0 S'))) := Lib.hid (by
    obtain ⟨hd, nd⟩ := h.below ((Below.refl w.heap.size w).drew)
    refine (hd.eDue hf.r1 V.now).mono ?_
    rintro e w1 ⟨v, rfl, hx⟩
    obtain ⟨ho, h1, n1d⟩ := hx.out
    have n1 := nd.trans n1d
    replace ho : w1.ownsRow w.heap.size _ _ _ _ _ := ho
    rw [← hNd] at ho
    obtain ⟨A, cc, rfl⟩ := own_slice5 ho
    refine ⟨A, cc, rfl, Lib.hid ?_⟩
    obtain ⟨T, hT⟩ : ∃ T, T = V.R1.take N := ⟨_, rfl⟩
    have hNt : N = T.length := by rw [hT, List.length_take]; omega
    rw [← hT] at ho
    have hyT : ys.Perm T := by rw [hT, hNd]; exact hys
    have hbT : ∀ x ∈ T, 0 ≤ x.1 ∧ x.1 ≤ 900000 := fun x hx => hyb x (by rw [hT] at hx; exact List.mem_of_mem_take hx)
    have hTl : T.length < 900000 := by have := hf.r1; omega
    rw [hNt] at ho ⊢
    have h2 := SortI_any hTl hbT ho
    refine h2.mono ?_
    rintro e w2 ⟨rfl, hs⟩
    obtain ⟨zs, hz1, hz2, hz3, hz4⟩ := hs.out
    have hzy : zs = ys := by
      exact perm_sorted (hz1.trans hyT.symm) hz2 hyr
    subst hzy
    have hcol0 : ∀ b, (Value.slice A T.length cc).ownBlock = some b → S.c b = 0 := fun b hb => h.new b (ho.lt b hb).1
    rw [← hNd] at h1
    refine ⟨rfl, Lib.hid ⟨S, ?_, n1.other hz4 fun b hb => (ho.lt b hb).1, rfl, World.ownsRow_nil _ _ _ _, fun g hg => by simp [Value.ownBlock] at hg, hz3, hcol0⟩⟩
    rw [hV1, ← hNd]
    exact h1.other hz4 hcol0)
  have HEND : Hid (∀ wr A0 cc A j c, (∃ S', RelAt w wr q V1 S ys ms A0 N cc N A j c S') → RelSaid V1 (ms.filter (deadM V.A)) q S w (.returned (.slice A j c)) wr) := Lib.hid fun wr A0 cc A j c ⟨S', hr⟩ => by
    have hl : ms.length = N := by rw [hN, ← List.length_map (f := Mm.id), hms, List.length_map]
    have hA : V1.A = V.A := by rw [hV1]
    have h1 := hr.ql
    have h2 := hr.row
    have h3 := hr.len
    rw [← hl, List.take_length, hA] at h1 h2 h3
    exact ⟨A, c, j, rfl, Lib.hid ⟨h3, S', h1, hr.nx, h2, hr.col⟩⟩
  have HRND : Hid (∀ A0 cc wr k A j c, k < N → (∃ S', RelAt w wr q V1 S ys ms A0 N cc k A j c S') → ∃ (g mb l pb : Nat) (x : Tim.It) (m : Mm), A0 = some ⟨g, 0, none⟩ ∧ x.1 = m.id ∧ N ≤ cc ∧ cc ≤ 9223372036854775807 ∧ 0 ≤ m.count ∧ m.count ≤ 900000 ∧ j ≤ k ∧
      Hid (∀ X, Below wr.heap.size wr X → X.cell? ⟨g, k * 2, none⟩ = some (.int .i64 x.1) ∧ X.cell? ⟨g, k * 2 + 1, none⟩ = some (.int .i64 x.2) ∧ X.cell? ⟨q, 4, none⟩ = some (.int .i64 V.A.max) ∧ X.cell? ⟨q, 9, none⟩ = some (.map (some mb)) ∧ X.cell? ⟨q, 10, none⟩ = some (.pointer (some ⟨l, 0, none⟩)) ∧ X.cell? ⟨pb, 0, none⟩ = some (.string m.body) ∧ X.cell? ⟨pb, 1, none⟩ = some (.int .i64 m.count) ∧
        (Instr.lookup 76 (.map (some mb)) (.int .i64 x.1) false).run Tryz.prog X = .ok (.pointer (some ⟨pb, 0, none⟩)) X) ∧
      Hid (deadM V.A m = false → ∀ X, Below wr.heap.size wr X → ∃ S', RelAt w X q V1 S ys ms A0 N cc (k + 1) A j c S') ∧
      Hid (∀ X, Below wr.heap.size wr X → Calls Tryz.prog 69 #[.pointer (some ⟨l, 0, none⟩), .int .i64 x.1] X fun e w2 => ∃ b, e = .returned (.tuple #[.string (groupOf V m.id), .bool b]) ∧ Below X.heap.size X w2) ∧
      Hid (deadM V.A m = true → ∀ X, Below wr.heap.size wr X → X.ownsRow w.heap.size 70 4 (.slice A j c) j (letCs V1 ((ms.take k).filter (deadM V.A))) ∧ w.heap.size ≤ X.heap.size ∧ ∀ v2 w3, w3.ownsRow w.heap.size 70 4 v2 (j + 1) (letCs V1 ((ms.take k).filter (deadM V.A)) ++ letC V1 m) → (X.alloc (.cells #[.int .i64 x.1, .int .i64 m.count, .string m.body, .string (groupOf V m.id)] 70)).grownBy w3 (Value.slice A j c).ownBlock → (v2.ownBlock = (Value.slice A j c).ownBlock ∨ v2.ownBlock = some (X.alloc (.cells #[.int .i64 x.1, .int .i64 m.count, .string m.body, .string (groupOf V m.id)] 70)).heap.size) → ∃ A3 c3, v2 = .slice A3 (j + 1) c3 ∧
        Hid (Calls Tryz.prog 55 #[.pointer (some ⟨q, 0, none⟩), .int .i64 x.1] w3 fun e w4 => e = .returned (.tuple #[]) ∧ Hid (∃ S', RelAt w w4 q V1 S ys ms A0 N cc (k + 1) A3 (j + 1) c3 S')))) := Lib.hid fun A0 cc wr k A j c hk ⟨S1, hr⟩ => by
    have hA : V1.A = V.A := by rw [hV1]
    have hM : V1.M = V.M := by rw [hV1]
    have hLt : V1.Lt = V.Lt := by rw [hV1]
    have hky : k < ys.length := by omega
    have hl : ms.length = ys.length := by rw [← List.length_map (f := Mm.id), hms, List.length_map]
    have hkm : k < ms.length := by omega
    obtain ⟨x, hx⟩ : ∃ x, x = ys[k] := ⟨_, rfl⟩
    obtain ⟨m, hm⟩ : ∃ m, m = ms[k] := ⟨_, rfl⟩
    have hxm : x.1 = m.id := by
      have h1 : (ms.map Mm.id)[k]? = (ys.map Prod.fst)[k]? := by rw [hms]
      rw [List.getElem?_map, List.getElem?_map, List.getElem?_eq_getElem hkm, List.getElem?_eq_getElem hky, ← hx, ← hm] at h1
      exact (Option.some.inj h1).symm
    have hmV : m ∈ V.M := by rw [hm]; exact hmm _ (List.getElem_mem hkm)
    have htk : ms.take (k + 1) = ms.take k ++ [m] := by rw [List.take_succ_eq_append_getElem hkm, hm]
    have hnd : (ms.map Mm.id).Nodup := by
      rw [hms]
      exact List.Pairwise.map _ (fun a b hab => by show a.1 ≠ b.1; omega) hyr
    have hne : ∀ y ∈ (ms.take k).filter (deadM V1.A), y.id ≠ m.id := fun y hy e => by
      have hn2 := hnd
      rw [← List.take_append_drop k ms, List.map_append, List.nodup_append] at hn2
      refine hn2.2.2 y.id (List.mem_map_of_mem (List.mem_filter.1 hy).1) m.id (List.mem_map_of_mem ?_) e
      rw [List.drop_eq_getElem_cons hkm, ← hm]
      exact List.mem_cons_self
    have hjk : j ≤ k := by
      rw [hr.len]
      refine Nat.le_trans (List.length_filter_le _ _) ?_
      rw [List.length_take]
      omega
    have hmk : m ∈ (rmN V1 ((ms.take k).filter (deadM V1.A))).M := rmN_mem _ _ (by rw [hM]; exact hmV) hne
    have hgr : groupOf (rmN V1 ((ms.take k).filter (deadM V1.A))) m.id = groupOf V m.id := (group_rm _ _ hne).trans (by unfold groupOf; rw [hLt])
    obtain ⟨s1, s2, s3, s4, s5, _⟩ := rmN_same ((ms.take k).filter (deadM V1.A)) V1
    have hwf := hr.ql.wf m hmk
    have hfk : Few (rmN V1 ((ms.take k).filter (deadM V1.A))) := Few.rm (by rw [hV1]; exact ⟨hf.n, hf.m, hf.l, Nat.lt_of_le_of_lt (by rw [List.length_drop]; omega) hf.r1, hf.r2, hf.k⟩) _
    obtain ⟨g, cap, e0, hgl, _⟩ := hr.ids.form (by omega)
    obtain ⟨rfl, rfl⟩ : A0 = some ⟨g, 0, none⟩ ∧ cc = cap := by simpa using e0
    have hcl : N ≤ cc ∧ cc ≤ maxLen := by
      rcases hr.ids.2 with ⟨e1, _⟩ | ⟨g', cap', cur', e1, _, _, h1, h2, _⟩
      · cases e1
      · cases e1
        exact ⟨h1, h2⟩
    have hf2 := Tim.flat_at hky
    rw [← Tim.g_get hky, ← hx] at hf2
    unfold maxLen at hcl
    refine ⟨g, S1.m, S1.l, S1.pb m.id, x, m, rfl, hxm, hcl.1, hcl.2, (hcn m hmV).1, (hcn m hmV).2, hjk, Lib.hid fun X hX => ?_, Lib.hid fun hd X hX => ?_, Lib.hid fun X hX => ?_, Lib.hid fun hd X hX => ?_⟩
    · have hrX := hr.below hX
      obtain ⟨_, _, _, _, d4, _, _, _, _, d9, d10, _⟩ := hrX.ql.cells
      rw [s1, hA] at d4
      have hi2 := hrX.ids
      refine ⟨(hi2.cellAt (k * 2) (by omega)).trans hf2.1, (hi2.cellAt (k * 2 + 1) (by omega)).trans hf2.2, d4, d9, d10, (hrX.ql.msg hmk).1, (hrX.ql.msg hmk).2.1, ?_⟩
      rw [hxm]
      exact hrX.ql.look hmk
    · have hrX := hr.below hX
      have e : (ms.take (k + 1)).filter (deadM V1.A) = (ms.take k).filter (deadM V1.A) := by
        rw [htk, List.filter_append, List.filter_cons_of_neg (by rw [hA, hd]; decide), List.filter_nil, List.append_nil]
      exact ⟨S1, by rw [e]; exact hrX.ql, hrX.nx, by rw [e]; exact hrX.len, by rw [e]; exact hrX.row, hrX.col, hrX.ids, hrX.icol⟩
    · have hrX := hr.below hX
      rw [hxm]
      refine (hrX.ql.lGroup hwf).mono ?_
      rintro e w2 ⟨rfl, h2⟩
      obtain ⟨_, _, hb2⟩ := h2.out
      refine ⟨(Lan.at_ (rmN V1 ((ms.take k).filter (deadM V1.A))).Lt m.id).isSome, ?_, hb2⟩
      rw [← hgr]
      rfl
    · have hrX := hr.below hX
      have e : (ms.take (k + 1)).filter (deadM V1.A) = (ms.take k).filter (deadM V1.A) ++ [m] := by
        rw [htk, List.filter_append, List.filter_cons_of_pos (by rw [hA]; exact hd), List.filter_nil]
      have hrow := hrX.row
      rw [hA] at hrow
      refine ⟨hrow, hrX.nx.size, fun v2 w3 ho3 hg3 hv3 => ?_⟩
      obtain ⟨A3, c3, rfl⟩ := own_slice5 ho3
      obtain ⟨Y, hY⟩ : ∃ Y, Y = X.alloc (.cells #[.int .i64 x.1, .int .i64 m.count, .string m.body, .string (groupOf V m.id)] 70) := ⟨_, rfl⟩
      have hbY : Below X.heap.size X Y := by rw [hY]; exact (Below.refl _ _).alloc (Nat.le_refl _) _
      have hYs : Y.heap.size = X.heap.size + 1 := by rw [hY]; simp
      rw [← hY] at hg3 hv3
      clear hY
      have hcg := Chg.of_grown hg3
      obtain ⟨hq4, n4⟩ := hrX.ql.below hbY
      have hq5 := hq4.other hcg fun b hb => hrX.col b hb
      have hq6 := (hrX.nx.trans n4).other hcg fun b hb => (hrX.row.lt b hb).1
      have hcol3 : ∀ g', (Value.slice A3 (j + 1) c3).ownBlock = some g' → S1.c g' = 0 := fun g' hg' => by
        rcases hv3 with e | e
        · exact hrX.col g' (e ▸ hg')
        · rw [e] at hg'
          obtain rfl := Option.some.inj hg'
          exact hrX.ql.new _ (by omega)
      have hids3 := hcg.own (own_below hrX.ids hbY) fun b hb e => rows_apart hrX.ids hrX.row (by decide) hb e rfl
      refine ⟨A3, c3, rfl, Lib.hid ?_⟩
      rw [hxm]
      refine (remove_any hq5 hfk hwf).mono ?_
      rintro e2 w4 ⟨rfl, h4⟩
      obtain ⟨S4, h4q, n4'⟩ := h4.out
      refine ⟨rfl, Lib.hid ⟨S4, ?_, hq6.trans n4', ?_, ?_, (n4'.own ho3 hcol3).2, (n4'.own hids3 hrX.icol).1, (n4'.own hids3 hrX.icol).2⟩⟩
      · rw [e, rmN_snoc]
        exact h4q
      · rw [e, List.length_append, ← hrX.len]
        rfl
      · rw [e, letCs_snoc, hA]
        exact (n4'.own ho3 hcol3).1
  have HGE : Hid (∀ id, groupOf V id = groupOf V1 id) := Lib.hid fun id => by rw [hV1]; rfl
  have hNm : N < 900000 := by have := hf.r1; omega
  clear h hf hN hNd hle hys hyr hyb hms hmm hcn
  rw [← hV1]
  clear hV1
  go_enter Tryz.func43, Tryz.ntmps43
  go_wp2_with fail
  go_still_tail 8, (by kernel_rfl)
  change wpList _ _ _ _ _ w.drew
  go_wp2_with (first
    | (go_at_call 71; refine HD.out.mono ?_; rintro e w1 ⟨A0, cc, rfl, HS⟩)
    | (go_at_call 72; refine HS.out.mono ?_; rintro e w2 ⟨rfl, H0⟩))
  clear HD HS
  go_loopw [4, 23] (fun l i wr => ∃ (A : Option Addr) (j c k : Nat), l = .slice A j c ∧ i = .int .i64 k ∧ k ≤ N ∧ Hid (∃ S', RelAt w wr q V1 S ys ms A0 N cc k A j c S')) (fun _ i _ => N - (intOf i).toNat)
  case atStart => exact ⟨none, 0, 0, 0, rfl, rfl, Nat.zero_le _, H0⟩
  case round =>
    clear H0 c0 c1 c2 c3 c4 c5 c6 c7 c8 c9 c10 c11 c12 c13
    obtain ⟨A, j, c, k, rfl, rfl, hkN, HR⟩ := hrel
    by_cases hlt : k < N
    · have hlt' : (k : Int) < N := by omega
      obtain ⟨g, mb, l, pb, x, m, rfl, hxm, hcap1, hcap2, hm0, hm9, hjk, HC, HN, HG, HA⟩ := HRND.out A0 cc wr k A j c hlt HR.out
      clear HR HRND HEND
      obtain ⟨x1, xt⟩ := x
      have hxm' : x1 = m.id := hxm
      subst hxm'
      clear hxm
      dsimp only at *
      obtain ⟨r0, r1, d4, d9, d10, p0, p1, hlk⟩ := HC.out wr (Below.refl _ _)
      clear hlk
      obtain ⟨X, hX⟩ : ∃ X, X = wr.alloc (.cells #[.int .i64 m.id, .int .i64 xt] 130) := ⟨_, rfl⟩
      have hbX : Below wr.heap.size wr X := by rw [hX]; exact (Below.refl _ _).alloc (Nat.le_refl _) _
      have hXs : X.heap.size = wr.heap.size + 1 := by rw [hX]; simp
      have hbx := heap_alloc_new wr (.cells #[.int .i64 m.id, .int .i64 xt] 130)
      rw [← hX] at hbx
      have HBX : Hid (∀ Y, Below X.heap.size X Y → Below wr.heap.size wr Y ∧ Y.cell? ⟨wr.heap.size, 0, none⟩ = some (.int .i64 m.id) ∧ Y.cell? ⟨wr.heap.size, 1, none⟩ = some (.int .i64 xt) ∧ Y.heap[wr.heap.size]? = some (.cells #[.int .i64 m.id, .int .i64 xt] 130 (0, 0))) := Lib.hid fun Y hY => by
        have hb2 := (Chg.of_below (Φ := fun _ => False) hY).heap hbx id
        exact ⟨hbX.trans (hY.mono hbX.size), by simp [World.cell?, hb2], by simp [World.cell?, hb2], hb2⟩
      have HW := Lib.hid hX
      clear hX hbX hXs hbx
      go_upto_region 7 with fail
      rw [← HW.out]
      have hlk : ∀ n, (Instr.lookup 76 (.map (some mb)) (.int .i64 m.id) false).run Tryz.prog (X.drewN n) = .ok (.pointer (some ⟨pb, 0, none⟩)) (X.drewN n) := fun n => (HC.out _ (HBX.out _ (drewN_below X n)).1).2.2.2.2.2.2.2
      obtain ⟨hbX, b0, b1, _⟩ := HBX.out X (Below.refl _ _)
      obtain ⟨r0, r1, d4, d9, d10, p0, p1, _⟩ := HC.out X hbX
      go_quiet (fail)
      have HY := Lib.hid (drewN_below X nq)
      generalize X.drewN nq = Y at *
      clear hlk r0 r1 d4 d9 d10 p0 p1 b0 b1
      obtain ⟨hbY, b0, b1, _⟩ := HBX.out Y HY.out
      obtain ⟨r0, r1, d4, d9, d10, p0, p1, _⟩ := HC.out Y hbY
      by_cases hmx : V.A.max = 0
      · have hd : deadM V.A m = false := by unfold deadM; rw [decide_eq_true hmx]; rfl
        have hmb : (V.A.max == 0) = true := by simp [hmx]
        clear HG HA
        go_wp2_with fail
        go_quiet (fail)
        have HZ := Lib.hid ((HBX.out _ (HY.out.trans ((drewN_below Y nq).mono HY.out.size))).1)
        have HN2 := Lib.hid (HN.out hd _ HZ.out)
        clear HZ
        generalize Y.drewN nq = Z at *
        go_wp2_with fail
        go_roundw
        case rel => exact ⟨A, j, c, k + 1, rfl, by go_num, by omega, HN2⟩
        case measure => simp [intOf]; omega
      · have hmb : (V.A.max == 0) = false := beq_eq_false_iff_ne.2 hmx
        by_cases hcl : m.count < V.A.max
        · have hd : deadM V.A m = false := by unfold deadM; rw [decide_eq_true hcl]; simp
          have hcd : decide (m.count < V.A.max) = true := decide_eq_true hcl
          clear HG HA
          go_wp2_with fail
          go_quiet (fail)
          have HZ := Lib.hid ((HBX.out _ (HY.out.trans ((drewN_below Y nq).mono HY.out.size))).1)
          have HN2 := Lib.hid (HN.out hd _ HZ.out)
          clear HZ
          generalize Y.drewN nq = Z at *
          go_wp2_with fail
          go_roundw
          case rel => exact ⟨A, j, c, k + 1, rfl, by go_num, by omega, HN2⟩
          case measure => simp [intOf]; omega
        · have hd : deadM V.A m = true := by unfold deadM; rw [decide_eq_false hcl, decide_eq_false hmx]; rfl
          have hcd : decide (m.count < V.A.max) = false := decide_eq_false hcl
          clear HN
          go_wp2_with fail
          go_quiet (fail)
          have HZ := Lib.hid (HY.out.trans ((drewN_below Y nq).mono HY.out.size))
          generalize Y.drewN nq = Z at *
          clear HY r0 r1 d4 d9 d10 p0 p1 b0 b1
          obtain ⟨hbZ, b0, b1, _⟩ := HBX.out Z HZ.out
          obtain ⟨r0, r1, d4, d9, d10, p0, p1, _⟩ := HC.out Z hbZ
          have HKP : Hid (∀ U, Below X.heap.size X U → U.cell? ⟨q, 10, none⟩ = some (.pointer (some ⟨l, 0, none⟩)) ∧ U.cell? ⟨wr.heap.size, 0, none⟩ = some (.int .i64 m.id) ∧ Below X.heap.size X U) := Lib.hid fun U hU => ⟨(HC.out _ (HBX.out _ hU).1).2.2.2.2.1, (HBX.out _ hU).2.1, hU⟩
          have HGZ : Hid (∀ U, Below X.heap.size X U → Calls Tryz.prog 69 #[.pointer (some ⟨l, 0, none⟩), .int .i64 m.id] U fun e w2 => ∃ b, e = .returned (.tuple #[.string (groupOf V m.id), .bool b]) ∧ Below X.heap.size X w2) := Lib.hid fun U hU => (HG.out U (HBX.out _ hU).1).mono fun e w2 ⟨b, he, hb⟩ => ⟨b, he, hU.trans (hb.mono hU.size)⟩
          have HB0 : Hid (Below X.heap.size X Z.drew) := Lib.hid HZ.out.drew
          clear HG
          go_wp2_with fail
          go_region_held3 (fun w' => w'.cell? ⟨q, 10, none⟩ = some (.pointer (some ⟨l, 0, none⟩)) ∧ w'.cell? ⟨wr.heap.size, 0, none⟩ = some (.int .i64 m.id) ∧ Below X.heap.size X w')
            (first | (with_reducible exact HKP.out _ HB0.out) | (with_reducible exact HKP.out _ (by assumption)))
            (first | (go_at_call 69; refine (HGZ.out _ (by first | assumption | exact HB0.out)).mono ?_; rintro e wG ⟨bg, rfl, hbG⟩))
          clear HKP HGZ HB0 r0 r1 d4 d9 d10 p0 p1 b0 b1
          obtain ⟨hbW, b0, b1, bk⟩ := HBX.out wG hbG
          obtain ⟨r0, r1, d4, d9, d10, p0, p1, _⟩ := HC.out wG hbW
          go_wp2_with fail
          obtain ⟨how, hsz, hnx⟩ := HA.out hd wG.drew hbW.drew
          have HOW := Lib.hid how
          have HNX := Lib.hid hnx
          have hszG : w.heap.size ≤ wG.heap.size := hsz
          have HBK : Hid (∀ w3, (wG.drew.alloc (.cells #[.int .i64 m.id, .int .i64 m.count, .string m.body, .string (groupOf V m.id)] 70)).grownBy w3 (Value.slice A j c).ownBlock → w3.cell? ⟨wr.heap.size, 0, none⟩ = some (.int .i64 m.id)) := Lib.hid fun w3 hg => by
            have hbl := Lan.lt_of_block bk
            have hb1 : Below wG.heap.size wG (wG.drew.alloc (.cells #[.int .i64 m.id, .int .i64 m.count, .string m.body, .string (groupOf V m.id)] 70)) := (Below.refl _ _).drew.alloc (Nat.le_refl _) _
            have hs1 := hb1.size
            refine ((Chg.of_grown hg).cell (p := ⟨wr.heap.size, 0, none⟩) (by show wr.heap.size < _; omega) fun e => ?_).trans ((hb1.cell (p := ⟨wr.heap.size, 0, none⟩) hbl).trans b0)
            rcases how.2 with ⟨e1, _⟩ | ⟨b', cap', cur', e1, _, hb', _⟩
            · rw [e1] at e
              simp [Value.ownBlock] at e
            · rw [e1] at e
              simp [Value.ownBlock] at e
              rw [e] at hb'
              have hb'' : wG.heap[wr.heap.size]? = some (.cells cur' 70 (0, 0)) := hb'
              rw [bk] at hb''
              simp at hb''
          clear how hnx HA hsz HC HBX HZ HW bk
          go_region_law (refine Tim.step_append_where (o := ⟨some 76, _, _, _, _, _⟩) rfl (.tmp 62) (.tmp 75) 47 rfl w.heap.size 70 i0 _ 4 48 Tryz.underlying47 hi hz0 hz1 hz2 rfl (by omega) _ j _ rfl (HOW.out.alloc _) (some ⟨wG.heap.size, 0, none⟩) 1 1 (letC V1 m) rfl rfl (fun e => by cases e) (fun ad e => by cases e; exact news_let wG.drew V1 m _ (HGE.out m.id)) (one_cell4 V1 m) (by unfold maxLen; omega) (by omega) (by simp; omega) ?_; intro v2 w3 ho3 hg3 hv3; obtain ⟨A3, c3, rfl, HRM⟩ := HNX.out _ _ ho3 hg3 hv3; have b3 := HBK.out _ hg3; clear ho3 hg3 hv3)
          clear b0 b1 r0 r1 d4 d9 d10 p0 p1
          go_wp2_with (go_at_call 55; refine HRM.out.mono ?_; rintro e w4 ⟨rfl, H4⟩)
          all_goals try go_roundw
          all_goals first
            | exact ⟨A3, j + 1, c3, k + 1, rfl, by go_num, by omega, H4⟩
            | exact ⟨⟨A3, j + 1, c3, k + 1, rfl, by go_num, by omega, H4⟩, by simp [intOf]; omega⟩
            | (simp [intOf]; omega)
    · obtain rfl : k = N := by omega
      have HE := Lib.hid (HEND.out wr A0 cc A j c HR.out)
      clear HR HRND HEND
      go_wp2
      go_ret
      exact HE.out
end
end Go.Proofs.YtdjieapobodakaaGreatDoor
end
