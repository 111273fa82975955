/- What is proved here: what the document's own 'without' answers. -/
import Derived.Test.YtpolkhippblcmaaRef2
import Derived.RegionTactic
import Derived.Deep.RegionLaw
namespace Go.Proofs.Ytpolkhippblcmaa
open Go Go.RowKit Go.Maps

theorem info_file : (Try.prog.info? 48).map (fun i => (i.zero, i.size, i.bytes)) = some (some (.agg #[.string ⟨#[]⟩, .slice none 0 0, .int .i64 0]), 3, 48) := by kernel_rfl

section
variable {P : Program} {w : World}
/-- 'append' to a row of the call's own, as one step of a region that draws its order. -/
theorem step_append_src {ops : Array Oper} {o : Oper} {a : Act} {K : Act → World → Prop} {Q : Exit → Act → World → Prop} {E : Prop} (hgd : o.guard = none) (s x : Operand) (t : TypeId)
    (ho : o.op = .call { callee := .builtin .append, args := #[s, x], argTypes := #[t, t] })
    (base : Nat) (e : TypeId) (i : TypeInfo) (z : Value) (size bytes : Nat) (ht : P.underlying t = some (.slice e)) (hi : P.info? e = some i) (hz : i.zero = some z)
    (hsize : i.size = size) (hby : i.bytes = bytes) (hzs : z.cells.size = size) (hsz : 0 < size)
    (v : Value) (n : Nat) (xs : List Value) (hs : a.eval s = v) (hown : w.ownsRow base e size v n xs)
    (A : Option Addr) (m c : Nat) (news : List Value) (hx : a.eval x = .slice A m c) (hl : news.length = m * size) (hnil : A = none → m = 0 ∧ c = 0)
    (hnews : ∀ ad, A = some ad → ∀ j u, news[j]? = some u → w.cell? (ad.add j) = some u) (h1 : ∀ u ∈ news, u.oneCell' = true)
    (h63 : n + m ≤ maxLen) (hbytes : (n + m) * bytes ≤ 140737488355328) (hbase : base ≤ w.heap.size)
    (h : ∀ v' w', w'.ownsRow base e size v' (n + m) (xs ++ news) → w.grownBy w' v.ownBlock → K (a.put o.dst v') w') :
    if Region.wanted o (yielded ops a.tmps) = true then Oper.wp P o a w K Q else E := by
  have hw : Region.wanted o (yielded ops a.tmps) = true := by simp [Region.wanted, hgd]
  rw [if_pos hw]
  rcases A with _ | ad
  · obtain ⟨rfl, rfl⟩ := hnil rfl
    have hn : news = [] := List.eq_nil_of_length_eq_zero (by simpa using hl)
    subst hn
    have hrun := run_append_owned_none (P := P) w base t o.type e i size ht hi v n xs hown
    unfold Oper.wp
    simp [execOp, ho, resolve, invoke, builtin, hs, hx, hrun, Result.andThen]
    exact h v w (by simpa using hown) (World.grownBy.refl _ _)
  · obtain ⟨v', w', hrun, h2, h3, _⟩ := run_append_own (P := P) w base t o.type e i z size bytes ht hi hz hsize hby hzs hsz v n xs hown ad m c news hl (hnews ad rfl) h1 h63 hbytes hbase
    unfold Oper.wp
    simp [execOp, ho, resolve, invoke, builtin, hs, hx, hrun, Result.andThen]
    exact h v' w' h2 h3
end

/-- A local disk that is being filled: its struct at block bo, its files in a row of its own. -/
structure Out (W1 : World) (bo : Nat) (room : Int) (v : Value) (L : List RV) (wr : World) : Prop where
  below : Below bo W1 wr
  out : wr.heap[bo]? = some (.cells #[.int .i64 room, v] 29 (0, 0))
  own : wr.ownsRow (bo + 1) 48 3 v L.length (flat L)
theorem Out.row {W1 wr : World} {bo : Nat} {room : Int} {v : Value} {L : List RV} (h : Out W1 bo room v L wr) : v.ownBlock ≠ some bo := fun e => by
  have := (h.own.lt bo e).1
  omega
theorem shape3 {w : World} {base e size n : Nat} {v : Value} {xs : List Value} (h : w.ownsRow base e size v n xs) : ∃ A c, v = .slice A n c ∧ n ≤ c ∧ c ≤ maxLen := by
  rcases h.2 with ⟨rfl, rfl⟩ | ⟨g, cap, cur, rfl, _, _, h1, h2, _⟩
  · exact ⟨none, 0, rfl, Nat.le_refl _, Nat.zero_le _⟩
  · exact ⟨_, cap, rfl, h1, h2⟩
theorem Out.step {W1 wr w2 : World} {bo n : Nat} {room : Int} {v v' : Value} {L : List RV} {o : Obj} (h : Out W1 bo room v L wr) (x : RV) (hn : n = L.length + 1) (ho : w2.ownsRow (bo + 1) 48 3 v' n (flat L ++ x.vals)) (hg : (wr.drew.alloc o).grownBy w2 v.ownBlock) :
    (∃ A c, v' = .slice A n c) ∧ w2.cell? ⟨bo, 1, none⟩ = some v ∧ w2.frozen? ⟨bo, 1, none⟩ = false ∧ Out W1 bo room v' (L ++ [x]) (w2.setCell ⟨bo, 1, none⟩ v') := by
  subst hn
  have hs := lt_of_block h.out
  have h1 : w2.heap[bo]? = some (.cells #[.int .i64 room, v] 29 (0, 0)) := by
    rw [hg.block bo (by simp; omega) (fun e => h.row e.symm)]
    rw [Below.heap_alloc _ _ bo (by simpa using hs)]
    exact h.out
  obtain ⟨_, c1, _, f1⟩ := two_cells h1
  obtain ⟨A, c, e, _⟩ := shape3 ho
  refine ⟨⟨A, c, e⟩, c1, f1, ?_, two_set1 h1 _, ?_⟩
  · refine ((((h.below.drew).alloc (by simpa using Nat.le_of_lt hs) o).grown hg (by simp; omega) fun k hk => ?_).setCell (Nat.le_refl _) _)
    have := (h.own.lt k hk).1
    omega
  · rw [List.length_append, flat_snoc]
    refine (Chg.set w2 bo 1 v').own ho fun g hg' e2 => ?_
    have := (ho.lt g hg').1
    omega
theorem Out.begin (W : World) (room : Int) : Out W W.heap.size room (.slice none 0 0) [] (W.alloc (.cells #[.int .i64 room, .slice none 0 0] 29)) :=
  ⟨(Below.refl _ _).alloc (Nat.le_refl _) _, heap_alloc_new W _, World.ownsRow_nil _ _ _ _⟩

/-- .. and told. -/
theorem Out.done {w W1 wr w' : World} {bo rs : Nat} {room : Int} {v : Value} {L : List RV} {Ψ : Nat → Prop} (h : Out W1 bo room v L wr) (hw : Below w.heap.size w wr) (hok : ∀ x ∈ L, RVOk wr (fun i => (Ψ i ∧ i < w.heap.size) ∨ bo + 1 ≤ i) x)
    (hc : Chg (fun i => i = rs) wr w') (hrs : w.heap.size ≤ rs) (hrb : rs ≤ bo) : ∃ A c, v = .slice A L.length c ∧ RRd w' (fun i => Ψ i ∨ w.heap.size ≤ i) A L.length c L ∧ Below w.heap.size w w' := by
  obtain ⟨A, c, e, hr⟩ := RRd.of_own (Ψ := fun i => (Ψ i ∧ i < w.heap.size) ∨ bo + 1 ≤ i) h.own (fun k hk => .inr hk) hok
  refine ⟨A, c, e, (hr.keep hc fun k hk e2 => ?_).mono fun k _ hk => ?_, hw.trans (hc.below hw.size fun i hi => by omega)⟩
  · rcases hk with hk | hk
    · omega
    · omega
  · rcases hk with hk | hk
    · exact .inl hk.1
    · exact .inr (by omega)
/-- A block of two cells, both set. -/
theorem two_set {w : World} {b : Nat} {x y : Value} {t : TypeId} (h : w.heap[b]? = some (.cells #[x, y] t (0, 0))) (u u' : Value) :
    ((w.setCell ⟨b, 0, none⟩ u).setCell ⟨b, 1, none⟩ u').cell? ⟨b, 0, none⟩ = some u ∧ ((w.setCell ⟨b, 0, none⟩ u).setCell ⟨b, 1, none⟩ u').cell? ⟨b, 1, none⟩ = some u' := by
  obtain ⟨h0, h1, _⟩ := two_cells (two_set1 (two_set0 h u) u')
  exact ⟨h0, h1⟩

theorem news3 (w : World) (a b c : Value) (t : TypeId) : ∀ ad, some (⟨w.heap.size, 0, none⟩ : Addr) = some ad → ∀ j u, [a, b, c][j]? = some u → (w.alloc (.cells #[a, b, c] t)).cell? (ad.add j) = some u := by
  intro ad had j u hj
  obtain rfl := Option.some.inj had
  rw [Addr.add_lit, Nat.zero_add, cell_of_row _ _ _ _ _ _ (heap_alloc_new w _)]
  simpa using hj

def keepN (k : List UInt8) (L : List RV) : List RV := L.filter fun x => !(x.sv.data.toList == k)
theorem keepN_map (k : List UInt8) (L : List RV) : (keepN k L).map RV.f = delN RF.nm k (L.map RV.f) := by
  unfold keepN delN
  rw [List.filter_map]
  rfl
theorem keepN_snoc (k : List UInt8) (L : List RV) (x : RV) : keepN k (L ++ [x]) = if x.sv.data.toList = k then keepN k L else keepN k L ++ [x] := by
  unfold keepN
  rw [List.filter_append]
  split
  · rename_i h; rw [List.filter_cons_of_neg (by simp [h])]; simp
  · rename_i h; rw [List.filter_cons_of_pos (by simpa using h)]; rfl
theorem keepN_len (k : List UInt8) (L : List RV) : (keepN k L).length ≤ L.length := List.length_filter_le _ _
/-- What 'without' answers. -/
def RefSaid (room : Int) (Ψ : Nat → Prop) (w : World) (L' : List RV → Prop) (e : Ending) (w' : World) : Prop :=
  ∃ A c L, e = .returned (.agg #[.int .i64 room, .slice A L.length c]) ∧ RRd w' (fun k => Ψ k ∨ w.heap.size ≤ k) A L.length c L ∧ L' L ∧ Below w.heap.size w w'

set_option maxHeartbeats 3200000 in
set_option maxRecDepth 100000 in
theorem without_any {w : World} {Ψ : Nat → Prop} {A : Option Addr} {n c : Nat} {L : List RV} {room : Int} (h : RRd w Ψ A n c L) (hn : n ≤ 1000000) (s : ByteArray) :
    Calls Try.prog 27 #[.agg #[.int .i64 room, .slice A n c], .string s] w (RefSaid room Ψ w fun L' => L' = keepN s.data.toList L) := by
  obtain ⟨i0, hi, hz0, hz1, hz2⟩ := info_parts info_file
  obtain ⟨W, hW⟩ : ∃ W, W = (w.alloc (.cells #[.int .i64 room, .slice A n c] 29)).alloc (.cells #[.int .i64 0, .slice none 0 0] 29) := ⟨_, rfl⟩
  have hWs : W.heap.size = w.heap.size + 2 := by rw [hW]; simp
  have hb : Below w.heap.size w W := by rw [hW]; exact ((Below.refl _ _).alloc (Nat.le_refl _) _).alloc (by simp) _
  have hbx : W.heap[w.heap.size]? = some (.cells #[.int .i64 room, .slice A n c] 29 (0, 0)) := by
    rw [hW, Below.heap_alloc _ _ _ (by simp)]
    exact heap_alloc_new w _
  have hrs : W.heap[w.heap.size + 1]? = some (.cells #[.int .i64 0, .slice none 0 0] 29 (0, 0)) := by
    rw [hW]
    have := heap_alloc_new (w.alloc (.cells #[.int .i64 room, .slice A n c] 29)) (.cells #[.int .i64 0, .slice none 0 0] 29)
    simpa using this
  have hO0 := Out.begin W room
  rw [show W.heap.size = w.heap.size + 1 + 1 from hWs] at hO0
  have HO0 := Lib.hid hO0
  clear hO0
  have hc := h.cap
  have hm := h.max
  unfold maxLen at hm
  have HR := Lib.hid h
  have HL := Lib.hid h.len
  have HB := Lib.hid hb
  have HBX := Lib.hid hbx
  have HRS := Lib.hid hrs
  have HWS := Lib.hid hWs
  have HW := Lib.hid hW
  clear h hb hbx hrs hWs hW
  go_enter Try.func27, Try.ntmps27
  go_wp2_with fail
  rw [← HW.out]
  go_loopw [6] (fun i wr => ∃ (k : Nat) (v : Value), i = .int .i64 k ∧ k ≤ n ∧ Hid (Out W (w.heap.size + 1 + 1) room v (keepN s.data.toList (L.take k)) wr)) (fun i _ => n - (intOf i).toNat)
  case atStart => exact ⟨0, _, rfl, Nat.zero_le _, HO0⟩
  case round =>
    obtain ⟨k, v, rfl, hk, HO⟩ := hrel
    obtain ⟨Av, cv, rfl, hcv, hmv⟩ := shape3 HO.out.own
    obtain ⟨_, o1, _, g1⟩ := two_cells HO.out.out
    have hbw : Below w.heap.size w wr := HB.out.trans (HO.out.below.mono (by omega))
    have hbx' : wr.heap[w.heap.size]? = _ := (HO.out.below.block w.heap.size (by omega)).trans HBX.out
    obtain ⟨b0, b1, _⟩ := two_cells hbx'
    have hR := HR.out.later hbw
    have hml : (keepN s.data.toList (L.take k)).length ≤ k := Nat.le_trans (keepN_len _ _) (List.length_take_le _ _)
    have HBW := Lib.hid hbw
    clear hbw hbx'
    by_cases hkn : k < n
    · obtain ⟨x, b, o, hx, hxm, rfl, hbB, hcell, hok⟩ := hR.at hkn
      have e0 : wr.cell? ⟨b, o + k * 3, none⟩ = some (.string x.sv) := hcell 0 _ rfl
      have e1 : wr.cell? ⟨b, o + k * 3 + 1, none⟩ = some (.slice x.A x.b.length x.c) := hcell 1 _ rfl
      have e2 : wr.cell? ⟨b, o + k * 3 + 2, none⟩ = some (.int .i64 x.s) := hcell 2 _ rfl
      have hkn' : (k : Int) < n := by omega
      have hsn : keepN s.data.toList (L.take (k + 1)) = if x.sv.data.toList = s.data.toList then keepN s.data.toList (L.take k) else keepN s.data.toList (L.take k) ++ [x] := by
        rw [List.take_add_one, hx]
        show keepN _ (L.take k ++ [x]) = _
        rw [keepN_snoc]
      by_cases he : x.sv.data.toList = s.data.toList
      · rw [if_pos he] at hsn
        have hd : (x.sv.toList == s.toList) = true := by rw [ByteArray.toList_eq, ByteArray.toList_eq, he]; simp
        have HSN := Lib.hid hsn
        clear hcell hok hx hxm he hsn hR hcv hmv
        go_wp2_with fail
        go_roundw
        case rel => exact ⟨k + 1, _, by go_num, by omega, by rw [HSN.out]; exact HO⟩
        case measure => simp [intOf]; omega
      · rw [if_neg he] at hsn
        have hd : (x.sv.toList == s.toList) = false := by rw [ByteArray.toList_eq, ByteArray.toList_eq]; exact beq_eq_false_iff_ne.2 he
        have HSN := Lib.hid hsn
        have hbo := lt_of_block HO.out.out
        clear hcell hok hx hxm he hsn hR
        generalize hm' : (keepN s.data.toList (L.take k)).length = m at *
        have HM := Lib.hid hm'
        have HOWN : Hid (wr.ownsRow (w.heap.size + 1 + 1 + 1) 48 3 (.slice Av m cv) m (flat (keepN s.data.toList (L.take k)))) := Lib.hid (by have := HO.out.own; rwa [hm'] at this)
        have HMS : Hid (m ≤ 1000000) := Lib.hid (by omega)
        have HXV : Hid (x.vals = [.string x.sv, .slice x.A x.b.length x.c, .int .i64 x.s]) := Lib.hid rfl
        clear hm' hml
        go_wp2_with fail
        go_region_law (refine step_append_src (o := ⟨some 33, _, _, _, _, _⟩) rfl (.tmp 26) (.tmp 32) 27 rfl (w.heap.size + 1 + 1 + 1) 48 i0 _ 3 48 Try.underlying27 hi hz0 hz1 hz2 rfl (by omega) _ m _ rfl ((HOWN.out.drew).alloc _) (some ⟨wr.heap.size, 0, none⟩) 1 1 x.vals rfl rfl (fun e => by cases e) (news3 wr.drew _ _ _ _) (one_cells x) (by have := HMS.out; unfold maxLen; omega) (by have := HMS.out; omega) (by simp; omega) ?_; intro v2 w2 ho2 hg2; obtain ⟨⟨A2, c2, rfl⟩, hc2, hf2, hO2⟩ := HO.out.step x (by rw [HM.out]) ho2 hg2; have HO2 := Lib.hid hO2; clear ho2 hg2 hO2)
        all_goals
          go_wp2_with fail
          go_roundw
          case rel => exact ⟨k + 1, _, by go_num, by omega, by rw [HSN.out]; exact HO2⟩
          case measure => simp [intOf]; omega
    · obtain rfl : k = n := by omega
      have hrs' : wr.heap[w.heap.size + 1]? = _ := (HO.out.below.block (w.heap.size + 1) (by omega)).trans HRS.out
      obtain ⟨r0, r1, r2, r3⟩ := two_cells hrs'
      obtain ⟨o0, _⟩ := two_cells HO.out.out
      have HO' := HO
      have hmm : keepN s.data.toList (L.take k) = keepN s.data.toList L := by rw [show L.take k = L from List.take_of_length_le (by rw [HL.out]; exact Nat.le_refl _)]
      have hbo := lt_of_block HO.out.out
      obtain ⟨f0, f1⟩ := two_set hrs' (.int .i64 room) (.slice Av (keepN s.data.toList (L.take k)).length cv)
      have HFIN : Hid (RefSaid room Ψ w (fun L' => L' = keepN s.data.toList L) (.returned (.agg #[.int .i64 room, .slice Av (keepN s.data.toList (L.take k)).length cv])) ((wr.setCell ⟨w.heap.size + 1, 0, none⟩ (.int .i64 room)).setCell ⟨w.heap.size + 1, 1, none⟩ (.slice Av (keepN s.data.toList (L.take k)).length cv))) := Lib.hid (by
        obtain ⟨A', c', e', hr', hb'⟩ := HO'.out.done (w := w) (rs := w.heap.size + 1) (Ψ := Ψ) HBW.out (fun x hx => ((HR.out.ok x (by rw [hmm] at hx; exact (List.mem_filter.1 hx).1)).mono fun i hi h => .inl ⟨h, hi⟩).later HBW.out)
          ((Chg.set _ _ _ _).trans (Chg.set _ _ _ _) fun _ _ e => e) (by omega) (by omega)
        cases e'
        exact ⟨Av, cv, _, rfl, hr', hmm, hb'⟩)
      clear hmm HO'
      generalize (keepN s.data.toList (L.take k)).length = m at *
      clear hR
      go_wp2_with fail
      exact bodyPost_ret (v := .agg #[.int .i64 room, .slice Av m cv]) (by simp [results, Try.results27, go_sem, f0, f1]) rfl HFIN.out
end Go.Proofs.Ytpolkhippblcmaa
