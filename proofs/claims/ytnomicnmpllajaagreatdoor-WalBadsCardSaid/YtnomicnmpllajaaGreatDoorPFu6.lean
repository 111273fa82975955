/- What is proved here: what the disk's Sync, Cut and Remove do. -/
/- What is proved here: what the disk's Append does. -/
/- What is proved here: what the disk's Rename does. -/
/- What is proved here: what the disk's Names returns. -/
import Derived.Test.YtnomicnmpllajaaGreatDoorPFu5
import Derived.Maps.AppendAt
import Derived.Test.YtnomicnmpllajaaGreatDoorIter
section
namespace Go.Proofs.YtnomicnmpllajaaGreatDoor
open Go Go.RowKit Go.Maps

/-- What a call that may change a disk does: what it tells, and what the disk is behind it. -/
def OpSaid (d : Nat) (room : Int) (S : List RF) (r : Int) (Φ : Nat → Prop) (w : World) (e : Ending) (w' : World) : Prop :=
  e = .returned (.int .i64 r) ∧ Chg Φ w w' ∧ DiskAt w' d room S (grow Φ w w')

section
variable {w w' : World} {d m : Nat} {room : Int} {L : List Fil} {Φ : Nat → Prop}
theorem DiskL.foot_in (h : DiskL w d m room L Φ) {x : Fil} (hx : x ∈ L) (i : Nat) (hi : foot d x i) : Φ i := by
  rcases hi with rfl | rfl | hi
  · exact h.inn.1
  · exact (h.inn.2.2 x hx).1
  · exact (h.inn.2.2 x hx).2 i hi
theorem grow_old (k : Nat) (h : Φ k) : grow Φ w w' k := .inl h
theorem DiskL.same (h : DiskL w d m room L Φ) (hc : Chg Φ w w') (hk : Chg (fun _ => False) w w') {e : Ending} {r : Int} (he : e = .returned (.int .i64 r)) : OpSaid d room (L.map Fil.f) r Φ w e w' :=
  ⟨he, hc, m, L, rfl, (h.keep hk fun _ _ => id).mono fun _ _ => .inl⟩
theorem DiskL.said (h : DiskL w d m room L Φ) {x x' : Fil} (hx : x ∈ L) (hc : Chg (foot d x) w w') (h' : DiskL w' d m room (putN Fil.nm x' L) (grow Φ w w')) {e : Ending} {r : Int} (he : e = .returned (.int .i64 r)) :
    OpSaid d room (putN RF.nm x'.f (L.map Fil.f)) r Φ w e w' :=
  ⟨he, hc.mono fun i _ hi => h.foot_in hx i hi, m, _, map_putN fil_name _ _, h'⟩

theorem DiskL.del (h : DiskL w d m room L Φ) {x : Fil} (hx : x ∈ L) (hc : Chg (fun k => k = d ∨ k = m) w w') {U : Nat}
    (hd : w'.heap[d]? = some (.cells #[.int .i64 room, .int .i64 U, .map (some m)] 79 (0, 0))) (hU : U + x.f.b.length = usedN (L.map Fil.f)) (hm : DMap w' m (delN Fil.nm x.nm L)) :
    DiskL w' d m room (delN Fil.nm x.nm L) Φ := by
  have hu : usedN ((delN Fil.nm x.nm L).map Fil.f) = U := by
    rw [map_delN fil_name]
    have := usedN_del (h.srt.map (g := Fil.f) fil_name) (List.mem_map_of_mem (f := Fil.f) hx)
    have e : (Fil.f x).nm = x.nm := rfl
    rw [e] at this
    omega
  refine ⟨by rw [hu]; exact hd, hm, fun y hy => ?_, h.srt.delN _, List.Pairwise.filter _ h.apart, h.rm, by rw [hu]; have := h.used; omega, h.inn.1, h.inn.2.1, fun y hy => h.inn.2.2 y (mem_delN.1 hy).1⟩
  have hy' := (mem_delN.1 hy).1
  refine (h.file y hy').keep hc ?_ fun g hg => ?_
  · rintro (e | e)
    · exact h.d_p hy' e
    · exact h.m_p hy' e
  · rintro (e | e)
    · exact h.v_d hy' (by rw [hg, e])
    · exact h.v_m hy' (by rw [hg, e])

theorem DiskL.add (h : DiskL w d m room L Φ) {x : Fil} (hn : ∀ y ∈ L, y.nm ≠ x.nm) (hc : Chg (fun k => k = d ∨ k = m) w w') {U : Nat}
    (hd : w'.heap[d]? = some (.cells #[.int .i64 room, .int .i64 U, .map (some m)] 79 (0, 0))) (hU : U = usedN (L.map Fil.f) + x.f.b.length) (hu : (U : Int) ≤ room)
    (hm : DMap w' m (putN Fil.nm x L)) (hf : FileAt w' x) (ha : ∀ y ∈ L, Apart x y) (hx : Φ x.p ∧ ∀ g, x.v.ownBlock = some g → Φ g) :
    DiskL w' d m room (putN Fil.nm x L) Φ := by
  have hdel : delN Fil.nm x.nm L = L := delN_none hn
  have hput : putN Fil.nm x L = insN Fil.nm x L := by unfold putN; rw [hdel]
  have huse : usedN ((putN Fil.nm x L).map Fil.f) = U := by
    rw [hput, map_insN fil_name, usedN_ins]
    omega
  refine ⟨by rw [huse]; exact hd, hm, fun y hy => ?_, h.srt.putN x, ?_, h.rm, by rw [huse]; exact hu, h.inn.1, h.inn.2.1, fun y hy => ?_⟩
  · rcases mem_putN.1 hy with rfl | ⟨hy', _⟩
    · exact hf
    · refine (h.file y hy').keep hc ?_ fun g hg => ?_
      · rintro (e | e)
        · exact h.d_p hy' e
        · exact h.m_p hy' e
      · rintro (e | e)
        · exact h.v_d hy' (by rw [hg, e])
        · exact h.v_m hy' (by rw [hg, e])
  · rw [hput]
    exact ((perm_insN x L).symm.pairwise_iff (fun {_ _} hab => hab.symm)).1 (List.pairwise_cons.2 ⟨ha, h.apart⟩)
  · rcases mem_putN.1 hy with rfl | ⟨hy', _⟩
    · exact hx
    · exact h.inn.2.2 y hy'
end

/-! ### Sync -/
def syncF (S : List RF) (k : List UInt8) : List RF × Int := match findN S k with | none => (S, 6) | some f => (putN RF.nm ⟨f.nm, f.b, f.b.length⟩ S, 0)
set_option maxHeartbeats 400000 in
theorem Sync_any {w : World} {d : Nat} {room : Int} {S : List RF} {Φ : Nat → Prop} (h : DiskAt w d room S Φ) (s : ByteArray) (hs : s.size ≤ maxLen) :
    Calls Tryz.prog 56 #[.pointer (some ⟨d, 0, none⟩), .string s] w (OpSaid d room (syncF S s.data.toList).1 (syncF S s.data.toList).2 Φ w) := by
  obtain ⟨m, L, rfl, h⟩ := h
  obtain ⟨c0, c1, c2, _⟩ := three_cells h.blk
  have hlk := h.map.look s hs
  rcases h.cases s.data.toList with ⟨h1, h2, _⟩ | ⟨x, hx, hxn, h1, h2⟩
  · have HF : syncF (L.map Fil.f) s.data.toList = (L.map Fil.f, 6) := by unfold syncF; rw [h1]
    rw [HF]
    have HS := Lib.hid (h.same (Chg.refl _ _) (Chg.refl _ _) (e := .returned (.int .i64 6)) rfl)
    rw [h2] at hlk
    clear h h1 h2 HF
    go_enter Tryz.func56, Tryz.ntmps56
    go_wp2
    go_ret
    exact HS.out
  · have HF : syncF (L.map Fil.f) s.data.toList = (putN RF.nm ⟨x.f.nm, x.f.b, x.f.b.length⟩ (L.map Fil.f), 0) := by unfold syncF; rw [h1]
    rw [HF]
    have hf := h.file x hx
    have hd3 := h.blk
    have hsy := sync_any x.p x.f.b.length x.v x.f.s _ w hf.blk hf.own
    have HS : Hid (OpSaid d room (putN RF.nm ⟨x.f.nm, x.f.b, x.f.b.length⟩ (L.map Fil.f)) 0 Φ w (.returned (.int .i64 0)) (w.setCell ⟨x.p, 1, none⟩ (.int .i64 x.f.b.length))) := Lib.hid (by
      have hc := Chg.set w x.p 1 (.int .i64 (x.f.b.length : Int))
      have hcc : Chg (foot d x) w (w.setCell ⟨x.p, 1, none⟩ (.int .i64 (x.f.b.length : Int))) := hc.mono fun i _ e => .inr (.inl e)
      have hvp : x.v.ownBlock ≠ some x.p := h.v_p hx hx
      refine h.said (x' := ⟨⟨x.f.nm, x.f.b, x.f.b.length⟩, x.p, x.v⟩) hx hcc ?_ rfl
      exact h.touch hx rfl rfl hcc (hc.heap hd3 fun e => h.d_p hx e.symm) rfl ⟨two_set1 hf.blk _, hc.own hf.own fun g hg e => hvp (by rw [hg, e]), Nat.le_refl _, hf.byt, hf.len⟩ (fun g hg => .inl hg) h.used)
    have HSY := Lib.hid hsy
    rw [h2] at hlk
    clear h h1 h2 HF hf hd3 hsy hx hxn
    go_enter Tryz.func56, Tryz.ntmps56
    go_wp2_with (go_at_call 89; refine HSY.out.mono ?_; rintro e w1 ⟨rfl, rfl⟩)
    go_ret
    exact HS.out

/-! ### Cut -/
def cutF (S : List RF) (k : List UInt8) (n : Int) : List RF × Int := match findN S k with | none => (S, 6) | some f => if n < 0 ∨ (f.b.length : Int) < n then (S, 1) else (putN RF.nm (cutRF f n.toNat) S, 0)
set_option maxHeartbeats 800000 in
set_option maxRecDepth 100000 in
theorem Cut_any {w : World} {d : Nat} {room : Int} {S : List RF} {Φ : Nat → Prop} (h : DiskAt w d room S Φ) (s : ByteArray) (hs : s.size ≤ maxLen) (n : Int) :
    Calls Tryz.prog 60 #[.pointer (some ⟨d, 0, none⟩), .string s, .int .i64 n] w (OpSaid d room (cutF S s.data.toList n).1 (cutF S s.data.toList n).2 Φ w) := by
  obtain ⟨m, L, rfl, h⟩ := h
  obtain ⟨c0, c1, c2, _⟩ := three_cells h.blk
  have hlk := h.map.look s hs
  rcases h.cases s.data.toList with ⟨h1, h2, _⟩ | ⟨x, hx, hxn, h1, h2⟩
  · have HF : cutF (L.map Fil.f) s.data.toList n = (L.map Fil.f, 6) := by unfold cutF; rw [h1]
    rw [HF]
    have HS := Lib.hid (h.same (Chg.refl _ _) (Chg.refl _ _) (e := .returned (.int .i64 6)) rfl)
    rw [h2] at hlk
    clear h h1 h2 HF
    go_enter Tryz.func60, Tryz.ntmps60
    go_wp2
    go_ret
    exact HS.out
  · have hf := h.file x hx
    obtain ⟨A, c, hv, hr⟩ := hf.rd
    obtain ⟨q0, _⟩ := two_cells hf.blk
    rw [hv] at q0
    have hc := hr.cap
    have hm := hr.max
    unfold maxLen at hm
    rw [h2] at hlk
    by_cases hbad : n < 0 ∨ (x.f.b.length : Int) < n
    · have HF : cutF (L.map Fil.f) s.data.toList n = (L.map Fil.f, 1) := by unfold cutF; rw [h1]; exact if_pos hbad
      rw [HF]
      have HS := Lib.hid (h.same (Chg.refl _ _) (Chg.refl _ _) (e := .returned (.int .i64 1)) rfl)
      generalize x.f.b.length = N at *
      clear h h1 h2 HF hf hr hv hx
      by_cases hn : n < 0
      · clear hbad
        go_enter Tryz.func60, Tryz.ntmps60
        go_wp2
        go_ret
        exact HS.out
      · have hn2 : (N : Int) < n := by omega
        have hn3 : 0 ≤ n := by omega
        clear hbad
        go_enter Tryz.func60, Tryz.ntmps60
        go_wp2
        go_ret
        exact HS.out
    · obtain ⟨k, rfl⟩ : ∃ k : Nat, n = k := ⟨n.toNat, by omega⟩
      have hkn : k ≤ x.f.b.length := by omega
      have HF : cutF (L.map Fil.f) s.data.toList k = (putN RF.nm (cutRF x.f k) (L.map Fil.f), 0) := by unfold cutF; rw [h1]; exact if_neg hbad
      rw [HF]
      have hsh := (shorten_any h hx k hkn).mono (R' := fun e w' => e = .returned (.tuple #[]) ∧ Hid (OpSaid d room (putN RF.nm (cutRF x.f k) (L.map Fil.f)) 0 Φ w (.returned (.int .i64 0)) w')) (by
        rintro e w' ⟨rfl, hcc, x', _, hx2, h3⟩
        refine ⟨rfl, Lib.hid ?_⟩
        have := h.said hx hcc h3 (e := .returned (.int .i64 0)) rfl
        rwa [hx2] at this)
      have HSH := Lib.hid hsh
      have hk2 : (k : Int) ≤ x.f.b.length := by omega
      generalize x.f.b.length = N at *
      clear h h1 h2 HF hf hr hv hsh hx hbad
      go_enter Tryz.func60, Tryz.ntmps60
      go_wp2_with (go_at_call 52; refine HSH.out.mono ?_; rintro e w1 ⟨rfl, HS⟩)
      go_ret
      exact HS.out

/-! ### Remove -/
def removeF (S : List RF) (k : List UInt8) : List RF × Int := match findN S k with | none => (S, 6) | some _ => (delN RF.nm k S, 0)
def RemSaid (d m : Nat) (room : Int) (L : List Fil) (k : List UInt8) (Φ : Nat → Prop) (w : World) (e : Ending) (w' : World) : Prop :=
  e = .returned (.int .i64 (removeF (L.map Fil.f) k).2) ∧ Chg (fun i => i = d ∨ i = m) w w' ∧ DiskL w' d m room (delN Fil.nm k L) Φ
set_option maxHeartbeats 800000 in
set_option maxRecDepth 100000 in
theorem Remove_L {w : World} {d m : Nat} {room : Int} {L : List Fil} {Φ : Nat → Prop} (h : DiskL w d m room L Φ) (s : ByteArray) (hs : s.size ≤ maxLen) :
    Calls Tryz.prog 59 #[.pointer (some ⟨d, 0, none⟩), .string s] w (RemSaid d m room L s.data.toList Φ w) := by
  obtain ⟨c0, c1, c2, f0, f1, f2⟩ := three_cells h.blk
  have hlk := h.map.look s hs
  rcases h.cases s.data.toList with ⟨h1, h2, hno⟩ | ⟨x, hx, hxn, h1, h2⟩
  · have HF : removeF (L.map Fil.f) s.data.toList = (L.map Fil.f, 6) := by unfold removeF; rw [h1]
    have HS : Hid (RemSaid d m room L s.data.toList Φ w (.returned (.int .i64 6)) w) := Lib.hid ⟨by rw [HF], Chg.refl _ _, by rw [delN_none hno]; exact h⟩
    clear hno
    rw [h2] at hlk
    clear h h1 h2 HF
    go_enter Tryz.func59, Tryz.ntmps59
    go_wp2
    go_ret
    exact HS.out
  · have HF : removeF (L.map Fil.f) s.data.toList = (delN RF.nm s.data.toList (L.map Fil.f), 0) := by unfold removeF; rw [h1]
    have hf := h.file x hx
    obtain ⟨A, c, hv, hr⟩ := hf.rd
    obtain ⟨q0, _⟩ := two_cells hf.blk
    rw [hv] at q0
    have hc := hr.cap
    have hm := hr.max
    unfold maxLen at hm
    have h3 := usedN_mem (List.mem_map_of_mem (f := Fil.f) hx)
    have h4 := h.used
    have h5 := h.rm
    have hdp := h.d_p hx
    obtain ⟨U, hU⟩ : ∃ U, U = usedN (L.map Fil.f) - x.f.b.length := ⟨_, rfl⟩
    have HU : Hid ((usedN (L.map Fil.f) : Int) - (x.f.b.length : Int) = (U : Int)) := Lib.hid (by omega)
    have hc1 : Chg (fun k => k = d) w (w.setCell ⟨d, 1, none⟩ (.int .i64 U)).drew := (Chg.set w d 1 _).trans (Chg.drew (Φ := fun k => k = d) _) fun _ _ e => e
    have HM := Lib.hid (h.map.keep hc1 h.m_d)
    have HE : Hid (∀ w2, w2.ownsMap Tryz.prog 9 ptrElem m L.length ((datOf L).del (.string s.data.toList)) → (w.setCell ⟨d, 1, none⟩ (.int .i64 U)).drew.mapTurned w2 m →
        RemSaid d m room L s.data.toList Φ w (.returned (.int .i64 0)) w2) := Lib.hid (by
      intro w2 hm2 ht2
      have hcc : Chg (fun k => k = d ∨ k = m) w w2 := (hc1.mono fun _ _ e => .inl e).trans (Chg.of_turned ht2) fun _ _ e => .inr e
      have h6 := ownsMap_tight hm2
      rw [dat_del, dat_size, ← hxn] at h6
      have h7 := h.del hx hcc (U := U) ((Chg.of_turned ht2).heap (three_set1 h.blk _) fun e => h.m_d e.symm) (by omega) h6
      exact ⟨by rw [HF], hcc, by rw [hxn] at h7; exact h7⟩)
    have hkey : keyOf Tryz.prog 9 (.string s) = some (.string s.data.toList) := Go.WideMaps.keyOf_string_mk Tryz.underlying9 hs
    have HKEY := Lib.hid hkey
    have hmd := h.m_d
    rw [h2] at hlk
    generalize usedN (L.map Fil.f) = V at *
    generalize x.f.b.length = N at *
    have hu : (U : Int) ≤ 9223372036854775807 ∧ (0 : Int) ≤ (U : Int) := by have := HU.out; omega
    have hw2 : IntKind.i64.wrap ((V : Int) - (N : Int)) = (U : Int) := by rw [HU.out]; exact IntWalk.i64_in _ (by omega)
    clear h h1 h2 HF hf hr hv hx hxn hc1 hkey hU
    go_enter Tryz.func59, Tryz.ntmps59
    go_wp2_with fail
    go_still_tail 12, (by kernel_rfl)
    change wpList _ _ _ _ _ w.drew
    clear hw2
    go_wp2_with (at_delete; refine wpList_delete_own _ rfl _ _ 77 9 rfl 92 keyed_str Tryz.underlying77 ptrElem m _ _ rfl HM.out _ _ rfl HKEY.out ?_; intro w2 hm2 ht2; have HX := Lib.hid (HE.out w2 hm2 ht2); clear hm2 ht2)
    go_ret
    exact HX.out

theorem Remove_any {w : World} {d : Nat} {room : Int} {S : List RF} {Φ : Nat → Prop} (h : DiskAt w d room S Φ) (s : ByteArray) (hs : s.size ≤ maxLen) :
    Calls Tryz.prog 59 #[.pointer (some ⟨d, 0, none⟩), .string s] w (OpSaid d room (removeF S s.data.toList).1 (removeF S s.data.toList).2 Φ w) := by
  obtain ⟨m, L, rfl, h⟩ := h
  refine (Remove_L h s hs).mono ?_
  rintro e w' ⟨h1, h2, h3⟩
  refine ⟨h1, h2.mono fun i _ e => ?_, m, _, ?_, h3.mono fun _ _ => .inl⟩
  · rcases e with rfl | rfl
    · exact h.inn.1
    · exact h.inn.2.1
  · rw [map_delN fil_name]
    unfold removeF
    cases e : findN (L.map Fil.f) s.data.toList with
    | none => exact delN_none (findN_none e)
    | some f => rfl
end Go.Proofs.YtnomicnmpllajaaGreatDoor
end

section
namespace Go.Proofs.YtnomicnmpllajaaGreatDoor
open Go Go.RowKit Go.Maps

section
variable {P : Program} {w : World}
/-- 'append' to an owned row, whatever slice stands behind it; and where the new row lies. -/
theorem wpList_append_where {ops : Array Oper} {rest : List Oper} {o : Oper} {a : Act} {Q : Exit → Act → World → Prop} (hgd : o.guard = none) (s x : Operand) (t : TypeId)
    (ho : o.op = .call { callee := .builtin .append, args := #[s, x], argTypes := #[t, t] })
    (base : Nat) (e : TypeId) (i : TypeInfo) (z : Value) (size bytes : Nat) (ht : P.underlying t = some (.slice e)) (hi : P.info? e = some i) (hz : i.zero = some z)
    (hsize : i.size = size) (hby : i.bytes = bytes) (hzs : z.cells.size = size) (hsz : 0 < size)
    (v : Value) (n : Nat) (xs : List Value) (hs : a.eval s = v) (hown : w.ownsRow base e size v n xs)
    (A : Option Addr) (m c : Nat) (news : List Value) (hx : a.eval x = .slice A m c) (hl : news.length = m * size) (hnil : A = none → m = 0 ∧ c = 0)
    (hnews : ∀ ad, A = some ad → ∀ j u, news[j]? = some u → w.cell? (ad.add j) = some u) (h1 : ∀ u ∈ news, u.oneCell' = true)
    (h63 : n + m ≤ maxLen) (hbytes : (n + m) * bytes ≤ 140737488355328) (hbase : base ≤ w.heap.size)
    (h : ∀ v' w', w'.ownsRow base e size v' (n + m) (xs ++ news) → w.grownBy w' v.ownBlock → (v'.ownBlock = v.ownBlock ∨ v'.ownBlock = some w.heap.size) → wpList P ops Q rest (a.put o.dst v') w') : wpList P ops Q (o :: rest) a w := by
  rcases A with _ | ad
  · obtain ⟨rfl, rfl⟩ := hnil rfl
    have hn : news = [] := List.eq_nil_of_length_eq_zero (by simpa using hl)
    subst hn
    refine wpList_plain hgd fun K hK' => ?_
    have hrun := run_append_owned_none (P := P) w base t o.type e i size ht hi v n xs hown
    unfold Oper.wp
    simp [execOp, ho, resolve, invoke, builtin, hs, hx, hrun, Result.andThen]
    exact hK' _ _ (h v w (by simpa using hown) (World.grownBy.refl _ _) (.inl rfl))
  · exact wpList_append_own_at w hgd s x t ho base e i z size bytes ht hi hz hsize hby hzs hsz v n xs hs hown ad m c news hx hl (hnews ad rfl) h1 h63 hbytes hbase
      fun v' w' h2 h3 _ h5 => h v' w' h2 h3 h5
end

section
variable {w w' : World} {d m : Nat} {room : Int} {L : List Fil} {Φ : Nat → Prop}
theorem grown_chg {v : Value} (h : w.grownBy w' v.ownBlock) : Chg (fun k => v.ownBlock = some k) w w' := Chg.of_grown h
/-- Behind the append: what still stands. -/
theorem DiskL.app_mid (h : DiskL w d m room L Φ) {x : Fil} (hx : x ∈ L) (hg : w.grownBy w' x.v.ownBlock) :
    w'.heap[x.p]? = some (.cells #[x.v, .int .i64 x.f.s] 95 (0, 0)) ∧ w'.heap[d]? = some (.cells #[.int .i64 room, .int .i64 (usedN (L.map Fil.f)), .map (some m)] 79 (0, 0)) :=
  ⟨(grown_chg hg).heap (h.file x hx).blk (h.v_p hx hx), (grown_chg hg).heap h.blk (h.v_d hx)⟩
/-- .. and behind its two stores. -/
theorem DiskL.app_end (h : DiskL w d m room L Φ) {x : Fil} (hx : x ∈ L) (hg : w.grownBy w' x.v.ownBlock) {v' : Value} {ys : List Int} (hy : ∀ y ∈ ys, 0 ≤ y ∧ y < 256) {n : Nat} (hn : ys.length = n) (hfit : ((usedN (L.map Fil.f) + n : Nat) : Int) ≤ room)
    (hown : w'.ownsRow 0 5 1 v' (x.f.b.length + n) (x.f.b.map (Value.int .u8) ++ ys.map (Value.int .u8))) (hat : v'.ownBlock = x.v.ownBlock ∨ v'.ownBlock = some w.heap.size) :
    let W := (w'.setCell ⟨x.p, 0, none⟩ v').setCell ⟨d, 1, none⟩ (.int .i64 ((usedN (L.map Fil.f) + n : Nat) : Int))
    Chg (foot d x) w W ∧ DiskL W d m room (putN Fil.nm ⟨⟨x.f.nm, x.f.b ++ ys, x.f.s⟩, x.p, v'⟩ L) (grow Φ w W) := by
  obtain ⟨hm1, hm2⟩ := h.app_mid hx hg
  have hdp := h.d_p hx
  have c1 : Chg (foot d x) w w' := (grown_chg hg).mono fun i _ e => .inr (.inr e)
  have c2 := Chg.set w' x.p 0 v'
  have c3 := Chg.set (w'.setCell ⟨x.p, 0, none⟩ v') d 1 (.int .i64 ((usedN (L.map Fil.f) + n : Nat) : Int))
  have cc := (c1.trans c2 fun i _ e => .inr (.inl e)).trans c3 fun i _ e => .inl e
  have hf := h.file x hx
  have hl : (x.f.b ++ ys).length = x.f.b.length + n := by rw [List.length_append, hn]
  have hblk : ∀ g, v'.ownBlock = some g → ∃ cur, w'.heap[g]? = some (.cells cur 5 (0, 0)) := fun g hg' => by
    rcases hown.2 with ⟨e, _⟩ | ⟨g', cap, cur, e, _, hh, _⟩
    · rw [e] at hg'; cases hg'
    · rw [e] at hg'
      obtain rfl : g' = g := by simpa [Value.ownBlock] using hg'
      exact ⟨cur, hh⟩
  have ho2 := c2.own hown fun g hg' e => by
    obtain ⟨cur, hh⟩ := hblk g hg'
    rw [e, hm1] at hh
    simp at hh
  have ho3 := c3.own ho2 fun g hg' e => by
    obtain ⟨cur, hh⟩ := hblk g hg'
    rw [e, hm2] at hh
    simp at hh
  refine ⟨cc, h.touch hx rfl rfl cc (U := usedN (L.map Fil.f) + n) ?_ ?_ ⟨?_, ?_, ?_, ?_, hf.len⟩ (fun g hg' => ?_) hfit⟩
  · exact three_set1 (c2.heap hm2 fun e => hdp e.symm) _
  · show _ = _ + (x.f.b ++ ys).length
    omega
  · exact c3.heap (two_set0 hm1 _) hdp
  · show World.ownsRow _ 0 _ 1 v' (x.f.b ++ ys).length ((x.f.b ++ ys).map _)
    rw [hl, List.map_append]
    exact ho3
  · show x.f.s ≤ (x.f.b ++ ys).length
    have := hf.syn
    omega
  · exact app_bytes hf.byt hy
  · rcases hat with e | e
    · exact .inl (by rw [← e]; exact hg')
    · refine .inr ⟨by
        rw [e] at hg'
        have : w.heap.size = g := by simpa using hg'
        omega, ?_⟩
      obtain ⟨cur, hh⟩ := hblk g hg'
      have := (Array.getElem?_eq_some_iff.1 hh).1
      simpa [World.setCell] using this
end

/-- The file of a name, or a new one. -/
def oldRF (S : List RF) (k : List UInt8) : RF := (findN S k).getD ⟨k, [], 0⟩
def appendF (room : Int) (S : List RF) (k : List UInt8) (ys : List Int) : List RF × Int :=
  if nameOk k = false then (S, 1) else if room < ((usedN S + ys.length : Nat) : Int) then (S, 5) else (putN RF.nm ⟨k, (oldRF S k).b ++ ys, (oldRF S k).s⟩ S, 0)

theorem nameOk_len {k : List UInt8} (h : nameOk k = true) : k.length ≤ 32 := by
  unfold nameOk at h
  simp only [Bool.and_eq_true, decide_eq_true_eq] at h
  exact h.1.2

set_option maxHeartbeats 800000 in
set_option maxRecDepth 100000 in
theorem Append_bad {w : World} {d : Nat} {room : Int} {S : List RF} {Φ : Nat → Prop} (h : DiskAt w d room S Φ) (s : ByteArray) (hs : s.size ≤ maxLen) (A : Option Addr) (n c : Nat) (ys : List Int) (hr : Rd w w.heap.size .u8 A n c ys)
    (hbad : nameOk s.data.toList = false ∨ room < ((usedN S + ys.length : Nat) : Int)) :
    Calls Tryz.prog 33 #[.pointer (some ⟨d, 0, none⟩), .string s, .slice A n c] w (OpSaid d room (appendF room S s.data.toList ys).1 (appendF room S s.data.toList ys).2 Φ w) := by
  obtain ⟨m, L, rfl, h⟩ := h
  obtain ⟨c0, c1, c2, f0, f1, f2⟩ := three_cells h.blk
  have hlen := hr.len
  have hc := hr.cap
  have hx := hr.max
  unfold maxLen at hx
  have HN := Lib.hid fun W => isName_any s W hs
  by_cases hn : nameOk s.data.toList = false
  · have HF : appendF room (L.map Fil.f) s.data.toList ys = (L.map Fil.f, 1) := if_pos hn
    rw [HF]
    have HS := Lib.hid (h.same (Chg.refl _ _) (Chg.refl _ _) (e := .returned (.int .i64 1)) rfl)
    have HNN := Lib.hid hn
    clear h hr HF hn hbad
    go_enter Tryz.func33, Tryz.ntmps33
    go_wp2_with (go_at_call 66; refine (HN.out _).mono ?_; rw [HNN.out]; rintro e w1 ⟨rfl, rfl⟩)
    go_ret
    exact HS.out
  · have hfull : room < ((usedN (L.map Fil.f) + ys.length : Nat) : Int) := by
      rcases hbad with e | e
      · exact absurd e hn
      · exact e
    have HF : appendF room (L.map Fil.f) s.data.toList ys = (L.map Fil.f, 5) := by unfold appendF; rw [if_neg hn, if_pos hfull]
    rw [HF]
    have HS : Hid (∀ q, OpSaid d room (L.map Fil.f) 5 Φ w (.returned (.int .i64 5)) (w.drewN q)) := Lib.hid fun q => h.same (Chg.drewN w q) (Chg.drewN w q) rfl
    have hn' : nameOk s.data.toList = true := by simpa using hn
    have HNN := Lib.hid hn'
    have h4 := h.used
    have h5 := h.rm
    have hfull2 : room - (usedN (L.map Fil.f) : Int) < (n : Int) := by omega
    generalize usedN (L.map Fil.f) = V at *
    have hw : IntKind.i64.wrap (room - (V : Int)) = room - (V : Int) := IntWalk.i64_in _ (by omega)
    clear h hr HF hn hn' hbad hfull hlen
    go_enter Tryz.func33, Tryz.ntmps33
    go_wp2_with (go_at_call 66; refine (HN.out _).mono ?_; rw [HNN.out]; rintro e w1 ⟨rfl, rfl⟩)
    go_quiet (fail)
    clear hw
    go_wp2_with fail
    go_ret
    exact HS.out _

theorem append_shape {w : World} {base e n : Nat} {v : Value} {xs : List Value} (h : w.ownsRow base e 1 v n xs) : ∃ A c, v = .slice A n c := by
  rcases h.2 with ⟨rfl, rfl⟩ | ⟨g, cap, cur, rfl, _⟩
  · exact ⟨none, 0, rfl⟩
  · exact ⟨_, cap, rfl⟩

set_option maxHeartbeats 1600000 in
set_option maxRecDepth 100000 in
theorem Append_old {w : World} {d m : Nat} {room : Int} {L : List Fil} {Φ : Nat → Prop} (h : DiskL w d m room L Φ) {x : Fil} (hx : x ∈ L) (s : ByteArray) (hs : s.size ≤ maxLen) (hlk : ptrTo L s.data.toList = .pointer (some ⟨x.p, 0, none⟩))
    (A : Option Addr) (n c : Nat) (ys : List Int) (hr : Rd w w.heap.size .u8 A n c ys) (hy : ∀ y ∈ ys, 0 ≤ y ∧ y < 256) (hn : nameOk s.data.toList = true) (hfit : ((usedN (L.map Fil.f) + n : Nat) : Int) ≤ room) :
    Calls Tryz.prog 33 #[.pointer (some ⟨d, 0, none⟩), .string s, .slice A n c] w (OpSaid d room (putN RF.nm ⟨x.f.nm, x.f.b ++ ys, x.f.s⟩ (L.map Fil.f)) 0 Φ w) := by
  obtain ⟨c0, c1, c2, f0, f1, f2⟩ := three_cells h.blk
  obtain ⟨i0, hi, hz0, hz1, hz2⟩ := info_parts info_u8
  have hlen := hr.len
  have hc := hr.cap
  have hmx := hr.max
  unfold maxLen at hmx
  have hf := h.file x hx
  obtain ⟨A', c', hv, hr'⟩ := hf.rd
  obtain ⟨q0, _, g0, _⟩ := two_cells hf.blk
  rw [hv] at q0
  have hc' := hr'.cap
  have hm' := hr'.max
  unfold maxLen at hm'
  have h3 := usedN_mem (List.mem_map_of_mem (f := Fil.f) hx)
  have h5 := h.rm
  have HN := Lib.hid fun W => isName_any s W hs
  have HNN := Lib.hid hn
  have hlk' : ∀ q, (Instr.lookup 77 (.map (some m)) (.string s) false).run Tryz.prog (w.drewN q) = .ok (.pointer (some ⟨x.p, 0, none⟩)) (w.drewN q) := fun q => by
    have := (h.map.keep (Chg.drewN (Φ := fun _ => False) w q) id).look s hs
    rwa [hlk] at this
  have HOWN : Hid (∀ q, (w.drewN q).ownsRow 0 5 1 (.slice A' x.f.b.length c') x.f.b.length (x.f.b.map (Value.int .u8))) := Lib.hid fun q => (Chg.drewN (Φ := fun _ => False) w q).own (by rw [← hv]; exact hf.own) fun _ _ => id
  have HNEWS : Hid (∀ q, Rd (w.drewN q) w.heap.size .u8 A n c ys) := Lib.hid fun q => hr.keep fun _ _ => rfl
  have hdp := h.d_p hx
  have HE : Hid (∀ q v' w3, w3.ownsRow 0 5 1 v' (x.f.b.length + n) (x.f.b.map (Value.int .u8) ++ ys.map (Value.int .u8)) → (w.drewN q).grownBy w3 (Value.slice A' x.f.b.length c').ownBlock → (v'.ownBlock = (Value.slice A' x.f.b.length c').ownBlock ∨ v'.ownBlock = some (w.drewN q).heap.size) →
      ∃ A3 c3, v' = .slice A3 (x.f.b.length + n) c3 ∧ w3.cell? ⟨x.p, 0, none⟩ = some (.slice A' x.f.b.length c') ∧ w3.frozen? ⟨x.p, 0, none⟩ = false ∧ w3.cell? ⟨d, 1, none⟩ = some (.int .i64 (usedN (L.map Fil.f))) ∧ w3.frozen? ⟨d, 1, none⟩ = false ∧
        Hid (OpSaid d room (putN RF.nm ⟨x.f.nm, x.f.b ++ ys, x.f.s⟩ (L.map Fil.f)) 0 Φ w (.returned (.int .i64 0)) ((w3.setCell ⟨x.p, 0, none⟩ v').setCell ⟨d, 1, none⟩ (.int .i64 ((usedN (L.map Fil.f) + n : Nat) : Int))))) := Lib.hid (by
    intro q v' w3 ho hg hat
    rw [← hv] at hg hat
    have hq : DiskL (w.drewN q) d m room L Φ := h.keep (Chg.drewN (Φ := fun _ => False) w q) fun _ _ => id
    obtain ⟨A3, c3, e3⟩ := append_shape ho
    obtain ⟨hm1, hm2⟩ := hq.app_mid hx hg
    obtain ⟨a0, _, a2, _⟩ := two_cells hm1
    obtain ⟨_, b1, _, _, b4, _⟩ := three_cells hm2
    obtain ⟨hcc, hD⟩ := hq.app_end hx hg hy hlen hfit ho hat
    refine ⟨A3, c3, e3, by rw [← hv]; exact a0, a2, b1, b4, Lib.hid ?_⟩
    have hcw : Chg (foot d x) w ((w3.setCell ⟨x.p, 0, none⟩ v').setCell ⟨d, 1, none⟩ (.int .i64 ((usedN (L.map Fil.f) + n : Nat) : Int))) := (Chg.drewN w q).trans hcc fun _ _ e => e
    exact h.said hx hcw hD rfl)
  have hsz0 : (0 : Nat) ≤ w.heap.size := Nat.zero_le _
  have HB : Hid (x.f.b.length + n ≤ 1048576) := Lib.hid (by omega)
  have hfit2 : (n : Int) ≤ room - (usedN (L.map Fil.f) : Int) := by omega
  have HLY : Hid ((ys.map (Value.int .u8)).length = n * 1) := Lib.hid (by simpa using hlen)
  generalize usedN (L.map Fil.f) = V at *
  generalize x.f.b.length = N at *
  have hV : (V : Int) + (n : Int) ≤ 1048576 := by omega
  have hw : IntKind.i64.wrap (room - (V : Int)) = room - (V : Int) := IntWalk.i64_in _ (by omega)
  clear h hr hf hr' hv hn hfit hlk hx hlen hy
  go_enter Tryz.func33, Tryz.ntmps33
  go_wp2_with (go_at_call 66; refine (HN.out _).mono ?_; rw [HNN.out]; rintro e w1 ⟨rfl, rfl⟩)
  go_quiet (fail)
  clear hw
  go_wp2_with (at_builtin
               refine wpList_append_where (o := ⟨some 43, _, _, _, _, _⟩) rfl _ _ 33 rfl 0 5 i0 _ 1 1 Tryz.underlying33 hi hz0 hz1 hz2 rfl (by omega) _ N _ rfl (HOWN.out _) A n c (ys.map (Value.int .u8)) rfl HLY.out (HNEWS.out 0).nil (HNEWS.out _).news (ints_oneCell _ _) (by have := HB.out; unfold maxLen; omega) (by have := HB.out; omega) (Nat.zero_le _) ?_
               intro v' w3 ho hg hat
               obtain ⟨A3, c3, rfl, hx1, hx2, hx3, hx4, HX⟩ := HE.out _ v' w3 ho hg hat
               clear ho hg hat)
  go_ret
  exact HX.out

theorem Rd.chg {Φ : Nat → Prop} {w w' : World} {B n c : Nat} {k : IntKind} {A : Option Addr} {xs : List Int} (h : Rd w B k A n c xs) (hc : Chg Φ w w') (hB : B ≤ w.heap.size) (hn : ∀ b, Φ b → ∀ o, w.cell? ⟨b, o, none⟩ = none) : Rd w' B k A n c xs :=
  ⟨h.len, h.cap, h.max, h.nil, fun j u hu => by
    obtain ⟨b, o, e, hb, hcell⟩ := h.place j u hu
    refine ⟨b, o, e, hb, ?_⟩
    rw [hc.cell (p := ⟨b, o + j, none⟩) (by show b < _; omega) (fun hp => by rw [hn b hp] at hcell; cases hcell)]
    exact hcell⟩
theorem map_cell {w : World} {m : Nat} {L : List Fil} (h : DMap w m L) (o : Nat) : w.cell? ⟨m, o, none⟩ = none := by
  obtain ⟨es, clock, hb, _⟩ := h
  simp [World.cell?, hb]

set_option maxHeartbeats 1600000 in
set_option maxRecDepth 100000 in
theorem Append_new {w : World} {d m : Nat} {room : Int} {L : List Fil} {Φ : Nat → Prop} (h : DiskL w d m room L Φ) (s : ByteArray) (hno : ∀ x ∈ L, x.nm ≠ s.data.toList) (hlk : ptrTo L s.data.toList = .pointer none) (hL : L.length ≤ 1000000)
    (A : Option Addr) (n c : Nat) (ys : List Int) (hr : Rd w w.heap.size .u8 A n c ys) (hy : ∀ y ∈ ys, 0 ≤ y ∧ y < 256) (hn : nameOk s.data.toList = true) (hfit : ((usedN (L.map Fil.f) + n : Nat) : Int) ≤ room) :
    Calls Tryz.prog 33 #[.pointer (some ⟨d, 0, none⟩), .string s, .slice A n c] w (OpSaid d room (putN RF.nm ⟨s.data.toList, ys, 0⟩ (L.map Fil.f)) 0 Φ w) := by
  have hs32 : s.size ≤ 32 := by
    have := nameOk_len hn
    rwa [Array.length_toList] at this
  have hs : s.size ≤ maxLen := by unfold maxLen; omega
  obtain ⟨c0, c1, c2, f0, f1, f2⟩ := three_cells h.blk
  obtain ⟨i0, hi, hz0, hz1, hz2⟩ := info_parts info_u8
  have hlen := hr.len
  have hc := hr.cap
  have hmx := hr.max
  unfold maxLen at hmx
  have h5 := h.rm
  have HN := Lib.hid fun W => isName_any s W hs
  have HNN := Lib.hid hn
  have hlk' : ∀ q, (Instr.lookup 77 (.map (some m)) (.string s) false).run Tryz.prog (w.drewN q) = .ok (.pointer none) (w.drewN q) := fun q => by
    have := (h.map.keep (Chg.drewN (Φ := fun _ => False) w q) id).look s hs
    rwa [hlk] at this
  have hdlt := lt_of_block h.blk
  have HPUT : Hid (∀ q, Calls Tryz.prog 67 #[.pointer (some ⟨d, 0, none⟩), .string s, .pointer (some ⟨w.heap.size, 0, none⟩)] ((w.drewN q).alloc (.cells #[.slice none 0 0, .int .i64 0] 95)) fun e w2 =>
      e = .returned (.tuple #[]) ∧ w2.cell? ⟨w.heap.size, 0, none⟩ = some (.slice none 0 0) ∧ w2.frozen? ⟨w.heap.size, 0, none⟩ = false ∧ Hid (Rd w2 w.heap.size .u8 A n c ys) ∧
      Hid (∀ v' w3, w3.ownsRow 0 5 1 v' (0 + n) ([] ++ ys.map (Value.int .u8)) → w2.grownBy w3 (Value.slice none 0 0).ownBlock → (v'.ownBlock = (Value.slice none 0 0).ownBlock ∨ v'.ownBlock = some w2.heap.size) →
        ∃ A3 c3, v' = .slice A3 (0 + n) c3 ∧ w3.cell? ⟨w.heap.size, 0, none⟩ = some (.slice none 0 0) ∧ w3.frozen? ⟨w.heap.size, 0, none⟩ = false ∧ w3.cell? ⟨d, 1, none⟩ = some (.int .i64 (usedN (L.map Fil.f))) ∧ w3.frozen? ⟨d, 1, none⟩ = false ∧
        Hid (OpSaid d room (putN RF.nm ⟨s.data.toList, ys, 0⟩ (L.map Fil.f)) 0 Φ w (.returned (.int .i64 0)) ((w3.setCell ⟨w.heap.size, 0, none⟩ v').setCell ⟨d, 1, none⟩ (.int .i64 ((usedN (L.map Fil.f) + n : Nat) : Int)))))) := Lib.hid (by
    intro q
    obtain ⟨x0, hx0⟩ : ∃ x0 : Fil, x0 = ⟨⟨s.data.toList, [], 0⟩, w.heap.size, .slice none 0 0⟩ := ⟨_, rfl⟩
    have hc0 : Chg (fun _ => False) w ((w.drewN q).alloc (.cells #[.slice none 0 0, .int .i64 0] 95)) := (Chg.drewN w q).trans (Chg.alloc _ _) fun _ _ e => e
    have hD0 : DiskL _ d m room L Φ := h.keep hc0 fun _ _ => id
    have hp := put_any hD0.blk hD0.map hL x0 s (by rw [hx0]) (by omega)
    have e0 : x0.p = w.heap.size := by rw [hx0]
    rw [e0] at hp
    refine hp.mono ?_
    rintro e w2 ⟨rfl, hm2, hc2⟩
    have hmlt := h.map.lt
    have hnew : w2.heap[w.heap.size]? = some (.cells #[.slice none 0 0, .int .i64 0] 95 (0, 0)) := hc2.heap (by
      have := heap_alloc_new (w.drewN q) (.cells #[.slice none 0 0, .int .i64 0] 95)
      exact this) (by omega)
    have hcw : Chg (fun k => k = m) w w2 := (hc0.mono fun _ _ e => e.elim).trans hc2 fun _ _ e => e
    have hsz2 : w.heap.size < w2.heap.size := lt_of_block hnew
    have hD2 : DiskL w2 d m room (putN Fil.nm x0 L) (grow Φ w w2) := by
      refine (h.mono (Ψ := grow Φ w w2) fun _ _ => .inl).add (x := x0) (by rw [hx0]; exact hno) (hcw.mono fun _ _ e => .inr e) (hcw.heap h.blk fun e => h.m_d e.symm) ?_ h.used hm2 ?_ (fun y hy' => ?_) ?_
      · rw [hx0]; rfl
      · rw [hx0]
        exact ⟨hnew, World.ownsRow_nil _ _ _ _, Nat.le_refl _, (fun y hy' => by cases hy'), nameOk_len hn⟩
      · rw [hx0]
        exact ⟨fun e => by have := lt_of_block (h.file y hy').blk; have e' : w.heap.size = y.p := e; omega, fun g hg => by cases hg⟩
      · rw [hx0]
        exact ⟨.inr ⟨Nat.le_refl _, hsz2⟩, fun g hg => by cases hg⟩
    have hx02 : x0 ∈ putN Fil.nm x0 L := mem_putN.2 (.inl rfl)
    obtain ⟨a0, _, a2, _⟩ := two_cells hnew
    refine ⟨rfl, a0, a2, Lib.hid (hr.chg hcw (Nat.le_refl _) fun b hb o => by rw [hb]; exact map_cell h.map o), Lib.hid ?_⟩
    intro v' w3 ho hg hat
    have hv0 : x0.v = .slice none 0 0 := by rw [hx0]
    have hb0 : x0.f.b = [] := by rw [hx0]
    have hf0 : x0.f = ⟨s.data.toList, [], 0⟩ := by rw [hx0]
    have hused : usedN ((putN Fil.nm x0 L).map Fil.f) = usedN (L.map Fil.f) := by
      have hdel : delN Fil.nm x0.nm L = L := delN_none (by rw [hx0]; exact hno)
      unfold putN
      rw [hdel, map_insN fil_name, usedN_ins, hb0]
      simp
    rw [← hv0] at hg hat
    obtain ⟨A3, c3, e3⟩ := append_shape ho
    obtain ⟨hm1, hm3⟩ := hD2.app_mid hx02 hg
    rw [hused] at hm3
    rw [e0, hv0] at hm1
    obtain ⟨p0, _, p2, _⟩ := two_cells hm1
    obtain ⟨_, b1, _, _, b4, _⟩ := three_cells hm3
    obtain ⟨hcc, hD⟩ := hD2.app_end (n := n) (ys := ys) hx02 hg hy hlen (by rw [hused]; exact hfit) (by rw [hb0]; exact ho) hat
    rw [hused, e0] at hcc hD
    refine ⟨A3, c3, e3, p0, p2, b1, b4, Lib.hid ⟨rfl, ?_, m, _, ?_, hD.mono fun k hk hkk => ?_⟩⟩
    · refine (hcw.mono (Ψ := Φ) fun i _ e => by rw [e]; exact h.inn.2.1).trans hcc fun i hi hfi => ?_
      rcases hfi with e | e | e
      · rw [e]; exact h.inn.1
      · rw [e, e0] at hi; omega
      · rw [hv0] at e; cases e
    · rw [map_putN fil_name, map_putN fil_name, hf0]
      have hdel : delN RF.nm s.data.toList (L.map Fil.f) = L.map Fil.f := delN_none fun y hy' => by
        obtain ⟨z, hz, rfl⟩ := List.mem_map.1 hy'
        exact hno z hz
      refine Rising.ext (((h.srt.map (g := Fil.f) fil_name).putN _).putN _) ((h.srt.map (g := Fil.f) fil_name).putN _) fun z => ?_
      simp only [mem_putN, List.nil_append]
      constructor
      · rintro (e | ⟨⟨rfl | ⟨hz, _⟩, h2⟩⟩)
        · exact .inl e
        · exact absurd rfl h2
        · exact .inr ⟨hz, h2⟩
      · rintro (e | ⟨hz, h2⟩)
        · exact .inl e
        · exact .inr ⟨.inr ⟨hz, h2⟩, h2⟩
    · have hsz3 := hcc.size
      rcases hkk with (hkk | hkk) | hkk
      · exact .inl hkk
      · exact .inr ⟨hkk.1, hk⟩
      · exact .inr ⟨by omega, hk⟩)
  have HB : Hid (0 + n ≤ 1048576) := Lib.hid (by omega)
  have hfit2 : (n : Int) ≤ room - (usedN (L.map Fil.f) : Int) := by omega
  have HLY : Hid ((ys.map (Value.int .u8)).length = n * 1) := Lib.hid (by simpa using hlen)
  have HOWN := Lib.hid fun W : World => World.ownsRow_nil W 0 5 1
  generalize usedN (L.map Fil.f) = V at *
  have hV : (V : Int) + (n : Int) ≤ 1048576 := by omega
  have hw : IntKind.i64.wrap (room - (V : Int)) = room - (V : Int) := IntWalk.i64_in _ (by omega)
  clear h hr hn hfit hlk hlen hy hno
  go_enter Tryz.func33, Tryz.ntmps33
  go_wp2_with (go_at_call 66; refine (HN.out _).mono ?_; rw [HNN.out]; rintro e w1 ⟨rfl, rfl⟩)
  go_quiet (fail)
  clear hw
  go_wp2_with (first
    | (go_at_call 67; refine (HPUT.out _).mono ?_; rintro e w2 ⟨rfl, hp0, hp1, HRD, HE⟩)
    | (at_builtin
       refine wpList_append_where (o := ⟨some 43, _, _, _, _, _⟩) rfl _ _ 33 rfl 0 5 i0 _ 1 1 Tryz.underlying33 hi hz0 hz1 hz2 rfl (by omega) _ 0 _ rfl (HOWN.out _) A n c (ys.map (Value.int .u8)) rfl HLY.out HRD.out.nil HRD.out.news (ints_oneCell _ _) (by have := HB.out; unfold maxLen; omega) (by have := HB.out; omega) (Nat.zero_le _) ?_
       intro v' w3 ho hg hat
       obtain ⟨A3, c3, rfl, hx1, hx2, hx3, hx4, HX⟩ := HE.out v' w3 ho hg hat
       clear ho hg hat))
  go_ret
  have hX := HX.out
  rw [Nat.zero_add] at hX
  exact hX

theorem Append_any {w : World} {d : Nat} {room : Int} {S : List RF} {Φ : Nat → Prop} (h : DiskAt w d room S Φ) (s : ByteArray) (hs : s.size ≤ maxLen) (A : Option Addr) (n c : Nat) (ys : List Int) (hr : Rd w w.heap.size .u8 A n c ys) (hy : ∀ y ∈ ys, 0 ≤ y ∧ y < 256) (hL : S.length ≤ 1000000) :
    Calls Tryz.prog 33 #[.pointer (some ⟨d, 0, none⟩), .string s, .slice A n c] w (OpSaid d room (appendF room S s.data.toList ys).1 (appendF room S s.data.toList ys).2 Φ w) := by
  by_cases hbad : nameOk s.data.toList = false ∨ room < ((usedN S + ys.length : Nat) : Int)
  · exact Append_bad h s hs A n c ys hr hbad
  · have h1 : ¬ nameOk s.data.toList = false := fun e => hbad (.inl e)
    have h2 : ¬ room < ((usedN S + ys.length : Nat) : Int) := fun e => hbad (.inr e)
    have h3 : nameOk s.data.toList = true := by simpa using h1
    have hlen := hr.len
    have HF : appendF room S s.data.toList ys = (putN RF.nm ⟨s.data.toList, (oldRF S s.data.toList).b ++ ys, (oldRF S s.data.toList).s⟩ S, 0) := by
      unfold appendF
      rw [if_neg h1, if_neg h2]
    rw [HF]
    obtain ⟨m, L, rfl, h⟩ := h
    rcases h.cases s.data.toList with ⟨e1, e2, e3⟩ | ⟨x, hx, hxn, e1, e2⟩
    · have := Append_new h s e3 e2 (by simpa using hL) A n c ys hr hy h3 (by omega)
      unfold oldRF
      rw [e1]
      exact this
    · have := Append_old h hx s hs e2 A n c ys hr hy h3 (by omega)
      unfold oldRF
      rw [e1, ← hxn]
      exact this
end Go.Proofs.YtnomicnmpllajaaGreatDoor
end

section
namespace Go.Proofs.YtnomicnmpllajaaGreatDoor
open Go Go.RowKit Go.Maps

def renameF (S : List RF) (k t : List UInt8) : List RF × Int := match findN S k with
  | none => (S, 6)
  | some f => if nameOk t = false then (S, 1) else if k = t then (S, 0) else (putN RF.nm ⟨t, f.b, f.b.length⟩ (delN RF.nm k S), 0)

section
variable {w w' : World} {d m : Nat} {room : Int} {L : List Fil} {Φ : Nat → Prop}
/-- One file gets another name; its block and its row stay. -/
theorem DiskL.move (h : DiskL w d m room L Φ) {x y : Fil} (hx : x ∈ L) (hn : ∀ z ∈ L, z.nm ≠ y.nm) (hp : y.p = x.p) (hv : y.v = x.v) (hb : y.f.b = x.f.b)
    (hc : Chg (fun k => k = m ∨ k = x.p) w w') (hm : DMap w' m (putN Fil.nm y (delN Fil.nm x.nm L))) (hf : FileAt w' y) :
    DiskL w' d m room (putN Fil.nm y (delN Fil.nm x.nm L)) Φ := by
  have hput : putN Fil.nm y (delN Fil.nm x.nm L) = insN Fil.nm y (delN Fil.nm x.nm L) := by
    unfold putN
    rw [delN_none fun z hz => hn z (mem_delN.1 hz).1]
  have huse : usedN ((putN Fil.nm y (delN Fil.nm x.nm L)).map Fil.f) = usedN (L.map Fil.f) := by
    rw [hput, map_insN fil_name, usedN_ins, map_delN fil_name, hb]
    have := usedN_del (h.srt.map (g := Fil.f) fil_name) (List.mem_map_of_mem (f := Fil.f) hx)
    have e : (Fil.f x).nm = x.nm := rfl
    rw [e] at this
    omega
  have hother : ∀ z ∈ delN Fil.nm x.nm L, FileAt w' z := fun z hz => by
    obtain ⟨hz1, hz2⟩ := mem_delN.1 hz
    have hap := h.two hx hz1 fun e => hz2 e.symm
    refine (h.file z hz1).keep hc ?_ fun g hg => ?_
    · rintro (e | e)
      · exact h.m_p hz1 e
      · exact hap.1 e.symm
    · rintro (e | e)
      · exact h.v_m hz1 (by rw [hg, e])
      · exact h.v_p hz1 hx (by rw [hg, e])
  refine ⟨?_, hm, fun z hz => ?_, (h.srt.delN _).putN y, ?_, h.rm, by rw [huse]; exact h.used, h.inn.1, h.inn.2.1, fun z hz => ?_⟩
  · rw [huse]
    refine hc.heap h.blk ?_
    rintro (e | e)
    · exact h.m_d e.symm
    · exact h.d_p hx e.symm
  · rcases mem_putN.1 hz with rfl | ⟨hz', _⟩
    · exact hf
    · exact hother z hz'
  · rw [hput]
    refine ((perm_insN y _).symm.pairwise_iff (fun {_ _} hab => hab.symm)).1 (List.pairwise_cons.2 ⟨fun z hz => ?_, List.Pairwise.filter _ h.apart⟩)
    obtain ⟨hz1, hz2⟩ := mem_delN.1 hz
    have hap := h.two hx hz1 fun e => hz2 e.symm
    unfold Apart
    rw [hp, hv]
    exact hap
  · rcases mem_putN.1 hz with rfl | ⟨hz', _⟩
    · rw [hp, hv]; exact h.inn.2.2 x hx
    · exact h.inn.2.2 z (mem_delN.1 hz').1
end

set_option maxHeartbeats 1600000 in
set_option maxRecDepth 100000 in
theorem Rename_any {w : World} {d : Nat} {room : Int} {S : List RF} {Φ : Nat → Prop} (h : DiskAt w d room S Φ) (s t : ByteArray) (hs : s.size ≤ maxLen) (ht : t.size ≤ maxLen) (hL : S.length ≤ 1000000) :
    Calls Tryz.prog 57 #[.pointer (some ⟨d, 0, none⟩), .string s, .string t] w (OpSaid d room (renameF S s.data.toList t.data.toList).1 (renameF S s.data.toList t.data.toList).2 Φ w) := by
  obtain ⟨m, L, rfl, h⟩ := h
  obtain ⟨c0, c1, c2, f0, f1, f2⟩ := three_cells h.blk
  have hlk := h.map.look s hs
  have HN := Lib.hid fun W => isName_any t W ht
  rcases h.cases s.data.toList with ⟨h1, h2, hno⟩ | ⟨x, hx, hxn, h1, h2⟩
  · have HF : renameF (L.map Fil.f) s.data.toList t.data.toList = (L.map Fil.f, 6) := by unfold renameF; rw [h1]
    rw [HF]
    have HS := Lib.hid (h.same (Chg.refl _ _) (Chg.refl _ _) (e := .returned (.int .i64 6)) rfl)
    rw [h2] at hlk
    clear h h1 h2 HF hno
    go_enter Tryz.func57, Tryz.ntmps57
    go_wp2_with fail
    go_ret
    exact HS.out
  · rw [h2] at hlk
    by_cases hn : nameOk t.data.toList = false
    · have HF : renameF (L.map Fil.f) s.data.toList t.data.toList = (L.map Fil.f, 1) := by unfold renameF; rw [h1]; exact if_pos hn
      rw [HF]
      have HS := Lib.hid (h.same (Chg.refl _ _) (Chg.refl _ _) (e := .returned (.int .i64 1)) rfl)
      have HNN := Lib.hid hn
      clear h h1 h2 HF hn hx hxn
      go_enter Tryz.func57, Tryz.ntmps57
      go_wp2_with (go_at_call 66; refine (HN.out _).mono ?_; rw [HNN.out]; rintro e w1 ⟨rfl, rfl⟩)
      go_ret
      exact HS.out
    · have hn' : nameOk t.data.toList = true := by simpa using hn
      have HNN := Lib.hid hn'
      by_cases hst : s = t
      · have HF : renameF (L.map Fil.f) s.data.toList t.data.toList = (L.map Fil.f, 0) := by unfold renameF; rw [h1]; subst hst; exact (if_neg hn).trans (if_pos rfl)
        rw [HF]
        have HS := Lib.hid (h.same (Chg.refl _ _) (Chg.refl _ _) (e := .returned (.int .i64 0)) rfl)
        subst hst
        clear h h1 h2 HF hn hx hxn hn'
        go_enter Tryz.func57, Tryz.ntmps57
        go_wp2_with (go_at_call 66; refine (HN.out _).mono ?_; rw [HNN.out]; rintro e w1 ⟨rfl, rfl⟩)
        go_ret
        exact HS.out
      · have hst2 : s.data.toList ≠ t.data.toList := fun e => hst (by
          cases s; cases t
          simp at e
          simp [e])
        have HF : renameF (L.map Fil.f) s.data.toList t.data.toList = (putN RF.nm ⟨t.data.toList, x.f.b, x.f.b.length⟩ (delN RF.nm s.data.toList (L.map Fil.f)), 0) := by unfold renameF; rw [h1]; exact (if_neg hn).trans (if_neg hst2)
        rw [HF]
        have ht32 : t.size ≤ 32 := by
          have := nameOk_len hn'
          rwa [Array.length_toList] at this
        obtain ⟨y, hy⟩ : ∃ y : Fil, y = ⟨⟨t.data.toList, x.f.b, x.f.b.length⟩, x.p, x.v⟩ := ⟨_, rfl⟩
        have hyn : y.nm = t.data.toList := by rw [hy]
        have hyp : y.p = x.p := by rw [hy]
        have hkey : keyOf Tryz.prog 9 (.string s) = some (.string s.data.toList) := Go.WideMaps.keyOf_string_mk Tryz.underlying9 hs
        have HREM : Hid (Calls Tryz.prog 59 #[.pointer (some ⟨d, 0, none⟩), .string t] w fun e w1 => (∃ r, e = .returned (.int .i64 r)) ∧ w1.cell? ⟨d, 2, none⟩ = some (.map (some m)) ∧
            Hid (DMap w1 m (delN Fil.nm t.data.toList L)) ∧
            Hid (∀ w2, w2.ownsMap Tryz.prog 9 ptrElem m (delN Fil.nm t.data.toList L).length ((datOf (delN Fil.nm t.data.toList L)).del (.string s.data.toList)) → w1.mapTurned w2 m →
              Calls Tryz.prog 67 #[.pointer (some ⟨d, 0, none⟩), .string t, .pointer (some ⟨x.p, 0, none⟩)] w2 fun e w3 => e = .returned (.tuple #[]) ∧
                Hid (Calls Tryz.prog 89 #[.pointer (some ⟨x.p, 0, none⟩)] w3 fun e w4 => e = .returned (.tuple #[]) ∧
                  Hid (OpSaid d room (putN RF.nm ⟨t.data.toList, x.f.b, x.f.b.length⟩ (delN RF.nm s.data.toList (L.map Fil.f))) 0 Φ w (.returned (.int .i64 0)) w4)))) := Lib.hid ((Remove_L h t ht).mono (by
          rintro e w1 ⟨rfl, hc1, hD1⟩
          obtain ⟨_, _, q2, _⟩ := three_cells hD1.blk
          have hx1 : x ∈ delN Fil.nm t.data.toList L := mem_delN.2 ⟨hx, by rw [hxn]; exact hst2⟩
          refine ⟨⟨_, rfl⟩, q2, Lib.hid hD1.map, Lib.hid fun w2 hm2 ht2 => ?_⟩
          have h6 := ownsMap_tight hm2
          rw [dat_del, dat_size, ← hxn] at h6
          have hc2 := Chg.of_turned ht2
          have hd2 := hc2.heap hD1.blk fun e => hD1.m_d e.symm
          have hlen2 : (delN Fil.nm x.nm (delN Fil.nm t.data.toList L)).length ≤ 1000000 := by
            have a1 := length_delN (nm := Fil.nm) x.nm (delN Fil.nm t.data.toList L)
            have a2 := length_delN (nm := Fil.nm) t.data.toList L
            have a3 : L.length ≤ 1000000 := by simpa using hL
            omega
          have hput := put_any hd2 h6 hlen2 y t hyn.symm (by omega)
          rw [hyp] at hput
          refine hput.mono ?_
          rintro e w3 ⟨rfl, hm3, hc3⟩
          have hc13 : Chg (fun k => k = m) w1 w3 := hc2.trans hc3 fun _ _ e => e
          have hf3 := (hD1.file x hx1).keep hc13 (hD1.m_p hx1) fun g hg e => hD1.v_m hx1 (by rw [hg, e])
          refine ⟨rfl, Lib.hid ((sync_any x.p _ x.v x.f.s _ w3 hf3.blk hf3.own).mono ?_)⟩
          rintro e w4 ⟨rfl, rfl⟩
          have hc4 := Chg.set w3 x.p 1 (.int .i64 (x.f.b.length : Int))
          have hc14 : Chg (fun k => k = m ∨ k = x.p) w1 (w3.setCell ⟨x.p, 1, none⟩ (.int .i64 (x.f.b.length : Int))) := (hc13.mono fun _ _ e => .inl e).trans hc4 fun _ _ e => .inr e
          have hD4 := hD1.move (y := y) hx1 (fun z hz => by rw [hyn]; exact (mem_delN.1 hz).2) hyp (by rw [hy]) (by rw [hy]) hc14 (hm3.keep hc4 fun e => hD1.m_p hx1 e.symm) (by
            rw [hy]
            exact ⟨two_set1 hf3.blk _, hc4.own hf3.own fun g hg e => hD1.v_p hx1 hx1 (by rw [hg, e]), Nat.le_refl _, hf3.byt, nameOk_len hn'⟩)
          refine ⟨rfl, Lib.hid ⟨rfl, ?_, m, _, ?_, hD4.mono fun _ _ => .inl⟩⟩
          · refine (hc1.mono (Ψ := Φ) fun i _ e => ?_).trans hc14 fun i _ e => ?_
            · rcases e with rfl | rfl
              · exact h.inn.1
              · exact h.inn.2.1
            · rcases e with rfl | rfl
              · exact h.inn.2.1
              · exact (h.inn.2.2 x hx).1
          · rw [map_putN fil_name, map_delN fil_name, map_delN fil_name, hy, hxn]
            have hr : Rising RF.nm (L.map Fil.f) := h.srt.map (g := Fil.f) fil_name
            refine Rising.ext (((hr.delN _).delN _).putN _) ((hr.delN _).putN _) fun z => ?_
            simp only [mem_putN, mem_delN]
            constructor
            · rintro (e | ⟨⟨⟨hz, _⟩, h3⟩, h4⟩)
              · exact .inl e
              · exact .inr ⟨⟨hz, h3⟩, h4⟩
            · rintro (e | ⟨⟨hz, h3⟩, h4⟩)
              · exact .inl e
              · exact .inr ⟨⟨⟨hz, h4⟩, h3⟩, h4⟩))
        have HKEY := Lib.hid hkey
        have hst3 : (s.toList == t.toList) = false := by rw [ByteArray.toList_eq, ByteArray.toList_eq]; exact beq_eq_false_iff_ne.2 hst2
        clear h h1 h2 HF hn hx hxn hn' hst2 hkey hy hyn hyp hL hst
        go_enter Tryz.func57, Tryz.ntmps57
        go_wp2_with (first
          | (go_at_call 66; refine (HN.out _).mono ?_; rw [HNN.out]; rintro e w1 ⟨rfl, rfl⟩)
          | (go_at_call 59; refine HREM.out.mono ?_; rintro e w1 ⟨⟨r, rfl⟩, q2, HM1, HP1⟩)
          | (at_delete; refine wpList_delete_own _ rfl _ _ 77 9 rfl 92 keyed_str Tryz.underlying77 ptrElem m _ _ rfl HM1.out _ _ rfl HKEY.out ?_; intro w2 hm2 ht2; have HP2 := Lib.hid (HP1.out w2 hm2 ht2); clear hm2 ht2)
          | (go_at_call 67; refine HP2.out.mono ?_; rintro e w3 ⟨rfl, HP3⟩)
          | (go_at_call 89; refine HP3.out.mono ?_; rintro e w4 ⟨rfl, HX⟩))
        go_ret
        exact HX.out
end Go.Proofs.YtnomicnmpllajaaGreatDoor
end

section
namespace Go.Proofs.YtnomicnmpllajaaGreatDoor
open Go Go.RowKit Go.Maps Go.Sort Go.Shelf

/-- A name as a string. -/
def nameV (k : List UInt8) : Value := encStr k
/-- What Names returns. -/
def NamesSaid (S : List RF) (w : World) (e : Ending) (w' : World) : Prop :=
  ∃ A c, e = .returned (.slice A S.length c) ∧ w'.ownsRow w.heap.size 9 1 (.slice A S.length c) S.length (S.map fun f => nameV f.nm) ∧ Below w.heap.size w w'

set_option maxHeartbeats 1000000 in
theorem Names_any {w : World} {d : Nat} {room : Int} {S : List RF} {Φ : Nat → Prop} (h : DiskAt w d room S Φ) (hL : S.length ≤ 1000000) :
    Calls Tryz.prog 40 #[.pointer (some ⟨d, 0, none⟩)] w (NamesSaid S w) := by
  obtain ⟨m, L, rfl, h⟩ := h
  obtain ⟨c0, c1, c2, f0, f1, f2⟩ := three_cells h.blk
  have hown := h.map
  have hl : L.length ≤ 1000000 := by simpa using hL
  have hmax : Maps.size (datOf L) ≤ maxLen := by rw [dat_size]; unfold maxLen; omega
  have hbytes : Maps.size (datOf L) * 16 ≤ 140737488355328 := by rw [dat_size]; omega
  have HE : Hid (∀ (v : Value) (ss : List (List UInt8)) (w1 : World), ss.Perm (strKeys (datOf L)) → w1.ownsRow (w.alloc (.cells #[.map (some m)] 77)).heap.size 9 1 v ss.length ((ss.mergeSort (fun x y => decide (x ≤ y))).map encStr) →
      Below (w.alloc (.cells #[.map (some m)] 77)).heap.size (w.alloc (.cells #[.map (some m)] 77)) w1 → NamesSaid (L.map Fil.f) w (.returned v) w1) := Lib.hid (by
    intro v ss w1 hp ho hb
    rw [dat_keys] at hp
    have hsr : Rising id (L.map Fil.nm) := Rising.map (g := Fil.nm) (nm' := id) (fun _ => rfl) h.srt
    rw [sorted_names hp hsr] at ho
    have hlen : ss.length = (L.map Fil.f).length := by rw [hp.length_eq]; simp
    rw [hlen] at ho
    obtain ⟨A, c, e⟩ := append_shape ho
    subst e
    refine ⟨A, c, rfl, ?_, ((Below.refl _ w).alloc (Nat.le_refl _) _).trans (hb.mono (by simp))⟩
    have := own_base ho (base' := w.heap.size) (by simp)
    rw [List.map_map] at this ⊢
    exact this)
  clear h hL hl
  refine (callsIn_wide (n := 6)).1 ?_
  have hfK : Fence.wide.fn 77 := trivial
  have hfS : Fence.wide.fn 76 := trivial
  refine callsIn_of_wp Tryz.func40 rfl trivial ?_ rfl
  simp only [Tryz.ntmps40, List.size_toArray, List.length_cons, List.length_nil, Nat.reduceAdd, Nat.reduceSub, Array.replicate_succ, Array.replicate_zero, List.push_toArray, List.append_toArray, List.nil_append, List.cons_append]
  gi_wp2_with (first
    | (gi_at_call 77; refine (Tryz.maps_Keys_77 _ _).mono ?_; rintro e w' ⟨rfl, rfl⟩)
    | (gi_at_call 76; refine (Tryz.slices_Sorted_keys_76_77 m _ _ _ w hown hmax hbytes).mono ?_; rintro e w' ⟨v, ss, rfl, hS, hrow, hnil, hb⟩; have HX := Lib.hid (HE.out v ss w' hS hrow hb); clear hS hrow hnil hb))
  go_ret
  exact HX.out
end Go.Proofs.YtnomicnmpllajaaGreatDoor
end
