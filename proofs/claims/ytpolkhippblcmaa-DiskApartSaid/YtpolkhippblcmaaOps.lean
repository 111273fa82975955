/- What is proved here: what the disk's Sync, Cut and Remove do. -/
import Derived.Test.YtpolkhippblcmaaPut
namespace Go.Proofs.Ytpolkhippblcmaa
open Go Go.RowKit Go.Maps

/-- What a call that may change a disk does: what it tells, and what the disk is behind it. -/
def OpSaid (d : Nat) (room : Int) (S : List RF) (r : Int) (Φ : Nat → Prop) (w : World) (e : Ending) (w' : World) : Prop :=
  e = .returned (.int .i64 r) ∧ Chg Φ w w' ∧ DiskAt w' d room S (grow Φ w w')

section
variable {w w' : World} {d m : Nat} {room : Int} {L : List Fil} {Φ : Nat → Prop}
theorem DiskL.foot_in (h : DiskL w d m room L Φ) {x : Fil} (hx : x ∈ L) (i : Nat) (hi : foot d x i) : Φ i := by
  rcases hi with rfl | rfl | hi
  · exact h.inn.1
  · exact (h.inn.2.2 x hx).1
  · exact (h.inn.2.2 x hx).2 i hi
theorem grow_old (k : Nat) (h : Φ k) : grow Φ w w' k := .inl h
theorem DiskL.same (h : DiskL w d m room L Φ) (hc : Chg Φ w w') (hk : Chg (fun _ => False) w w') {e : Ending} {r : Int} (he : e = .returned (.int .i64 r)) : OpSaid d room (L.map Fil.f) r Φ w e w' :=
  ⟨he, hc, m, L, rfl, (h.keep hk fun _ _ => id).mono fun _ _ => .inl⟩
theorem DiskL.said (h : DiskL w d m room L Φ) {x x' : Fil} (hx : x ∈ L) (hc : Chg (foot d x) w w') (h' : DiskL w' d m room (putN Fil.nm x' L) (grow Φ w w')) {e : Ending} {r : Int} (he : e = .returned (.int .i64 r)) :
    OpSaid d room (putN RF.nm x'.f (L.map Fil.f)) r Φ w e w' :=
  ⟨he, hc.mono fun i _ hi => h.foot_in hx i hi, m, _, map_putN fil_name _ _, h'⟩

theorem DiskL.del (h : DiskL w d m room L Φ) {x : Fil} (hx : x ∈ L) (hc : Chg (fun k => k = d ∨ k = m) w w') {U : Nat}
    (hd : w'.heap[d]? = some (.cells #[.int .i64 room, .int .i64 U, .map (some m)] 57 (0, 0))) (hU : U + x.f.b.length = usedN (L.map Fil.f)) (hm : DMap w' m (delN Fil.nm x.nm L)) :
    DiskL w' d m room (delN Fil.nm x.nm L) Φ := by
  have hu : usedN ((delN Fil.nm x.nm L).map Fil.f) = U := by
    rw [map_delN fil_name]
    have := usedN_del (h.srt.map (g := Fil.f) fil_name) (List.mem_map_of_mem (f := Fil.f) hx)
    have e : (Fil.f x).nm = x.nm := rfl
    rw [e] at this
    omega
  refine ⟨by rw [hu]; exact hd, hm, fun y hy => ?_, h.srt.delN _, List.Pairwise.filter _ h.apart, h.rm, by rw [hu]; have := h.used; omega, h.inn.1, h.inn.2.1, fun y hy => h.inn.2.2 y (mem_delN.1 hy).1⟩
  have hy' := (mem_delN.1 hy).1
  refine (h.file y hy').keep hc ?_ fun g hg => ?_
  · rintro (e | e)
    · exact h.d_p hy' e
    · exact h.m_p hy' e
  · rintro (e | e)
    · exact h.v_d hy' (by rw [hg, e])
    · exact h.v_m hy' (by rw [hg, e])

theorem DiskL.add (h : DiskL w d m room L Φ) {x : Fil} (hn : ∀ y ∈ L, y.nm ≠ x.nm) (hc : Chg (fun k => k = d ∨ k = m) w w') {U : Nat}
    (hd : w'.heap[d]? = some (.cells #[.int .i64 room, .int .i64 U, .map (some m)] 57 (0, 0))) (hU : U = usedN (L.map Fil.f) + x.f.b.length) (hu : (U : Int) ≤ room)
    (hm : DMap w' m (putN Fil.nm x L)) (hf : FileAt w' x) (ha : ∀ y ∈ L, Apart x y) (hx : Φ x.p ∧ ∀ g, x.v.ownBlock = some g → Φ g) :
    DiskL w' d m room (putN Fil.nm x L) Φ := by
  have hdel : delN Fil.nm x.nm L = L := delN_none hn
  have hput : putN Fil.nm x L = insN Fil.nm x L := by unfold putN; rw [hdel]
  have huse : usedN ((putN Fil.nm x L).map Fil.f) = U := by
    rw [hput, map_insN fil_name, usedN_ins]
    omega
  refine ⟨by rw [huse]; exact hd, hm, fun y hy => ?_, h.srt.putN x, ?_, h.rm, by rw [huse]; exact hu, h.inn.1, h.inn.2.1, fun y hy => ?_⟩
  · rcases mem_putN.1 hy with rfl | ⟨hy', _⟩
    · exact hf
    · refine (h.file y hy').keep hc ?_ fun g hg => ?_
      · rintro (e | e)
        · exact h.d_p hy' e
        · exact h.m_p hy' e
      · rintro (e | e)
        · exact h.v_d hy' (by rw [hg, e])
        · exact h.v_m hy' (by rw [hg, e])
  · rw [hput]
    exact ((perm_insN x L).symm.pairwise_iff (fun {_ _} hab => hab.symm)).1 (List.pairwise_cons.2 ⟨ha, h.apart⟩)
  · rcases mem_putN.1 hy with rfl | ⟨hy', _⟩
    · exact hx
    · exact h.inn.2.2 y hy'
end

/-! ### Sync -/
def syncF (S : List RF) (k : List UInt8) : List RF × Int := match findN S k with | none => (S, 6) | some f => (putN RF.nm ⟨f.nm, f.b, f.b.length⟩ S, 0)
set_option maxHeartbeats 400000 in
theorem Sync_any {w : World} {d : Nat} {room : Int} {S : List RF} {Φ : Nat → Prop} (h : DiskAt w d room S Φ) (s : ByteArray) (hs : s.size ≤ maxLen) :
    Calls Try.prog 19 #[.pointer (some ⟨d, 0, none⟩), .string s] w (OpSaid d room (syncF S s.data.toList).1 (syncF S s.data.toList).2 Φ w) := by
  obtain ⟨m, L, rfl, h⟩ := h
  obtain ⟨c0, c1, c2, _⟩ := three_cells h.blk
  have hlk := h.map.look s hs
  rcases h.cases s.data.toList with ⟨h1, h2, _⟩ | ⟨x, hx, hxn, h1, h2⟩
  · have HF : syncF (L.map Fil.f) s.data.toList = (L.map Fil.f, 6) := by unfold syncF; rw [h1]
    rw [HF]
    have HS := Lib.hid (h.same (Chg.refl _ _) (Chg.refl _ _) (e := .returned (.int .i64 6)) rfl)
    rw [h2] at hlk
    clear h h1 h2 HF
    go_enter Try.func19, Try.ntmps19
    go_wp2
    go_ret
    exact HS.out
  · have HF : syncF (L.map Fil.f) s.data.toList = (putN RF.nm ⟨x.f.nm, x.f.b, x.f.b.length⟩ (L.map Fil.f), 0) := by unfold syncF; rw [h1]
    rw [HF]
    have hf := h.file x hx
    have hd3 := h.blk
    have hsy := sync_any x.p x.f.b.length x.v x.f.s _ w hf.blk hf.own
    have HS : Hid (OpSaid d room (putN RF.nm ⟨x.f.nm, x.f.b, x.f.b.length⟩ (L.map Fil.f)) 0 Φ w (.returned (.int .i64 0)) (w.setCell ⟨x.p, 1, none⟩ (.int .i64 x.f.b.length))) := Lib.hid (by
      have hc := Chg.set w x.p 1 (.int .i64 (x.f.b.length : Int))
      have hcc : Chg (foot d x) w (w.setCell ⟨x.p, 1, none⟩ (.int .i64 (x.f.b.length : Int))) := hc.mono fun i _ e => .inr (.inl e)
      have hvp : x.v.ownBlock ≠ some x.p := h.v_p hx hx
      refine h.said (x' := ⟨⟨x.f.nm, x.f.b, x.f.b.length⟩, x.p, x.v⟩) hx hcc ?_ rfl
      exact h.touch hx rfl rfl hcc (hc.heap hd3 fun e => h.d_p hx e.symm) rfl ⟨two_set1 hf.blk _, hc.own hf.own fun g hg e => hvp (by rw [hg, e]), Nat.le_refl _, hf.byt, hf.len⟩ (fun g hg => .inl hg) h.used)
    have HSY := Lib.hid hsy
    rw [h2] at hlk
    clear h h1 h2 HF hf hd3 hsy hx hxn
    go_enter Try.func19, Try.ntmps19
    go_wp2_with (go_at_call 37; refine HSY.out.mono ?_; rintro e w1 ⟨rfl, rfl⟩)
    go_ret
    exact HS.out

/-! ### Cut -/
def cutF (S : List RF) (k : List UInt8) (n : Int) : List RF × Int := match findN S k with | none => (S, 6) | some f => if n < 0 ∨ (f.b.length : Int) < n then (S, 1) else (putN RF.nm (cutRF f n.toNat) S, 0)
set_option maxHeartbeats 800000 in
set_option maxRecDepth 100000 in
theorem Cut_any {w : World} {d : Nat} {room : Int} {S : List RF} {Φ : Nat → Prop} (h : DiskAt w d room S Φ) (s : ByteArray) (hs : s.size ≤ maxLen) (n : Int) :
    Calls Try.prog 28 #[.pointer (some ⟨d, 0, none⟩), .string s, .int .i64 n] w (OpSaid d room (cutF S s.data.toList n).1 (cutF S s.data.toList n).2 Φ w) := by
  obtain ⟨m, L, rfl, h⟩ := h
  obtain ⟨c0, c1, c2, _⟩ := three_cells h.blk
  have hlk := h.map.look s hs
  rcases h.cases s.data.toList with ⟨h1, h2, _⟩ | ⟨x, hx, hxn, h1, h2⟩
  · have HF : cutF (L.map Fil.f) s.data.toList n = (L.map Fil.f, 6) := by unfold cutF; rw [h1]
    rw [HF]
    have HS := Lib.hid (h.same (Chg.refl _ _) (Chg.refl _ _) (e := .returned (.int .i64 6)) rfl)
    rw [h2] at hlk
    clear h h1 h2 HF
    go_enter Try.func28, Try.ntmps28
    go_wp2
    go_ret
    exact HS.out
  · have hf := h.file x hx
    obtain ⟨A, c, hv, hr⟩ := hf.rd
    obtain ⟨q0, _⟩ := two_cells hf.blk
    rw [hv] at q0
    have hc := hr.cap
    have hm := hr.max
    unfold maxLen at hm
    rw [h2] at hlk
    by_cases hbad : n < 0 ∨ (x.f.b.length : Int) < n
    · have HF : cutF (L.map Fil.f) s.data.toList n = (L.map Fil.f, 1) := by unfold cutF; rw [h1]; exact if_pos hbad
      rw [HF]
      have HS := Lib.hid (h.same (Chg.refl _ _) (Chg.refl _ _) (e := .returned (.int .i64 1)) rfl)
      generalize x.f.b.length = N at *
      clear h h1 h2 HF hf hr hv hx
      by_cases hn : n < 0
      · clear hbad
        go_enter Try.func28, Try.ntmps28
        go_wp2
        go_ret
        exact HS.out
      · have hn2 : (N : Int) < n := by omega
        have hn3 : 0 ≤ n := by omega
        clear hbad
        go_enter Try.func28, Try.ntmps28
        go_wp2
        go_ret
        exact HS.out
    · obtain ⟨k, rfl⟩ : ∃ k : Nat, n = k := ⟨n.toNat, by omega⟩
      have hkn : k ≤ x.f.b.length := by omega
      have HF : cutF (L.map Fil.f) s.data.toList k = (putN RF.nm (cutRF x.f k) (L.map Fil.f), 0) := by unfold cutF; rw [h1]; exact if_neg hbad
      rw [HF]
      have hsh := (shorten_any h hx k hkn).mono (R' := fun e w' => e = .returned (.tuple #[]) ∧ Hid (OpSaid d room (putN RF.nm (cutRF x.f k) (L.map Fil.f)) 0 Φ w (.returned (.int .i64 0)) w')) (by
        rintro e w' ⟨rfl, hcc, x', _, hx2, h3⟩
        refine ⟨rfl, Lib.hid ?_⟩
        have := h.said hx hcc h3 (e := .returned (.int .i64 0)) rfl
        rwa [hx2] at this)
      have HSH := Lib.hid hsh
      have hk2 : (k : Int) ≤ x.f.b.length := by omega
      generalize x.f.b.length = N at *
      clear h h1 h2 HF hf hr hv hsh hx hbad
      go_enter Try.func28, Try.ntmps28
      go_wp2_with (go_at_call 38; refine HSH.out.mono ?_; rintro e w1 ⟨rfl, HS⟩)
      go_ret
      exact HS.out

/-! ### Remove -/
def removeF (S : List RF) (k : List UInt8) : List RF × Int := match findN S k with | none => (S, 6) | some _ => (delN RF.nm k S, 0)
def RemSaid (d m : Nat) (room : Int) (L : List Fil) (k : List UInt8) (Φ : Nat → Prop) (w : World) (e : Ending) (w' : World) : Prop :=
  e = .returned (.int .i64 (removeF (L.map Fil.f) k).2) ∧ Chg (fun i => i = d ∨ i = m) w w' ∧ DiskL w' d m room (delN Fil.nm k L) Φ
set_option maxHeartbeats 800000 in
set_option maxRecDepth 100000 in
theorem Remove_L {w : World} {d m : Nat} {room : Int} {L : List Fil} {Φ : Nat → Prop} (h : DiskL w d m room L Φ) (s : ByteArray) (hs : s.size ≤ maxLen) :
    Calls Try.prog 29 #[.pointer (some ⟨d, 0, none⟩), .string s] w (RemSaid d m room L s.data.toList Φ w) := by
  obtain ⟨c0, c1, c2, f0, f1, f2⟩ := three_cells h.blk
  have hlk := h.map.look s hs
  rcases h.cases s.data.toList with ⟨h1, h2, hno⟩ | ⟨x, hx, hxn, h1, h2⟩
  · have HF : removeF (L.map Fil.f) s.data.toList = (L.map Fil.f, 6) := by unfold removeF; rw [h1]
    have HS : Hid (RemSaid d m room L s.data.toList Φ w (.returned (.int .i64 6)) w) := Lib.hid ⟨by rw [HF], Chg.refl _ _, by rw [delN_none hno]; exact h⟩
    clear hno
    rw [h2] at hlk
    clear h h1 h2 HF
    go_enter Try.func29, Try.ntmps29
    go_wp2
    go_ret
    exact HS.out
  · have HF : removeF (L.map Fil.f) s.data.toList = (delN RF.nm s.data.toList (L.map Fil.f), 0) := by unfold removeF; rw [h1]
    have hf := h.file x hx
    obtain ⟨A, c, hv, hr⟩ := hf.rd
    obtain ⟨q0, _⟩ := two_cells hf.blk
    rw [hv] at q0
    have hc := hr.cap
    have hm := hr.max
    unfold maxLen at hm
    have h3 := usedN_mem (List.mem_map_of_mem (f := Fil.f) hx)
    have h4 := h.used
    have h5 := h.rm
    have hdp := h.d_p hx
    obtain ⟨U, hU⟩ : ∃ U, U = usedN (L.map Fil.f) - x.f.b.length := ⟨_, rfl⟩
    have HU : Hid ((usedN (L.map Fil.f) : Int) - (x.f.b.length : Int) = (U : Int)) := Lib.hid (by omega)
    have hc1 : Chg (fun k => k = d) w (w.setCell ⟨d, 1, none⟩ (.int .i64 U)).drew := (Chg.set w d 1 _).trans (Chg.drew (Φ := fun k => k = d) _) fun _ _ e => e
    have HM := Lib.hid (h.map.keep hc1 h.m_d)
    have HE : Hid (∀ w2, w2.ownsMap Try.prog 9 ptrElem m L.length ((datOf L).del (.string s.data.toList)) → (w.setCell ⟨d, 1, none⟩ (.int .i64 U)).drew.mapTurned w2 m →
        RemSaid d m room L s.data.toList Φ w (.returned (.int .i64 0)) w2) := Lib.hid (by
      intro w2 hm2 ht2
      have hcc : Chg (fun k => k = d ∨ k = m) w w2 := (hc1.mono fun _ _ e => .inl e).trans (Chg.of_turned ht2) fun _ _ e => .inr e
      have h6 := ownsMap_tight hm2
      rw [dat_del, dat_size, ← hxn] at h6
      have h7 := h.del hx hcc (U := U) ((Chg.of_turned ht2).heap (three_set1 h.blk _) fun e => h.m_d e.symm) (by omega) h6
      exact ⟨by rw [HF], hcc, by rw [hxn] at h7; exact h7⟩)
    have hkey : keyOf Try.prog 9 (.string s) = some (.string s.data.toList) := Go.WideMaps.keyOf_string_mk Try.underlying9 hs
    have HKEY := Lib.hid hkey
    have hmd := h.m_d
    rw [h2] at hlk
    generalize usedN (L.map Fil.f) = V at *
    generalize x.f.b.length = N at *
    have hu : (U : Int) ≤ 9223372036854775807 ∧ (0 : Int) ≤ (U : Int) := by have := HU.out; omega
    have hw2 : IntKind.i64.wrap ((V : Int) - (N : Int)) = (U : Int) := by rw [HU.out]; exact IntWalk.i64_in _ (by omega)
    clear h h1 h2 HF hf hr hv hx hxn hc1 hkey hU
    go_enter Try.func29, Try.ntmps29
    go_wp2_with fail
    go_still_tail 12, (by kernel_rfl)
    change wpList _ _ _ _ _ w.drew
    clear hw2
    go_wp2_with (at_delete; refine wpList_delete_own _ rfl _ _ 55 9 rfl 66 keyed_str Try.underlying55 ptrElem m _ _ rfl HM.out _ _ rfl HKEY.out ?_; intro w2 hm2 ht2; have HX := Lib.hid (HE.out w2 hm2 ht2); clear hm2 ht2)
    go_ret
    exact HX.out

theorem Remove_any {w : World} {d : Nat} {room : Int} {S : List RF} {Φ : Nat → Prop} (h : DiskAt w d room S Φ) (s : ByteArray) (hs : s.size ≤ maxLen) :
    Calls Try.prog 29 #[.pointer (some ⟨d, 0, none⟩), .string s] w (OpSaid d room (removeF S s.data.toList).1 (removeF S s.data.toList).2 Φ w) := by
  obtain ⟨m, L, rfl, h⟩ := h
  refine (Remove_L h s hs).mono ?_
  rintro e w' ⟨h1, h2, h3⟩
  refine ⟨h1, h2.mono fun i _ e => ?_, m, _, ?_, h3.mono fun _ _ => .inl⟩
  · rcases e with rfl | rfl
    · exact h.inn.1
    · exact h.inn.2.1
  · rw [map_delN fil_name]
    unfold removeF
    cases e : findN (L.map Fil.f) s.data.toList with
    | none => exact delN_none (findN_none e)
    | some f => rfl
end Go.Proofs.Ytpolkhippblcmaa
