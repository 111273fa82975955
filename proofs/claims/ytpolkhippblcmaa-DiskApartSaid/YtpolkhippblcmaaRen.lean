/- What is proved here: what the disk's Rename does. -/
import Derived.Test.YtpolkhippblcmaaApp
namespace Go.Proofs.Ytpolkhippblcmaa
open Go Go.RowKit Go.Maps

def renameF (S : List RF) (k t : List UInt8) : List RF × Int := match findN S k with
  | none => (S, 6)
  | some f => if nameOk t = false then (S, 1) else if k = t then (S, 0) else (putN RF.nm ⟨t, f.b, f.b.length⟩ (delN RF.nm k S), 0)

section
variable {w w' : World} {d m : Nat} {room : Int} {L : List Fil} {Φ : Nat → Prop}
/-- One file gets another name; its block and its row stay. -/
theorem DiskL.move (h : DiskL w d m room L Φ) {x y : Fil} (hx : x ∈ L) (hn : ∀ z ∈ L, z.nm ≠ y.nm) (hp : y.p = x.p) (hv : y.v = x.v) (hb : y.f.b = x.f.b)
    (hc : Chg (fun k => k = m ∨ k = x.p) w w') (hm : DMap w' m (putN Fil.nm y (delN Fil.nm x.nm L))) (hf : FileAt w' y) :
    DiskL w' d m room (putN Fil.nm y (delN Fil.nm x.nm L)) Φ := by
  have hput : putN Fil.nm y (delN Fil.nm x.nm L) = insN Fil.nm y (delN Fil.nm x.nm L) := by
    unfold putN
    rw [delN_none fun z hz => hn z (mem_delN.1 hz).1]
  have huse : usedN ((putN Fil.nm y (delN Fil.nm x.nm L)).map Fil.f) = usedN (L.map Fil.f) := by
    rw [hput, map_insN fil_name, usedN_ins, map_delN fil_name, hb]
    have := usedN_del (h.srt.map (g := Fil.f) fil_name) (List.mem_map_of_mem (f := Fil.f) hx)
    have e : (Fil.f x).nm = x.nm := rfl
    rw [e] at this
    omega
  have hother : ∀ z ∈ delN Fil.nm x.nm L, FileAt w' z := fun z hz => by
    obtain ⟨hz1, hz2⟩ := mem_delN.1 hz
    have hap := h.two hx hz1 fun e => hz2 e.symm
    refine (h.file z hz1).keep hc ?_ fun g hg => ?_
    · rintro (e | e)
      · exact h.m_p hz1 e
      · exact hap.1 e.symm
    · rintro (e | e)
      · exact h.v_m hz1 (by rw [hg, e])
      · exact h.v_p hz1 hx (by rw [hg, e])
  refine ⟨?_, hm, fun z hz => ?_, (h.srt.delN _).putN y, ?_, h.rm, by rw [huse]; exact h.used, h.inn.1, h.inn.2.1, fun z hz => ?_⟩
  · rw [huse]
    refine hc.heap h.blk ?_
    rintro (e | e)
    · exact h.m_d e.symm
    · exact h.d_p hx e.symm
  · rcases mem_putN.1 hz with rfl | ⟨hz', _⟩
    · exact hf
    · exact hother z hz'
  · rw [hput]
    refine ((perm_insN y _).symm.pairwise_iff (fun {_ _} hab => hab.symm)).1 (List.pairwise_cons.2 ⟨fun z hz => ?_, List.Pairwise.filter _ h.apart⟩)
    obtain ⟨hz1, hz2⟩ := mem_delN.1 hz
    have hap := h.two hx hz1 fun e => hz2 e.symm
    unfold Apart
    rw [hp, hv]
    exact hap
  · rcases mem_putN.1 hz with rfl | ⟨hz', _⟩
    · rw [hp, hv]; exact h.inn.2.2 x hx
    · exact h.inn.2.2 z (mem_delN.1 hz').1
end

set_option maxHeartbeats 1600000 in
set_option maxRecDepth 100000 in
theorem Rename_any {w : World} {d : Nat} {room : Int} {S : List RF} {Φ : Nat → Prop} (h : DiskAt w d room S Φ) (s t : ByteArray) (hs : s.size ≤ maxLen) (ht : t.size ≤ maxLen) (hL : S.length ≤ 1000000) :
    Calls Try.prog 30 #[.pointer (some ⟨d, 0, none⟩), .string s, .string t] w (OpSaid d room (renameF S s.data.toList t.data.toList).1 (renameF S s.data.toList t.data.toList).2 Φ w) := by
  obtain ⟨m, L, rfl, h⟩ := h
  obtain ⟨c0, c1, c2, f0, f1, f2⟩ := three_cells h.blk
  have hlk := h.map.look s hs
  have HN := Lib.hid fun W => isName_any t W ht
  rcases h.cases s.data.toList with ⟨h1, h2, hno⟩ | ⟨x, hx, hxn, h1, h2⟩
  · have HF : renameF (L.map Fil.f) s.data.toList t.data.toList = (L.map Fil.f, 6) := by unfold renameF; rw [h1]
    rw [HF]
    have HS := Lib.hid (h.same (Chg.refl _ _) (Chg.refl _ _) (e := .returned (.int .i64 6)) rfl)
    rw [h2] at hlk
    clear h h1 h2 HF hno
    go_enter Try.func30, Try.ntmps30
    go_wp2_with fail
    go_ret
    exact HS.out
  · rw [h2] at hlk
    by_cases hn : nameOk t.data.toList = false
    · have HF : renameF (L.map Fil.f) s.data.toList t.data.toList = (L.map Fil.f, 1) := by unfold renameF; rw [h1]; exact if_pos hn
      rw [HF]
      have HS := Lib.hid (h.same (Chg.refl _ _) (Chg.refl _ _) (e := .returned (.int .i64 1)) rfl)
      have HNN := Lib.hid hn
      clear h h1 h2 HF hn hx hxn
      go_enter Try.func30, Try.ntmps30
      go_wp2_with (go_at_call 35; refine (HN.out _).mono ?_; rw [HNN.out]; rintro e w1 ⟨rfl, rfl⟩)
      go_ret
      exact HS.out
    · have hn' : nameOk t.data.toList = true := by simpa using hn
      have HNN := Lib.hid hn'
      by_cases hst : s = t
      · have HF : renameF (L.map Fil.f) s.data.toList t.data.toList = (L.map Fil.f, 0) := by unfold renameF; rw [h1]; subst hst; exact (if_neg hn).trans (if_pos rfl)
        rw [HF]
        have HS := Lib.hid (h.same (Chg.refl _ _) (Chg.refl _ _) (e := .returned (.int .i64 0)) rfl)
        subst hst
        clear h h1 h2 HF hn hx hxn hn'
        go_enter Try.func30, Try.ntmps30
        go_wp2_with (go_at_call 35; refine (HN.out _).mono ?_; rw [HNN.out]; rintro e w1 ⟨rfl, rfl⟩)
        go_ret
        exact HS.out
      · have hst2 : s.data.toList ≠ t.data.toList := fun e => hst (by
          cases s; cases t
          simp at e
          simp [e])
        have HF : renameF (L.map Fil.f) s.data.toList t.data.toList = (putN RF.nm ⟨t.data.toList, x.f.b, x.f.b.length⟩ (delN RF.nm s.data.toList (L.map Fil.f)), 0) := by unfold renameF; rw [h1]; exact (if_neg hn).trans (if_neg hst2)
        rw [HF]
        have ht32 : t.size ≤ 32 := by
          have := nameOk_len hn'
          rwa [Array.length_toList] at this
        obtain ⟨y, hy⟩ : ∃ y : Fil, y = ⟨⟨t.data.toList, x.f.b, x.f.b.length⟩, x.p, x.v⟩ := ⟨_, rfl⟩
        have hyn : y.nm = t.data.toList := by rw [hy]
        have hyp : y.p = x.p := by rw [hy]
        have hkey : keyOf Try.prog 9 (.string s) = some (.string s.data.toList) := Go.WideMaps.keyOf_string_mk Try.underlying9 hs
        have HREM : Hid (Calls Try.prog 29 #[.pointer (some ⟨d, 0, none⟩), .string t] w fun e w1 => (∃ r, e = .returned (.int .i64 r)) ∧ w1.cell? ⟨d, 2, none⟩ = some (.map (some m)) ∧
            Hid (DMap w1 m (delN Fil.nm t.data.toList L)) ∧
            Hid (∀ w2, w2.ownsMap Try.prog 9 ptrElem m (delN Fil.nm t.data.toList L).length ((datOf (delN Fil.nm t.data.toList L)).del (.string s.data.toList)) → w1.mapTurned w2 m →
              Calls Try.prog 36 #[.pointer (some ⟨d, 0, none⟩), .string t, .pointer (some ⟨x.p, 0, none⟩)] w2 fun e w3 => e = .returned (.tuple #[]) ∧
                Hid (Calls Try.prog 37 #[.pointer (some ⟨x.p, 0, none⟩)] w3 fun e w4 => e = .returned (.tuple #[]) ∧
                  Hid (OpSaid d room (putN RF.nm ⟨t.data.toList, x.f.b, x.f.b.length⟩ (delN RF.nm s.data.toList (L.map Fil.f))) 0 Φ w (.returned (.int .i64 0)) w4)))) := Lib.hid ((Remove_L h t ht).mono (by
          rintro e w1 ⟨rfl, hc1, hD1⟩
          obtain ⟨_, _, q2, _⟩ := three_cells hD1.blk
          have hx1 : x ∈ delN Fil.nm t.data.toList L := mem_delN.2 ⟨hx, by rw [hxn]; exact hst2⟩
          refine ⟨⟨_, rfl⟩, q2, Lib.hid hD1.map, Lib.hid fun w2 hm2 ht2 => ?_⟩
          have h6 := ownsMap_tight hm2
          rw [dat_del, dat_size, ← hxn] at h6
          have hc2 := Chg.of_turned ht2
          have hd2 := hc2.heap hD1.blk fun e => hD1.m_d e.symm
          have hlen2 : (delN Fil.nm x.nm (delN Fil.nm t.data.toList L)).length ≤ 1000000 := by
            have a1 := length_delN (nm := Fil.nm) x.nm (delN Fil.nm t.data.toList L)
            have a2 := length_delN (nm := Fil.nm) t.data.toList L
            have a3 : L.length ≤ 1000000 := by simpa using hL
            omega
          have hput := put_any hd2 h6 hlen2 y t hyn.symm (by omega)
          rw [hyp] at hput
          refine hput.mono ?_
          rintro e w3 ⟨rfl, hm3, hc3⟩
          have hc13 : Chg (fun k => k = m) w1 w3 := hc2.trans hc3 fun _ _ e => e
          have hf3 := (hD1.file x hx1).keep hc13 (hD1.m_p hx1) fun g hg e => hD1.v_m hx1 (by rw [hg, e])
          refine ⟨rfl, Lib.hid ((sync_any x.p _ x.v x.f.s _ w3 hf3.blk hf3.own).mono ?_)⟩
          rintro e w4 ⟨rfl, rfl⟩
          have hc4 := Chg.set w3 x.p 1 (.int .i64 (x.f.b.length : Int))
          have hc14 : Chg (fun k => k = m ∨ k = x.p) w1 (w3.setCell ⟨x.p, 1, none⟩ (.int .i64 (x.f.b.length : Int))) := (hc13.mono fun _ _ e => .inl e).trans hc4 fun _ _ e => .inr e
          have hD4 := hD1.move (y := y) hx1 (fun z hz => by rw [hyn]; exact (mem_delN.1 hz).2) hyp (by rw [hy]) (by rw [hy]) hc14 (hm3.keep hc4 fun e => hD1.m_p hx1 e.symm) (by
            rw [hy]
            exact ⟨two_set1 hf3.blk _, hc4.own hf3.own fun g hg e => hD1.v_p hx1 hx1 (by rw [hg, e]), Nat.le_refl _, hf3.byt, nameOk_len hn'⟩)
          refine ⟨rfl, Lib.hid ⟨rfl, ?_, m, _, ?_, hD4.mono fun _ _ => .inl⟩⟩
          · refine (hc1.mono (Ψ := Φ) fun i _ e => ?_).trans hc14 fun i _ e => ?_
            · rcases e with rfl | rfl
              · exact h.inn.1
              · exact h.inn.2.1
            · rcases e with rfl | rfl
              · exact h.inn.2.1
              · exact (h.inn.2.2 x hx).1
          · rw [map_putN fil_name, map_delN fil_name, map_delN fil_name, hy, hxn]
            have hr : Rising RF.nm (L.map Fil.f) := h.srt.map (g := Fil.f) fil_name
            refine Rising.ext (((hr.delN _).delN _).putN _) ((hr.delN _).putN _) fun z => ?_
            simp only [mem_putN, mem_delN]
            constructor
            · rintro (e | ⟨⟨⟨hz, _⟩, h3⟩, h4⟩)
              · exact .inl e
              · exact .inr ⟨⟨hz, h3⟩, h4⟩
            · rintro (e | ⟨⟨hz, h3⟩, h4⟩)
              · exact .inl e
              · exact .inr ⟨⟨⟨hz, h4⟩, h3⟩, h4⟩))
        have HKEY := Lib.hid hkey
        have hst3 : (s.toList == t.toList) = false := by rw [ByteArray.toList_eq, ByteArray.toList_eq]; exact beq_eq_false_iff_ne.2 hst2
        clear h h1 h2 HF hn hx hxn hn' hst2 hkey hy hyn hyp hL hst
        go_enter Try.func30, Try.ntmps30
        go_wp2_with (first
          | (go_at_call 35; refine (HN.out _).mono ?_; rw [HNN.out]; rintro e w1 ⟨rfl, rfl⟩)
          | (go_at_call 29; refine HREM.out.mono ?_; rintro e w1 ⟨⟨r, rfl⟩, q2, HM1, HP1⟩)
          | (at_delete; refine wpList_delete_own _ rfl _ _ 55 9 rfl 66 keyed_str Try.underlying55 ptrElem m _ _ rfl HM1.out _ _ rfl HKEY.out ?_; intro w2 hm2 ht2; have HP2 := Lib.hid (HP1.out w2 hm2 ht2); clear hm2 ht2)
          | (go_at_call 36; refine HP2.out.mono ?_; rintro e w3 ⟨rfl, HP3⟩)
          | (go_at_call 37; refine HP3.out.mono ?_; rintro e w4 ⟨rfl, HX⟩))
        go_ret
        exact HX.out
end Go.Proofs.Ytpolkhippblcmaa
