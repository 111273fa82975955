/- What is proved here: what the document's Heads answers. -/
import Derived.Test.YticmdeepfeiobaaRef3
import Derived.Deep.DeepFit
namespace Go.Proofs.Yticmdeepfeiobaa
open Go Go.RowKit Go.Maps Go.WideMaps

theorem ofG_ne {M : List Th} {y : Th} (h : y ∈ M) : ofG M y.g ≠ [] := fun e => by
  have : y.id ∈ ofG M y.g := by
    unfold ofG
    exact List.mem_map.2 ⟨y, List.mem_filter.2 ⟨h, by simp⟩, rfl⟩
  rw [e] at this
  cases this
theorem heads_snoc {M : List Th} {x : Th} (h : x.id ∉ ids M) : headsT (M ++ [x]) = headsT M ++ (if ofG M x.g = [] then [x] else []) := by
  unfold headsT
  rw [List.filter_append]
  congr 1
  · apply List.filter_congr
    intro y hy
    obtain ⟨k, r, e⟩ := List.exists_cons_of_ne_nil (ofG_ne hy)
    by_cases hg : y.g = x.g
    · rw [hg] at e ⊢
      rw [ofG_add_same, e]
      rfl
    · rw [ofG_add_other _ _ hg]
  · rw [List.filter_cons, ofG_add_same]
    cases ho : ofG M x.g with
    | nil => simp
    | cons k r =>
      have hk : k ≠ x.id := fun e => h (by
        obtain ⟨z, hz, _, hk⟩ := mem_ofG (by rw [ho]; exact List.mem_cons_self .. : k ∈ ofG M x.g)
        rw [← e, ← hk]
        exact List.mem_map.2 ⟨z, hz, rfl⟩)
      simp [hk]
theorem ids_snoc2 (L : List Th) (x : Th) : ids (L ++ [x]) = ids L ++ [x.id] := by simp [ids]
theorem heads_step {L : List Th} (hn : (ids L).Nodup) {k : Nat} {x : Th} (hx : L[k]? = some x) : (headsT (L.take (k + 1))).map Th.id = (headsT (L.take k)).map Th.id ++ (if ofG (L.take k) x.g = [] then [x.id] else []) := by
  rw [take_more hx, heads_snoc, List.map_append]
  · congr 1
    split <;> rfl
  · have h1 : (ids (L.take (k + 1))).Nodup := hn.sublist ((List.take_sublist _ _).map _)
    rw [take_more hx, ids_snoc2, List.nodup_append] at h1
    intro hm
    exact h1.2.2 _ hm _ (by simp) rfl

set_option maxHeartbeats 3200000 in
set_option maxRecDepth 100000 in
theorem refHeads_any {w : World} {base n c : Nat} {A : Option Addr} {L : List Th} (h : TRow w base A n c L) (hnd : (ids L).Nodup) (hn : n < 900000) :
    Calls Try.prog 19 #[.slice A n c] w (RowSaid ((headsT L).map Th.id) w) := by
  have HR := Lib.hid h
  have HL := Lib.hid h.len
  have HND := Lib.hid hnd
  obtain ⟨hnc, hcm⟩ := h.caps
  obtain ⟨i0, hi, hz0, hz1, hz2⟩ := info_parts info_int
  have HALL : Hid (L.take n = L) := Lib.hid (by rw [List.take_of_length_le (by rw [HL.out]; exact Nat.le_refl _)])
  clear h hnd
  go_enter Try.func19, Try.ntmps19
  go_wp2
  go_loopw [3, 4] (fun v i wr => ∃ (k n2 : Nat) (A2 : Option Addr) (c2 : Nat), i = .int .i64 k ∧ v = .slice A2 n2 c2 ∧ k ≤ n ∧ n2 ≤ k ∧ Hid (n2 = ((headsT (L.take k)).map Th.id).length) ∧ Hid (MakingI w ((headsT (L.take k)).map Th.id) (.slice A2 n2 c2) wr)) (fun _ i _ => n - (intOf i).toNat)
  case atStart => exact ⟨0, 0, none, 0, rfl, rfl, Nat.zero_le _, Nat.le_refl _, Lib.hid (by simp [headsT]), Lib.hid (by rw [List.take_zero]; exact ⟨World.ownsRow_nil _ _ _ _, Below.refl _ _⟩)⟩
  case round =>
    obtain ⟨k, n2, A2, c2, rfl, rfl, hk, hn2k, HN2, HM⟩ := hrel
    by_cases hkn : k < n
    · obtain ⟨x, hx⟩ : ∃ x, L[k]? = some x := ⟨_, List.getElem?_eq_getElem (by rw [HL.out]; exact hkn)⟩
      have hkn' : (k : Int) < n := by omega
      have HX := Lib.hid hx
      clear hx
      go_wp2
      go_loopw [5, 6] (fun fv jv wr => ∃ (j : Nat), jv = .int .i64 j ∧ fv = .bool (decide (ofG (L.take j) x.g = [])) ∧ j ≤ k ∧ Hid (MakingI w ((headsT (L.take k)).map Th.id) (.slice A2 n2 c2) wr)) (fun _ jv _ => k - (intOf jv).toNat)
      case atStart => exact ⟨0, rfl, by simp [ofG], Nat.zero_le _, HM⟩
      case round =>
        clear HM
        obtain ⟨j, rfl, rfl, hjk, HM⟩ := hrel
        by_cases hj : j < k
        · have hjz : (j : Int) < (k : Int) := by omega
          have hjn : (j : Int) < (n : Int) := by omega
          obtain ⟨y, hy⟩ : ∃ y, L[j]? = some y := ⟨_, List.getElem?_eq_getElem (by rw [HL.out]; omega)⟩
          obtain ⟨b, hA, hbl, r0, _⟩ := (HR.out.below HM.out.2).cell hy
          obtain ⟨b', hA', _, s0, _⟩ := (HR.out.below HM.out.2).cell HX.out
          subst hA
          obtain rfl : b = b' := by simpa using hA'
          clear hA'
          have HMD : Hid (∀ q, MakingI w ((headsT (L.take k)).map Th.id) (.slice A2 n2 c2) (wr.drewN q)) := Lib.hid fun q => ⟨(Chg.drewN (Φ := fun _ => False) _ q).own HM.out.1 fun _ _ => id, HM.out.2.trans ((Chg.drewN (Φ := fun _ => False) wr q).below HM.out.2.size fun _ h => h.elim)⟩
          by_cases hg : y.g = x.g
          · have hst : (y.g.toList == x.g.toList) = true := by rw [str_eq]; simpa using hg
            have HB : Hid (decide (ofG (L.take (j + 1)) x.g = []) = false) := Lib.hid (by rw [ofG_more hy hg]; simp)
            generalize decide (ofG (L.take j) x.g = []) = f0 at *
            clear hy hg
            go_wp2_with fail
            go_quiet (fail)
            have HM2 := Lib.hid (HMD.out nq)
            generalize wr.drewN nq = W at *
            clear HMD HM r0 s0
            go_wp2
            go_roundw
            case rel => exact ⟨j + 1, by go_num, by rw [HB.out], by omega, HM2⟩
            case measure => simp [intOf]; omega
          · have hst : (y.g.toList == x.g.toList) = false := by rw [str_eq]; simpa using hg
            have HB : Hid (decide (ofG (L.take (j + 1)) x.g = []) = decide (ofG (L.take j) x.g = [])) := Lib.hid (by rw [ofG_less hy hg])
            generalize hf0 : decide (ofG (L.take j) x.g = []) = f0 at *
            clear hy hg hf0
            go_wp2_with fail
            go_quiet (fail)
            have HM2 := Lib.hid (HMD.out nq)
            generalize wr.drewN nq = W at *
            clear HMD HM r0 s0
            go_wp2
            go_roundw
            case rel => exact ⟨j + 1, by go_num, by rw [HB.out], by omega, HM2⟩
            case measure => simp [intOf]; omega
        · obtain rfl : j = k := by omega
          have hjz : ¬ (j : Int) < (j : Int) := by omega
          obtain ⟨b, hA, hbl, s0, s1⟩ := (HR.out.below HM.out.2).cell HX.out
          subst hA
          by_cases ho : ofG (L.take j) x.g = []
          · have hs := heads_step HND.out HX.out
            rw [if_pos ho] at hs
            have HSZ := Lib.hid HM.out.2.size
            have hMO := HM.out
            unfold MakingI at hMO
            rw [← HN2.out] at hMO
            have HMO := Lib.hid hMO
            have HAP : Hid (∀ v2 w2, w2.ownsRow w.heap.size 3 1 v2 (n2 + 1) (((headsT (L.take j)).map Th.id).map (Value.int .i64) ++ [.int .i64 x.id]) → (wr.alloc (.cells #[.int .i64 x.id] 3)).grownBy w2 (Value.slice A2 n2 c2).ownBlock → ∃ A3 c3, v2 = .slice A3 (n2 + 1) c3 ∧ n2 + 1 = ((headsT (L.take (j + 1))).map Th.id).length ∧ MakingI w ((headsT (L.take (j + 1))).map Th.id) (.slice A3 (n2 + 1) c3) w2) := Lib.hid fun v2 w2 ho2 hg => by
              obtain ⟨A3, c3, rfl⟩ := own_slice2 ho2
              have e9 : n2 + 1 = ((headsT (L.take (j + 1))).map Th.id).length := by rw [hs, List.length_append, ← HN2.out]; rfl
              refine ⟨A3, c3, rfl, e9, ?_, (HM.out.2.alloc HM.out.2.size _).grown hg (by simp; have := HM.out.2.size; omega) fun i hi => (HM.out.1.lt i hi).1⟩
              rw [← e9, hs, List.map_append]
              exact ho2
            have hf0 : decide (ofG (L.take j) x.g = []) = true := by simpa using ho
            rw [hf0]
            clear hs hMO ho hf0
            generalize (headsT (L.take j)).map Th.id = O at *
            go_wp2_with (at_builtin; refine wpList_append_src (o := ⟨some 37, _, _, _, _, _⟩) rfl (.tmp 30) (.tmp 36) 34 rfl w.heap.size 3 i0 _ 1 8 Try.underlying34 hi hz0 hz1 hz2 rfl (by omega) _ n2 (O.map (Value.int .i64)) rfl (HMO.out.1.alloc _) (some ⟨wr.heap.size, 0, none⟩) 1 1 [.int .i64 x.id] rfl rfl (fun e => by cases e) (news_new wr _ _) (one_cell _ _) (by unfold maxLen; omega) (by omega) (by have := HSZ.out; simp; omega) ?_; intro v2 w2 ho2 hg2; obtain ⟨A3, c3, rfl, hn3, hM3⟩ := HAP.out _ _ ho2 hg2; have HN3 := Lib.hid hn3; have HM3 := Lib.hid hM3; clear ho2 hg2 hn3 hM3)
            go_roundw
            case rel => exact ⟨j + 1, n2 + 1, A3, c3, by go_num, rfl, by omega, by omega, HN3, HM3⟩
            case measure => simp [intOf]; omega
          · have hs := heads_step HND.out HX.out
            rw [if_neg ho, List.append_nil] at hs
            have HS := Lib.hid hs
            have hf0 : decide (ofG (L.take j) x.g = []) = false := by simpa using ho
            rw [hf0]
            clear hs ho hf0
            go_wp2
            go_roundw
            case rel => exact ⟨j + 1, n2, A2, c2, by go_num, rfl, by omega, by omega, Lib.hid (by rw [HS.out]; exact HN2.out), Lib.hid (by rw [HS.out]; exact HM.out)⟩
            case measure => simp [intOf]; omega
    · obtain rfl : k = n := by omega
      have HE : Hid (RowSaid ((headsT L).map Th.id) w (.returned (.slice A2 n2 c2)) wr) := Lib.hid (by
        have h1 := HM.out
        have h2 := HN2.out
        rw [HALL.out] at h1 h2
        subst h2
        exact ⟨A2, c2, rfl, h1.1, h1.2⟩)
      have hd0 : decide ((k : Int) < (k : Int)) = false := decide_eq_false (by omega)
      go_wp2
      go_ret
      exact HE.out
end Go.Proofs.Yticmdeepfeiobaa
