/- What is proved here: what the lanes' All answers. -/
import Derived.Test.YticmdeepfeiobaaSrtN
import Derived.Test.YticmdeepfeiobaaKeysL
import Derived.Test.YticmdeepfeiobaaHeads
import Derived.Deep.DeepFit
namespace Go.Proofs.Yticmdeepfeiobaa
open Go Go.RowKit Go.Maps Go.WideMaps Go.Shelf Go.Lib

theorem place_keys {w : World} {l gm pm N Ng : Nat} {L : List Th} {fg fp : Lit → Option Value} {Φ : Nat → Prop} (h : LaneL w l gm pm L N Ng fg fp Φ) : ∃ D : DataW Value, w.ownsMap Try.prog 3 anyV pm L.length D ∧ Maps.size D = L.length ∧ (ids L).Perm (intKeys D) := by
  obtain ⟨D, hM, hs, hv⟩ := h.plc
  refine ⟨D, hM, hs, ?_⟩
  refine CollectedI.perm (left := fun _ => false) ⟨h.nodup, fun x => ?_⟩ hM keyed_int Try.underlying3 fun _ => rfl
  rw [(hv _).1, h.pl]
  cases ha : at_ L x with
  | none =>
    constructor
    · intro hx
      obtain ⟨y, hy, e⟩ := List.mem_map.1 hx
      exact absurd e (at_none.1 ha y hy)
    · rintro ⟨hx, _⟩
      cases hx
  | some y =>
    obtain ⟨hy, e⟩ := at_some ha
    exact ⟨fun _ => ⟨rfl, rfl⟩, fun _ => List.mem_map.2 ⟨y, hy, e⟩⟩
theorem Keys_any (pm : Nat) (w : World) : Calls Try.prog 30 #[.map (some pm)] w fun e w' => e = .returned (.func (.func 36) #[] #[.pointer (some ⟨w.heap.size, 0, none⟩)]) ∧ w' = w.alloc (.cells #[.map (some pm)] 52) :=
  callsIn_wide.1 (AnyZI.keys_in Try.mapKeys Fence.wide 6 trivial rfl (some pm) w)
theorem Collect_any {w : World} {Bm pm n : Nat} {D : DataW Value} (hB : Bm < w.heap.size) (hm : w.cell? ⟨Bm, 0, none⟩ = some (.map (some pm))) (hown : w.ownsMap Try.prog 3 anyV pm n D) (hn : Maps.size D < 1000000) :
    Calls Try.prog 35 #[.func (.func 36) #[] #[.pointer (some ⟨Bm, 0, none⟩)]] w fun e w' => ∃ (v : Value) (ss : List Int), e = .returned v ∧ ss.Perm (intKeys D) ∧ w'.ownsRow w.heap.size 3 1 v ss.length (ss.map (Value.int .i64)) ∧ (v = .slice none 0 0 ↔ ss = []) ∧ Below w.heap.size w w' :=
  callsIn_wide.1 (AnyZI.collect_in Try.collect Fence.wide 6 trivial trivial rfl (by omega) 36 #[.pointer (some ⟨Bm, 0, none⟩)] trivial (Try.keysIter.f10.enters rfl) (fun ss => ss.Perm (intKeys D)) (Maps.size D) (by unfold maxLen; omega) (by omega) w
    (AnyZI.keys_gives Try.keysIter Fence.wide (6 - 1 - 1) trivial rfl (by omega) Bm pm n D w hB hm hown))

set_option maxHeartbeats 1600000 in
set_option maxRecDepth 100000 in
theorem SortedF_any {w : World} {l gm pm N Ng Bm : Nat} {L : List Th} {fg fp : Lit → Option Value} {Φ : Nat → Prop} (h : LaneL w l gm pm L N Ng fg fp Φ) (hLn : L.length < 1000000) (hB : Bm < w.heap.size) (hm : w.cell? ⟨Bm, 0, none⟩ = some (.map (some pm))) :
    Calls Try.prog 29 #[.func (.func 36) #[] #[.pointer (some ⟨Bm, 0, none⟩)], .func (.func 31) #[.pointer (some ⟨l, 0, none⟩)] #[]] w (RowSaid (ids L) w) := by
  obtain ⟨D, hown, hsz, hperm⟩ := place_keys h
  have HCO := Lib.hid (Collect_any hB hm hown (by omega))
  have HSRT : Hid (∀ w2 A c n ss, n = List.length ss → ss.Perm (intKeys D) → w2.ownsRow w.heap.size 3 1 (.slice A n c) n (ss.map (Value.int .i64)) → Below w.heap.size w w2 → Calls Try.prog 32 #[.slice A n c, .func (.func 31) #[.pointer (some ⟨l, 0, none⟩)] #[]] w2 fun e w' => e = .returned (.tuple #[]) ∧ Hid (RowSaid (ids L) w (.returned (.slice A n c)) w')) := Lib.hid (by
    intro w2 A c n ss hn hp hrow hlow
    subst hn
    have hp2 : ss.Perm (ids L) := hp.trans hperm.symm
    have hpl := hp2.length_eq
    by_cases hz : ss.length = 0
    · obtain rfl : ss = [] := List.eq_nil_of_length_eq_zero hz
      have hH : ids L = [] := List.eq_nil_of_length_eq_zero (by rw [← hpl]; rfl)
      have hcon := AnyF.slices_SortFunc_none { Try.sortFunc with } A c (.func (.func 31) #[.pointer (some ⟨l, 0, none⟩)] #[]) w2
      change Calls Try.prog 32 _ _ _ at hcon
      refine hcon.mono ?_
      rintro e w' ⟨rfl, rfl⟩
      exact ⟨rfl, Lib.hid ⟨A, c, by rw [hH], by rw [hH]; exact hrow, hlow⟩⟩
    · obtain ⟨t0, ht0⟩ : ∃ t, t ∈ L := by
        cases hL0 : L with
        | nil => rw [hL0] at hpl; exact absurd hpl hz
        | cons t r => exact ⟨t, by simp⟩
      obtain ⟨rb, cap, e, hbl, _⟩ := hrow.form (by omega)
      obtain ⟨rfl, rfl⟩ : A = some ⟨rb, 0, none⟩ ∧ c = cap := by simpa using e
      have hidl : ∀ x ∈ ss, InL L x := fun x hx => by
        obtain ⟨y, hy, e⟩ := List.mem_map.1 (hp2.mem_iff.1 hx)
        exact ⟨y, hy, e⟩
      obtain ⟨xs, hxs⟩ : ∃ xs, ss.map (thOf L t0) = xs := ⟨_, rfl⟩
      have hxl : xs.length = ss.length := by rw [← hxs, List.length_map]
      have hxid : xs.map Th.id = ss := by
        rw [← hxs, List.map_map]
        apply List.ext_getElem (by simp)
        intro i h1 h2
        simp only [List.getElem_map, Function.comp]
        exact (thOf_spec t0 (hidl _ (List.getElem_mem h2))).2
      have hxp : xs.Perm L := by
        rw [← hxs]
        have h1 := hp2.map (thOf L t0)
        have h2 : (ids L).map (thOf L t0) = L := by
          unfold ids
          rw [List.map_map]
          apply List.ext_getElem (by simp)
          intro i h1 h2
          simp only [List.getElem_map, Function.comp]
          exact thOf_id t0 h.nodup (List.getElem_mem h2)
        rwa [h2] at h1
      have hOK : SortOK xs.length := sortN (by omega) (by have := hxp.length_eq; omega)
      have hΦ : ∀ k, k < w.heap.size → Φ k → (Φ k ∧ k < w.heap.size) := fun k hk hp => ⟨hp, hk⟩
      have h0 : LaneAt w l L N Φ := ⟨gm, pm, Ng, fg, fp, h⟩
      have h1 : LaneAt w2 l L N fun k => Φ k ∧ k < w.heap.size := (h0.mono hΦ).below hlow
      rw [← hxl] at hrow ⊢
      rw [← hxid] at hrow
      refine (hOK w2 l N L _ rb c xs h1 rfl (fun x hx => hxp.mem_iff.1 hx) (fun hp => by have := hp.2; omega) (own_base hrow (Nat.zero_le _))).mono ?_
      rintro e w' ⟨rfl, ys, hys, hso, how, hcg⟩
      have hye : ys = L := sorted_unique h.rise (List.Sublist.refl L) (hys.trans hxp) hso
      subst hye
      refine ⟨rfl, Lib.hid ⟨some ⟨rb, 0, none⟩, c, ?_, ?_, ?_⟩⟩
      · rw [show (ids ys).length = xs.length by rw [hxl, hpl]]
      · rw [show (ids ys).length = xs.length by rw [hxl, hpl]]
        exact own_up how fun g hg => by simp [Value.ownBlock] at hg; omega
      · exact hlow.trans (hcg.below hlow.size fun i hi => by omega))
  clear h hown hsz hperm hm hB hLn
  go_enter Try.func29, Try.ntmps29
  go_wp2_with (first
    | (go_at_call 35; go_fit HCO.out; rintro e w2 ⟨v, ss, rfl, hss, how, _, hbl⟩; obtain ⟨A, c, rfl⟩ := own_slice how; obtain ⟨n, hn⟩ : ∃ n, n = ss.length := ⟨_, rfl⟩; have HSC := Lib.hid (HSRT.out w2 A c n ss hn hss (by rw [hn]; exact how) hbl); rw [← hn]; clear hss how hbl hn)
    | (go_at_call 32; go_fit HSC.out; rintro e w3 HY; obtain rfl := HY.1; have HZ := HY.2; clear HY))
  go_ret
  exact HZ.out

set_option maxHeartbeats 800000 in
set_option maxRecDepth 100000 in
theorem All_any {w : World} {l N : Nat} {L : List Th} {Φ : Nat → Prop} (h : LaneAt w l L N Φ) (hLn : L.length < 1000000) :
    Calls Try.prog 17 #[.pointer (some ⟨l, 0, none⟩)] w (RowSaid (ids L) w) := by
  have hlt := h.lt
  obtain ⟨gm, pm, Ng, fg, fp, h⟩ := h
  obtain ⟨c0, c1, c2, _⟩ := three_cells h.blk
  have hb : Below w.heap.size w (w.alloc (.cells #[.map (some pm)] 52)) := (Below.refl _ _).alloc (Nat.le_refl _) _
  have HSF := Lib.hid (SortedF_any (h.below hb) hLn (Bm := w.heap.size) (by simp) (by simp))
  have HK := Lib.hid (Keys_any pm w)
  have HB := Lib.hid hb
  clear h hb hLn
  go_enter Try.func17, Try.ntmps17
  go_wp2_with (first
    | (go_at_call 30; go_fit HK.out; rintro e w2 ⟨rfl, rfl⟩)
    | (go_at_call 29; go_fit HSF.out; rintro e w3 HY; obtain ⟨A, c, rfl, how, hbl⟩ := HY; have HOW := Lib.hid how; have HBL := Lib.hid hbl; clear how hbl))
  go_ret
  exact ⟨A, c, rfl, own_up HOW.out fun g hg => by (have := HOW.out.2; rcases this with ⟨e, _⟩ | ⟨g', _, _, e, h1, _⟩ <;> (rw [e] at hg; simp [Value.ownBlock] at hg) <;> (subst hg; simp at h1; omega)), HB.out.trans (HBL.out.mono (by simp))⟩
end Go.Proofs.Yticmdeepfeiobaa
