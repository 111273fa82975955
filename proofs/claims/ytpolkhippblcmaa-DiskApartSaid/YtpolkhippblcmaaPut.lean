/- What is proved here: what 'put' does. -/
import Derived.Test.YtpolkhippblcmaaMut
import Derived.Deep.RegionHeld3
import Derived.Deep.RegionLaw
import Derived.Maps.OwnOps
namespace Go.Proofs.Ytpolkhippblcmaa
open Go Go.RowKit Go.Maps

set_option maxHeartbeats 800000 in
set_option maxRecDepth 100000 in
theorem put_any {w : World} {d m : Nat} {u0 u1 : Value} {L : List Fil} (hb : w.heap[d]? = some (.cells #[u0, u1, .map (some m)] 57 (0, 0))) (hm : DMap w m L) (hl : L.length ≤ 1000000) (x : Fil) (s : ByteArray) (hs : s.data.toList = x.nm) (hs2 : s.size ≤ 1000000) :
    Calls Try.prog 36 #[.pointer (some ⟨d, 0, none⟩), .string s, .pointer (some ⟨x.p, 0, none⟩)] w fun e w' => e = .returned (.tuple #[]) ∧ DMap w' m (putN Fil.nm x L) ∧ Chg (fun k => k = m) w w' := by
  obtain ⟨c0, c1, c2, _⟩ := three_cells hb
  have hd := lt_of_block hb
  have hkey : keyOf Try.prog 9 (.string s) = some (.string s.data.toList) := Go.WideMaps.keyOf_string_mk Try.underlying9 (by unfold maxLen; omega)
  have HCL : Hid (Calls Try.prog 43 #[.string s] w.drew fun e w' => ∃ w'', e = .returned (.string s) ∧ w'.cell? ⟨d, 2, none⟩ = some (.map (some m)) ∧
      (Instr.mapUpdate 55 (.map (some m)) (.string s) (.pointer (some ⟨x.p, 0, none⟩))).run Try.prog w' = .ok () w'' ∧ Hid (DMap w'' m (putN Fil.nm x L) ∧ Chg (fun k => k = m) w w'')) := Lib.hid ((sClone_any s w.drew hs2).mono (by
    rintro e w' ⟨rfl, h1⟩
    have h2 : Below w.heap.size w w' := (Below.refl w.heap.size w).drew.trans h1
    have h3 := hm.keep (Φ := fun _ => False) (Chg.of_below h2) id
    obtain ⟨w'', hrun, r1, r2⟩ := World.ownsMap.store h3 keyed_str Try.underlying55 (by unfold maxLen; omega) hkey (ptrElem_at x.p)
    refine ⟨w'', rfl, ?_, hrun, Lib.hid ?_⟩
    · rw [h2.cell (p := ⟨d, 2, none⟩) hd]
      exact c2
    · have h4 := ownsMap_tight r1
      rw [hs, dat_put, dat_size] at h4
      exact ⟨h4, (Chg.of_below h2).trans (Chg.of_turned r2) fun _ _ e => e⟩))
  clear hb hm hkey hs hs2 hl
  go_enter Try.func36, Try.ntmps36
  go_wp2_with fail
  go_region_with (go_at_call 43; refine HCL.out.mono ?_; rintro e w1 ⟨w2, rfl, hc1, hr1, HX⟩)
  all_goals
    go_end0
    exact ⟨rfl, HX.out⟩
end Go.Proofs.Ytpolkhippblcmaa
