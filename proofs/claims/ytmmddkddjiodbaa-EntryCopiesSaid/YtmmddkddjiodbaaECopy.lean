/- What is proved here: a log's Copy. -/
import Derived.Test.YtmmddkddjiodbaaETerm
namespace Go.Proofs.Ytmmddkddjiodbaa
open Go Go.RowKit Go.Maps Go.WideMaps

section
variable {w : World} {b : Nat} {B T : Int} {L : List En} {Φ : Nat → Prop}
/-- What Copy returns. -/
def CopySaid (B T : Int) (L : List En) (w : World) (e : Ending) (w' : World) : Prop :=
  ∃ b', e = .returned (.pointer (some ⟨b', 0, none⟩)) ∧ LogAt w' b' B T L (fun k => w.heap.size ≤ k ∧ k < w'.heap.size) ∧ Below w.heap.size w w'
set_option maxHeartbeats 1600000 in
set_option maxRecDepth 100000 in
theorem Copy_any (h : LogAt w b B T L Φ) (hL : L.length < 1000000) :
    Calls Try.prog 13 #[.pointer (some ⟨b, 0, none⟩)] w (CopySaid B T L w) := by
  obtain ⟨A, n, c, h⟩ := h
  obtain ⟨c0, c1, c2⟩ := h.cells
  have hbl : b < w.heap.size := h.bnd b h.own
  have hn := h.len
  have HK : Hid (∀ V, Below w.heap.size w V → V.cell? ⟨b, 0, none⟩ = some (.int .i64 B) ∧ V.cell? ⟨b, 1, none⟩ = some (.int .i64 T) ∧ V.cell? ⟨b, 2, none⟩ = some (.slice A n c) ∧ Below w.heap.size w V) := Lib.hid fun V hb => ⟨(hb.cell (p := ⟨b, 0, none⟩) hbl).trans c0, (hb.cell (p := ⟨b, 1, none⟩) hbl).trans c1, (hb.cell (p := ⟨b, 2, none⟩) hbl).trans c2, hb⟩
  have HC : Hid (∀ V, Below w.heap.size w V → Calls Try.prog 28 #[.slice A n c] V fun e w' => ∃ A' c', e = .returned (.slice A' n c') ∧ w'.cell? ⟨b, 0, none⟩ = some (.int .i64 B) ∧ w'.cell? ⟨b, 1, none⟩ = some (.int .i64 T) ∧ w'.cell? ⟨b, 2, none⟩ = some (.slice A n c) ∧ Below w.heap.size w w' ∧ Hid (w'.ownsRow w.heap.size 36 2 (.slice A' n c') n (L.flatMap enC))) := Lib.hid fun V hb => (Clone_any (h.srd.below hb) (by omega)).mono (by
    rintro e w' ⟨A', c', rfl, ho, hb2⟩
    rw [hn] at ho ⊢
    have hb3 := hb.trans (hb2.mono hb.size)
    exact ⟨A', c', rfl, (hb3.cell (p := ⟨b, 0, none⟩) hbl).trans c0, (hb3.cell (p := ⟨b, 1, none⟩) hbl).trans c1, (hb3.cell (p := ⟨b, 2, none⟩) hbl).trans c2, hb3, Lib.hid (own_base ho hb.size)⟩)
  have HEND : Hid (∀ V2 A' c', Below w.heap.size w V2 → V2.ownsRow w.heap.size 36 2 (.slice A' n c') n (L.flatMap enC) → CopySaid B T L w (.returned (.pointer (some ⟨V2.heap.size, 0, none⟩))) (V2.alloc (.cells #[.int .i64 B, .int .i64 T, .slice A' n c'] 62))) := Lib.hid fun V2 A' c' hb ho => by
    refine ⟨_, rfl, ⟨A', n, c', heap_alloc_new _ _, OffRow.of_own (ho.alloc _), hn, fun ad had => ?_, ⟨hb.size, by simp⟩, fun k hk => hk.2⟩, hb.alloc hb.size _⟩
    subst had
    have := ho.lt ad.block rfl
    exact ⟨by omega, this.1, by simp; omega⟩
  have HB0 : Hid (Below w.heap.size w w.drew) := Lib.hid (Below.refl _ _).drew
  clear h hn
  go_enter Try.func13, Try.ntmps13
  go_wp2_with fail
  go_region_held3 (fun w' => w'.cell? ⟨b, 0, none⟩ = some (.int .i64 B) ∧ w'.cell? ⟨b, 1, none⟩ = some (.int .i64 T) ∧ w'.cell? ⟨b, 2, none⟩ = some (.slice A n c) ∧ Below w.heap.size w w')
    (first | exact ⟨by assumption, by assumption, by assumption, by assumption⟩ | exact HK.out _ (hbA.alloc hbA.size _) | exact ⟨c0, c1, c2, HB0.out⟩)
    ((go_at_call 28; refine (HC.out _ (by first | assumption | exact HB0.out)).mono ?_; rintro e wA ⟨A', c', rfl, p0, p1, p2, hbA, HA⟩))
  go_wp2_with fail
  go_ret
  exact HEND.out wA A' c' hbA HA.out

end
end Go.Proofs.Ytmmddkddjiodbaa
