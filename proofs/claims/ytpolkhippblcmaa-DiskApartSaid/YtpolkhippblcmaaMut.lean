/- What is proved here: what becomes of a disk when one of its files is written, and what the methods that write return. -/
import Derived.Test.YtpolkhippblcmaaQuery
import Derived.RegionTactic
import Derived.ChangeAlike
import Derived.IntWalk
namespace Go.Proofs.Ytpolkhippblcmaa
open Go Go.RowKit

/-- What speaks of a disk's blocks goes on to speak of them, and of all new ones. -/
def grow (Φ : Nat → Prop) (w w' : World) (k : Nat) : Prop := Φ k ∨ (w.heap.size ≤ k ∧ k < w'.heap.size)
/-- Of a disk all but one file's blocks, and its own, stay. -/
def foot (d : Nat) (x : Fil) (k : Nat) : Prop := k = d ∨ k = x.p ∨ x.v.ownBlock = some k

section
variable {w w' : World} {d m : Nat} {room : Int} {L : List Fil} {Φ : Nat → Prop}
theorem fil_name (x : Fil) : RF.nm (Fil.f x) = Fil.nm x := rfl
theorem DiskL.touch (h : DiskL w d m room L Φ) {x x' : Fil} (hx : x ∈ L) (hp : x'.p = x.p) (hn : x'.f.nm = x.f.nm) (hc : Chg (foot d x) w w') {U : Nat}
    (hd : w'.heap[d]? = some (.cells #[.int .i64 room, .int .i64 U, .map (some m)] 57 (0, 0)))
    (hU : U + x.f.b.length = usedN (L.map Fil.f) + x'.f.b.length) (hf : FileAt w' x')
    (hv : ∀ g, x'.v.ownBlock = some g → x.v.ownBlock = some g ∨ (w.heap.size ≤ g ∧ g < w'.heap.size)) (hu : (U : Int) ≤ room) :
    DiskL w' d m room (putN Fil.nm x' L) (grow Φ w w') := by
  have hnm : x.nm = x'.nm := hn.symm
  have hrep := putN_replace h.srt hx hnm
  have huse : usedN ((putN Fil.nm x' L).map Fil.f) = U := by
    rw [map_putN fil_name]
    have := usedN_put (h.srt.map (g := Fil.f) fil_name) (List.mem_map_of_mem (f := Fil.f) hx) (y := x'.f) hnm
    omega
  have hone : ∀ z ∈ L, z.nm = x'.nm → z = x := fun z hz e => h.srt.one hz hx (e.trans hn)
  have hm_foot : ¬ foot d x m := by
    rintro (e | e | e)
    · exact h.m_d e
    · exact h.m_p hx e.symm
    · exact h.v_m hx e
  have hother : ∀ y ∈ L, y.nm ≠ x'.nm → Apart x y ∧ ¬ foot d x y.p ∧ ∀ g, y.v.ownBlock = some g → ¬ foot d x g := fun y hy hne => by
    have hap := h.two hx hy (fun e => hne (e.symm.trans hnm))
    refine ⟨hap, ?_, fun g hg => ?_⟩
    · rintro (e | e | e)
      · exact h.d_p hy e
      · exact hap.1 e.symm
      · exact h.v_p hx hy e
    · rintro (e | e | e)
      · exact h.v_d hy (by rw [hg, e])
      · exact h.v_p hy hx (by rw [hg, e])
      · exact hap.2 g e hg
  refine ⟨?_, ?_, fun y hy => ?_, h.srt.putN x', ?_, h.rm, ?_, .inl h.inn.1, .inl h.inn.2.1, fun y hy => ?_⟩
  · rw [huse]; exact hd
  · have e1 : datOf (putN Fil.nm x' L) = datOf L := by
      unfold datOf
      rw [hrep, List.map_map]
      congr 1
      apply List.map_congr_left
      intro z hz
      show entryOf (if z.nm == x'.nm then x' else z) = entryOf z
      split
      · rename_i e
        rw [hone z hz (by simpa using e)]
        unfold entryOf
        rw [hp]
        show (Lit.string x'.f.nm, _) = (Lit.string x.f.nm, _)
        rw [hn]
      · rfl
    have e2 : (putN Fil.nm x' L).length = L.length := by rw [hrep, List.length_map]
    show w'.ownsMap _ _ _ _ _ _
    rw [e1, e2]
    exact h.map.keep hc hm_foot
  · rcases mem_putN.1 hy with rfl | ⟨hy, hne⟩
    · exact hf
    · obtain ⟨_, h1, h2⟩ := hother y hy hne
      exact (h.file y hy).keep hc h1 h2
  · rw [hrep]
    refine List.pairwise_map.2 ((List.Pairwise.and h.srt h.apart).imp_of_mem fun {a b} ha hb hab => ?_)
    obtain ⟨hab1, hab2⟩ := hab
    have hne : a.nm ≠ b.nm := fun e => by rw [e, WideAt.bytes_irrefl] at hab1; cases hab1
    have key : ∀ z ∈ L, z.nm ≠ x'.nm → Apart x' z := fun z hz hz2 => by
      obtain ⟨h1, _, _⟩ := hother z hz hz2
      refine ⟨by rw [hp]; exact h1.1, fun g hg e => ?_⟩
      rcases hv g hg with h3 | h3
      · exact h1.2 g h3 e
      · have := ((h.file z hz).own.lt g e).2
        omega
    by_cases h1 : a.nm = x'.nm
    · have h2 : b.nm ≠ x'.nm := fun e => hne (h1.trans e.symm)
      rw [if_pos (by simp [h1]), if_neg (by simp [h2])]
      exact key b hb h2
    · by_cases h2 : b.nm = x'.nm
      · rw [if_neg (by simp [h1]), if_pos (by simp [h2])]
        exact (key a ha h1).symm
      · rw [if_neg (by simp [h1]), if_neg (by simp [h2])]
        exact hab2
  · rw [huse]; exact hu
  · rcases mem_putN.1 hy with rfl | ⟨hy, _⟩
    · refine ⟨.inl (by rw [hp]; exact (h.inn.2.2 x hx).1), fun g hg => ?_⟩
      rcases hv g hg with h3 | h3
      · exact .inl ((h.inn.2.2 x hx).2 g h3)
      · exact .inr h3
    · exact ⟨.inl (h.inn.2.2 y hy).1, fun g hg => .inl ((h.inn.2.2 y hy).2 g hg)⟩
end

section
variable {w : World} {x : Fil}
theorem FileAt.set (h : FileAt w x) {d : Nat} (hp : x.p ≠ d) (hv : x.v.ownBlock ≠ some d) (i : Nat) (u : Value) : FileAt (w.setCell ⟨d, i, none⟩ u) x :=
  h.keep (Chg.set w d i u) hp fun _ hg e => hv (by rw [hg, e])
theorem FileAt.drew (h : FileAt w x) : FileAt w.drew x := h.keep (Φ := fun _ => False) (Chg.drew w) id fun _ _ => id
end

/-- What is a file's with its first n bytes, all synced. -/
def cutRF (f : RF) (n : Nat) : RF := ⟨f.nm, f.b.take n, n⟩
def ShortSaid (d m : Nat) (room : Int) (L : List Fil) (Φ : Nat → Prop) (x : Fil) (n : Nat) (w : World) (e : Ending) (w' : World) : Prop :=
  e = .returned (.tuple #[]) ∧ Chg (foot d x) w w' ∧ ∃ x' : Fil, x'.p = x.p ∧ x'.f = cutRF x.f n ∧ DiskL w' d m room (putN Fil.nm x' L) (grow Φ w w')

set_option maxHeartbeats 800000 in
set_option maxRecDepth 100000 in
theorem shorten_any {w : World} {d m : Nat} {room : Int} {L : List Fil} {Φ : Nat → Prop} (h : DiskL w d m room L Φ) {x : Fil} (hx : x ∈ L) (n : Nat) (hn : n ≤ x.f.b.length) :
    Calls Try.prog 38 #[.pointer (some ⟨d, 0, none⟩), .pointer (some ⟨x.p, 0, none⟩), .int .i64 n] w (ShortSaid d m room L Φ x n w) := by
  have hf := h.file x hx
  obtain ⟨A, c, hv, hr⟩ := hf.rd
  obtain ⟨q0, _⟩ := two_cells hf.blk
  obtain ⟨c0, c1, c2, f0, f1, f2⟩ := three_cells h.blk
  rw [hv] at q0
  have h3 := usedN_mem (List.mem_map_of_mem (f := Fil.f) hx)
  have h4 := h.used
  have h5 := h.rm
  have hbig : x.f.b.length ≤ 2000000 := by omega
  have hdp := h.d_p hx
  have hvd := h.v_d hx
  obtain ⟨U, hU⟩ : ∃ U, U = usedN (L.map Fil.f) - (x.f.b.length - n) := ⟨_, rfl⟩
  have HU : Hid ((usedN (L.map Fil.f) : Int) - ((x.f.b.length : Int) - (n : Int)) = (U : Int)) := Lib.hid (by omega)
  have hW := h.blk
  have HK := Lib.hid fun (W : World) (hW : FileAt W x) => keep_any x n W hW hn hbig
  have hmid : FileAt ((w.setCell ⟨d, 1, none⟩ (.int .i64 U)).drew) x := (hf.set hdp hvd 1 _).drew
  have hend : ∀ w2 v, Chg (fun k => k = x.p) (w.setCell ⟨d, 1, none⟩ (.int .i64 U)).drew w2 → w2.heap[x.p]? = some (.cells #[v, .int .i64 x.f.s] 69 (0, 0)) →
      w2.ownsRow 0 5 1 v n ((x.f.b.take n).map (Value.int .u8)) → (∀ g, v.ownBlock = some g → x.v.ownBlock = some g ∨ ((w.setCell ⟨d, 1, none⟩ (.int .i64 U)).drew.heap.size ≤ g ∧ g < w2.heap.size)) →
      ShortSaid d m room L Φ x n w (.returned (.tuple #[])) (w2.setCell ⟨x.p, 1, none⟩ (.int .i64 n)) := by
    intro w2 v hc2 hb2 ho2 hv2
    have hc1 : Chg (fun k => k = d) w (w.setCell ⟨d, 1, none⟩ (.int .i64 U)).drew := (Chg.set w d 1 _).trans (Chg.drew (Φ := fun k => k = d) _) fun _ _ e => e
    have hc3 := Chg.set w2 x.p 1 (.int .i64 (n : Int))
    have hcc : Chg (foot d x) w (w2.setCell ⟨x.p, 1, none⟩ (.int .i64 n)) := by
      refine Chg.trans (Φ := foot d x) (Chg.trans (Φ := foot d x) (hc1.mono fun i _ e => .inl e) hc2 fun i _ e => .inr (.inl e)) hc3 fun i _ e => .inr (.inl e)
    have hsz : w.heap.size = (w.setCell ⟨d, 1, none⟩ (.int .i64 (U : Int))).drew.heap.size := by simp [World.setCell, World.drew]
    have hl : (x.f.b.take n).length = n := by rw [List.length_take]; omega
    have hvp : v.ownBlock ≠ some x.p := fun e => by
      rcases ho2.2 with ⟨e2, _⟩ | ⟨g', _, cur, e2, _, hg', _⟩
      · rw [e2] at e; cases e
      · rw [e2] at e
        obtain rfl : g' = x.p := by simpa [Value.ownBlock] using e
        rw [hb2] at hg'
        simp at hg'
    have ho3 := hc3.own ho2 fun g hg e => hvp (by rw [hg, e])
    refine ⟨rfl, hcc, ⟨cutRF x.f n, x.p, v⟩, rfl, rfl, ?_⟩
    refine h.touch hx rfl rfl hcc (U := U) ?_ ?_ ⟨two_set1 hb2 _, ?_, ?_, fun y hy => hf.byt y (List.mem_of_mem_take hy), hf.len⟩ (fun g hg => ?_) (by omega)
    · have a1 := three_set1 hW (.int .i64 (U : Int))
      exact hc3.heap (hc2.heap (k := d) a1 fun e => hdp e.symm) fun e => hdp e.symm
    · show U + _ = _ + (x.f.b.take n).length
      omega
    · show (w2.setCell _ _).ownsRow 0 _ 1 v (x.f.b.take n).length ((x.f.b.take n).map _)
      rw [hl]; exact ho3
    · show n ≤ (x.f.b.take n).length
      omega
    · rcases hv2 g hg with e | e
      · exact .inl e
      · refine .inr ⟨by omega, ?_⟩
        simp [World.setCell]
        exact e.2
  have HE := Lib.hid hend
  have HMID := Lib.hid hmid
  have hc := hr.cap
  have hm := hr.max
  unfold maxLen at hm
  generalize usedN (L.map Fil.f) = V at *
  generalize x.f.b.length = N at *
  clear hf hr hend hmid hU hW
  go_enter Try.func38, Try.ntmps38
  go_wp2_with fail
  have hu : (U : Int) ≤ 9223372036854775807 ∧ (0 : Int) ≤ (U : Int) := by have := HU.out; omega
  obtain ⟨hw1, hw2⟩ : IntKind.i64.wrap ((N : Int) - (n : Int)) = (N : Int) - (n : Int) ∧ IntKind.i64.wrap ((V : Int) - ((N : Int) - (n : Int))) = (U : Int) := ⟨IntWalk.i64_in _ (by omega), by rw [HU.out]; exact IntWalk.i64_in _ (by omega)⟩
  go_still_tail 14, (by kernel_rfl)
  change wpList _ _ _ _ _ w.drew
  clear hw1 hw2
  go_wp2_with (first
    | (go_at_call 44; refine (HK.out _ HMID.out).mono ?_; rintro e w2 ⟨rfl, hc2, v, hb2, ho2, hv2⟩; have HX := Lib.hid (HE.out w2 v hc2 hb2 ho2 hv2); have HB2 := Lib.hid hb2; have HO2 := Lib.hid ho2; clear hc2 hb2 ho2 hv2)
    | (go_at_call 37; refine (sync_any _ _ _ _ _ _ HB2.out HO2.out).mono ?_; rintro e w3 ⟨rfl, rfl⟩))
  go_end0
  exact HX.out
end Go.Proofs.Ytpolkhippblcmaa
