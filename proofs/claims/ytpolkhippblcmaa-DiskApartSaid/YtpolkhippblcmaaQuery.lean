/- What is proved here: what the disk's Used, Loose, Read and New return. -/
import Derived.Test.YtpolkhippblcmaaSmall
namespace Go.Proofs.Ytpolkhippblcmaa
open Go Go.RowKit

/-- The file of a name. -/
def findN (S : List RF) (k : List UInt8) : Option RF := S.find? fun f => f.nm == k
theorem findN_map (L : List Fil) (k : List UInt8) : findN (L.map Fil.f) k = (L.find? fun x => x.nm == k).map Fil.f := by
  unfold findN
  rw [List.find?_map]
  rfl
theorem findN_none {S : List RF} {k : List UInt8} (h : findN S k = none) : ∀ f ∈ S, f.nm ≠ k := fun f hf => by
  simpa using List.find?_eq_none.1 h f hf
theorem findN_mem {S : List RF} {k : List UInt8} {f : RF} (h : findN S k = some f) : f ∈ S ∧ f.nm = k :=
  ⟨List.mem_of_find?_eq_some h, by simpa using List.find?_some h⟩
theorem findN_some {S : List RF} (h : Rising RF.nm S) {f : RF} (hf : f ∈ S) : findN S f.nm = some f := by
  cases e : findN S f.nm with
  | none => exact absurd rfl (findN_none e f hf)
  | some g => rw [h.one (findN_mem e).1 hf (findN_mem e).2]

section
variable {w : World} {d m : Nat} {room : Int} {L : List Fil} {Φ : Nat → Prop}
/-- There is a file of that name, or there is none. -/
theorem DiskL.cases (_h : DiskL w d m room L Φ) (k : List UInt8) :
    (findN (L.map Fil.f) k = none ∧ ptrTo L k = .pointer none ∧ ∀ x ∈ L, x.nm ≠ k) ∨
    ∃ x ∈ L, x.nm = k ∧ findN (L.map Fil.f) k = some x.f ∧ ptrTo L k = .pointer (some ⟨x.p, 0, none⟩) := by
  rw [findN_map]
  cases e : L.find? (fun x => x.nm == k) with
  | none =>
    refine .inl ⟨rfl, by unfold ptrTo; rw [e], fun x hx => by simpa using List.find?_eq_none.1 e x hx⟩
  | some x => exact .inr ⟨x, List.mem_of_find?_eq_some e, by simpa using List.find?_some e, rfl, by unfold ptrTo; rw [e]⟩
end

theorem Used_any {w : World} {d : Nat} {room : Int} {S : List RF} {Φ : Nat → Prop} (h : DiskAt w d room S Φ) :
    Calls Try.prog 21 #[.pointer (some ⟨d, 0, none⟩)] w fun e w' => e = .returned (.int .i64 (usedN S)) ∧ w = w' := by
  obtain ⟨m, L, rfl, h⟩ := h
  obtain ⟨c0, c1, c2, _⟩ := three_cells h.blk
  clear h
  go_enter Try.func21, Try.ntmps21
  go_wp2
  go_ret
  exact ⟨rfl, rfl⟩

def looseF (S : List RF) (k : List UInt8) : Nat := match findN S k with | some f => f.b.length - f.s | none => 0

set_option maxHeartbeats 400000 in
theorem Loose_any {w : World} {d : Nat} {room : Int} {S : List RF} {Φ : Nat → Prop} (h : DiskAt w d room S Φ) (s : ByteArray) (hs : s.size ≤ maxLen) :
    Calls Try.prog 17 #[.pointer (some ⟨d, 0, none⟩), .string s] w fun e w' => e = .returned (.int .i64 (looseF S s.data.toList)) ∧ ∃ n, w' = w.drewN n := by
  obtain ⟨m, L, rfl, h⟩ := h
  obtain ⟨c0, c1, c2, _⟩ := three_cells h.blk
  have hlk := h.map.look s hs
  rcases h.cases s.data.toList with ⟨h1, h2, _⟩ | ⟨x, hx, _, h1, h2⟩
  · have HF : Hid (looseF (L.map Fil.f) s.data.toList = 0) := Lib.hid (by unfold looseF; rw [h1])
    rw [h2] at hlk
    clear h h1 h2
    go_enter Try.func17, Try.ntmps17
    go_wp2
    go_ret
    exact ⟨by rw [HF.out]; rfl, 0, rfl⟩
  · have HF : Hid (looseF (L.map Fil.f) s.data.toList = x.f.b.length - x.f.s) := Lib.hid (by unfold looseF; rw [h1])
    have hl := loose_any x w (h.file x hx)
    rw [h2] at hlk
    have HL := Lib.hid hl
    clear h h1 h2 hx hl
    go_enter Try.func17, Try.ntmps17
    go_wp2_with (go_at_call 34; refine HL.out.mono ?_; rintro e w1 ⟨rfl, q, rfl⟩)
    go_ret
    exact ⟨by rw [HF.out]; rfl, q, rfl⟩

/-- What Read returns. -/
def ReadSaid (S : List RF) (k : List UInt8) (w : World) (e : Ending) (w' : World) : Prop :=
  Below w.heap.size w w' ∧ ((findN S k = none ∧ e = .returned (.tuple #[.slice none 0 0, .int .i64 6])) ∨
    ∃ f A c, findN S k = some f ∧ e = .returned (.tuple #[.slice A f.b.length c, .int .i64 0]) ∧ w'.ownsRow w.heap.size 5 1 (.slice A f.b.length c) f.b.length (f.b.map (Value.int .u8)))

theorem FileAt.rd {w : World} {x : Fil} (h : FileAt w x) : ∃ A c, x.v = .slice A x.f.b.length c ∧ Rd w w.heap.size .u8 A x.f.b.length c x.f.b := Rd.of_own h.own

set_option maxHeartbeats 400000 in
theorem Read_any {w : World} {d : Nat} {room : Int} {S : List RF} {Φ : Nat → Prop} (h : DiskAt w d room S Φ) (s : ByteArray) (hs : s.size ≤ maxLen) :
    Calls Try.prog 15 #[.pointer (some ⟨d, 0, none⟩), .string s] w (ReadSaid S s.data.toList w) := by
  obtain ⟨m, L, rfl, h⟩ := h
  obtain ⟨c0, c1, c2, _⟩ := three_cells h.blk
  have hlk := h.map.look s hs
  rcases h.cases s.data.toList with ⟨h1, h2, _⟩ | ⟨x, hx, _, h1, h2⟩
  · have HF : ∀ e, e = .returned (.tuple #[.slice none 0 0, .int .i64 6]) → ReadSaid (L.map Fil.f) s.data.toList w e w := fun e he => ⟨Below.refl _ _, .inl ⟨h1, he⟩⟩
    have HF' := Lib.hid HF
    rw [h2] at hlk
    clear h h1 h2 HF
    go_enter Try.func15, Try.ntmps15
    go_wp2
    go_ret2
    exact HF'.out _ rfl
  · have hf := h.file x hx
    obtain ⟨A, c, hv, hr⟩ := hf.rd
    obtain ⟨q0, _⟩ := two_cells hf.blk
    rw [hv] at q0
    have hbig : x.f.b.length ≤ 2000000 := by
      have h3 := usedN_mem (List.mem_map_of_mem (f := Fil.f) hx)
      have h4 := h.used
      have h5 := h.rm
      omega
    have hcl := Clone_sl _ _ _ _ _ hr hbig
    have HF : ∀ e w1, (∃ A' c', e = .returned (.tuple #[.slice A' x.f.b.length c', .int .i64 0]) ∧ w1.ownsRow w.heap.size 5 1 (.slice A' x.f.b.length c') x.f.b.length (x.f.b.map (Value.int .u8)) ∧ Below w.heap.size w w1) → ReadSaid (L.map Fil.f) s.data.toList w e w1 := by
      rintro e w1 ⟨A', c', he, ho, hb⟩
      exact ⟨hb, .inr ⟨x.f, A', c', h1, he, ho⟩⟩
    have HF' := Lib.hid HF
    have HCL := Lib.hid hcl
    rw [h2] at hlk
    generalize x.f.b.length = N at *
    clear h h1 h2 HF hcl hf hr hv hx
    go_enter Try.func15, Try.ntmps15
    go_wp2_with (go_at_call 31; refine HCL.out.mono ?_; rintro e w1 ⟨A', c', rfl, ho, hb⟩)
    go_ret2
    exact HF'.out _ _ ⟨A', c', rfl, ho, hb⟩

theorem New_math (w : World) (room : Int) (h : 0 ≤ room ∧ room ≤ 1048576) :
    DiskAt ((w.alloc (.map #[] 0)).alloc (.cells #[.int .i64 room, .int .i64 0, .map (some w.heap.size)] 57)) (w.heap.size + 1) room [] (fun k => w.heap.size ≤ k ∧ k < w.heap.size + 2) := by
  refine ⟨w.heap.size, [], rfl, ?_, ?_, ?_, List.Pairwise.nil, List.Pairwise.nil, h, ?_, ?_⟩
  · have := heap_alloc_new (w.alloc (.map #[] 0)) (.cells #[.int .i64 room, .int .i64 0, .map (some w.heap.size)] 57)
    simpa [usedN] using this
  · exact (World.ownsMap_made w Try.prog 9 ptrElem).alloc _
  · intro x hx; cases hx
  · simpa [usedN] using h.1
  · exact ⟨by omega, by omega, fun x hx => by cases hx⟩

def clampR (n : Int) : Int := min (max n 0) 1048576
theorem clampR_in (n : Int) : 0 ≤ clampR n ∧ clampR n ≤ 1048576 := by unfold clampR; omega
set_option maxHeartbeats 400000 in
theorem New_any (n : Int) (w : World) :
    Calls Try.prog 8 #[.int .i64 n] w fun e w' => e = .returned (.pointer (some ⟨w.heap.size + 1, 0, none⟩)) ∧ Below w.heap.size w w' ∧ w'.heap.size = w.heap.size + 2 ∧
      DiskAt w' (w.heap.size + 1) (clampR n) [] (fun k => w.heap.size ≤ k ∧ k < w.heap.size + 2) := by
  have HM := Lib.hid (New_math w (clampR n) (clampR_in n))
  have hmm := @run_makeMap Try.prog
  go_enter Try.func8, Try.ntmps8
  go_wp2
  go_ret
  refine ⟨by simp, ((Below.refl _ _).alloc (Nat.le_refl _) _).alloc (by simp) _, by simp, ?_⟩
  have := HM.out
  unfold clampR at this ⊢
  simpa using this
end Go.Proofs.Ytpolkhippblcmaa
