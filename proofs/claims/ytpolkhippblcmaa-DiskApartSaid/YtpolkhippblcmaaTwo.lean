/- What is proved here: two disks, of which one is a copy: what happens to one of them does nothing to the other one. -/
import Derived.Test.YtpolkhippblcmaaFew
import Derived.Test.YtpolkhippblcmaaCopy
import Derived.Test.YtpolkhippblcmaaMoves
namespace Go.Proofs.Ytpolkhippblcmaa
open Go Go.RowKit Go.Maps

theorem DiskAt.rising {w : World} {d : Nat} {room : Int} {S : List RF} {Φ : Nat → Prop} (h : DiskAt w d room S Φ) : Rising RF.nm S := by
  obtain ⟨m, L, rfl, hD⟩ := h
  exact hD.srt.map (g := Fil.f) fil_name
theorem DiskAt.each {w : World} {d : Nat} {room : Int} {S : List RF} {Φ : Nat → Prop} (h : DiskAt w d room S Φ) : ∀ f ∈ S, f.s ≤ f.b.length ∧ f.nm.length ≤ 32 ∧ (∀ y ∈ f.b, 0 ≤ y ∧ y < 256) ∧ f.b.length ≤ 1048576 := by
  obtain ⟨m, L, rfl, hD⟩ := h
  intro f hf
  obtain ⟨x, hx, rfl⟩ := List.mem_map.1 hf
  have h1 := hD.file x hx
  have h3 := usedN_mem hf
  have h4 := hD.used
  have h5 := hD.rm
  exact ⟨h1.syn, h1.len, h1.byt, by omega⟩
theorem crash_twice {S : List RF} (h : ∀ f ∈ S, f.s ≤ f.b.length) (ks ks' : List Int) : crashF ks' (crashF ks S) = crashF ks S := by
  unfold crashF
  apply List.ext_getElem?
  intro i
  rw [List.getElem?_mapIdx, List.getElem?_mapIdx]
  cases hi : S[i]? with
  | none => rfl
  | some f =>
    simp only [Option.map_some, Option.some.injEq]
    have h1 := h f (List.mem_of_getElem? hi)
    have h2 := survN_le ks i f
    have hl : (crashRF ks i f).b.length = (crashRF ks i f).s := by
      show (f.b.take _).length = _
      rw [List.length_take]
      show min (f.s + survN ks i f) f.b.length = f.s + survN ks i f
      omega
    have h3 := survN_le ks' i (crashRF ks i f)
    have h4 : survN ks' i (crashRF ks i f) = 0 := by omega
    show cutRF (crashRF ks i f) ((crashRF ks i f).s + survN ks' i (crashRF ks i f)) = _
    rw [h4, Nat.add_zero]
    unfold cutRF
    rw [← hl, List.take_length, hl]
theorem crashF_find {S : List RF} (h : Rising RF.nm S) {k : Nat} {f : RF} (hf : S[k]? = some f) (ks : List Int) : findN (crashF ks S) f.nm = some (crashRF ks k f) := by
  have hr := crashTo_rising h ks S.length
  rw [crashTo_all] at hr
  have hm : crashRF ks k f ∈ crashF ks S := by
    refine List.mem_of_getElem? (i := k) ?_
    unfold crashF
    rw [List.getElem?_mapIdx, hf]
    rfl
  exact findN_some hr hm

theorem own_cap {w : World} {base e n c : Nat} {A : Option Addr} {xs : List Value} (h : w.ownsRow base e 1 (.slice A n c) n xs) : n ≤ c := by
  rcases h.2 with ⟨e1, e2⟩ | ⟨g, cap, cur, e1, _, _, e3, _⟩
  · omega
  · cases e1; exact e3
theorem below_draws {w w' : World} {B : Nat} (h : Below B w w') (q : Nat) : Below B w (w'.drewN q) := ⟨h.os, h.tape, h.output, h.size, h.block⟩

/-- Two disks: the second one lies in the blocks from N to M, the first one in none of these. -/
structure Two (w : World) (d d2 : Nat) (R : Int) (S1 S2 : List RF) (N M : Nat) (wi : World) : Prop where
  below : Below w.heap.size w wi
  one : DiskAt wi d R S1 fun k => w.heap.size ≤ k ∧ ¬ (N ≤ k ∧ k < M)
  two : DiskAt wi d2 R S2 fun k => N ≤ k ∧ k < M
  hN : w.heap.size ≤ N
  hM : M ≤ wi.heap.size

section
variable {w wi w' : World} {d d2 N M : Nat} {R : Int} {S S1 S2 : List RF}
theorem Two.later (h : Two w d d2 R S1 S2 N M wi) (hb : Below wi.heap.size wi w') : Two w d d2 R S1 S2 N M w' :=
  ⟨h.below.trans (hb.mono h.below.size), h.one.later hb, h.two.later hb, h.hN, Nat.le_trans h.hM hb.size⟩
theorem Two.drewN (h : Two w d d2 R S1 S2 N M wi) (q : Nat) : Two w d d2 R S1 S2 N M (wi.drewN q) :=
  ⟨⟨h.below.os, h.below.tape, h.below.output, h.below.size, h.below.block⟩, h.one.keep (Ψ := fun _ => False) (Chg.drewN wi q) fun _ _ => id, h.two.keep (Ψ := fun _ => False) (Chg.drewN wi q) fun _ _ => id, h.hN, h.hM⟩
theorem Two.copy (h : St w d R S wi) (hL : S.length ≤ 1000000) :
    Calls Try.prog 13 #[.pointer (some ⟨d, 0, none⟩)] wi fun e w' => ∃ d2, e = .returned (.pointer (some ⟨d2, 0, none⟩)) ∧ Two w d d2 R S S wi.heap.size w'.heap.size w' := by
  refine (Copy_any h.disk hL).mono ?_
  rintro e w' ⟨d2, rfl, hb, hD⟩
  exact ⟨d2, rfl, h.below.trans (hb.mono h.below.size), (h.tight.later hb).mono fun k _ hk => ⟨hk.1, by omega⟩, hD.mono fun k hk h1 => ⟨h1, hk⟩, h.below.size, Nat.le_refl _⟩
theorem Two.crash (h : Two w d d2 R S1 S2 N M wi) {w1 : World} (hb : Below wi.heap.size wi w1) (A : Option Addr) (n c : Nat) (ks : List Int) (hr : Rd w1 w1.heap.size .i64 A n c ks) (hA : ∀ b o, A = some ⟨b, o, none⟩ → 0 < n → b < w.heap.size ∨ wi.heap.size ≤ b)
    (hks : ∀ z ∈ ks, -9223372036854775808 ≤ z ∧ z ≤ 9223372036854775807) (hL : S1.length ≤ 1000000) :
    Calls Try.prog 20 #[.pointer (some ⟨d, 0, none⟩), .slice A n c] w1 fun e w' => e = .returned (.tuple #[]) ∧ Two w d d2 R (crashF ks S1) S2 N M w' := by
  have ht : DiskAt w1 d R S1 fun k => (w.heap.size ≤ k ∧ ¬ (N ≤ k ∧ k < M)) ∧ k < wi.heap.size := (h.one.mono fun k hk h1 => ⟨h1, hk⟩).later hb
  have hbw := h.below.trans (hb.mono h.below.size)
  have hs := hb.size
  have hM := h.hM
  refine (Crash_any ht A n c ks hr (fun b o e hn hc => ?_) hks hL).mono ?_
  · have := hA b o e hn
    omega
  rintro e w' ⟨rfl, h1, h2⟩
  have hs1 := h1.size
  exact ⟨rfl, hbw.trans (h1.below hbw.size fun _ hi => hi.1.1), h2.mono (fun k _ hk => by
    have hbs := hbw.size
    rcases hk with hk | hk
    · exact hk.1
    · have h3 := hk.1
      exact ⟨by omega, by omega⟩), (h.two.later hb).keep h1 fun k hk hc => hc.1.2 hk, h.hN, by omega⟩
theorem Two.read1 (h : Two w d d2 R S1 S2 N M wi) {s : ByteArray} (hs : s.size ≤ maxLen) {f : RF} (hf : findN S1 s.data.toList = some f) :
    Calls Try.prog 15 #[.pointer (some ⟨d, 0, none⟩), .string s] wi fun e w' => ∃ A c, e = .returned (.tuple #[.slice A f.b.length c, .int .i64 0]) ∧ w'.ownsRow wi.heap.size 5 1 (.slice A f.b.length c) f.b.length (f.b.map (Value.int .u8)) ∧ Below wi.heap.size wi w' := by
  refine (Read_any h.one s hs).mono ?_
  rintro e w' ⟨hb, h1⟩
  rw [hf] at h1
  rcases h1 with ⟨h1, _⟩ | ⟨f', A, c, h1, h3, h4⟩
  · cases h1
  · cases h1
    exact ⟨A, c, h3, h4, hb⟩
theorem Two.read2 (h : Two w d d2 R S1 S2 N M wi) {s : ByteArray} (hs : s.size ≤ maxLen) {f : RF} (hf : findN S2 s.data.toList = some f) :
    Calls Try.prog 15 #[.pointer (some ⟨d2, 0, none⟩), .string s] wi fun e w' => ∃ A c, e = .returned (.tuple #[.slice A f.b.length c, .int .i64 0]) ∧ w'.ownsRow wi.heap.size 5 1 (.slice A f.b.length c) f.b.length (f.b.map (Value.int .u8)) ∧ Below wi.heap.size wi w' := by
  refine (Read_any h.two s hs).mono ?_
  rintro e w' ⟨hb, h1⟩
  rw [hf] at h1
  rcases h1 with ⟨h1, _⟩ | ⟨f', A, c, h1, h3, h4⟩
  · cases h1
  · cases h1
    exact ⟨A, c, h3, h4, hb⟩
theorem Two.names1 (h : Two w d d2 R S1 S2 N M wi) (hL : S1.length ≤ 1000000) :
    Calls Try.prog 14 #[.pointer (some ⟨d, 0, none⟩)] wi (NamesSaid S1 wi) := Names_any h.one hL
theorem Two.names2 (h : Two w d d2 R S1 S2 N M wi) (hL : S2.length ≤ 1000000) :
    Calls Try.prog 14 #[.pointer (some ⟨d2, 0, none⟩)] wi (NamesSaid S2 wi) := Names_any h.two hL
end
end Go.Proofs.Ytpolkhippblcmaa
