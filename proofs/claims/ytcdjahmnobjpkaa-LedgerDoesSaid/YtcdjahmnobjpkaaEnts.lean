/- What is proved here: plain facts on entries: each a key, a value, and a time; a row of them that rises by the keys. -/
import Derived.Test.YtcdjahmnobjpkaaBase
import Derived.Test.YtcdjahmnobjpkaaList
import Derived.Test.YtcdjahmnobjpkaaMapV
namespace Go.Proofs.Ytcdjahmnobjpkaa
open Go

structure En where
  k : ByteArray
  v : Value
  t : Int
def En.nm (x : En) : List UInt8 := x.k.data.toList
def findE (L : List En) (s : ByteArray) : Option En := L.find? fun x => decide (x.k = s)
def dropE (L : List En) (s : ByteArray) : List En := delN En.nm s.data.toList L
def putE (L : List En) (x : En) : List En := putN En.nm x L
def valE (x : En) : Value := .agg #[x.v, .int .i64 x.t]
def strK (s : ByteArray) : Lit := .string s.data.toList
theorem data_inj {s t : ByteArray} (h : s.data.toList = t.data.toList) : s = t := by
  have h2 : s.data = t.data := by
    rw [← Array.toArray_toList (xs := s.data), h, Array.toArray_toList]
  cases s
  cases t
  exact congrArg ByteArray.mk h2
theorem strK_inj {s t : ByteArray} (h : strK s = strK t) : s = t := by
  unfold strK at h
  exact data_inj (Lit.string.inj h)
theorem str_eq (a b : ByteArray) : (a.toList == b.toList) = decide (a = b) := by
  have e : ∀ x y : ByteArray, x.toList = y.toList ↔ x = y := fun x y => by
    rw [ByteArray.toList_eq, ByteArray.toList_eq]
    exact ⟨fun h => data_inj h, fun h => by rw [h]⟩
  rw [Bool.eq_iff_iff]
  simp [e]
theorem nm_eq {x : En} {s : ByteArray} : x.nm = s.data.toList ↔ x.k = s := ⟨fun h => data_inj h, fun h => by rw [← h]; rfl⟩

theorem findE_none {L : List En} {s : ByteArray} : findE L s = none ↔ ∀ x ∈ L, x.k ≠ s := by simp [findE, List.find?_eq_none]
theorem findE_some {L : List En} {s : ByteArray} {x : En} (h : findE L s = some x) : x ∈ L ∧ x.k = s := by
  have h1 := List.mem_of_find?_eq_some h
  have h2 := List.find?_some h
  exact ⟨h1, by simpa using h2⟩
theorem findE_mem {L : List En} (hR : Rising En.nm L) {x : En} (hx : x ∈ L) : findE L x.k = some x := by
  cases h : findE L x.k with
  | none => exact absurd rfl (findE_none.1 h x hx)
  | some y =>
    obtain ⟨h1, h2⟩ := findE_some h
    rw [hR.one h1 hx (by unfold En.nm; rw [h2])]
theorem rise_nodup {L : List En} (hR : Rising En.nm L) : L.Nodup := hR.imp fun {a b} hab e => by
  rw [e, WideAt.bytes_irrefl] at hab
  cases hab
theorem rise_put {L : List En} (hR : Rising En.nm L) (x : En) : Rising En.nm (putE L x) := hR.putN x
theorem rise_drop {L : List En} (hR : Rising En.nm L) (s : ByteArray) : Rising En.nm (dropE L s) := hR.delN _
theorem mem_put {L : List En} {x y : En} : y ∈ putE L x ↔ y = x ∨ (y ∈ L ∧ y.k ≠ x.k) := by
  unfold putE
  rw [mem_putN]
  exact or_congr Iff.rfl (and_congr Iff.rfl (not_congr (nm_eq (s := x.k))))
theorem mem_drop {L : List En} {s : ByteArray} {y : En} : y ∈ dropE L s ↔ y ∈ L ∧ y.k ≠ s := by
  unfold dropE
  rw [mem_delN]
  exact and_congr Iff.rfl (not_congr nm_eq)
theorem find_put_same {L : List En} (hR : Rising En.nm L) (x : En) : findE (putE L x) x.k = some x := findE_mem (rise_put hR x) (mem_put.2 (.inl rfl))
theorem find_put_other {L : List En} (hR : Rising En.nm L) {x : En} {s : ByteArray} (h : s ≠ x.k) : findE (putE L x) s = findE L s := by
  cases h2 : findE L s with
  | none =>
    rw [findE_none] at h2 ⊢
    intro y hy
    rcases mem_put.1 hy with rfl | ⟨hy, _⟩
    · exact fun e => h e.symm
    · exact h2 y hy
  | some y =>
    obtain ⟨hy, rfl⟩ := findE_some h2
    exact findE_mem (rise_put hR x) (mem_put.2 (.inr ⟨hy, h⟩))
theorem find_drop_same (L : List En) (s : ByteArray) : findE (dropE L s) s = none := findE_none.2 fun _ hy => (mem_drop.1 hy).2
theorem find_drop_other {L : List En} (hR : Rising En.nm L) {s t : ByteArray} (h : t ≠ s) : findE (dropE L s) t = findE L t := by
  cases h2 : findE L t with
  | none =>
    rw [findE_none] at h2 ⊢
    exact fun y hy => h2 y (mem_drop.1 hy).1
  | some y =>
    obtain ⟨hy, rfl⟩ := findE_some h2
    exact findE_mem (rise_drop hR s) (mem_drop.2 ⟨hy, h⟩)
theorem dropE_none {L : List En} {s : ByteArray} (h : findE L s = none) : dropE L s = L :=
  delN_none fun y hy e => findE_none.1 h y hy (nm_eq.1 e)
theorem length_drop {L : List En} (hR : Rising En.nm L) {s : ByteArray} {x : En} (h : findE L s = some x) : (dropE L s).length + 1 = L.length := by
  obtain ⟨hx, hs⟩ := findE_some h
  have hp : L.Perm (x :: dropE L s) := by
    refine (List.perm_ext_iff_of_nodup (rise_nodup hR) (List.nodup_cons.2 ⟨fun h => (mem_drop.1 h).2 hs, rise_nodup (rise_drop hR s)⟩)).2 fun y => ?_
    rw [List.mem_cons, mem_drop]
    constructor
    · intro hy
      by_cases e : y.k = s
      · exact .inl (hR.one hy hx (by unfold En.nm; rw [e, hs]))
      · exact .inr ⟨hy, e⟩
    · rintro (rfl | ⟨hy, _⟩)
      · exact hx
      · exact hy
  have := hp.length_eq
  simp at this
  omega
theorem length_put {L : List En} (hR : Rising En.nm L) (x : En) : (putE L x).length = if (findE L x.k).isSome then L.length else L.length + 1 := by
  have e : (putE L x).length = (dropE L x.k).length + 1 := by
    unfold putE putN
    rw [length_insN]
    rfl
  rw [e]
  cases h : findE L x.k with
  | none => rw [dropE_none h]; rfl
  | some y => rw [length_drop hR h]; rfl
end Go.Proofs.Ytcdjahmnobjpkaa
