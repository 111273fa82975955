/- What is proved here: what the document's own Do answers, at every call. -/
import Derived.Test.YtpolkhippblcmaaDo1
import Derived.Test.YtpolkhippblcmaaDo2
import Derived.Test.YtpolkhippblcmaaDo2c
import Derived.Test.YtpolkhippblcmaaDo3
import Derived.Test.YtpolkhippblcmaaDo4
import Derived.Test.YtpolkhippblcmaaDo4c
import Derived.Test.YtpolkhippblcmaaDo0n
namespace Go.Proofs.Ytpolkhippblcmaa
open Go Go.RowKit Go.Maps

theorem putN_same {S : List RF} (f g : RF) (h : f = g) : putN RF.nm f S = putN RF.nm g S := by rw [h]
theorem refDo_any {w : World} {Ψ : Nat → Prop} {A : Option Addr} {n c B : Nat} {L : List RV} {room : Int} (h : RRd w Ψ A n c L) (hn : n ≤ 1000000) (hr : Rising RF.nm (L.map RV.f)) (hrm : room ≤ 1048576) (p : OpM) (hp : OpOk w B p) (hB : B ≤ w.heap.size) :
    Calls Try.prog 10 #[.agg #[.int .i64 room, .slice A n c], .agg #[.int .i64 p.kind, .string p.nm, .string p.tn, .slice p.bA p.bn p.bc, .int .i64 p.n, .slice p.kA p.kn p.kc]] w (DoSaid room Ψ w (doF room (L.map RV.f) p).1 (doF room (L.map RV.f) p).2) := by
  have hsn : p.nm.size ≤ maxLen := by have := hp.sn; unfold maxLen; omega
  have hst : p.tn.size ≤ maxLen := by have := hp.st; unfold maxLen; omega
  by_cases k5 : p.kind = 5
  · exact refDo_5 h hn p hp hB k5
  by_cases hno : ∀ x ∈ L, x.nm ≠ p.nm.data.toList
  · by_cases k0 : p.kind = 0
    · cases hnm : nameOk p.nm.data.toList
      · exact refDo_0an h hn p hno k0 hsn hnm
      · by_cases hU : room < ((usedN (L.map RV.f) + p.b.length : Nat) : Int)
        · exact refDo_0bn h hn p hno k0 hsn hnm hp hU
        · exact refDo_0cn h hn p hno k0 hsn hnm hp hB hrm (by omega)
    · exact refDo_miss h p hno k0 k5
  · obtain ⟨x, hx⟩ : ∃ x, x ∈ L ∧ x.nm = p.nm.data.toList := by
      by_cases hh : ∃ x, x ∈ L ∧ x.nm = p.nm.data.toList
      · exact hh
      · exact absurd (fun x hx e => hh ⟨x, hx, e⟩) hno
    obtain ⟨hx, hk⟩ := hx
    obtain ⟨j, hj⟩ := List.getElem?_of_mem hx
    clear hno
    by_cases k0 : p.kind = 0
    · cases hnm : nameOk p.nm.data.toList
      · exact refDo_0ah h hn hr p hj hk k0 hsn hnm
      · by_cases hU : room < ((usedN (L.map RV.f) + p.b.length : Nat) : Int)
        · exact refDo_0bh h hn hr p hj hk k0 hsn hnm hp hU
        · exact refDo_0ch h hn hr p hj hk k0 hsn hnm hp hB hrm (by omega)
    by_cases k1 : p.kind = 1
    · exact refDo_1 h hn hr p hj hk k1
    by_cases k2 : p.kind = 2
    · by_cases hm : p.n < 0
      · exact refDo_2a h hn hr p hj hk k2 hm
      · by_cases hl : (x.b.length : Int) < p.n
        · exact refDo_2b h hn hr p hj hk k2 (by omega) hl
        · exact refDo_2c h hn hr p hj hk k2 (k := p.n.toNat) (by omega) (by omega)
    by_cases k3 : p.kind = 3
    · exact refDo_3 h hn hr p hj hk k3
    cases hnm : nameOk p.tn.data.toList
    · exact refDo_4a h hn hr p hj hk k1 k2 k3 k0 k5 hst hnm
    · by_cases he : p.nm.data.toList = p.tn.data.toList
      · have he' : p.tn = p.nm := by
          have h1 : p.nm.data = p.tn.data := by
            have := congrArg List.toArray he
            simpa using this
          cases hpn : p.nm
          cases hpt : p.tn
          rw [hpn, hpt] at h1
          simp at h1
          rw [h1]
        exact refDo_4b h hn hr p hj hk k1 k2 k3 k0 k5 hst hnm he'
      · exact refDo_4c h hn hr p hj hk k1 k2 k3 k0 k5 hst hnm he
end Go.Proofs.Ytpolkhippblcmaa
