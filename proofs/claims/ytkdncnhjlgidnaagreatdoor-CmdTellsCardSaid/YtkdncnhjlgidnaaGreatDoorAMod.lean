/- What is proved here: plain facts on answers, and on the messages in them; slices of messages. -/
import Derived.Test.YtkdncnhjlgidnaaGreatDoorCWrite
namespace Go.Proofs.YtkdncnhjlgidnaaGreatDoor
open Go Go.RowKit

/-- A message that was taken. -/
structure TK where
  id : Int
  ct : Int
  rc : ByteArray
  bd : ByteArray
  gr : ByteArray
def TK.l (x : TK) : List Value := [.int .i64 x.id, .int .i64 x.ct, .string x.rc, .string x.bd, .string x.gr]
def TK.cells (x : TK) : Array Value := #[.int .i64 x.id, .int .i64 x.ct, .string x.rc, .string x.bd, .string x.gr]
def TK.fine (x : TK) : Bool := fitB x.id && fitB x.ct && decide (x.rc.size ≤ 256) && decide (x.bd.size ≤ 256) && decide (x.gr.size ≤ 256)
def TK.zero : TK := ⟨0, 0, ⟨#[]⟩, ⟨#[]⟩, ⟨#[]⟩⟩
/-- A slice that reads as messages. -/
structure KRd (w : World) (B : Nat) (A : Option Addr) (n c : Nat) (T : List TK) : Prop where
  len : T.length = n
  cap : n ≤ c
  max : c ≤ maxLen
  nil : A = none → n = 0 ∧ c = 0
  place : ∀ j x, T[j]? = some x → ∃ b o, A = some ⟨b, o, none⟩ ∧ b < B ∧ w.cell? ⟨b, o + j * 5, none⟩ = some (.int .i64 x.id) ∧ w.cell? ⟨b, o + j * 5 + 1, none⟩ = some (.int .i64 x.ct) ∧ w.cell? ⟨b, o + j * 5 + 2, none⟩ = some (.string x.rc) ∧ w.cell? ⟨b, o + j * 5 + 3, none⟩ = some (.string x.bd) ∧ w.cell? ⟨b, o + j * 5 + 4, none⟩ = some (.string x.gr)
theorem flat_at {x : TK} : ∀ {T : List TK} {j : Nat}, T[j]? = some x → ∀ {i : Nat} {u : Value}, x.l[i]? = some u → (T.flatMap TK.l)[j * 5 + i]? = some u
  | y :: r, 0, h, i, u, hu => by
    obtain rfl : y = x := by simpa using h
    have hi : i < y.l.length := (List.getElem?_eq_some_iff.1 hu).1
    rw [List.flatMap_cons, Nat.zero_mul, Nat.zero_add, List.getElem?_append_left hi]
    exact hu
  | y :: r, j + 1, h, i, u, hu => by
    have h2 := flat_at (T := r) (j := j) (by simpa using h) hu
    have hl : y.l.length = 5 := rfl
    rw [List.flatMap_cons, List.getElem?_append_right (by rw [hl]; omega), hl, show (j + 1) * 5 + i - 5 = j * 5 + i by omega]
    exact h2
theorem flat_len : ∀ T : List TK, (T.flatMap TK.l).length = T.length * 5
  | [] => rfl
  | x :: r => by
    rw [List.flatMap_cons, List.length_append, flat_len r, List.length_cons]
    have : x.l.length = 5 := rfl
    omega
section
variable {w w' : World} {B B' : Nat} {A : Option Addr} {n c : Nat} {T : List TK}
theorem KRd.none_ (w : World) (B : Nat) : KRd w B none 0 0 [] := ⟨rfl, Nat.le_refl _, Nat.zero_le _, fun _ => ⟨rfl, rfl⟩, fun j u h => by simp at h⟩
theorem KRd.keep (h : KRd w B A n c T) (hk : ∀ p : Addr, p.block < B → w'.cell? p = w.cell? p) : KRd w' B A n c T :=
  ⟨h.len, h.cap, h.max, h.nil, fun j x hx => by
    obtain ⟨b, o, e, hb, h0, h1, h2, h3, h4⟩ := h.place j x hx
    exact ⟨b, o, e, hb, (hk _ hb).trans h0, (hk _ hb).trans h1, (hk _ hb).trans h2, (hk _ hb).trans h3, (hk _ hb).trans h4⟩⟩
theorem KRd.more (h : KRd w B A n c T) (hB : B ≤ B') : KRd w B' A n c T :=
  ⟨h.len, h.cap, h.max, h.nil, fun j x hx => by
    obtain ⟨b, o, e, hb, h⟩ := h.place j x hx
    exact ⟨b, o, e, by omega, h⟩⟩
theorem KRd.below (h : KRd w B A n c T) (hb : Below B w w') : KRd w' B A n c T := h.keep fun _ hp => hb.cell hp
theorem KRd.later (h : KRd w w.heap.size A n c T) (hb : Below w.heap.size w w') : KRd w' w'.heap.size A n c T := (h.below hb).more hb.size
theorem KRd.cell (h : KRd w B A n c T) {j : Nat} (hj : j < n) : ∃ b o, A = some ⟨b, o, none⟩ ∧ b < B ∧ w.cell? ⟨b, o + j * 5, none⟩ = some (.int .i64 (T.getD j TK.zero).id) ∧ w.cell? ⟨b, o + j * 5 + 1, none⟩ = some (.int .i64 (T.getD j TK.zero).ct) ∧ w.cell? ⟨b, o + j * 5 + 2, none⟩ = some (.string (T.getD j TK.zero).rc) ∧ w.cell? ⟨b, o + j * 5 + 3, none⟩ = some (.string (T.getD j TK.zero).bd) ∧ w.cell? ⟨b, o + j * 5 + 4, none⟩ = some (.string (T.getD j TK.zero).gr) := by
  have hl : j < T.length := by rw [h.len]; exact hj
  have e : T.getD j TK.zero = T[j] := by simp [List.getD, List.getElem?_eq_getElem hl]
  rw [e]
  exact h.place j T[j] (List.getElem?_eq_getElem hl)
/-- A row of one's own, of messages. -/
theorem KRd.of_own {base e : Nat} {v : Value} (h : w.ownsRow base e 5 v n (T.flatMap TK.l)) (hl : T.length = n) : ∃ A c, v = .slice A n c ∧ KRd w w.heap.size A n c T ∧ ∀ ad, A = some ad → base ≤ ad.block := by
  rcases h.2 with ⟨e1, e2⟩ | ⟨g, cap, cur, e1, hb, hg, hnc, hcm, hcs, htake⟩
  · subst e1
    rcases T with _ | ⟨x, T⟩
    · obtain rfl : n = 0 := by simpa using hl.symm
      exact ⟨none, 0, rfl, KRd.none_ _ _, fun ad e => by cases e⟩
    · simp at hl
      omega
  · refine ⟨some ⟨g, 0, none⟩, cap, e1, ⟨hl, hnc, hcm, (fun h => by cases h), fun j x hx => ⟨g, 0, rfl, (Array.getElem?_eq_some_iff.1 hg).1, ?_⟩⟩, fun ad e => by rw [← Option.some.inj e]; exact hb⟩
    have hc := h.cells (g := g) (by rw [e1]; rfl)
    have hat : ∀ i u, x.l[i]? = some u → (T.flatMap TK.l)[j * 5 + i]? = some u := fun i u hu => flat_at hx hu
    have hcell : ∀ i u, x.l[i]? = some u → w.cell? ⟨g, 0 + j * 5 + i, none⟩ = some u := fun i u hu => by
      have := hc (j * 5 + i) u (hat i u hu)
      rw [Addr.add_lit] at this
      rw [Nat.add_assoc]
      exact this
    exact ⟨hcell 0 _ rfl, hcell 1 _ rfl, hcell 2 _ rfl, hcell 3 _ rfl, hcell 4 _ rfl⟩
end
end Go.Proofs.YtkdncnhjlgidnaaGreatDoor
