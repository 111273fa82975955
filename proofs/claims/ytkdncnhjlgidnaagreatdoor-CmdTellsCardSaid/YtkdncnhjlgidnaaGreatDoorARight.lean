/- What is proved here: whether cmd.RightAnswer tells that an answer may be written. -/
import Derived.Test.YtkdncnhjlgidnaaGreatDoorAFunc
namespace Go.Proofs.YtkdncnhjlgidnaaGreatDoor
open Go Go.RowKit

/-- An answer as it lies in memory: its code, and where its lists are. -/
structure AM where
  cd : Int
  iA : Option Addr
  iN : Nat
  iC : Nat
  tA : Option Addr
  tN : Nat
  tC : Nat
def AM.cells (a : AM) : Array Value := #[.int .i64 a.cd, .slice a.iA a.iN a.iC, .slice a.tA a.tN a.tC]
/-- May it be written? -/
def aRight (cd : Int) (I : List Int) (T : List TK) : Bool := decide (I.length ≤ 10) && decide (T.length ≤ 10) && fitB cd && I.all fitB && T.all TK.fine
theorem Rd.known {w : World} {B : Nat} {k : IntKind} {A : Option Addr} {n c : Nat} {xs : List Int} (h : Rd w B k A n c xs) (hB : B ≤ w.heap.size) : Known w A n fun j => .int k (xs.getD j 0) := fun W hW j hj => by
  obtain ⟨b, o, e, hb, hc⟩ := h.cell hj
  exact ⟨b, o, e, (hW.cell (p := ⟨b, o + j, none⟩) (by show b < w.heap.size; omega)).trans hc⟩
theorem Rd.later {w w' : World} {k : IntKind} {A : Option Addr} {n c : Nat} {xs : List Int} (h : Rd w w.heap.size k A n c xs) (hb : Below w.heap.size w w') : Rd w' w'.heap.size k A n c xs := (h.below hb).more hb.size

set_option maxHeartbeats 3200000 in
theorem RightAnswer_any (a : AM) (I : List Int) (T : List TK) (w : World) (hI : Rd w w.heap.size .i64 a.iA a.iN a.iC I) (hT : KRd w w.heap.size a.tA a.tN a.tC T) :
    Calls Tryz.prog 38 #[.agg a.cells] w fun e w' => e = .returned (.bool (aRight a.cd I T)) ∧ Below w.heap.size w w' := by
  have hi := hI.len; have ht := hT.len
  obtain ⟨q3, hq3⟩ : ∃ q, q = I.all fitB := ⟨_, rfl⟩
  obtain ⟨q4, hq4⟩ : ∃ q, q = T.all TK.fine := ⟨_, rfl⟩
  obtain ⟨q2, hq2⟩ : ∃ q, q = fitB a.cd := ⟨_, rfl⟩
  have HR : Hid (aRight a.cd I T = (decide (a.iN ≤ 10) && decide (a.tN ≤ 10) && q2 && q3 && q4)) := Lib.hid (by unfold aRight; rw [hi, ht, hq3, hq4, hq2])
  have H2 : Hid (∀ W, Calls Tryz.prog 54 #[.int .i64 a.cd] W fun e w' => e = .returned (.bool q2) ∧ W = w') := Lib.hid (by rw [hq2]; exact fits_any a.cd)
  have H3 : Hid (a.iN ≤ 10 → ∀ W, Below w.heap.size w W → Calls Tryz.prog 66 #[.slice a.iA a.iN a.iC, .func (.func 54) #[] #[]] W fun e w' => e = .returned (.bool q3) ∧ Below W.heap.size W w') := Lib.hid (fun hn W hW => by
    have hl := hI.later hW
    have := All_i 54 (by intro args w; kernel_rfl) a.iA a.iN a.iC (fun j => .int .i64 (I.getD j 0)) (fun j => fitB (I.getD j 0)) W (hl.known (Nat.le_refl _)) (fun j _ => ⟨_, rfl⟩) (by omega) (fun W2 j _ _ => (fits_any _ W2).mono fun e w' ⟨he, hw⟩ => ⟨he, hw ▸ Below.refl _ _⟩)
    rw [range_all I 0 fitB a.iN hi, ← hq3] at this
    exact this)
  have H4 : Hid (a.tN ≤ 10 → ∀ W, Below w.heap.size w W → Calls Tryz.prog 67 #[.slice a.tA a.tN a.tC, .func (.func 65) #[] #[]] W fun e w' => e = .returned (.bool q4) ∧ Below W.heap.size W w') := Lib.hid (fun hn W hW => by
    have hl := hT.later hW
    have := All_k 65 (by intro args w; kernel_rfl) a.tA a.tN a.tC T (fun j => (T.getD j TK.zero).fine) W hl (by omega) (fun W2 j _ _ => fine_any _ W2)
    rw [range_all T TK.zero TK.fine a.tN ht, ← hq4] at this
    exact this)
  have hb1 : Blk (w.alloc (.cells a.cells 27)) w.heap.size 27 a.cells := Blk.fresh _ _ _
  have hbel : Below w.heap.size w (w.alloc (.cells a.cells 27)) := (Below.refl _ _).alloc (Nat.le_refl _) _
  have HBEL := Lib.hid hbel
  clear hb1 hbel hq2 hq3 hq4 hi ht hI hT
  unfold AM.cells at *
  generalize a.cd = cd at *
  generalize a.iA = iA at *
  generalize a.iN = iN at *
  generalize a.iC = iC at *
  generalize a.tA = tA at *
  generalize a.tN = tN at *
  generalize a.tC = tC at *
  by_cases h1 : iN ≤ 10
  · have D1 : Hid (decide (iN ≤ 10) = true) := Lib.hid (decide_eq_true h1)
    have h1z : (iN : Int) ≤ 10 := by omega
    have K3 := Lib.hid (H3.out h1)
    by_cases h2 : tN ≤ 10
    · have D2 : Hid (decide (tN ≤ 10) = true) := Lib.hid (decide_eq_true h2)
      have h2z : (tN : Int) ≤ 10 := by omega
      have K4 := Lib.hid (H4.out h2)
      cases q2 <;> cases q3 <;> cases q4
      all_goals
        go_enter Tryz.func38, Tryz.ntmps38
        go_wp2_with (first
          | (go_at_call 54; refine (H2.out _).mono ?_; rintro e w1 ⟨rfl, rfl⟩)
          | (go_at_call 66; refine (K3.out _ HBEL.out).mono ?_; rintro e w2 ⟨rfl, hb⟩; have HL2 := Lib.hid (HBEL.out.trans (hb.mono HBEL.out.size)); have c2 := (hb.cell (p := ⟨w.heap.size, 2, none⟩) (by simp)).trans ((Blk.fresh w 27 #[.int .i64 cd, .slice iA iN iC, .slice tA tN tC]).cell 2); simp at c2; clear hb)
          | (go_at_call 67; refine (K4.out _ HL2.out).mono ?_; rintro e w3 ⟨rfl, hb⟩; have HL3 := Lib.hid (HL2.out.trans (hb.mono HL2.out.size)); clear hb))
        go_ret
        first
          | exact ⟨by rw [HR.out, D1.out, D2.out]; rfl, HL3.out⟩
          | exact ⟨by rw [HR.out, D1.out, D2.out]; rfl, HL2.out⟩
          | exact ⟨by rw [HR.out, D1.out, D2.out]; rfl, HBEL.out⟩
    · have D2 : Hid (decide (tN ≤ 10) = false) := Lib.hid (decide_eq_false h2)
      have h2z : ¬ (tN : Int) ≤ 10 := by omega
      go_enter Tryz.func38, Tryz.ntmps38
      go_wp2_with fail
      go_ret
      exact ⟨by rw [HR.out, D1.out, D2.out]; rfl, HBEL.out⟩
  · have D1 : Hid (decide (iN ≤ 10) = false) := Lib.hid (decide_eq_false h1)
    have h1z : ¬ (iN : Int) ≤ 10 := by omega
    go_enter Tryz.func38, Tryz.ntmps38
    go_wp2_with fail
    go_ret
    exact ⟨by rw [HR.out, D1.out]; rfl, HBEL.out⟩
end Go.Proofs.YtkdncnhjlgidnaaGreatDoor
