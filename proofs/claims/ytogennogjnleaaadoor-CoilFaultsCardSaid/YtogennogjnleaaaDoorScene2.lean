/- What is proved here: what CoilFaults asks of the fault's text, beside a fault that wraps nothing. -/
import Derived.Test.YtogennogjnleaaaDoorScene
namespace Go.Proofs.YtogennogjnleaaaDoor
open Go Go.RowKit

theorem dec_pos (u : Nat) : 1 ≤ (Lib.decDigits u).length := by
  rw [Lib.decDigits]
  split
  · simp
  · rw [List.length_append]; simp
theorem digs_pos (n : Int) : 1 ≤ (digs n).size := by
  show 1 ≤ (Lib.itoa n).length
  unfold Lib.itoa
  split
  · simp only [List.length_cons]; omega
  · exact dec_pos _
/-- The text of a number. -/
def numText (n : Int) : ByteArray := ByteArray.mk #[100, 97, 105, 115, 121, 99, 104, 97, 105, 110, 32] ++ digs n
theorem faultText_cat (p : Int) (T : ByteArray) : faultText p ⟨#[]⟩ ++ T = faultText p T := by
  unfold faultText
  rw [show (⟨#[]⟩ : ByteArray) = ByteArray.empty from rfl, ByteArray.append_empty]
theorem faultText_size (p : Int) (T : ByteArray) : (faultText p T).size = 5 + (digs p).size + 2 + T.size := by
  unfold faultText
  rw [ByteArray.size_append, ByteArray.size_append, ByteArray.size_append]
  rfl

section
variable {B : Nat} {w0 : World} {g : Nat} {A : Option Addr} {n c : Nat} {xs : List Int} {p why f er g7 g8 : Nat} {w w' : World}
/-- .. and a fault that wraps nothing. -/
def Fin (B : Nat) (w0 : World) (g : Nat) (A : Option Addr) (n c : Nat) (xs : List Int) (p why f er g7 g8 : Nat) (w : World) : Prop :=
  Aft B w0 g A n c xs p why f er g7 w ∧ Blk w g8 39 #[.int .i64 p, .nilIface]
theorem Fin.on (h : Fin B w0 g A n c xs p why f er g7 g8 w) (hB : B ≤ w0.heap.size) (hb : Below w.heap.size w w') : Fin B w0 g A n c xs p why f er g7 g8 w' := ⟨h.1.on hB hb, h.2.below hb h.2.lt⟩
theorem Fin.v0 (h : Fin B w0 g A n c xs p why f er g7 g8 w) : w.cell? ⟨g7, 0, none⟩ = some (.pointer (some ⟨f, 0, none⟩)) := h.1.v0
theorem Fin.below (h : Fin B w0 g A n c xs p why f er g7 g8 w) : Below B w0 w := h.1.1.below
end

section
variable (B : Nat) (w0 : World) (g : Nat) (A : Option Addr) (n c : Nat) (xs : List Int) (p why f er g7 g8 : Nat) (w : World) (hB : B ≤ w0.heap.size) (hp : p ≤ 1000000) (her : er ≤ 3) (h : Fin B w0 g A n c xs p why f er g7 g8 w)
include hB hp her h
theorem Text_fault : Calls Tryd.prog 14 #[.pointer (some ⟨f, 0, none⟩)] w fun e w' => e = .returned (.string (faultText p (numText er))) ∧ Fin B w0 g A n c xs p why f er g7 g8 w' :=
  (FaultError_any f p _ (numText er) w (by omega) (by omega) h.1.1.tab h.1.flt (fun W hW => textOf_num er W (by omega) (by omega) hW) (by
    have := digs_size er (by omega) (by omega)
    unfold numText
    rw [ByteArray.size_append]
    show 11 + _ ≤ 100
    omega)).mono fun _ _ ⟨he, hb⟩ => ⟨he, h.on hB hb⟩
omit her in
theorem Text_none : Calls Tryd.prog 14 #[.pointer (some ⟨g8, 0, none⟩)] w fun e w' => e = .returned (.string (faultText p ⟨#[]⟩)) ∧ Fin B w0 g A n c xs p why f er g7 g8 w' :=
  (FaultError_any g8 p _ ⟨#[]⟩ w (by omega) (by omega) h.1.1.tab h.2 (fun W hW => (textOf_nil W).mono fun _ _ ⟨he, hw⟩ => ⟨he, hw ▸ Below.refl _ _⟩) (by decide)).mono fun _ _ ⟨he, hb⟩ => ⟨he, h.on hB hb⟩
omit hp her in
theorem Code_fin : Calls Tryd.prog 12 #[.iface 35 (.pointer (some ⟨f, 0, none⟩))] w fun e w' => e = .returned (.int .i64 er) ∧ Fin B w0 g A n c xs p why f er g7 g8 w' :=
  (Code_any er _ _ w h.1.1.err h.1.wraps).mono fun _ _ ⟨he, hb⟩ => ⟨he, h.on hB hb⟩
omit hp in
theorem Num_fin : Calls Tryd.prog 15 #[.int .i64 er] w fun e w' => e = .returned (.string (numText er)) ∧ Fin B w0 g A n c xs p why f er g7 g8 w' :=
  (ErrnoError_any er w (by omega) (by omega) h.1.1.tab).mono fun _ _ ⟨he, hb⟩ => ⟨he, h.on hB hb⟩
omit hB hp her in
theorem Unwrap_fin : Calls Tryd.prog 13 #[.pointer (some ⟨g8, 0, none⟩)] w fun e w' => e = .returned .nilIface ∧ Fin B w0 g A n c xs p why f er g7 g8 w' :=
  (Unwrap_any g8 .nilIface p w h.2).mono fun _ _ ⟨he, hw⟩ => ⟨he, hw ▸ h⟩
omit hp her in
theorem awake_fin : Calls Tryd.prog 5 #[] w fun e w' => e = .returned (.bool true) ∧ Fin B w0 g A n c xs p why f er g7 g8 w' :=
  (awake_any w).mono fun _ _ ⟨he, hb⟩ => ⟨he, h.on hB hb⟩
end
end Go.Proofs.YtogennogjnleaaaDoor
