/- What is proved here: what CoilFaults asks of a fault, each call by its contract, in a memory in which the reader and the fault stand still. -/
import Derived.Test.YtogennogjnleaaaDoorAs3
import Derived.Test.YtogennogjnleaaaDoorText2
import Derived.Test.YtogennogjnleaaaDoorAwake
namespace Go.Proofs.YtogennogjnleaaaDoor
open Go Go.RowKit

/-- The memory in which a reader has told its fault. -/
structure Scene (B : Nat) (w0 : World) (g : Nat) (A : Option Addr) (n c : Nat) (xs : List Int) (p why f er : Nat) (w : World) : Prop where
  below : Below B w0 w
  rdr : Rdr w g A n c xs p why
  flt : Blk w f 39 #[.int .i64 p, .iface 32 (.int .i64 er)]
  err : ErrType w
  tab : Tab w

section
variable {B : Nat} {w0 : World} {g : Nat} {A : Option Addr} {n c : Nat} {xs : List Int} {p why f er : Nat} {w w' : World}
theorem Scene.upto (h : Scene B w0 g A n c xs p why f er w) {G : Nat} (hb : Below G w w') (hg : g < G) (hf : f < G) (h1 : 1 < G) (hB : B ≤ G) : Scene B w0 g A n c xs p why f er w' :=
  ⟨h.below.trans (hb.mono hB), ⟨h.rdr.1.below hb hg, h.rdr.2.below (hb.mono (Nat.le_of_lt hg))⟩, h.flt.below hb hf, (hb.cell (p := ⟨0, 0, none⟩) (show 0 < G by omega)).trans h.err, var?_below hb tab_global h1 h.tab⟩
theorem Scene.on (h : Scene B w0 g A n c xs p why f er w) (hB : B ≤ w0.heap.size) (hb : Below w.heap.size w w') : Scene B w0 g A n c xs p why f er w' :=
  h.upto hb h.rdr.1.lt h.flt.lt h.tab.lt (Nat.le_trans hB h.below.size)
theorem Scene.drew (h : Scene B w0 g A n c xs p why f er w) (hB : B ≤ w0.heap.size) : Scene B w0 g A n c xs p why f er w.drew := h.on hB (Below.refl _ _).drew

/-- .. and the variable that errors.As has set. -/
def Aft (B : Nat) (w0 : World) (g : Nat) (A : Option Addr) (n c : Nat) (xs : List Int) (p why f er g7 : Nat) (w : World) : Prop :=
  Scene B w0 g A n c xs p why f er w ∧ Blk w g7 35 #[.pointer (some ⟨f, 0, none⟩)]
/-- What is loaded. -/
def Cells (g : Nat) (A : Option Addr) (n c p f g7 : Nat) (w : World) : Prop :=
  w.cell? ⟨g, 0, none⟩ = some (.slice A n c) ∧ w.cell? ⟨g, 1, none⟩ = some (.int .i64 (p : Int)) ∧ w.cell? ⟨f, 0, none⟩ = some (.int .i64 (p : Int)) ∧ w.cell? ⟨g7, 0, none⟩ = some (.pointer (some ⟨f, 0, none⟩))
theorem Scene.c0 (h : Scene B w0 g A n c xs p why f er w) : w.cell? ⟨g, 0, none⟩ = some (.slice A n c) := by rw [h.rdr.1.cell 0]; rfl
theorem Scene.c1 (h : Scene B w0 g A n c xs p why f er w) : w.cell? ⟨g, 1, none⟩ = some (.int .i64 (p : Int)) := by rw [h.rdr.1.cell 1]; rfl
theorem Scene.f0 (h : Scene B w0 g A n c xs p why f er w) : w.cell? ⟨f, 0, none⟩ = some (.int .i64 (p : Int)) := by rw [h.flt.cell 0]; rfl
theorem Scene.f1 (h : Scene B w0 g A n c xs p why f er w) : w.cell? ⟨f, 1, none⟩ = some (.iface 32 (.int .i64 (er : Int))) := by rw [h.flt.cell 1]; rfl
theorem Aft.v0 {g7 : Nat} (h : Aft B w0 g A n c xs p why f er g7 w) : w.cell? ⟨g7, 0, none⟩ = some (.pointer (some ⟨f, 0, none⟩)) := by rw [h.2.cell 0]; rfl
theorem Aft.flt {g7 : Nat} (h : Aft B w0 g A n c xs p why f er g7 w) : Blk w f 39 #[.int .i64 p, .iface 32 (.int .i64 er)] := h.1.flt
theorem Aft.wraps {g7 : Nat} (h : Aft B w0 g A n c xs p why f er g7 w) : Wraps w (.iface 35 (.pointer (some ⟨f, 0, none⟩))) er := .inr ⟨f, p, rfl, h.1.flt⟩
theorem wraps_num (w : World) (n : Int) : Wraps w (.iface 32 (.int .i64 n)) n := .inl rfl
theorem Aft.on {g7 : Nat} (h : Aft B w0 g A n c xs p why f er g7 w) (hB : B ≤ w0.heap.size) (hb : Below w.heap.size w w') : Aft B w0 g A n c xs p why f er g7 w' := ⟨h.1.on hB hb, h.2.below hb h.2.lt⟩
end

section
variable (B : Nat) (w0 : World) (g : Nat) (A : Option Addr) (n c : Nat) (xs : List Int) (p why f er g7 : Nat) (w : World) (hB : B ≤ w0.heap.size)
theorem As_aft (h : Scene B w0 g A n c xs p why f er w) (h7 : Blk w g7 35 #[.pointer none]) (hg : g < g7) (hf : f < g7) (h1 : 1 < g7) (hB7 : B ≤ g7) :
    Calls Tryd.prog 10 #[.iface 35 (.pointer (some ⟨f, 0, none⟩)), .iface 37 (.pointer (some ⟨g7, 0, none⟩))] w fun e w' => e = .returned (.bool true) ∧ Aft B w0 g A n c xs p why f er g7 w' :=
  (As_self ⟨f, 0, none⟩ g7 (.pointer none) w h.err h7).mono fun _ _ ⟨he, hk, hgr⟩ =>
    ⟨he, h.upto ((Below.refl g7 w).grown hgr (Nat.le_of_lt h7.lt) (fun k hk => by injection hk with hk; omega)) hg hf h1 hB7, hk⟩
include hB in
theorem At_aft (h : Aft B w0 g A n c xs p why f er g7 w) :
    Calls Tryd.prog 11 #[.agg #[.slice A n c, .int .i64 p]] w fun e w' => e = .returned (.int .i64 p) ∧ Aft B w0 g A n c xs p why f er g7 w' :=
  (At_any A n c p w).mono fun _ _ ⟨he, hw⟩ => ⟨he, h.on hB (hw ▸ (Below.refl _ _).alloc (Nat.le_refl _) _)⟩
include hB in
theorem Code_aft (h : Aft B w0 g A n c xs p why f er g7 w) (u : TypeId) (x : Value) (hx : Wraps w (.iface u x) er) :
    Calls Tryd.prog 12 #[.iface u x] w fun e w' => e = .returned (.int .i64 er) ∧ Aft B w0 g A n c xs p why f er g7 w' :=
  (Code_any er u x w h.1.err hx).mono fun _ _ ⟨he, hb⟩ => ⟨he, h.on hB hb⟩
end
theorem Unwrap_any (f : Nat) (E : Value) (at_ : Int) (w : World) (hf : Blk w f 39 #[.int .i64 at_, E]) :
    Calls Tryd.prog 13 #[.pointer (some ⟨f, 0, none⟩)] w fun e w' => e = .returned E ∧ w = w' := by
  have c1 := hf.cell 1
  simp at c1
  go_enter Tryd.func13, Tryd.ntmps13
  go_wp2
  go_ret
  exact ⟨rfl, rfl⟩
end Go.Proofs.YtogennogjnleaaaDoor
