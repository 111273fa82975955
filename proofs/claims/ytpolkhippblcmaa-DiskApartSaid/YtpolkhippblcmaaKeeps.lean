/- What is proved here: 'DiskKeeps' returns true at all arguments. -/
import Derived.Test.YtpolkhippblcmaaTwo
namespace Go.Proofs.Ytpolkhippblcmaa
open Go Go.RowKit Go.Maps

/-- The files behind calls. -/
def runF (room : Int) (l : List OpM) : List RF := l.foldl (fun S p => (doF room S p).1) []
theorem runF_snoc (room : Int) (l : List OpM) (p : OpM) : runF room (l ++ [p]) = (doF room (runF room l) p).1 := by simp [runF]
theorem crashF_len (ks : List Int) (S : List RF) : (crashF ks S).length = S.length := by unfold crashF; rw [List.length_mapIdx]
theorem doF_len (room : Int) (S : List RF) (p : OpM) : (doF room S p).1.length ≤ S.length + 1 := by
  have hp : ∀ x : RF, (putN RF.nm x S).length ≤ S.length + 1 := fun x => length_putN x S
  have hd : ∀ k, (delN RF.nm k S).length ≤ S.length := fun k => length_delN k S
  unfold doF
  split
  · unfold appendF
    split
    · simp
    · split
      · simp
      · exact hp _
  · split
    · unfold syncF
      split
      · simp
      · exact hp _
    · split
      · unfold cutF
        split
        · simp
        · split
          · simp
          · exact hp _
      · split
        · unfold removeF
          split
          · simp
          · have := hd p.nm.data.toList; show (delN RF.nm _ S).length ≤ _; omega
        · split
          · show (crashF p.ks S).length ≤ _
            rw [crashF_len]; omega
          · unfold renameF
            split
            · simp
            · split
              · simp
              · split
                · simp
                · refine Nat.le_trans (length_putN (nm := RF.nm) _ _) ?_
                  have := hd p.nm.data.toList
                  omega
theorem runF_len (room : Int) (l : List OpM) : (runF room l).length ≤ l.length := by
  have : ∀ (l : List OpM) (S : List RF), (l.foldl (fun S p => (doF room S p).1) S).length ≤ S.length + l.length := by
    intro l
    induction l with
    | nil => intro S; simp
    | cons p r ih =>
      intro S
      have h1 := ih (doF room S p).1
      have h2 := doF_len room S p
      simp only [List.foldl_cons, List.length_cons]
      omega
  have := this l []
  simpa [runF] using this

theorem fewF_len {l : List OpM} (h : fewF l = true) : l.length ≤ 60 := by
  unfold fewF at h
  simp only [Bool.and_eq_true, decide_eq_true_eq] at h
  exact h.1

theorem do_st {w wi : World} {d : Nat} {room : Int} {S : List RF} (h : St w d room S wi) (p : OpM) (hp : OpOk w w.heap.size p) (hL : S.length ≤ 1000000) :
    Calls Try.prog 11 #[.pointer (some ⟨d, 0, none⟩), .agg #[.int .i64 p.kind, .string p.nm, .string p.tn, .slice p.bA p.bn p.bc, .int .i64 p.n, .slice p.kA p.kn p.kc]] wi fun e w' => e = .returned (.int .i64 (doF room S p).2) ∧ St w d room (doF room S p).1 w' :=
  (Do_any h.disk p (hp.below h.below) h.below.size (fun b hb hc => by omega) hL).mono fun _ _ ho => h.op ho

theorem St.undrew {w wi : World} {d q : Nat} {room : Int} {S : List RF} (h : St (w.drewN q) d room S wi) : St w d room S wi :=
  ⟨⟨h.below.os, h.below.tape, h.below.output, h.below.size, h.below.block⟩, h.disk⟩
/-- Where the first loop stands. -/
def LoopSt (w : World) (R : Int) (l : List OpM) (k : Nat) (wr : World) : Prop := St w (w.heap.size + 1) R (runF R (l.take k)) wr
theorem LoopSt.step {w wr : World} {R : Int} {l : List OpM} {k n c : Nat} {A : Option Addr} (h : LoopSt w R l k wr) (hl : OpsRd w w.heap.size A n c l) (hn : n ≤ 60) {p : OpM} (hp : l[k]? = some p) (o : Obj) :
    Calls Try.prog 11 #[.pointer (some ⟨w.heap.size + 1, 0, none⟩), .agg #[.int .i64 p.kind, .string p.nm, .string p.tn, .slice p.bA p.bn p.bc, .int .i64 p.n, .slice p.kA p.kn p.kc]] (wr.alloc o) fun e w' => (∃ r, e = .returned (.int .i64 r)) ∧ LoopSt w R l (k + 1) w' := by
  have hlen := hl.len
  have h1 := runF_len R (l.take k)
  have h2 : (l.take k).length ≤ k := List.length_take_le _ _
  have hk : k < l.length := (List.getElem?_eq_some_iff.1 hp).1
  refine (do_st (h.alloc o) p (hl.ok p (List.mem_of_getElem? hp)) (by omega)).mono ?_
  rintro e w' ⟨rfl, hs⟩
  refine ⟨⟨_, rfl⟩, ?_⟩
  unfold LoopSt
  rw [List.take_add_one, hp]
  show St w _ R (runF R (l.take k ++ [p])) w'
  rw [runF_snoc]
  exact hs



end Go.Proofs.Ytpolkhippblcmaa
