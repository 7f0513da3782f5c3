import Derived.Test.YtbkmgoffiigdbaaDoorR
import Derived.Test.YtbkmgoffiigdbaaDoorT
import Derived.Test.YtbkmgoffiigdbaaDoorW
namespace Go.Proofs.YtbkmgoffiigdbaaDoor
open Go.RowKit

/-- The copy, as a program that lies in memory. -/
def copyOf (g : PgR) (Bk C : Nat → Nat) (cb cc : Nat) : PgR :=
  { a := some ⟨cb, 0, none⟩, n := g.n, c := cc, b := cb, o := 0, f := fun i => { p := (g.f i).p, l := (g.f i).l, a := some ⟨Bk i, 0, none⟩, n := (g.f i).n, c := C i, b := Bk i, o := 0, op := (g.f i).op, ar := (g.f i).ar } }

theorem checkIs_copy {g : PgR} {Bk C : Nat → Nat} {cb cc : Nat} {e a : Int} (h : CheckIs (copyOf g Bk C cb cc) e a) : CheckIs g e a := h

theorem copy_in {B : Nat} {w : World} {g : PgR} {Bk C : Nat → Nat} {cb cc : Nat} (hn : g.n ≤ 1152921504606846976) (hf : ∀ i, i < g.n → (g.f i).n ≤ 1152921504606846976) (h : CopyIn B w g Bk C cb cc) : PgIn w.heap.size w (copyOf g Bk C cb cc) := by
  obtain ⟨F, hrow, hcap, hF, _⟩ := fun_row h
  refine ⟨hn, fun _ => ⟨rfl, hrow.lt, fun i hi => ?_⟩, fun i hi => ⟨hf i hi, fun _ => ?_⟩⟩
  · have hi' : i < g.n := hi
    obtain ⟨h1, h2, h3⟩ := hF i hi'
    show w.cell? ⟨cb, 0 + i * 3, none⟩ = some (.int .i64 (g.f i).p) ∧ w.cell? ⟨cb, 0 + i * 3 + 1, none⟩ = some (.int .i64 (g.f i).l) ∧ w.cell? ⟨cb, 0 + i * 3 + 2, none⟩ = some (.slice (some ⟨Bk i, 0, none⟩) (g.f i).n (C i))
    rw [Nat.zero_add, hrow.cell (by omega), hrow.cell (by omega), hrow.cell (by omega), h1, h2, h3]
    exact ⟨rfl, rfl, rfl⟩
  · obtain ⟨F', hrow', hcap', hF'⟩ := copy_row (h.2.1 i hi)
    refine ⟨rfl, hrow'.lt, fun j hj => ?_⟩
    have hj' : j < (g.f i).n := hj
    obtain ⟨h1, h2⟩ := hF' j (by omega)
    show w.cell? ⟨Bk i, 0 + j * 2, none⟩ = some (.int .i64 ((g.f i).op j)) ∧ w.cell? ⟨Bk i, 0 + j * 2 + 1, none⟩ = some (.int .i64 ((g.f i).ar j))
    rw [Nat.zero_add, hrow'.cell (by omega), hrow'.cell (by omega), h1, h2]
    unfold copyOp copyAr
    rw [if_pos hj', if_pos hj']
    exact ⟨rfl, rfl⟩

theorem CopyIn.below {B : Nat} {w w' : World} {g : PgR} {Bk C : Nat → Nat} {cb cc : Nat} (h : CopyIn B w g Bk C cb cc) (hb : Below w.heap.size w w') : CopyIn B w' g Bk C cb cc :=
  ⟨owns_block h.1 (hb.block _ (owns_at h.1).2.1), fun j hj => owns_block (h.2.1 j hj) (hb.block _ (owns_at (h.2.1 j hj)).2.1), h.2.2⟩

set_option maxRecDepth 100000 in
set_option maxHeartbeats 4000000 in
theorem checks_any (g : PgR) (w : World) (hg : PgIn w.heap.size w g) (hr : Reach g) (ht : Tab w) :
    Calls Tryd.prog 3 #[.agg #[.slice g.a g.n g.c]] w fun e w' => e = .returned (.bool true) ∧ Below w.heap.size w w' := by
  have hz := ht.1
  have hn := hg.1
  go_enter Tryd.func3, Tryd.ntmps3
  go_wp2_with fail
  have hB1 : Below w.heap.size w (w.alloc (Obj.cells #[Value.slice g.a g.n g.c] 24)) := (Below.refl _ _).alloc (Nat.le_refl _) _
  have k1 : (w.alloc (Obj.cells #[Value.slice g.a g.n g.c] 24)).cell? ⟨w.heap.size, 0, none⟩ = some (.slice g.a g.n g.c) := by go_simp
  have hs1 : (w.alloc (Obj.cells #[Value.slice g.a g.n g.c] 24)).heap.size = w.heap.size + 1 := by simp
  generalize (w.alloc (Obj.cells #[Value.slice g.a g.n g.c] 24)) = W1 at *
  have hg1 : PgIn w.heap.size W1 g := hg.below hB1
  refine (lent_any g W1 (hg1.mono (by omega)) hr).mono ?_
  rintro e w2 ⟨Bk, C, cb, cc, rfl, hcA, hcB, hcC, hB2⟩
  have hcopy : CopyIn W1.heap.size w2 g Bk C cb cc := ⟨hcA, hcB, hcC⟩
  clear hcA hcB hcC
  have hBw2 : Below w.heap.size w w2 := hB1.trans (hB2.mono (by omega))
  have k2 : w2.cell? ⟨w.heap.size, 0, none⟩ = some (.slice g.a g.n g.c) := by rw [hB2.cell (by show w.heap.size < W1.heap.size; omega)]; exact k1
  have hs2 := hB2.size
  clear k1
  go_wp2_with fail
  have hB3 : Below w2.heap.size w2 (w2.alloc (Obj.cells #[Value.slice (some ⟨cb, 0, none⟩) g.n cc] 24)) := (Below.refl _ _).alloc (Nat.le_refl _) _
  have l3 : (w2.alloc (Obj.cells #[Value.slice (some ⟨cb, 0, none⟩) g.n cc] 24)).cell? ⟨w2.heap.size, 0, none⟩ = some (.slice (some ⟨cb, 0, none⟩) g.n cc) := by go_simp
  have hs3 : (w2.alloc (Obj.cells #[Value.slice (some ⟨cb, 0, none⟩) g.n cc] 24)).heap.size = w2.heap.size + 1 := by simp
  generalize (w2.alloc (Obj.cells #[Value.slice (some ⟨cb, 0, none⟩) g.n cc] 24)) = w3 at *
  have hBw3 : Below w.heap.size w w3 := hBw2.trans (hB3.mono (by omega))
  have hcopy3 : CopyIn W1.heap.size w3 g Bk C cb cc := hcopy.below hB3
  have k3 : w3.cell? ⟨w.heap.size, 0, none⟩ = some (.slice g.a g.n g.c) := by rw [hB3.cell (by show w.heap.size < w2.heap.size; omega)]; exact k2
  clear k2 hcopy
  refine (Check_any (copyOf g Bk C cb cc) w3 (copy_in hn (fun i hi => (hg.2.2 i hi).1) hcopy3) (ht.below hz hBw3)).mono ?_
  rintro e w4 ⟨x, a, rfl, hchk, hB4⟩
  have hBw4 : Below w.heap.size w w4 := hBw3.trans (hB4.mono (by omega))
  have hcopy4 : CopyIn W1.heap.size w4 g Bk C cb cc := hcopy3.below hB4
  have k4 : w4.cell? ⟨w.heap.size, 0, none⟩ = some (.slice g.a g.n g.c) := by rw [hB4.cell (by show w.heap.size < w3.heap.size; omega)]; exact k3
  have l4 : w4.cell? ⟨w2.heap.size, 0, none⟩ = some (.slice (some ⟨cb, 0, none⟩) g.n cc) := by rw [hB4.cell (by show w2.heap.size < w3.heap.size; omega)]; exact l3
  have hs4 := hB4.size
  clear k3 l3 hcopy3
  go_wp2_with fail
  refine (refCheck_any g w4 ((hg.below hBw4).mono hBw4.size)).mono ?_
  rintro e w5 ⟨x', a', rfl, hchk', hB5⟩
  obtain ⟨rfl, rfl⟩ := (checkIs_copy hchk).unique hchk'
  have hBw5 : Below w.heap.size w w5 := hBw4.trans (hB5.mono (by omega))
  have hcopy5 : CopyIn W1.heap.size w5 g Bk C cb cc := hcopy4.below hB5
  have k5 : w5.cell? ⟨w.heap.size, 0, none⟩ = some (.slice g.a g.n g.c) := by rw [hB5.cell (by show w.heap.size < w4.heap.size; omega)]; exact k4
  have l5 : w5.cell? ⟨w2.heap.size, 0, none⟩ = some (.slice (some ⟨cb, 0, none⟩) g.n cc) := by rw [hB5.cell (by show w2.heap.size < w4.heap.size; omega)]; exact l4
  have hs5 := hB5.size
  clear k4 l4 hcopy4
  go_wp2_with fail
  refine (returned_any W1.heap.size g Bk C cb cc w5 (by omega) ((hg.below hBw5).mono (by omega)) hr hcopy5).mono ?_
  rintro e w6 ⟨rfl, hB6⟩
  have hBw6 : Below w.heap.size w w6 := hBw5.trans (hB6.mono (by omega))
  go_wp2_with fail
  go_ret
  exact ⟨rfl, hBw6⟩

end Go.Proofs.YtbkmgoffiigdbaaDoor
