import Derived.Test.YtbkmgoffiigdbaaDoorNT
import Derived.Test.YtbkmgoffiigdbaaDoorMA
namespace Go.Proofs.YtbkmgoffiigdbaaDoor
open Go.RowKit Go.Sort

/-- A program of one function, new in memory. -/
def ProgNew (l : Nat) (L : List (Int × Int)) (w : World) (e : Ending) (w' : World) : Prop :=
  ∃ g : PgR, e = .returned (.agg #[.slice g.a g.n g.c]) ∧ PgIn w'.heap.size w' g ∧ SProg g l L ∧ Below w.heap.size w w'

def oneG (fb fc l cb cc : Nat) (L : List (Int × Int)) : PgR :=
  ⟨some ⟨fb, 0, none⟩, 1, fc, fb, 0, fun _ => ⟨0, l, some ⟨cb, 0, none⟩, L.length, cc, cb, 0, fun j => (L.getD j (0, 0)).1, fun j => (L.getD j (0, 0)).2⟩⟩

theorem oneG_in {W : World} {fb fc l cb cc : Nat} {L : List (Int × Int)} {arr : Array Value} (hf : W.heap[fb]? = some (.cells #[.int .i64 0, .int .i64 (l : Int), .slice (some ⟨cb, 0, none⟩) L.length cc] 35)) (hc : W.heap[cb]? = some (.cells arr 37)) (ha : arr.toList = cellsL L) (hL : L.length ≤ 1000) :
    PgIn W.heap.size W (oneG fb fc l cb cc L) ∧ SProg (oneG fb fc l cb cc L) l L := by
  have hfb := (Array.getElem?_eq_some_iff.1 hf).1
  have hcb := (Array.getElem?_eq_some_iff.1 hc).1
  have len2 : ∀ x : Int × Int, (([.int .i64 x.1, .int .i64 x.2] : List Value)).length = 2 := fun _ => rfl
  refine ⟨⟨by show (1 : Nat) ≤ _; omega, fun _ => ⟨rfl, hfb, fun i hi => ?_⟩, fun i hi => ⟨by show L.length ≤ _; omega, fun _ => ⟨rfl, hcb, fun j hj => ?_⟩⟩⟩, ⟨rfl, rfl, rfl, rfl, fun j x hx => ?_⟩⟩
  · obtain rfl : i = 0 := by have : i < 1 := hi; omega
    have := cell_of_row W fb 0 _ _ _ hf
    have h1 := cell_of_row W fb 1 _ _ _ hf
    have h2 := cell_of_row W fb 2 _ _ _ hf
    exact ⟨this, h1, h2⟩
  · have hj' : j < L.length := hj
    have hx : L[j]? = some L[j] := List.getElem?_eq_getElem hj'
    have hcell : ∀ i, i < 2 → W.cell? ⟨cb, j * 2 + i, none⟩ = ([.int .i64 (L[j]).1, .int .i64 (L[j]).2] : List Value)[i]? := fun i hi => by
      rw [cell_of_row W cb _ _ _ _ hc, ← Array.getElem?_toList, ha]
      exact flat_get len2 hx hi
    have e : L.getD j (0, 0) = L[j] := by simp [List.getD, hx]
    have h0 := hcell 0 (by omega)
    have h1 := hcell 1 (by omega)
    show W.cell? ⟨cb, 0 + j * 2, none⟩ = some (.int .i64 (L.getD j (0, 0)).1) ∧ W.cell? ⟨cb, 0 + j * 2 + 1, none⟩ = some (.int .i64 (L.getD j (0, 0)).2)
    rw [e, Nat.zero_add]
    exact ⟨h0, h1⟩
  · show (L.getD j (0, 0)).1 = x.1 ∧ (L.getD j (0, 0)).2 = x.2
    have e : L.getD j (0, 0) = x := by simp [List.getD, hx]
    rw [e]; exact ⟨rfl, rfl⟩

theorem blk_old {w : World} {o o' : Obj} {n : Nat} (h : w.heap[n]? = some o') : (w.alloc o).heap[n]? = some o' := by
  rw [Below.heap_alloc _ _ _ (Array.getElem?_eq_some_iff.1 h).1]; exact h

set_option maxRecDepth 100000 in
set_option maxHeartbeats 2000000 in
theorem straight_any (x y : Int) (k : Nat) (w : World) : Calls Tryd.prog 24 #[.int .i64 x, .int .i64 y, .int .i64 (k : Int)] w fun e w' => ProgNew 0 (straightL x y k) w e w' := by
  go_enter Tryd.func24, Tryd.ntmps24
  go_wp2_with (go_at_call 39; refine (at_any _ _ _).mono ?_; rintro e w' ⟨rfl, hw⟩; rw [hw]; clear hw w')
  obtain ⟨h1, h2⟩ := oneG_in (l := 0) (fc := 1) (cc := 5) (L := straightL x y k) (blk_new (w := (((((((w.alloc (Obj.cells #[Value.slice (some { block := w.heap.size + 1 + 1 + 1 + 1 + 1 + 1 + 1, off := 0 }) 1 1] 24)).alloc (Obj.cells #[Value.int IntKind.i64 0, Value.int IntKind.i64 x] 37)).alloc (Obj.cells #[Value.int IntKind.i64 0, Value.int IntKind.i64 y] 37)).alloc (Obj.cells #[Value.int IntKind.i64 (k : Int), Value.int IntKind.i64 0] 37)).alloc (Obj.cells #[Value.int IntKind.i64 26, Value.int IntKind.i64 0] 37)).alloc (Obj.cells #[Value.int IntKind.i64 27, Value.int IntKind.i64 0] 37)).alloc (Obj.cells #[Value.int IntKind.i64 0, Value.int IntKind.i64 x, Value.int IntKind.i64 0, Value.int IntKind.i64 y, Value.int IntKind.i64 (k : Int), Value.int IntKind.i64 0, Value.int IntKind.i64 26, Value.int IntKind.i64 0, Value.int IntKind.i64 27, Value.int IntKind.i64 0] 37))) (n := w.heap.size + 1 + 1 + 1 + 1 + 1 + 1 + 1) (by simp))
    (blk_old (blk_new (n := w.heap.size + 1 + 1 + 1 + 1 + 1 + 1) (by simp))) rfl (by simp [straightL])
  exact bodyPost_ret (v := .agg #[.slice (some ⟨w.heap.size + 1 + 1 + 1 + 1 + 1 + 1 + 1, 0, none⟩) 1 1]) (by simp [results, Tryd.results24, go_sem]) rfl ⟨_, rfl, h1, h2, by repeat (first | exact Below.refl _ _ | refine Below.alloc ?_ (by first | (simp; done) | (simp; omega)) _)⟩

end Go.Proofs.YtbkmgoffiigdbaaDoor
