import Derived.Test.YtbkmgoffiigdbabDoorM
namespace Go.Proofs.YtbkmgoffiigdbabDoor
open Go.RowKit

def nextD (pc : Nat) (op x : Int) : List Nat :=
  if op = 15 ∨ op = 27 then [] else if op = 12 then [x.toNat] else if op = 13 then [x.toNat, pc + 1] else [pc + 1]

/-- A list of numbers as a slice in blocks from B on. -/
def ListAt (B : Nat) (w : World) (v : Value) (l : List Nat) : Prop :=
  (v = .slice none 0 0 ∧ l = []) ∨ ∃ b, v = .slice (some ⟨b, 0, none⟩) l.length l.length ∧ B ≤ b ∧ b < w.heap.size ∧ ∀ i, i < l.length → w.cell? ⟨b, i, none⟩ = some (.int .i64 (l.getD i 0 : Nat))

theorem listAt_one (w : World) (o : Obj) (y : Int) (c : Nat) (h : y = c) :
    ListAt w.heap.size ((w.alloc o).alloc (.cells #[.int .i64 y] 3)) (.slice (some ⟨w.heap.size + 1, 0, none⟩) 1 1) [c] := by
  refine Or.inr ⟨w.heap.size + 1, rfl, by omega, by simp, fun i hi => ?_⟩
  obtain rfl : i = 0 := by simpa using hi
  subst h
  go_simp

theorem listAt_two (w : World) (o : Obj) (y z : Int) (c d : Nat) (h : y = c) (h' : z = d) :
    ListAt w.heap.size ((w.alloc o).alloc (.cells #[.int .i64 y, .int .i64 z] 3)) (.slice (some ⟨w.heap.size + 1, 0, none⟩) 2 2) [c, d] := by
  refine Or.inr ⟨w.heap.size + 1, rfl, by omega, by simp, fun i hi => ?_⟩
  subst h h'
  match i, hi with
  | 0, _ => go_simp
  | 1, _ => go_simp

end Go.Proofs.YtbkmgoffiigdbabDoor
