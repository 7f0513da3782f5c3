import Derived.Test.YtbkmgoffiigdbaaDoorM
namespace Go.Proofs.YtbkmgoffiigdbaaDoor
open Go.RowKit

def nextD (pc : Nat) (op x : Int) : List Nat :=
  if op = 15 ∨ op = 27 then [] else if op = 12 then [x.toNat] else if op = 13 then [x.toNat, pc + 1] else [pc + 1]

/-- A list of numbers as a slice in blocks from B on. -/
def ListAt (B : Nat) (w : World) (v : Value) (l : List Nat) : Prop :=
  (v = .slice none 0 0 ∧ l = []) ∨ ∃ b, v = .slice (some ⟨b, 0, none⟩) l.length l.length ∧ B ≤ b ∧ b < w.heap.size ∧ ∀ i, i < l.length → w.cell? ⟨b, i, none⟩ = some (.int .i64 (l.getD i 0 : Nat))

theorem listAt_one (w : World) (o : Obj) (y : Int) (c : Nat) (h : y = c) :
    ListAt w.heap.size ((w.alloc o).alloc (.cells #[.int .i64 y] 3)) (.slice (some ⟨w.heap.size + 1, 0, none⟩) 1 1) [c] := by
  refine Or.inr ⟨w.heap.size + 1, rfl, by omega, by simp, fun i hi => ?_⟩
  obtain rfl : i = 0 := by simpa using hi
  subst h
  go_simp

theorem listAt_two (w : World) (o : Obj) (y z : Int) (c d : Nat) (h : y = c) (h' : z = d) :
    ListAt w.heap.size ((w.alloc o).alloc (.cells #[.int .i64 y, .int .i64 z] 3)) (.slice (some ⟨w.heap.size + 1, 0, none⟩) 2 2) [c, d] := by
  refine Or.inr ⟨w.heap.size + 1, rfl, by omega, by simp, fun i hi => ?_⟩
  subst h h'
  match i, hi with
  | 0, _ => go_simp
  | 1, _ => go_simp

set_option maxHeartbeats 1000000 in
theorem next_any (pc : Nat) (op x : Int) (w : World) (hpc : pc ≤ 1000) (hx : Hid (op = 12 ∨ op = 13 → 0 ≤ x)) :
    Calls Tryd.prog 70 #[.int .i64 (pc : Int), .agg #[.int .i64 op, .int .i64 x]] w fun e w' => ∃ v, e = .returned v ∧ ListAt w.heap.size w' v (nextD pc op x) ∧ Below w.heap.size w w' := by
  go_enter Tryd.func70, Tryd.ntmps70
  go_wp2
  all_goals go_ret
  all_goals refine ⟨_, rfl, ?_, by repeat (first | exact Below.refl _ _ | refine Below.drew ?_ | refine Below.setCell ?_ (by first | omega | (simp; done) | (simp; omega)) _ | refine Below.alloc ?_ (by first | omega | (simp; done) | (simp; omega)) _)⟩
  all_goals go_light
  · have : op = 15 := by simp_all
    rw [show nextD pc op x = [] by simp [nextD, this]]; exact Or.inl ⟨rfl, rfl⟩
  · have : op = 27 := by simp_all
    rw [show nextD pc op x = [] by simp [nextD, this]]; exact Or.inl ⟨rfl, rfl⟩
  · have h12 : op = 12 := by simp_all
    have := hx.out (Or.inl h12)
    rw [show nextD pc op x = [x.toNat] by simp [nextD, h12]]; exact listAt_one w _ _ _ (by omega)
  · have h13 : op = 13 := by simp_all
    have := hx.out (Or.inr h13)
    rw [show nextD pc op x = [x.toNat, pc + 1] by simp [nextD, h13]]; exact listAt_two w _ _ _ _ _ (by omega) (by omega)
  · rw [show nextD pc op x = [pc + 1] by simp_all [nextD]]; exact listAt_one w _ _ _ (by omega)

end Go.Proofs.YtbkmgoffiigdbaaDoor
