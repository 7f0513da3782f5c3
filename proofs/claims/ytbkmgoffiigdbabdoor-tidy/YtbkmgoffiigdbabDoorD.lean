import Derived.Test.YtbkmgoffiigdbabDoorA
import Derived.Deep.Light
namespace Go.Proofs.YtbkmgoffiigdbabDoor
open Go.RowKit

/-! The document's own answer: its small functions. -/

def sizedB (k p l : Int) (n : Nat) : Bool := insideB n 1 60 && (insideB l 0 8 && (insideB p 0 l && (decide (0 < k) || p == 0)))

theorem sizedB_of {k p l : Int} {n : Nat} {r : Bool} (h : ((1 ≤ n ∧ n ≤ 60) ∧ (0 ≤ l ∧ l ≤ 8) ∧ (0 ≤ p ∧ p ≤ l) ∧ (0 < k ∨ p = 0)) ↔ r = true) : r = sizedB k p l n := by
  rw [Bool.eq_iff_iff, ← h]
  simp only [sizedB, insideB, Bool.and_eq_true, Bool.or_eq_true, decide_eq_true_eq, beq_iff_eq]
  omega

def legalB (nf : Nat) (l : Int) (nc : Nat) (op x : Int) : Bool :=
  if op = 0 then true
  else if op = 2 ∨ op = 3 then insideB x 0 (l - 1)
  else if op = 12 ∨ op = 13 then insideB x 0 (nc - 1)
  else if op = 14 then insideB x 0 (nf - 1)
  else if op = 16 then insideB x 0 8
  else if op = 19 ∨ op = 20 then insideB x 0 7
  else insideB op 0 27 && x == 0

theorem ret_bool {a b : Bool} (h : a = b) : Ending.returned (.bool a) = .returned (.bool b) := by rw [h]
theorem ret_i64 {a b : Int} (h : a = b) : Ending.returned (.int .i64 a) = .returned (.int .i64 b) := by rw [h]

def pushD (op : Int) : Int := if op = 4 ∨ op = 6 then 2 else if op = 3 ∨ op = 5 ∨ op = 12 ∨ op = 13 ∨ op = 15 ∨ op = 20 ∨ op = 22 ∨ op = 26 ∨ op = 27 then 0 else 1

/-- How many values an operation pops; 'q': the parameters of the function that a Call calls. -/
def popD (op q : Int) : Int :=
  if op = 3 ∨ op = 4 ∨ op = 5 ∨ op = 13 ∨ op = 15 ∨ op = 17 ∨ op = 18 ∨ op = 19 ∨ op = 23 ∨ op = 24 ∨ op = 25 ∨ op = 26 then 1
  else if op = 6 ∨ op = 7 ∨ op = 8 ∨ op = 9 ∨ op = 10 ∨ op = 11 ∨ op = 20 ∨ op = 21 then 2
  else if op = 22 then 3 else if op = 14 then q else 0

end Go.Proofs.YtbkmgoffiigdbabDoor
