import Derived.Test.YtbkmgoffiigdbaaDoorA
import Derived.Deep.Light
namespace Go.Proofs.YtbkmgoffiigdbaaDoor
open Go.RowKit

/-! The document's own answer: its small functions. -/

set_option maxHeartbeats 400000 in
theorem rwithin_any (n g : Int) (w : World) :
    Calls Tryd.prog 53 #[.int .i64 n, .int .i64 g] w fun e w' => e = .returned (.bool (insideB n 0 (g - 1))) ∧ w' = w := by
  by_cases h1 : 0 ≤ n
  · by_cases h2 : n < g
    · rw [insideB_t h1 (by omega)]
      go_enter Tryd.func53, Tryd.ntmps53
      go_wp2
      all_goals go_ret
      all_goals exact ⟨by simp, rfl⟩
    · rw [insideB_f (by omega)]
      go_enter Tryd.func53, Tryd.ntmps53
      go_wp2
      all_goals go_ret
      all_goals exact ⟨by simp, rfl⟩
  · rw [insideB_f (by omega)]
    go_enter Tryd.func53, Tryd.ntmps53
    go_wp2
    all_goals go_ret
    all_goals exact ⟨by simp, rfl⟩

def sizedB (k p l : Int) (n : Nat) : Bool := insideB n 1 60 && (insideB l 0 8 && (insideB p 0 l && (decide (0 < k) || p == 0)))

theorem sizedB_of {k p l : Int} {n : Nat} {r : Bool} (h : ((1 ≤ n ∧ n ≤ 60) ∧ (0 ≤ l ∧ l ≤ 8) ∧ (0 ≤ p ∧ p ≤ l) ∧ (0 < k ∨ p = 0)) ↔ r = true) : r = sizedB k p l n := by
  rw [Bool.eq_iff_iff, ← h]
  simp only [sizedB, insideB, Bool.and_eq_true, Bool.or_eq_true, decide_eq_true_eq, beq_iff_eq]
  omega

set_option maxHeartbeats 1000000 in
theorem sized_any (k p l : Int) (b : Option Addr) (m d : Nat) (w : World) (hm : m ≤ 1152921504606846976) :
    Calls Tryd.prog 33 #[.int .i64 k, .agg #[.int .i64 p, .int .i64 l, .slice b m d]] w fun e w' => e = .returned (.bool (sizedB k p l m)) ∧ Below w.heap.size w w' := by
  go_enter Tryd.func33, Tryd.ntmps33
  go_wp2
  all_goals go_ret
  all_goals refine ⟨?_, by repeat (first | exact Below.refl _ _ | refine Below.drew ?_ | refine Below.alloc ?_ (by first | (simp; done) | (simp; omega)) _)⟩
  all_goals refine congrArg (fun r => Ending.returned (Value.bool r)) (sizedB_of ?_)
  all_goals simp
  all_goals omega

def legalB (nf : Nat) (l : Int) (nc : Nat) (op x : Int) : Bool :=
  if op = 0 then true
  else if op = 2 ∨ op = 3 then insideB x 0 (l - 1)
  else if op = 12 ∨ op = 13 then insideB x 0 (nc - 1)
  else if op = 14 then insideB x 0 (nf - 1)
  else if op = 16 then insideB x 0 8
  else if op = 19 ∨ op = 20 then insideB x 0 7
  else insideB op 0 27 && x == 0

theorem ret_bool {a b : Bool} (h : a = b) : Ending.returned (.bool a) = .returned (.bool b) := by rw [h]
theorem ret_i64 {a b : Int} (h : a = b) : Ending.returned (.int .i64 a) = .returned (.int .i64 b) := by rw [h]

set_option maxHeartbeats 1000000 in
theorem legal_any (a b : Option Addr) (n c m d : Nat) (p l op x : Int) (w : World) :
    Calls Tryd.prog 34 #[.agg #[.slice a n c], .agg #[.int .i64 p, .int .i64 l, .slice b m d], .agg #[.int .i64 op, .int .i64 x]] w fun e w' => e = .returned (.bool (legalB n l m op x)) ∧ Below w.heap.size w w' := by
  go_enter Tryd.func34, Tryd.ntmps34
  go_wp2_with (go_at_call 53; refine (rwithin_any _ _ _).mono ?_; rintro e w' ⟨rfl, rfl⟩)
  all_goals go_ret
  all_goals refine ⟨?_, by repeat (first | exact Below.refl _ _ | refine Below.drew ?_ | refine Below.alloc ?_ (by first | (simp; done) | (simp; omega)) _)⟩
  all_goals refine ret_bool ?_
  all_goals go_light
  all_goals simp_all [legalB]

def pushD (op : Int) : Int := if op = 4 ∨ op = 6 then 2 else if op = 3 ∨ op = 5 ∨ op = 12 ∨ op = 13 ∨ op = 15 ∨ op = 20 ∨ op = 22 ∨ op = 26 ∨ op = 27 then 0 else 1

set_option maxHeartbeats 1000000 in
theorem pushes_any (op : Int) (w : World) :
    Calls Tryd.prog 69 #[.int .i64 op] w fun e w' => e = .returned (.int .i64 (pushD op)) ∧ w' = w := by
  go_enter Tryd.func69, Tryd.ntmps69
  go_wp2
  all_goals go_ret
  all_goals refine ⟨?_, rfl⟩
  all_goals refine ret_i64 ?_
  all_goals go_light
  all_goals simp_all [pushD]

/-- How many values an operation pops; 'q': the parameters of the function that a Call calls. -/
def popD (op q : Int) : Int :=
  if op = 3 ∨ op = 4 ∨ op = 5 ∨ op = 13 ∨ op = 15 ∨ op = 17 ∨ op = 18 ∨ op = 19 ∨ op = 23 ∨ op = 24 ∨ op = 25 ∨ op = 26 then 1
  else if op = 6 ∨ op = 7 ∨ op = 8 ∨ op = 9 ∨ op = 10 ∨ op = 11 ∨ op = 20 ∨ op = 21 then 2
  else if op = 22 then 3 else if op = 14 then q else 0

set_option maxHeartbeats 2000000 in
theorem pops_plain (a : Option Addr) (n c : Nat) (op x q : Int) (w : World) (h14 : (op == 14) = false) :
    Calls Tryd.prog 68 #[.agg #[.slice a n c], .agg #[.int .i64 op, .int .i64 x]] w fun e w' => e = .returned (.int .i64 (popD op q)) ∧ Below w.heap.size w w' := by
  go_enter Tryd.func68, Tryd.ntmps68
  go_wp2
  all_goals go_ret
  all_goals refine ⟨?_, by repeat (first | exact Below.refl _ _ | refine Below.drew ?_ | refine Below.alloc ?_ (by first | (simp; done) | (simp; omega)) _)⟩
  all_goals refine ret_i64 ?_
  all_goals go_light
  all_goals simp_all [popD]

set_option maxHeartbeats 2000000 in
theorem pops_call (b o : Nat) (n c : Nat) (x : Nat) (q : Int) (w : World) (hb : b < w.heap.size) (hx : x < n) (hc : w.cell? ⟨b, o + x * 3, none⟩ = some (.int .i64 q)) :
    Calls Tryd.prog 68 #[.agg #[.slice (some ⟨b, o, none⟩) n c], .agg #[.int .i64 14, .int .i64 (x : Int)]] w fun e w' => e = .returned (.int .i64 q) ∧ Below w.heap.size w w' := by
  go_enter Tryd.func68, Tryd.ntmps68
  go_wp2
  go_ret
  exact ⟨rfl, by repeat (first | exact Below.refl _ _ | refine Below.drew ?_ | refine Below.alloc ?_ (by first | (simp; done) | (simp; omega)) _)⟩

end Go.Proofs.YtbkmgoffiigdbaaDoor
