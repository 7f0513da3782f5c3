import Derived.Test.YtbkmgoffiigdbabDoorProg
import Derived.WalkKit
import Derived.WalkSpells
namespace Go.Proofs.YtbkmgoffiigdbabDoor
open Go.RowKit

def insideB (n l g : Int) : Bool := decide (l ≤ n) && decide (n ≤ g)

theorem insideB_t {n l g : Int} (h1 : l ≤ n) (h2 : n ≤ g) : insideB n l g = true := by simp [insideB, h1, h2]
theorem insideB_f {n l g : Int} (h : ¬ (l ≤ n ∧ n ≤ g)) : insideB n l g = false := by
  simp only [insideB, Bool.and_eq_false_iff, decide_eq_false_iff_not]; omega

set_option maxHeartbeats 400000 in
theorem within_any (n l g : Int) (w : World) :
    Calls Tryd.prog 33 #[.int .i64 n, .int .i64 l, .int .i64 g] w fun e w' => e = .returned (.bool (insideB n l g)) ∧ w' = w := by
  by_cases h1 : l ≤ n
  · by_cases h2 : n ≤ g
    · rw [insideB_t h1 h2]
      go_enter Tryd.func33, Tryd.ntmps33
      go_wp2
      all_goals go_ret
      all_goals exact ⟨by simp, rfl⟩
    · rw [insideB_f (by omega)]
      go_enter Tryd.func33, Tryd.ntmps33
      go_wp2
      all_goals go_ret
      all_goals exact ⟨by simp, rfl⟩
  · rw [insideB_f (by omega)]
    go_enter Tryd.func33, Tryd.ntmps33
    go_wp2
    all_goals go_ret
    all_goals exact ⟨by simp, rfl⟩

set_option maxHeartbeats 400000 in
theorem anything_any (a b : Option Addr) (n c m d : Nat) (p l x : Int) (w : World) :
    Calls Tryd.prog 87 #[.agg #[.slice a n c], .agg #[.int .i64 p, .int .i64 l, .slice b m d], .int .i64 x] w fun e w' => e = .returned (.bool true) ∧ Below w.heap.size w w' := by
  go_enter Tryd.func87, Tryd.ntmps87
  go_wp2
  go_ret
  exact ⟨rfl, by repeat (first | exact Below.refl _ _ | refine Below.drew ?_ | refine Below.alloc ?_ (by simp) _)⟩

set_option maxHeartbeats 400000 in
theorem nothing_any (a b : Option Addr) (n c m d : Nat) (p l x : Int) (w : World) :
    Calls Tryd.prog 89 #[.agg #[.slice a n c], .agg #[.int .i64 p, .int .i64 l, .slice b m d], .int .i64 x] w fun e w' => e = .returned (.bool (x == 0)) ∧ Below w.heap.size w w' := by
  go_enter Tryd.func89, Tryd.ntmps89
  go_wp2
  go_ret
  exact ⟨rfl, by repeat (first | exact Below.refl _ _ | refine Below.drew ?_ | refine Below.alloc ?_ (by simp) _)⟩

set_option maxHeartbeats 400000 in
theorem aLocal_any (a b : Option Addr) (n c m d : Nat) (p l x : Int) (w : World) (h0 : 0 ≤ l) (h8 : l ≤ 8) :
    Calls Tryd.prog 91 #[.agg #[.slice a n c], .agg #[.int .i64 p, .int .i64 l, .slice b m d], .int .i64 x] w fun e w' => e = .returned (.bool (insideB x 0 (l - 1))) ∧ Below w.heap.size w w' := by
  go_enter Tryd.func91, Tryd.ntmps91
  go_wp2_with (go_at_call 33; refine (within_any _ _ _ _).mono ?_; rintro e w' ⟨rfl, rfl⟩)
  go_ret
  exact ⟨rfl, by repeat (first | exact Below.refl _ _ | refine Below.drew ?_ | refine Below.alloc ?_ (by simp) _)⟩

set_option maxHeartbeats 400000 in
theorem anInstruction_any (a b : Option Addr) (n c m d : Nat) (p l x : Int) (w : World) (hm : m ≤ 1152921504606846976) :
    Calls Tryd.prog 102 #[.agg #[.slice a n c], .agg #[.int .i64 p, .int .i64 l, .slice b m d], .int .i64 x] w fun e w' => e = .returned (.bool (insideB x 0 (m - 1))) ∧ Below w.heap.size w w' := by
  go_enter Tryd.func102, Tryd.ntmps102
  go_wp2_with (go_at_call 33; refine (within_any _ _ _ _).mono ?_; rintro e w' ⟨rfl, rfl⟩)
  go_ret
  exact ⟨rfl, by repeat (first | exact Below.refl _ _ | refine Below.drew ?_ | refine Below.alloc ?_ (by simp) _)⟩

set_option maxHeartbeats 400000 in
theorem aFunction_any (a b : Option Addr) (n c m d : Nat) (p l x : Int) (w : World) (hm : n ≤ 1152921504606846976) :
    Calls Tryd.prog 105 #[.agg #[.slice a n c], .agg #[.int .i64 p, .int .i64 l, .slice b m d], .int .i64 x] w fun e w' => e = .returned (.bool (insideB x 0 (n - 1))) ∧ Below w.heap.size w w' := by
  go_enter Tryd.func105, Tryd.ntmps105
  go_wp2_with (go_at_call 33; refine (within_any _ _ _ _).mono ?_; rintro e w' ⟨rfl, rfl⟩)
  go_ret
  exact ⟨rfl, by repeat (first | exact Below.refl _ _ | refine Below.drew ?_ | refine Below.alloc ?_ (by simp) _)⟩

set_option maxHeartbeats 400000 in
theorem aRecordSize_any (a b : Option Addr) (n c m d : Nat) (p l x : Int) (w : World) :
    Calls Tryd.prog 108 #[.agg #[.slice a n c], .agg #[.int .i64 p, .int .i64 l, .slice b m d], .int .i64 x] w fun e w' => e = .returned (.bool (insideB x 0 8)) ∧ Below w.heap.size w w' := by
  go_enter Tryd.func108, Tryd.ntmps108
  go_wp2_with (go_at_call 33; refine (within_any _ _ _ _).mono ?_; rintro e w' ⟨rfl, rfl⟩)
  go_ret
  exact ⟨rfl, by repeat (first | exact Below.refl _ _ | refine Below.drew ?_ | refine Below.alloc ?_ (by simp) _)⟩

set_option maxHeartbeats 400000 in
theorem aField_any (a b : Option Addr) (n c m d : Nat) (p l x : Int) (w : World) :
    Calls Tryd.prog 112 #[.agg #[.slice a n c], .agg #[.int .i64 p, .int .i64 l, .slice b m d], .int .i64 x] w fun e w' => e = .returned (.bool (insideB x 0 7)) ∧ Below w.heap.size w w' := by
  go_enter Tryd.func112, Tryd.ntmps112
  go_wp2_with (go_at_call 33; refine (within_any _ _ _ _).mono ?_; rintro e w' ⟨rfl, rfl⟩)
  go_ret
  exact ⟨rfl, by repeat (first | exact Below.refl _ _ | refine Below.drew ?_ | refine Below.alloc ?_ (by simp) _)⟩

end Go.Proofs.YtbkmgoffiigdbabDoor
