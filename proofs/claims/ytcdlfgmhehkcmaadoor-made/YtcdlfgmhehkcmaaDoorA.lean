import Derived.Test.YtcdlfgmhehkcmaaDoorProg
import Derived.WalkKit
import Derived.WalkSpells
namespace Go.Proofs.YtcdlfgmhehkcmaaDoor
open Go.RowKit

def insideB (n l g : Int) : Bool := decide (l ≤ n) && decide (n ≤ g)

theorem insideB_t {n l g : Int} (h1 : l ≤ n) (h2 : n ≤ g) : insideB n l g = true := by simp [insideB, h1, h2]
theorem insideB_f {n l g : Int} (h : ¬ (l ≤ n ∧ n ≤ g)) : insideB n l g = false := by
  simp only [insideB, Bool.and_eq_false_iff, decide_eq_false_iff_not]; omega

set_option maxHeartbeats 400000 in
theorem within_any (n l g : Int) (w : World) :
    Calls Tryd.prog 26 #[.int .i64 n, .int .i64 l, .int .i64 g] w fun e w' => e = .returned (.bool (insideB n l g)) ∧ w' = w := by
  by_cases h1 : l ≤ n
  · by_cases h2 : n ≤ g
    · rw [insideB_t h1 h2]
      go_enter Tryd.func26, Tryd.ntmps26
      go_wp2
      all_goals go_ret
      all_goals exact ⟨by simp, rfl⟩
    · rw [insideB_f (by omega)]
      go_enter Tryd.func26, Tryd.ntmps26
      go_wp2
      all_goals go_ret
      all_goals exact ⟨by simp, rfl⟩
  · rw [insideB_f (by omega)]
    go_enter Tryd.func26, Tryd.ntmps26
    go_wp2
    all_goals go_ret
    all_goals exact ⟨by simp, rfl⟩

set_option maxHeartbeats 400000 in
theorem anything_any (a b : Option Addr) (n c m d : Nat) (p l x : Int) (w : World) :
    Calls Tryd.prog 53 #[.agg #[.slice a n c], .agg #[.int .i64 p, .int .i64 l, .slice b m d], .int .i64 x] w fun e w' => e = .returned (.bool true) ∧ Below w.heap.size w w' := by
  go_enter Tryd.func53, Tryd.ntmps53
  go_wp2
  go_ret
  exact ⟨rfl, by repeat (first | exact Below.refl _ _ | refine Below.drew ?_ | refine Below.alloc ?_ (by simp) _)⟩

set_option maxHeartbeats 400000 in
theorem nothing_any (a b : Option Addr) (n c m d : Nat) (p l x : Int) (w : World) :
    Calls Tryd.prog 54 #[.agg #[.slice a n c], .agg #[.int .i64 p, .int .i64 l, .slice b m d], .int .i64 x] w fun e w' => e = .returned (.bool (x == 0)) ∧ Below w.heap.size w w' := by
  go_enter Tryd.func54, Tryd.ntmps54
  go_wp2
  go_ret
  exact ⟨rfl, by repeat (first | exact Below.refl _ _ | refine Below.drew ?_ | refine Below.alloc ?_ (by simp) _)⟩

set_option maxHeartbeats 400000 in
theorem aLocal_any (a b : Option Addr) (n c m d : Nat) (p l x : Int) (w : World) (h0 : 0 ≤ l) (h8 : l ≤ 8) :
    Calls Tryd.prog 55 #[.agg #[.slice a n c], .agg #[.int .i64 p, .int .i64 l, .slice b m d], .int .i64 x] w fun e w' => e = .returned (.bool (insideB x 0 (l - 1))) ∧ Below w.heap.size w w' := by
  go_enter Tryd.func55, Tryd.ntmps55
  go_wp2_with (go_at_call 26; refine (within_any _ _ _ _).mono ?_; rintro e w' ⟨rfl, rfl⟩)
  go_ret
  exact ⟨rfl, by repeat (first | exact Below.refl _ _ | refine Below.drew ?_ | refine Below.alloc ?_ (by simp) _)⟩

set_option maxHeartbeats 400000 in
theorem anInstruction_any (a b : Option Addr) (n c m d : Nat) (p l x : Int) (w : World) (hm : m ≤ 1152921504606846976) :
    Calls Tryd.prog 56 #[.agg #[.slice a n c], .agg #[.int .i64 p, .int .i64 l, .slice b m d], .int .i64 x] w fun e w' => e = .returned (.bool (insideB x 0 (m - 1))) ∧ Below w.heap.size w w' := by
  go_enter Tryd.func56, Tryd.ntmps56
  go_wp2_with (go_at_call 26; refine (within_any _ _ _ _).mono ?_; rintro e w' ⟨rfl, rfl⟩)
  go_ret
  exact ⟨rfl, by repeat (first | exact Below.refl _ _ | refine Below.drew ?_ | refine Below.alloc ?_ (by simp) _)⟩

set_option maxHeartbeats 400000 in
theorem aFunction_any (a b : Option Addr) (n c m d : Nat) (p l x : Int) (w : World) (hm : n ≤ 1152921504606846976) :
    Calls Tryd.prog 57 #[.agg #[.slice a n c], .agg #[.int .i64 p, .int .i64 l, .slice b m d], .int .i64 x] w fun e w' => e = .returned (.bool (insideB x 0 (n - 1))) ∧ Below w.heap.size w w' := by
  go_enter Tryd.func57, Tryd.ntmps57
  go_wp2_with (go_at_call 26; refine (within_any _ _ _ _).mono ?_; rintro e w' ⟨rfl, rfl⟩)
  go_ret
  exact ⟨rfl, by repeat (first | exact Below.refl _ _ | refine Below.drew ?_ | refine Below.alloc ?_ (by simp) _)⟩

set_option maxHeartbeats 400000 in
theorem aRecordSize_any (a b : Option Addr) (n c m d : Nat) (p l x : Int) (w : World) :
    Calls Tryd.prog 58 #[.agg #[.slice a n c], .agg #[.int .i64 p, .int .i64 l, .slice b m d], .int .i64 x] w fun e w' => e = .returned (.bool (insideB x 0 8)) ∧ Below w.heap.size w w' := by
  go_enter Tryd.func58, Tryd.ntmps58
  go_wp2_with (go_at_call 26; refine (within_any _ _ _ _).mono ?_; rintro e w' ⟨rfl, rfl⟩)
  go_ret
  exact ⟨rfl, by repeat (first | exact Below.refl _ _ | refine Below.drew ?_ | refine Below.alloc ?_ (by simp) _)⟩

set_option maxHeartbeats 400000 in
theorem aField_any (a b : Option Addr) (n c m d : Nat) (p l x : Int) (w : World) :
    Calls Tryd.prog 59 #[.agg #[.slice a n c], .agg #[.int .i64 p, .int .i64 l, .slice b m d], .int .i64 x] w fun e w' => e = .returned (.bool (insideB x 0 7)) ∧ Below w.heap.size w w' := by
  go_enter Tryd.func59, Tryd.ntmps59
  go_wp2_with (go_at_call 26; refine (within_any _ _ _ _).mono ?_; rintro e w' ⟨rfl, rfl⟩)
  go_ret
  exact ⟨rfl, by repeat (first | exact Below.refl _ _ | refine Below.drew ?_ | refine Below.alloc ?_ (by simp) _)⟩

end Go.Proofs.YtcdlfgmhehkcmaaDoor
