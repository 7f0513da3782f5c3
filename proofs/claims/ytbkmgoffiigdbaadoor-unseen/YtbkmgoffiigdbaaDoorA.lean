import Derived.Test.YtbkmgoffiigdbaaDoorProg
import Derived.WalkKit
import Derived.WalkSpells
namespace Go.Proofs.YtbkmgoffiigdbaaDoor
open Go.RowKit

def insideB (n l g : Int) : Bool := decide (l ≤ n) && decide (n ≤ g)

theorem insideB_t {n l g : Int} (h1 : l ≤ n) (h2 : n ≤ g) : insideB n l g = true := by simp [insideB, h1, h2]
theorem insideB_f {n l g : Int} (h : ¬ (l ≤ n ∧ n ≤ g)) : insideB n l g = false := by
  simp only [insideB, Bool.and_eq_false_iff, decide_eq_false_iff_not]; omega

set_option maxHeartbeats 400000 in
theorem within_any (n l g : Int) (w : World) :
    Calls Tryd.prog 58 #[.int .i64 n, .int .i64 l, .int .i64 g] w fun e w' => e = .returned (.bool (insideB n l g)) ∧ w' = w := by
  by_cases h1 : l ≤ n
  · by_cases h2 : n ≤ g
    · rw [insideB_t h1 h2]
      go_enter Tryd.func58, Tryd.ntmps58
      go_wp2
      all_goals go_ret
      all_goals exact ⟨by simp, rfl⟩
    · rw [insideB_f (by omega)]
      go_enter Tryd.func58, Tryd.ntmps58
      go_wp2
      all_goals go_ret
      all_goals exact ⟨by simp, rfl⟩
  · rw [insideB_f (by omega)]
    go_enter Tryd.func58, Tryd.ntmps58
    go_wp2
    all_goals go_ret
    all_goals exact ⟨by simp, rfl⟩

set_option maxHeartbeats 400000 in
theorem anything_any (a b : Option Addr) (n c m d : Nat) (p l x : Int) (w : World) :
    Calls Tryd.prog 138 #[.agg #[.slice a n c], .agg #[.int .i64 p, .int .i64 l, .slice b m d], .int .i64 x] w fun e w' => e = .returned (.bool true) ∧ Below w.heap.size w w' := by
  go_enter Tryd.func138, Tryd.ntmps138
  go_wp2
  go_ret
  exact ⟨rfl, by repeat (first | exact Below.refl _ _ | refine Below.drew ?_ | refine Below.alloc ?_ (by simp) _)⟩

set_option maxHeartbeats 400000 in
theorem nothing_any (a b : Option Addr) (n c m d : Nat) (p l x : Int) (w : World) :
    Calls Tryd.prog 140 #[.agg #[.slice a n c], .agg #[.int .i64 p, .int .i64 l, .slice b m d], .int .i64 x] w fun e w' => e = .returned (.bool (x == 0)) ∧ Below w.heap.size w w' := by
  go_enter Tryd.func140, Tryd.ntmps140
  go_wp2
  go_ret
  exact ⟨rfl, by repeat (first | exact Below.refl _ _ | refine Below.drew ?_ | refine Below.alloc ?_ (by simp) _)⟩

set_option maxHeartbeats 400000 in
theorem aLocal_any (a b : Option Addr) (n c m d : Nat) (p l x : Int) (w : World) (h0 : 0 ≤ l) (h8 : l ≤ 8) :
    Calls Tryd.prog 142 #[.agg #[.slice a n c], .agg #[.int .i64 p, .int .i64 l, .slice b m d], .int .i64 x] w fun e w' => e = .returned (.bool (insideB x 0 (l - 1))) ∧ Below w.heap.size w w' := by
  go_enter Tryd.func142, Tryd.ntmps142
  go_wp2_with (go_at_call 58; refine (within_any _ _ _ _).mono ?_; rintro e w' ⟨rfl, rfl⟩)
  go_ret
  exact ⟨rfl, by repeat (first | exact Below.refl _ _ | refine Below.drew ?_ | refine Below.alloc ?_ (by simp) _)⟩

set_option maxHeartbeats 400000 in
theorem anInstruction_any (a b : Option Addr) (n c m d : Nat) (p l x : Int) (w : World) (hm : m ≤ 1152921504606846976) :
    Calls Tryd.prog 153 #[.agg #[.slice a n c], .agg #[.int .i64 p, .int .i64 l, .slice b m d], .int .i64 x] w fun e w' => e = .returned (.bool (insideB x 0 (m - 1))) ∧ Below w.heap.size w w' := by
  go_enter Tryd.func153, Tryd.ntmps153
  go_wp2_with (go_at_call 58; refine (within_any _ _ _ _).mono ?_; rintro e w' ⟨rfl, rfl⟩)
  go_ret
  exact ⟨rfl, by repeat (first | exact Below.refl _ _ | refine Below.drew ?_ | refine Below.alloc ?_ (by simp) _)⟩

set_option maxHeartbeats 400000 in
theorem aFunction_any (a b : Option Addr) (n c m d : Nat) (p l x : Int) (w : World) (hm : n ≤ 1152921504606846976) :
    Calls Tryd.prog 156 #[.agg #[.slice a n c], .agg #[.int .i64 p, .int .i64 l, .slice b m d], .int .i64 x] w fun e w' => e = .returned (.bool (insideB x 0 (n - 1))) ∧ Below w.heap.size w w' := by
  go_enter Tryd.func156, Tryd.ntmps156
  go_wp2_with (go_at_call 58; refine (within_any _ _ _ _).mono ?_; rintro e w' ⟨rfl, rfl⟩)
  go_ret
  exact ⟨rfl, by repeat (first | exact Below.refl _ _ | refine Below.drew ?_ | refine Below.alloc ?_ (by simp) _)⟩

set_option maxHeartbeats 400000 in
theorem aRecordSize_any (a b : Option Addr) (n c m d : Nat) (p l x : Int) (w : World) :
    Calls Tryd.prog 159 #[.agg #[.slice a n c], .agg #[.int .i64 p, .int .i64 l, .slice b m d], .int .i64 x] w fun e w' => e = .returned (.bool (insideB x 0 8)) ∧ Below w.heap.size w w' := by
  go_enter Tryd.func159, Tryd.ntmps159
  go_wp2_with (go_at_call 58; refine (within_any _ _ _ _).mono ?_; rintro e w' ⟨rfl, rfl⟩)
  go_ret
  exact ⟨rfl, by repeat (first | exact Below.refl _ _ | refine Below.drew ?_ | refine Below.alloc ?_ (by simp) _)⟩

set_option maxHeartbeats 400000 in
theorem aField_any (a b : Option Addr) (n c m d : Nat) (p l x : Int) (w : World) :
    Calls Tryd.prog 163 #[.agg #[.slice a n c], .agg #[.int .i64 p, .int .i64 l, .slice b m d], .int .i64 x] w fun e w' => e = .returned (.bool (insideB x 0 7)) ∧ Below w.heap.size w w' := by
  go_enter Tryd.func163, Tryd.ntmps163
  go_wp2_with (go_at_call 58; refine (within_any _ _ _ _).mono ?_; rintro e w' ⟨rfl, rfl⟩)
  go_ret
  exact ⟨rfl, by repeat (first | exact Below.refl _ _ | refine Below.drew ?_ | refine Below.alloc ?_ (by simp) _)⟩

end Go.Proofs.YtbkmgoffiigdbaaDoor
