import Derived.Test.YtbkmgoffiigdbaaDoorB
import Derived.Lib.QuietBelow
import Derived.BigQuiet
namespace Go.Proofs.YtbkmgoffiigdbaaDoor
open Go.RowKit Go.Sort

/-- A callee that leaves the world as it was, met in a world of the class. -/
theorem regrown_same {P : Program} {f : FuncId} {args : Array Value} {w : World} {d : Nat} {os : Array Obj} {v : Value}
    (h : Calls P f args (grow (redrawn w d) os) fun e w' => e = .returned v ∧ w' = grow (redrawn w d) os) : Calls P f args (grow (redrawn w d) os) fun e w'' => e = .returned v ∧ ∃ p : Regrown, w'' = grow (redrawn w p.d) p.os :=
  h.mono fun _ _ ⟨he, hb⟩ => ⟨he, ⟨⟨d, os⟩, hb⟩⟩

set_option maxHeartbeats 800000 in
theorem instrFits_53 (a b : Option Addr) (n c m d : Nat) (p l x : Int) (k : Nat) (w : World) (hz : 0 < w.heap.size) (hk : k < 28) (ht : w.cell? ⟨0, k * 5 + 3, none⟩ = some (.func (.func 138) #[] #[])) :
    Calls Tryd.prog 66 #[.agg #[.slice a n c], .agg #[.int .i64 p, .int .i64 l, .slice b m d], .agg #[.int .i64 (k : Int), .int .i64 x]] w fun e w' => e = .returned (.bool (true)) ∧ Below w.heap.size w w' := by
  have hin : insideB k 0 27 = true := insideB_t (by omega) (by omega)
  go_enter Tryd.func66, Tryd.ntmps66
  go_wp2
  have hB : Below w.heap.size w (((w.alloc (Obj.cells #[Value.slice a n c] 24)).alloc (Obj.cells #[.int .i64 p, .int .i64 l, .slice b m d] 35)).alloc (Obj.cells #[.int .i64 (k : Int), .int .i64 x] 37)) := by repeat (first | exact Below.refl _ _ | refine Below.alloc ?_ (by first | (simp; done) | (simp; omega)) _)
  have k0 := cell_regrown (w := (((w.alloc (Obj.cells #[Value.slice a n c] 24)).alloc (Obj.cells #[.int .i64 p, .int .i64 l, .slice b m d] 35)).alloc (Obj.cells #[.int .i64 (k : Int), .int .i64 x] 37))) (a := ⟨w.heap.size, 0, none⟩) (v := .slice a n c) (by go_simp)
  have k1 := cell_regrown (w := (((w.alloc (Obj.cells #[Value.slice a n c] 24)).alloc (Obj.cells #[.int .i64 p, .int .i64 l, .slice b m d] 35)).alloc (Obj.cells #[.int .i64 (k : Int), .int .i64 x] 37))) (a := ⟨w.heap.size + 1, 0, none⟩) (v := .int .i64 p) (by go_simp)
  have k2 := cell_regrown (w := (((w.alloc (Obj.cells #[Value.slice a n c] 24)).alloc (Obj.cells #[.int .i64 p, .int .i64 l, .slice b m d] 35)).alloc (Obj.cells #[.int .i64 (k : Int), .int .i64 x] 37))) (a := ⟨w.heap.size + 1, 1, none⟩) (v := .int .i64 l) (by go_simp)
  have k3 := cell_regrown (w := (((w.alloc (Obj.cells #[Value.slice a n c] 24)).alloc (Obj.cells #[.int .i64 p, .int .i64 l, .slice b m d] 35)).alloc (Obj.cells #[.int .i64 (k : Int), .int .i64 x] 37))) (a := ⟨w.heap.size + 1, 2, none⟩) (v := .slice b m d) (by go_simp)
  have k4 := cell_regrown (w := (((w.alloc (Obj.cells #[Value.slice a n c] 24)).alloc (Obj.cells #[.int .i64 p, .int .i64 l, .slice b m d] 35)).alloc (Obj.cells #[.int .i64 (k : Int), .int .i64 x] 37))) (a := ⟨w.heap.size + 1 + 1, 0, none⟩) (v := .int .i64 k) (by go_simp)
  have k5 := cell_regrown (w := (((w.alloc (Obj.cells #[Value.slice a n c] 24)).alloc (Obj.cells #[.int .i64 p, .int .i64 l, .slice b m d] 35)).alloc (Obj.cells #[.int .i64 (k : Int), .int .i64 x] 37))) (a := ⟨w.heap.size + 1 + 1, 1, none⟩) (v := .int .i64 x) (by go_simp)
  have k6 := cell_regrown (w := (((w.alloc (Obj.cells #[Value.slice a n c] 24)).alloc (Obj.cells #[.int .i64 p, .int .i64 l, .slice b m d] 35)).alloc (Obj.cells #[.int .i64 (k : Int), .int .i64 x] 37))) (a := ⟨0, k * 5 + 3, none⟩) (v := .func (.func 138) #[] #[]) (by go_simp)
  generalize (((w.alloc (Obj.cells #[Value.slice a n c] 24)).alloc (Obj.cells #[.int .i64 p, .int .i64 l, .slice b m d] 35)).alloc (Obj.cells #[.int .i64 (k : Int), .int .i64 x] 37)) = W at *
  refine wp_region_quiet_below (by kernel_rfl) (by kernel_rfl) ?_
  repeat (first
    | go_big_quiet_step (first | (go_at_call 58; exact regrown_same (within_any _ _ _ _)) | (go_at_call 138; exact Calls.regrown_of (anything_any _ _ _ _ _ _ _ _ _ _)))
    | quiet_step (first | (go_at_call 58; exact regrown_same (within_any _ _ _ _)) | (go_at_call 138; exact Calls.regrown_of (anything_any _ _ _ _ _ _ _ _ _ _))))
  refine wpQuiet_nil ?_
  intro _ hw'
  obtain ⟨⟨dq, osq⟩, hw''⟩ := hw'
  subst hw''
  go_wp2
  go_ret
  exact ⟨rfl, hB.trans ((below_regrown W dq osq).mono hB.size)⟩

set_option maxHeartbeats 800000 in
theorem instrFits_54 (a b : Option Addr) (n c m d : Nat) (p l x : Int) (k : Nat) (w : World) (hz : 0 < w.heap.size) (hk : k < 28) (ht : w.cell? ⟨0, k * 5 + 3, none⟩ = some (.func (.func 140) #[] #[])) :
    Calls Tryd.prog 66 #[.agg #[.slice a n c], .agg #[.int .i64 p, .int .i64 l, .slice b m d], .agg #[.int .i64 (k : Int), .int .i64 x]] w fun e w' => e = .returned (.bool (x == 0)) ∧ Below w.heap.size w w' := by
  have hin : insideB k 0 27 = true := insideB_t (by omega) (by omega)
  go_enter Tryd.func66, Tryd.ntmps66
  go_wp2
  have hB : Below w.heap.size w (((w.alloc (Obj.cells #[Value.slice a n c] 24)).alloc (Obj.cells #[.int .i64 p, .int .i64 l, .slice b m d] 35)).alloc (Obj.cells #[.int .i64 (k : Int), .int .i64 x] 37)) := by repeat (first | exact Below.refl _ _ | refine Below.alloc ?_ (by first | (simp; done) | (simp; omega)) _)
  have k0 := cell_regrown (w := (((w.alloc (Obj.cells #[Value.slice a n c] 24)).alloc (Obj.cells #[.int .i64 p, .int .i64 l, .slice b m d] 35)).alloc (Obj.cells #[.int .i64 (k : Int), .int .i64 x] 37))) (a := ⟨w.heap.size, 0, none⟩) (v := .slice a n c) (by go_simp)
  have k1 := cell_regrown (w := (((w.alloc (Obj.cells #[Value.slice a n c] 24)).alloc (Obj.cells #[.int .i64 p, .int .i64 l, .slice b m d] 35)).alloc (Obj.cells #[.int .i64 (k : Int), .int .i64 x] 37))) (a := ⟨w.heap.size + 1, 0, none⟩) (v := .int .i64 p) (by go_simp)
  have k2 := cell_regrown (w := (((w.alloc (Obj.cells #[Value.slice a n c] 24)).alloc (Obj.cells #[.int .i64 p, .int .i64 l, .slice b m d] 35)).alloc (Obj.cells #[.int .i64 (k : Int), .int .i64 x] 37))) (a := ⟨w.heap.size + 1, 1, none⟩) (v := .int .i64 l) (by go_simp)
  have k3 := cell_regrown (w := (((w.alloc (Obj.cells #[Value.slice a n c] 24)).alloc (Obj.cells #[.int .i64 p, .int .i64 l, .slice b m d] 35)).alloc (Obj.cells #[.int .i64 (k : Int), .int .i64 x] 37))) (a := ⟨w.heap.size + 1, 2, none⟩) (v := .slice b m d) (by go_simp)
  have k4 := cell_regrown (w := (((w.alloc (Obj.cells #[Value.slice a n c] 24)).alloc (Obj.cells #[.int .i64 p, .int .i64 l, .slice b m d] 35)).alloc (Obj.cells #[.int .i64 (k : Int), .int .i64 x] 37))) (a := ⟨w.heap.size + 1 + 1, 0, none⟩) (v := .int .i64 k) (by go_simp)
  have k5 := cell_regrown (w := (((w.alloc (Obj.cells #[Value.slice a n c] 24)).alloc (Obj.cells #[.int .i64 p, .int .i64 l, .slice b m d] 35)).alloc (Obj.cells #[.int .i64 (k : Int), .int .i64 x] 37))) (a := ⟨w.heap.size + 1 + 1, 1, none⟩) (v := .int .i64 x) (by go_simp)
  have k6 := cell_regrown (w := (((w.alloc (Obj.cells #[Value.slice a n c] 24)).alloc (Obj.cells #[.int .i64 p, .int .i64 l, .slice b m d] 35)).alloc (Obj.cells #[.int .i64 (k : Int), .int .i64 x] 37))) (a := ⟨0, k * 5 + 3, none⟩) (v := .func (.func 140) #[] #[]) (by go_simp)
  generalize (((w.alloc (Obj.cells #[Value.slice a n c] 24)).alloc (Obj.cells #[.int .i64 p, .int .i64 l, .slice b m d] 35)).alloc (Obj.cells #[.int .i64 (k : Int), .int .i64 x] 37)) = W at *
  refine wp_region_quiet_below (by kernel_rfl) (by kernel_rfl) ?_
  repeat (first
    | go_big_quiet_step (first | (go_at_call 58; exact regrown_same (within_any _ _ _ _)) | (go_at_call 140; exact Calls.regrown_of (nothing_any _ _ _ _ _ _ _ _ _ _)))
    | quiet_step (first | (go_at_call 58; exact regrown_same (within_any _ _ _ _)) | (go_at_call 140; exact Calls.regrown_of (nothing_any _ _ _ _ _ _ _ _ _ _))))
  refine wpQuiet_nil ?_
  intro _ hw'
  obtain ⟨⟨dq, osq⟩, hw''⟩ := hw'
  subst hw''
  go_wp2
  go_ret
  exact ⟨rfl, hB.trans ((below_regrown W dq osq).mono hB.size)⟩

set_option maxHeartbeats 800000 in
theorem instrFits_55 (a b : Option Addr) (n c m d : Nat) (p l x : Int) (k : Nat) (w : World) (hz : 0 < w.heap.size) (hk : k < 28) (ht : w.cell? ⟨0, k * 5 + 3, none⟩ = some (.func (.func 142) #[] #[])) (h0 : 0 ≤ l) (h8 : l ≤ 8) :
    Calls Tryd.prog 66 #[.agg #[.slice a n c], .agg #[.int .i64 p, .int .i64 l, .slice b m d], .agg #[.int .i64 (k : Int), .int .i64 x]] w fun e w' => e = .returned (.bool (insideB x 0 (l - 1))) ∧ Below w.heap.size w w' := by
  have hin : insideB k 0 27 = true := insideB_t (by omega) (by omega)
  go_enter Tryd.func66, Tryd.ntmps66
  go_wp2
  have hB : Below w.heap.size w (((w.alloc (Obj.cells #[Value.slice a n c] 24)).alloc (Obj.cells #[.int .i64 p, .int .i64 l, .slice b m d] 35)).alloc (Obj.cells #[.int .i64 (k : Int), .int .i64 x] 37)) := by repeat (first | exact Below.refl _ _ | refine Below.alloc ?_ (by first | (simp; done) | (simp; omega)) _)
  have k0 := cell_regrown (w := (((w.alloc (Obj.cells #[Value.slice a n c] 24)).alloc (Obj.cells #[.int .i64 p, .int .i64 l, .slice b m d] 35)).alloc (Obj.cells #[.int .i64 (k : Int), .int .i64 x] 37))) (a := ⟨w.heap.size, 0, none⟩) (v := .slice a n c) (by go_simp)
  have k1 := cell_regrown (w := (((w.alloc (Obj.cells #[Value.slice a n c] 24)).alloc (Obj.cells #[.int .i64 p, .int .i64 l, .slice b m d] 35)).alloc (Obj.cells #[.int .i64 (k : Int), .int .i64 x] 37))) (a := ⟨w.heap.size + 1, 0, none⟩) (v := .int .i64 p) (by go_simp)
  have k2 := cell_regrown (w := (((w.alloc (Obj.cells #[Value.slice a n c] 24)).alloc (Obj.cells #[.int .i64 p, .int .i64 l, .slice b m d] 35)).alloc (Obj.cells #[.int .i64 (k : Int), .int .i64 x] 37))) (a := ⟨w.heap.size + 1, 1, none⟩) (v := .int .i64 l) (by go_simp)
  have k3 := cell_regrown (w := (((w.alloc (Obj.cells #[Value.slice a n c] 24)).alloc (Obj.cells #[.int .i64 p, .int .i64 l, .slice b m d] 35)).alloc (Obj.cells #[.int .i64 (k : Int), .int .i64 x] 37))) (a := ⟨w.heap.size + 1, 2, none⟩) (v := .slice b m d) (by go_simp)
  have k4 := cell_regrown (w := (((w.alloc (Obj.cells #[Value.slice a n c] 24)).alloc (Obj.cells #[.int .i64 p, .int .i64 l, .slice b m d] 35)).alloc (Obj.cells #[.int .i64 (k : Int), .int .i64 x] 37))) (a := ⟨w.heap.size + 1 + 1, 0, none⟩) (v := .int .i64 k) (by go_simp)
  have k5 := cell_regrown (w := (((w.alloc (Obj.cells #[Value.slice a n c] 24)).alloc (Obj.cells #[.int .i64 p, .int .i64 l, .slice b m d] 35)).alloc (Obj.cells #[.int .i64 (k : Int), .int .i64 x] 37))) (a := ⟨w.heap.size + 1 + 1, 1, none⟩) (v := .int .i64 x) (by go_simp)
  have k6 := cell_regrown (w := (((w.alloc (Obj.cells #[Value.slice a n c] 24)).alloc (Obj.cells #[.int .i64 p, .int .i64 l, .slice b m d] 35)).alloc (Obj.cells #[.int .i64 (k : Int), .int .i64 x] 37))) (a := ⟨0, k * 5 + 3, none⟩) (v := .func (.func 142) #[] #[]) (by go_simp)
  generalize (((w.alloc (Obj.cells #[Value.slice a n c] 24)).alloc (Obj.cells #[.int .i64 p, .int .i64 l, .slice b m d] 35)).alloc (Obj.cells #[.int .i64 (k : Int), .int .i64 x] 37)) = W at *
  refine wp_region_quiet_below (by kernel_rfl) (by kernel_rfl) ?_
  repeat (first
    | go_big_quiet_step (first | (go_at_call 58; exact regrown_same (within_any _ _ _ _)) | (go_at_call 142; exact Calls.regrown_of (aLocal_any _ _ _ _ _ _ _ _ _ _ h0 h8)))
    | quiet_step (first | (go_at_call 58; exact regrown_same (within_any _ _ _ _)) | (go_at_call 142; exact Calls.regrown_of (aLocal_any _ _ _ _ _ _ _ _ _ _ h0 h8))))
  refine wpQuiet_nil ?_
  intro _ hw'
  obtain ⟨⟨dq, osq⟩, hw''⟩ := hw'
  subst hw''
  go_wp2
  go_ret
  exact ⟨rfl, hB.trans ((below_regrown W dq osq).mono hB.size)⟩

set_option maxHeartbeats 800000 in
theorem instrFits_56 (a b : Option Addr) (n c m d : Nat) (p l x : Int) (k : Nat) (w : World) (hz : 0 < w.heap.size) (hk : k < 28) (ht : w.cell? ⟨0, k * 5 + 3, none⟩ = some (.func (.func 153) #[] #[])) (hm : m ≤ 1152921504606846976) :
    Calls Tryd.prog 66 #[.agg #[.slice a n c], .agg #[.int .i64 p, .int .i64 l, .slice b m d], .agg #[.int .i64 (k : Int), .int .i64 x]] w fun e w' => e = .returned (.bool (insideB x 0 (m - 1))) ∧ Below w.heap.size w w' := by
  have hin : insideB k 0 27 = true := insideB_t (by omega) (by omega)
  go_enter Tryd.func66, Tryd.ntmps66
  go_wp2
  have hB : Below w.heap.size w (((w.alloc (Obj.cells #[Value.slice a n c] 24)).alloc (Obj.cells #[.int .i64 p, .int .i64 l, .slice b m d] 35)).alloc (Obj.cells #[.int .i64 (k : Int), .int .i64 x] 37)) := by repeat (first | exact Below.refl _ _ | refine Below.alloc ?_ (by first | (simp; done) | (simp; omega)) _)
  have k0 := cell_regrown (w := (((w.alloc (Obj.cells #[Value.slice a n c] 24)).alloc (Obj.cells #[.int .i64 p, .int .i64 l, .slice b m d] 35)).alloc (Obj.cells #[.int .i64 (k : Int), .int .i64 x] 37))) (a := ⟨w.heap.size, 0, none⟩) (v := .slice a n c) (by go_simp)
  have k1 := cell_regrown (w := (((w.alloc (Obj.cells #[Value.slice a n c] 24)).alloc (Obj.cells #[.int .i64 p, .int .i64 l, .slice b m d] 35)).alloc (Obj.cells #[.int .i64 (k : Int), .int .i64 x] 37))) (a := ⟨w.heap.size + 1, 0, none⟩) (v := .int .i64 p) (by go_simp)
  have k2 := cell_regrown (w := (((w.alloc (Obj.cells #[Value.slice a n c] 24)).alloc (Obj.cells #[.int .i64 p, .int .i64 l, .slice b m d] 35)).alloc (Obj.cells #[.int .i64 (k : Int), .int .i64 x] 37))) (a := ⟨w.heap.size + 1, 1, none⟩) (v := .int .i64 l) (by go_simp)
  have k3 := cell_regrown (w := (((w.alloc (Obj.cells #[Value.slice a n c] 24)).alloc (Obj.cells #[.int .i64 p, .int .i64 l, .slice b m d] 35)).alloc (Obj.cells #[.int .i64 (k : Int), .int .i64 x] 37))) (a := ⟨w.heap.size + 1, 2, none⟩) (v := .slice b m d) (by go_simp)
  have k4 := cell_regrown (w := (((w.alloc (Obj.cells #[Value.slice a n c] 24)).alloc (Obj.cells #[.int .i64 p, .int .i64 l, .slice b m d] 35)).alloc (Obj.cells #[.int .i64 (k : Int), .int .i64 x] 37))) (a := ⟨w.heap.size + 1 + 1, 0, none⟩) (v := .int .i64 k) (by go_simp)
  have k5 := cell_regrown (w := (((w.alloc (Obj.cells #[Value.slice a n c] 24)).alloc (Obj.cells #[.int .i64 p, .int .i64 l, .slice b m d] 35)).alloc (Obj.cells #[.int .i64 (k : Int), .int .i64 x] 37))) (a := ⟨w.heap.size + 1 + 1, 1, none⟩) (v := .int .i64 x) (by go_simp)
  have k6 := cell_regrown (w := (((w.alloc (Obj.cells #[Value.slice a n c] 24)).alloc (Obj.cells #[.int .i64 p, .int .i64 l, .slice b m d] 35)).alloc (Obj.cells #[.int .i64 (k : Int), .int .i64 x] 37))) (a := ⟨0, k * 5 + 3, none⟩) (v := .func (.func 153) #[] #[]) (by go_simp)
  generalize (((w.alloc (Obj.cells #[Value.slice a n c] 24)).alloc (Obj.cells #[.int .i64 p, .int .i64 l, .slice b m d] 35)).alloc (Obj.cells #[.int .i64 (k : Int), .int .i64 x] 37)) = W at *
  refine wp_region_quiet_below (by kernel_rfl) (by kernel_rfl) ?_
  repeat (first
    | go_big_quiet_step (first | (go_at_call 58; exact regrown_same (within_any _ _ _ _)) | (go_at_call 153; exact Calls.regrown_of (anInstruction_any _ _ _ _ _ _ _ _ _ _ hm)))
    | quiet_step (first | (go_at_call 58; exact regrown_same (within_any _ _ _ _)) | (go_at_call 153; exact Calls.regrown_of (anInstruction_any _ _ _ _ _ _ _ _ _ _ hm))))
  refine wpQuiet_nil ?_
  intro _ hw'
  obtain ⟨⟨dq, osq⟩, hw''⟩ := hw'
  subst hw''
  go_wp2
  go_ret
  exact ⟨rfl, hB.trans ((below_regrown W dq osq).mono hB.size)⟩

set_option maxHeartbeats 800000 in
theorem instrFits_57 (a b : Option Addr) (n c m d : Nat) (p l x : Int) (k : Nat) (w : World) (hz : 0 < w.heap.size) (hk : k < 28) (ht : w.cell? ⟨0, k * 5 + 3, none⟩ = some (.func (.func 156) #[] #[])) (hm : n ≤ 1152921504606846976) :
    Calls Tryd.prog 66 #[.agg #[.slice a n c], .agg #[.int .i64 p, .int .i64 l, .slice b m d], .agg #[.int .i64 (k : Int), .int .i64 x]] w fun e w' => e = .returned (.bool (insideB x 0 (n - 1))) ∧ Below w.heap.size w w' := by
  have hin : insideB k 0 27 = true := insideB_t (by omega) (by omega)
  go_enter Tryd.func66, Tryd.ntmps66
  go_wp2
  have hB : Below w.heap.size w (((w.alloc (Obj.cells #[Value.slice a n c] 24)).alloc (Obj.cells #[.int .i64 p, .int .i64 l, .slice b m d] 35)).alloc (Obj.cells #[.int .i64 (k : Int), .int .i64 x] 37)) := by repeat (first | exact Below.refl _ _ | refine Below.alloc ?_ (by first | (simp; done) | (simp; omega)) _)
  have k0 := cell_regrown (w := (((w.alloc (Obj.cells #[Value.slice a n c] 24)).alloc (Obj.cells #[.int .i64 p, .int .i64 l, .slice b m d] 35)).alloc (Obj.cells #[.int .i64 (k : Int), .int .i64 x] 37))) (a := ⟨w.heap.size, 0, none⟩) (v := .slice a n c) (by go_simp)
  have k1 := cell_regrown (w := (((w.alloc (Obj.cells #[Value.slice a n c] 24)).alloc (Obj.cells #[.int .i64 p, .int .i64 l, .slice b m d] 35)).alloc (Obj.cells #[.int .i64 (k : Int), .int .i64 x] 37))) (a := ⟨w.heap.size + 1, 0, none⟩) (v := .int .i64 p) (by go_simp)
  have k2 := cell_regrown (w := (((w.alloc (Obj.cells #[Value.slice a n c] 24)).alloc (Obj.cells #[.int .i64 p, .int .i64 l, .slice b m d] 35)).alloc (Obj.cells #[.int .i64 (k : Int), .int .i64 x] 37))) (a := ⟨w.heap.size + 1, 1, none⟩) (v := .int .i64 l) (by go_simp)
  have k3 := cell_regrown (w := (((w.alloc (Obj.cells #[Value.slice a n c] 24)).alloc (Obj.cells #[.int .i64 p, .int .i64 l, .slice b m d] 35)).alloc (Obj.cells #[.int .i64 (k : Int), .int .i64 x] 37))) (a := ⟨w.heap.size + 1, 2, none⟩) (v := .slice b m d) (by go_simp)
  have k4 := cell_regrown (w := (((w.alloc (Obj.cells #[Value.slice a n c] 24)).alloc (Obj.cells #[.int .i64 p, .int .i64 l, .slice b m d] 35)).alloc (Obj.cells #[.int .i64 (k : Int), .int .i64 x] 37))) (a := ⟨w.heap.size + 1 + 1, 0, none⟩) (v := .int .i64 k) (by go_simp)
  have k5 := cell_regrown (w := (((w.alloc (Obj.cells #[Value.slice a n c] 24)).alloc (Obj.cells #[.int .i64 p, .int .i64 l, .slice b m d] 35)).alloc (Obj.cells #[.int .i64 (k : Int), .int .i64 x] 37))) (a := ⟨w.heap.size + 1 + 1, 1, none⟩) (v := .int .i64 x) (by go_simp)
  have k6 := cell_regrown (w := (((w.alloc (Obj.cells #[Value.slice a n c] 24)).alloc (Obj.cells #[.int .i64 p, .int .i64 l, .slice b m d] 35)).alloc (Obj.cells #[.int .i64 (k : Int), .int .i64 x] 37))) (a := ⟨0, k * 5 + 3, none⟩) (v := .func (.func 156) #[] #[]) (by go_simp)
  generalize (((w.alloc (Obj.cells #[Value.slice a n c] 24)).alloc (Obj.cells #[.int .i64 p, .int .i64 l, .slice b m d] 35)).alloc (Obj.cells #[.int .i64 (k : Int), .int .i64 x] 37)) = W at *
  refine wp_region_quiet_below (by kernel_rfl) (by kernel_rfl) ?_
  repeat (first
    | go_big_quiet_step (first | (go_at_call 58; exact regrown_same (within_any _ _ _ _)) | (go_at_call 156; exact Calls.regrown_of (aFunction_any _ _ _ _ _ _ _ _ _ _ hm)))
    | quiet_step (first | (go_at_call 58; exact regrown_same (within_any _ _ _ _)) | (go_at_call 156; exact Calls.regrown_of (aFunction_any _ _ _ _ _ _ _ _ _ _ hm))))
  refine wpQuiet_nil ?_
  intro _ hw'
  obtain ⟨⟨dq, osq⟩, hw''⟩ := hw'
  subst hw''
  go_wp2
  go_ret
  exact ⟨rfl, hB.trans ((below_regrown W dq osq).mono hB.size)⟩

set_option maxHeartbeats 800000 in
theorem instrFits_58 (a b : Option Addr) (n c m d : Nat) (p l x : Int) (k : Nat) (w : World) (hz : 0 < w.heap.size) (hk : k < 28) (ht : w.cell? ⟨0, k * 5 + 3, none⟩ = some (.func (.func 159) #[] #[])) :
    Calls Tryd.prog 66 #[.agg #[.slice a n c], .agg #[.int .i64 p, .int .i64 l, .slice b m d], .agg #[.int .i64 (k : Int), .int .i64 x]] w fun e w' => e = .returned (.bool (insideB x 0 8)) ∧ Below w.heap.size w w' := by
  have hin : insideB k 0 27 = true := insideB_t (by omega) (by omega)
  go_enter Tryd.func66, Tryd.ntmps66
  go_wp2
  have hB : Below w.heap.size w (((w.alloc (Obj.cells #[Value.slice a n c] 24)).alloc (Obj.cells #[.int .i64 p, .int .i64 l, .slice b m d] 35)).alloc (Obj.cells #[.int .i64 (k : Int), .int .i64 x] 37)) := by repeat (first | exact Below.refl _ _ | refine Below.alloc ?_ (by first | (simp; done) | (simp; omega)) _)
  have k0 := cell_regrown (w := (((w.alloc (Obj.cells #[Value.slice a n c] 24)).alloc (Obj.cells #[.int .i64 p, .int .i64 l, .slice b m d] 35)).alloc (Obj.cells #[.int .i64 (k : Int), .int .i64 x] 37))) (a := ⟨w.heap.size, 0, none⟩) (v := .slice a n c) (by go_simp)
  have k1 := cell_regrown (w := (((w.alloc (Obj.cells #[Value.slice a n c] 24)).alloc (Obj.cells #[.int .i64 p, .int .i64 l, .slice b m d] 35)).alloc (Obj.cells #[.int .i64 (k : Int), .int .i64 x] 37))) (a := ⟨w.heap.size + 1, 0, none⟩) (v := .int .i64 p) (by go_simp)
  have k2 := cell_regrown (w := (((w.alloc (Obj.cells #[Value.slice a n c] 24)).alloc (Obj.cells #[.int .i64 p, .int .i64 l, .slice b m d] 35)).alloc (Obj.cells #[.int .i64 (k : Int), .int .i64 x] 37))) (a := ⟨w.heap.size + 1, 1, none⟩) (v := .int .i64 l) (by go_simp)
  have k3 := cell_regrown (w := (((w.alloc (Obj.cells #[Value.slice a n c] 24)).alloc (Obj.cells #[.int .i64 p, .int .i64 l, .slice b m d] 35)).alloc (Obj.cells #[.int .i64 (k : Int), .int .i64 x] 37))) (a := ⟨w.heap.size + 1, 2, none⟩) (v := .slice b m d) (by go_simp)
  have k4 := cell_regrown (w := (((w.alloc (Obj.cells #[Value.slice a n c] 24)).alloc (Obj.cells #[.int .i64 p, .int .i64 l, .slice b m d] 35)).alloc (Obj.cells #[.int .i64 (k : Int), .int .i64 x] 37))) (a := ⟨w.heap.size + 1 + 1, 0, none⟩) (v := .int .i64 k) (by go_simp)
  have k5 := cell_regrown (w := (((w.alloc (Obj.cells #[Value.slice a n c] 24)).alloc (Obj.cells #[.int .i64 p, .int .i64 l, .slice b m d] 35)).alloc (Obj.cells #[.int .i64 (k : Int), .int .i64 x] 37))) (a := ⟨w.heap.size + 1 + 1, 1, none⟩) (v := .int .i64 x) (by go_simp)
  have k6 := cell_regrown (w := (((w.alloc (Obj.cells #[Value.slice a n c] 24)).alloc (Obj.cells #[.int .i64 p, .int .i64 l, .slice b m d] 35)).alloc (Obj.cells #[.int .i64 (k : Int), .int .i64 x] 37))) (a := ⟨0, k * 5 + 3, none⟩) (v := .func (.func 159) #[] #[]) (by go_simp)
  generalize (((w.alloc (Obj.cells #[Value.slice a n c] 24)).alloc (Obj.cells #[.int .i64 p, .int .i64 l, .slice b m d] 35)).alloc (Obj.cells #[.int .i64 (k : Int), .int .i64 x] 37)) = W at *
  refine wp_region_quiet_below (by kernel_rfl) (by kernel_rfl) ?_
  repeat (first
    | go_big_quiet_step (first | (go_at_call 58; exact regrown_same (within_any _ _ _ _)) | (go_at_call 159; exact Calls.regrown_of (aRecordSize_any _ _ _ _ _ _ _ _ _ _)))
    | quiet_step (first | (go_at_call 58; exact regrown_same (within_any _ _ _ _)) | (go_at_call 159; exact Calls.regrown_of (aRecordSize_any _ _ _ _ _ _ _ _ _ _))))
  refine wpQuiet_nil ?_
  intro _ hw'
  obtain ⟨⟨dq, osq⟩, hw''⟩ := hw'
  subst hw''
  go_wp2
  go_ret
  exact ⟨rfl, hB.trans ((below_regrown W dq osq).mono hB.size)⟩

set_option maxHeartbeats 800000 in
theorem instrFits_59 (a b : Option Addr) (n c m d : Nat) (p l x : Int) (k : Nat) (w : World) (hz : 0 < w.heap.size) (hk : k < 28) (ht : w.cell? ⟨0, k * 5 + 3, none⟩ = some (.func (.func 163) #[] #[])) :
    Calls Tryd.prog 66 #[.agg #[.slice a n c], .agg #[.int .i64 p, .int .i64 l, .slice b m d], .agg #[.int .i64 (k : Int), .int .i64 x]] w fun e w' => e = .returned (.bool (insideB x 0 7)) ∧ Below w.heap.size w w' := by
  have hin : insideB k 0 27 = true := insideB_t (by omega) (by omega)
  go_enter Tryd.func66, Tryd.ntmps66
  go_wp2
  have hB : Below w.heap.size w (((w.alloc (Obj.cells #[Value.slice a n c] 24)).alloc (Obj.cells #[.int .i64 p, .int .i64 l, .slice b m d] 35)).alloc (Obj.cells #[.int .i64 (k : Int), .int .i64 x] 37)) := by repeat (first | exact Below.refl _ _ | refine Below.alloc ?_ (by first | (simp; done) | (simp; omega)) _)
  have k0 := cell_regrown (w := (((w.alloc (Obj.cells #[Value.slice a n c] 24)).alloc (Obj.cells #[.int .i64 p, .int .i64 l, .slice b m d] 35)).alloc (Obj.cells #[.int .i64 (k : Int), .int .i64 x] 37))) (a := ⟨w.heap.size, 0, none⟩) (v := .slice a n c) (by go_simp)
  have k1 := cell_regrown (w := (((w.alloc (Obj.cells #[Value.slice a n c] 24)).alloc (Obj.cells #[.int .i64 p, .int .i64 l, .slice b m d] 35)).alloc (Obj.cells #[.int .i64 (k : Int), .int .i64 x] 37))) (a := ⟨w.heap.size + 1, 0, none⟩) (v := .int .i64 p) (by go_simp)
  have k2 := cell_regrown (w := (((w.alloc (Obj.cells #[Value.slice a n c] 24)).alloc (Obj.cells #[.int .i64 p, .int .i64 l, .slice b m d] 35)).alloc (Obj.cells #[.int .i64 (k : Int), .int .i64 x] 37))) (a := ⟨w.heap.size + 1, 1, none⟩) (v := .int .i64 l) (by go_simp)
  have k3 := cell_regrown (w := (((w.alloc (Obj.cells #[Value.slice a n c] 24)).alloc (Obj.cells #[.int .i64 p, .int .i64 l, .slice b m d] 35)).alloc (Obj.cells #[.int .i64 (k : Int), .int .i64 x] 37))) (a := ⟨w.heap.size + 1, 2, none⟩) (v := .slice b m d) (by go_simp)
  have k4 := cell_regrown (w := (((w.alloc (Obj.cells #[Value.slice a n c] 24)).alloc (Obj.cells #[.int .i64 p, .int .i64 l, .slice b m d] 35)).alloc (Obj.cells #[.int .i64 (k : Int), .int .i64 x] 37))) (a := ⟨w.heap.size + 1 + 1, 0, none⟩) (v := .int .i64 k) (by go_simp)
  have k5 := cell_regrown (w := (((w.alloc (Obj.cells #[Value.slice a n c] 24)).alloc (Obj.cells #[.int .i64 p, .int .i64 l, .slice b m d] 35)).alloc (Obj.cells #[.int .i64 (k : Int), .int .i64 x] 37))) (a := ⟨w.heap.size + 1 + 1, 1, none⟩) (v := .int .i64 x) (by go_simp)
  have k6 := cell_regrown (w := (((w.alloc (Obj.cells #[Value.slice a n c] 24)).alloc (Obj.cells #[.int .i64 p, .int .i64 l, .slice b m d] 35)).alloc (Obj.cells #[.int .i64 (k : Int), .int .i64 x] 37))) (a := ⟨0, k * 5 + 3, none⟩) (v := .func (.func 163) #[] #[]) (by go_simp)
  generalize (((w.alloc (Obj.cells #[Value.slice a n c] 24)).alloc (Obj.cells #[.int .i64 p, .int .i64 l, .slice b m d] 35)).alloc (Obj.cells #[.int .i64 (k : Int), .int .i64 x] 37)) = W at *
  refine wp_region_quiet_below (by kernel_rfl) (by kernel_rfl) ?_
  repeat (first
    | go_big_quiet_step (first | (go_at_call 58; exact regrown_same (within_any _ _ _ _)) | (go_at_call 163; exact Calls.regrown_of (aField_any _ _ _ _ _ _ _ _ _ _)))
    | quiet_step (first | (go_at_call 58; exact regrown_same (within_any _ _ _ _)) | (go_at_call 163; exact Calls.regrown_of (aField_any _ _ _ _ _ _ _ _ _ _))))
  refine wpQuiet_nil ?_
  intro _ hw'
  obtain ⟨⟨dq, osq⟩, hw''⟩ := hw'
  subst hw''
  go_wp2
  go_ret
  exact ⟨rfl, hB.trans ((below_regrown W dq osq).mono hB.size)⟩

set_option maxHeartbeats 800000 in
theorem instrFits_no (a b : Option Addr) (n c m d : Nat) (p l x k : Int) (w : World) (hk : insideB k 0 27 = false) :
    Calls Tryd.prog 66 #[.agg #[.slice a n c], .agg #[.int .i64 p, .int .i64 l, .slice b m d], .agg #[.int .i64 k, .int .i64 x]] w fun e w' => e = .returned (.bool false) ∧ Below w.heap.size w w' := by
  go_enter Tryd.func66, Tryd.ntmps66
  go_wp2
  have hB : Below w.heap.size w (((w.alloc (Obj.cells #[Value.slice a n c] 24)).alloc (Obj.cells #[.int .i64 p, .int .i64 l, .slice b m d] 35)).alloc (Obj.cells #[.int .i64 k, .int .i64 x] 37)) := by repeat (first | exact Below.refl _ _ | refine Below.alloc ?_ (by first | (simp; done) | (simp; omega)) _)
  have k4 := cell_regrown (w := (((w.alloc (Obj.cells #[Value.slice a n c] 24)).alloc (Obj.cells #[.int .i64 p, .int .i64 l, .slice b m d] 35)).alloc (Obj.cells #[.int .i64 k, .int .i64 x] 37))) (a := ⟨w.heap.size + 1 + 1, 0, none⟩) (v := .int .i64 k) (by go_simp)
  generalize (((w.alloc (Obj.cells #[Value.slice a n c] 24)).alloc (Obj.cells #[.int .i64 p, .int .i64 l, .slice b m d] 35)).alloc (Obj.cells #[.int .i64 k, .int .i64 x] 37)) = W at *
  refine wp_region_quiet_below (by kernel_rfl) (by kernel_rfl) ?_
  repeat (first
    | go_big_quiet_step ((go_at_call 58; exact regrown_same (within_any _ _ _ _)))
    | quiet_step ((go_at_call 58; exact regrown_same (within_any _ _ _ _))))
  refine wpQuiet_nil ?_
  intro _ hw'
  obtain ⟨⟨dq, osq⟩, hw''⟩ := hw'
  subst hw''
  go_wp2
  go_ret
  exact ⟨rfl, hB.trans ((below_regrown W dq osq).mono hB.size)⟩

end Go.Proofs.YtbkmgoffiigdbaaDoor
