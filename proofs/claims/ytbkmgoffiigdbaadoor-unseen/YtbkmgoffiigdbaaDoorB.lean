import Derived.Test.YtbkmgoffiigdbaaDoorA
namespace Go.Proofs.YtbkmgoffiigdbaaDoor
open Go.RowKit

set_option maxHeartbeats 400000 in
theorem popsOf_plain (a : Option Addr) (n c : Nat) (k : Nat) (x q : Int) (w : World) (hz : 0 < w.heap.size) (hk : k < 28) (hq : (q != -1) = true) (ht : w.cell? ⟨0, k * 5, none⟩ = some (.int .i64 q)) :
    Calls Tryd.prog 77 #[.agg #[.slice a n c], .agg #[.int .i64 (k : Int), .int .i64 x]] w fun e w' => e = .returned (.int .i64 q) ∧ Below w.heap.size w w' := by
  go_enter Tryd.func77, Tryd.ntmps77
  go_wp2
  go_ret
  exact ⟨rfl, by repeat (first | exact Below.refl _ _ | refine Below.drew ?_ | refine Below.alloc ?_ (by simp) _)⟩

set_option maxHeartbeats 400000 in
theorem popsOf_call (b o : Nat) (n c : Nat) (x : Nat) (q : Int) (w : World) (hz : 0 < w.heap.size) (hb : b < w.heap.size) (hx : x < n) (ht : w.cell? ⟨0, 70, none⟩ = some (.int .i64 (-1)))
    (hc : w.cell? ⟨b, o + x * 3, none⟩ = some (.int .i64 q)) :
    Calls Tryd.prog 77 #[.agg #[.slice (some ⟨b, o, none⟩) n c], .agg #[.int .i64 14, .int .i64 (x : Int)]] w fun e w' => e = .returned (.int .i64 q) ∧ Below w.heap.size w w' := by
  go_enter Tryd.func77, Tryd.ntmps77
  go_wp2
  go_ret
  exact ⟨rfl, by repeat (first | exact Below.refl _ _ | refine Below.drew ?_ | refine Below.alloc ?_ (by simp) _)⟩

def sizesB (p l : Int) (n : Nat) : Bool := insideB n 1 60 && (insideB l 0 8 && insideB p 0 l)

set_option maxHeartbeats 400000 in
theorem sizesFit_any (p l : Int) (b : Option Addr) (m d : Nat) (w : World) :
    Calls Tryd.prog 65 #[.agg #[.int .i64 p, .int .i64 l, .slice b m d]] w fun e w' => e = .returned (.bool (sizesB p l m)) ∧ Below w.heap.size w w' := by
  cases h1 : insideB m 1 60
  · go_enter Tryd.func65, Tryd.ntmps65
    go_wp2_with (go_at_call 58; refine (within_any _ _ _ _).mono ?_; rintro e w' ⟨rfl, rfl⟩)
    go_ret
    exact ⟨by simp [sizesB, h1], by repeat (first | exact Below.refl _ _ | refine Below.drew ?_ | refine Below.alloc ?_ (by simp) _)⟩
  · cases h2 : insideB l 0 8
    · go_enter Tryd.func65, Tryd.ntmps65
      go_wp2_with (go_at_call 58; refine (within_any _ _ _ _).mono ?_; rintro e w' ⟨rfl, rfl⟩)
      go_ret
      exact ⟨by simp [sizesB, h1, h2], by repeat (first | exact Below.refl _ _ | refine Below.drew ?_ | refine Below.alloc ?_ (by simp) _)⟩
    · go_enter Tryd.func65, Tryd.ntmps65
      go_wp2_with (go_at_call 58; refine (within_any _ _ _ _).mono ?_; rintro e w' ⟨rfl, rfl⟩)
      go_ret
      exact ⟨by simp [sizesB, h1, h2], by repeat (first | exact Below.refl _ _ | refine Below.drew ?_ | refine Below.alloc ?_ (by simp) _)⟩

end Go.Proofs.YtbkmgoffiigdbaaDoor
