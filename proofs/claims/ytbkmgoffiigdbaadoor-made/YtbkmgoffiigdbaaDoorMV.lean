import Derived.Test.YtbkmgoffiigdbaaDoorMB0
import Derived.Test.YtbkmgoffiigdbaaDoorMB1
import Derived.Test.YtbkmgoffiigdbaaDoorMB3
import Derived.Test.YtbkmgoffiigdbaaDoorMB4
import Derived.Test.YtbkmgoffiigdbaaDoorMB5
import Derived.Test.YtbkmgoffiigdbaaDoorMB6
import Derived.Test.YtbkmgoffiigdbaaDoorMB7
import Derived.Test.YtbkmgoffiigdbaaDoorMG
import Derived.Test.YtbkmgoffiigdbaaDoorMO0
import Derived.Test.YtbkmgoffiigdbaaDoorMO1
import Derived.Test.YtbkmgoffiigdbaaDoorMO2
import Derived.Test.YtbkmgoffiigdbaaDoorMO9
import Derived.Test.YtbkmgoffiigdbaaDoorMP
namespace Go.Proofs.YtbkmgoffiigdbaaDoor
open Go.RowKit

theorem mod_t (n m : Int) (h : 0 ≤ n) : n.tmod m = n % m := Int.tmod_eq_emod_of_nonneg h
theorem wrap_t (n m : Int) (h : 0 ≤ n) (hm : m = 2 ∨ m = 3) : IntKind.wrap .i64 (1 + n.tmod m) = 1 + n % m := by
  rw [mod_t n m h]; exact Go.IntWalk.i64_in _ (by rcases hm with rfl | rfl <;> omega)

theorem values_any (mb : Nat) (l : List (Int × Int)) (k n : Int) (w : World) (hm : MakerAt w mb l) (hl : l.length ≤ 800) (hl0 : 0 < l.length) (hk0 : 0 ≤ k) (hk8 : k < 8) (hn0 : 0 ≤ n) :
    Calls Tryd.prog 55 #[.pointer (some ⟨mb, 0, none⟩), .int .i64 k, .int .i64 n] w fun e w' => MadePost mb (l ++ pieceV k.toNat n l.length) w e w' := by
  have hk : k = 0 ∨ k = 1 ∨ k = 2 ∨ k = 3 ∨ k = 4 ∨ k = 5 ∨ k = 6 ∨ k = 7 := by omega
  have hl' : l.length ≤ 1000 := by omega
  rcases hk with rfl | rfl | rfl | rfl | rfl | rfl | rfl | rfl
  · exact values_0 mb l n w hm hl'
  · exact values_1 mb l n w hm hl'
  · exact values_2 mb l n w hm hl'
  · exact values_3 mb l n w hm hl'
  · exact values_4 mb l n w hm hl'
  · have h := values_5 mb l n w hm hl' (n.tmod 2) (IntKind.i64.wrap (1 + n.tmod 2)) rfl rfl
    rw [wrap_t n 2 hn0 (Or.inl rfl)] at h
    exact h
  · exact values_6 mb l n w hm hl'
  · have h := values_7 mb l n w hm hl' hl0 (IntKind.i64.wrap ((l.length : Int) + 6)) rfl
    rw [Go.IntWalk.i64_in ((l.length : Int) + 6) (by omega)] at h
    exact h

theorem objects_any (mb : Nat) (l : List (Int × Int)) (k n : Int) (w : World) (hm : MakerAt w mb l) (hl : l.length ≤ 800) (hk0 : 0 ≤ k) (hk8 : k < 10) (hn0 : 0 ≤ n) (hn8 : n ≤ 8) :
    Calls Tryd.prog 56 #[.pointer (some ⟨mb, 0, none⟩), .int .i64 k, .int .i64 n] w fun e w' => MadePost mb (l ++ pieceO k.toNat n l.length) w e w' := by
  have hk : k = 0 ∨ k = 1 ∨ k = 2 ∨ k = 3 ∨ k = 4 ∨ k = 5 ∨ k = 6 ∨ k = 7 ∨ k = 8 ∨ k = 9 := by omega
  have hl' : l.length ≤ 1000 := by omega
  rcases hk with rfl | rfl | rfl | rfl | rfl | rfl | rfl | rfl | rfl | rfl
  · exact objects_0 mb l n w hm hl'
  · exact objects_1 mb l n w hm hl'
  · exact objects_2 mb l n w hm hl'
  · exact objects_3 mb l n w hm hl
  · exact objects_4 mb l n w hm hl
  · exact objects_5 mb l n w hm hl
  · exact objects_6 mb l n w hm hl
  · exact objects_7 mb l n w hm hl
  · exact objects_8 mb l n w hm hl hn0 hn8
  · have h := objects_9 mb l n w hm hl' (n.tmod 3) (IntKind.i64.wrap (1 + n.tmod 3)) rfl rfl
    rw [wrap_t n 3 hn0 (Or.inr rfl), mod_t n 3 hn0] at h
    exact h

theorem pieceV_len (k : Nat) (n : Int) (len : Nat) : 1 ≤ (pieceV k n len).length ∧ (pieceV k n len).length ≤ 7 := by
  unfold pieceV; repeat' split
  all_goals simp
theorem pieceO_len (k : Nat) (n : Int) (len : Nat) : 1 ≤ (pieceO k n len).length ∧ (pieceO k n len).length ≤ 7 := by
  unfold pieceO guardL; repeat' split
  all_goals simp
theorem piece_len (c : Int) (len : Nat) : 1 ≤ (piece c len).length ∧ (piece c len).length ≤ 7 := by
  unfold piece; split
  · exact pieceV_len _ _ _
  · exact pieceO_len _ _ _
theorem bodyTo_len (R : Nat → Int) (i : Nat) : 2 ≤ (bodyTo R i).length ∧ (bodyTo R i).length ≤ 2 + 7 * i := by
  induction i with
  | zero => simp [bodyTo]
  | succ i ih =>
    have := piece_len (R i) (bodyTo R i).length
    simp only [bodyTo, List.length_append]
    omega

end Go.Proofs.YtbkmgoffiigdbaaDoor
