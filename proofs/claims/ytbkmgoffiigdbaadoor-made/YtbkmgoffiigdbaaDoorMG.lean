import Derived.Test.YtbkmgoffiigdbaaDoorMC
namespace Go.Proofs.YtbkmgoffiigdbaaDoor
open Go.RowKit

theorem MakerCv.below {w W : World} {mb : Nat} {l : List (Int × Int)} {cv : Value} (h : MakerCv w mb l cv) (hb : Below w.heap.size w W) : MakerCv W mb l cv := by
  obtain ⟨h1, h2, h3, h4⟩ := h
  refine ⟨by rw [hb.cell (p := ⟨mb, 0, none⟩) h4]; exact h1, by rw [hb.frozen (p := ⟨mb, 0, none⟩) h4]; exact h2, ?_, Nat.lt_of_lt_of_le h4 hb.size⟩
  refine h3.kept (row := none) ⟨hb.os, hb.tape, hb.output, hb.size, fun k hk _ => hb.block k hk⟩ ?_
  cases hv : cv.ownBlock with
  | none => exact Or.inl rfl
  | some k => exact Or.inr (by simp)

set_option maxRecDepth 100000 in
set_option maxHeartbeats 4000000 in
theorem objects_3 (mb : Nat) (l : List (Int × Int)) (n : Int) (w : World) (hm : MakerAt w mb l) (hl : l.length ≤ 800) :
    Calls Tryd.prog 56 #[.pointer (some ⟨mb, 0, none⟩), .int .i64 3, .int .i64 n] w fun e w' => MadePost mb (l ++ ((2, 1) :: (25, 0) :: (13, ((l.length + 3 + 3 : Nat) : Int)) :: [(2, 1), (19, 0), (3, 1)])) w e w' := by
  obtain ⟨cv, hcv⟩ := hm
  obtain ⟨h1, h2, h3, h4⟩ := id hcv
  have hBW : Below w.heap.size w ((((w.alloc (.cells #[.int .i64 2, .int .i64 (1)] 37)).alloc (.cells #[.int .i64 19, .int .i64 (0)] 37)).alloc (.cells #[.int .i64 3, .int .i64 (1)] 37)).alloc (.cells #[.int .i64 2, .int .i64 (1), .int .i64 19, .int .i64 (0), .int .i64 3, .int .i64 (1)] 37)) := (by repeat (first | exact Below.refl _ _ | refine Below.drew ?_ | refine Below.alloc ?_ (by first | omega | (simp; done) | (simp; omega)) _))
  have hg := guarded_any mb (w.heap.size + 1 + 1 + 1) l [(2, 1), (19, 0), (3, 1)] 1 cv ((((w.alloc (.cells #[.int .i64 2, .int .i64 (1)] 37)).alloc (.cells #[.int .i64 19, .int .i64 (0)] 37)).alloc (.cells #[.int .i64 3, .int .i64 (1)] 37)).alloc (.cells #[.int .i64 2, .int .i64 (1), .int .i64 19, .int .i64 (0), .int .i64 3, .int .i64 (1)] 37)) (hcv.below hBW) (by simp) (by simp; omega) ⟨by simp, World.news_of_block (cs := #[.int .i64 2, .int .i64 (1), .int .i64 19, .int .i64 (0), .int .i64 3, .int .i64 (1)]) (t := 37) (fr := (0, 0)) (blk_at (by simp))⟩ (by omega) (fun k hk => by have := (h3.lt k hk).2; omega)
  have HG := (show Hid _ from hg); clear hg
  go_enter Tryd.func56, Tryd.ntmps56
  go_wp2_with (go_at_call 39; refine (at_any _ _ _).mono ?_; rintro e w' ⟨rfl, rfl⟩)
  refine Calls.mono HG.out ?_
  rintro e w2 ⟨rfl, hM, hB⟩
  have hB2 : Below mb w w2 := (hBW.mono (by omega)).trans hB
  clear hB
  go_wp2_with fail
  go_end0
  exact madePost rfl hM hB2

set_option maxRecDepth 100000 in
set_option maxHeartbeats 4000000 in
theorem objects_4 (mb : Nat) (l : List (Int × Int)) (n : Int) (w : World) (hm : MakerAt w mb l) (hl : l.length ≤ 800) :
    Calls Tryd.prog 56 #[.pointer (some ⟨mb, 0, none⟩), .int .i64 4, .int .i64 n] w fun e w' => MadePost mb (l ++ ((2, 1) :: (25, 0) :: (13, ((l.length + 3 + 3 : Nat) : Int)) :: [(2, 1), (18, 0), (3, 2)])) w e w' := by
  obtain ⟨cv, hcv⟩ := hm
  obtain ⟨h1, h2, h3, h4⟩ := id hcv
  have hBW : Below w.heap.size w ((((w.alloc (.cells #[.int .i64 2, .int .i64 (1)] 37)).alloc (.cells #[.int .i64 18, .int .i64 (0)] 37)).alloc (.cells #[.int .i64 3, .int .i64 (2)] 37)).alloc (.cells #[.int .i64 2, .int .i64 (1), .int .i64 18, .int .i64 (0), .int .i64 3, .int .i64 (2)] 37)) := (by repeat (first | exact Below.refl _ _ | refine Below.drew ?_ | refine Below.alloc ?_ (by first | omega | (simp; done) | (simp; omega)) _))
  have hg := guarded_any mb (w.heap.size + 1 + 1 + 1) l [(2, 1), (18, 0), (3, 2)] 1 cv ((((w.alloc (.cells #[.int .i64 2, .int .i64 (1)] 37)).alloc (.cells #[.int .i64 18, .int .i64 (0)] 37)).alloc (.cells #[.int .i64 3, .int .i64 (2)] 37)).alloc (.cells #[.int .i64 2, .int .i64 (1), .int .i64 18, .int .i64 (0), .int .i64 3, .int .i64 (2)] 37)) (hcv.below hBW) (by simp) (by simp; omega) ⟨by simp, World.news_of_block (cs := #[.int .i64 2, .int .i64 (1), .int .i64 18, .int .i64 (0), .int .i64 3, .int .i64 (2)]) (t := 37) (fr := (0, 0)) (blk_at (by simp))⟩ (by omega) (fun k hk => by have := (h3.lt k hk).2; omega)
  have HG := (show Hid _ from hg); clear hg
  go_enter Tryd.func56, Tryd.ntmps56
  go_wp2_with (go_at_call 39; refine (at_any _ _ _).mono ?_; rintro e w' ⟨rfl, rfl⟩)
  refine Calls.mono HG.out ?_
  rintro e w2 ⟨rfl, hM, hB⟩
  have hB2 : Below mb w w2 := (hBW.mono (by omega)).trans hB
  clear hB
  go_wp2_with fail
  go_end0
  exact madePost rfl hM hB2

set_option maxRecDepth 100000 in
set_option maxHeartbeats 4000000 in
theorem objects_5 (mb : Nat) (l : List (Int × Int)) (n : Int) (w : World) (hm : MakerAt w mb l) (hl : l.length ≤ 800) :
    Calls Tryd.prog 56 #[.pointer (some ⟨mb, 0, none⟩), .int .i64 5, .int .i64 n] w fun e w' => MadePost mb (l ++ ((2, 1) :: (25, 0) :: (13, ((l.length + 3 + 3 : Nat) : Int)) :: [(2, 1), (18, 0), (3, 2)])) w e w' := by
  obtain ⟨cv, hcv⟩ := hm
  obtain ⟨h1, h2, h3, h4⟩ := id hcv
  have hBW : Below w.heap.size w ((((w.alloc (.cells #[.int .i64 2, .int .i64 (1)] 37)).alloc (.cells #[.int .i64 18, .int .i64 (0)] 37)).alloc (.cells #[.int .i64 3, .int .i64 (2)] 37)).alloc (.cells #[.int .i64 2, .int .i64 (1), .int .i64 18, .int .i64 (0), .int .i64 3, .int .i64 (2)] 37)) := (by repeat (first | exact Below.refl _ _ | refine Below.drew ?_ | refine Below.alloc ?_ (by first | omega | (simp; done) | (simp; omega)) _))
  have hg := guarded_any mb (w.heap.size + 1 + 1 + 1) l [(2, 1), (18, 0), (3, 2)] 1 cv ((((w.alloc (.cells #[.int .i64 2, .int .i64 (1)] 37)).alloc (.cells #[.int .i64 18, .int .i64 (0)] 37)).alloc (.cells #[.int .i64 3, .int .i64 (2)] 37)).alloc (.cells #[.int .i64 2, .int .i64 (1), .int .i64 18, .int .i64 (0), .int .i64 3, .int .i64 (2)] 37)) (hcv.below hBW) (by simp) (by simp; omega) ⟨by simp, World.news_of_block (cs := #[.int .i64 2, .int .i64 (1), .int .i64 18, .int .i64 (0), .int .i64 3, .int .i64 (2)]) (t := 37) (fr := (0, 0)) (blk_at (by simp))⟩ (by omega) (fun k hk => by have := (h3.lt k hk).2; omega)
  have HG := (show Hid _ from hg); clear hg
  go_enter Tryd.func56, Tryd.ntmps56
  go_wp2_with (go_at_call 39; refine (at_any _ _ _).mono ?_; rintro e w' ⟨rfl, rfl⟩)
  refine Calls.mono HG.out ?_
  rintro e w2 ⟨rfl, hM, hB⟩
  have hB2 : Below mb w w2 := (hBW.mono (by omega)).trans hB
  clear hB
  go_wp2_with fail
  go_end0
  exact madePost rfl hM hB2

set_option maxRecDepth 100000 in
set_option maxHeartbeats 4000000 in
theorem objects_6 (mb : Nat) (l : List (Int × Int)) (n : Int) (w : World) (hm : MakerAt w mb l) (hl : l.length ≤ 800) :
    Calls Tryd.prog 56 #[.pointer (some ⟨mb, 0, none⟩), .int .i64 6, .int .i64 n] w fun e w' => MadePost mb (l ++ ((2, 2) :: (25, 0) :: (13, ((l.length + 3 + 4 : Nat) : Int)) :: [(2, 2), (24, 0), (25, 0), (26, 0)])) w e w' := by
  obtain ⟨cv, hcv⟩ := hm
  obtain ⟨h1, h2, h3, h4⟩ := id hcv
  have hBW : Below w.heap.size w (((((w.alloc (.cells #[.int .i64 2, .int .i64 (2)] 37)).alloc (.cells #[.int .i64 24, .int .i64 (0)] 37)).alloc (.cells #[.int .i64 25, .int .i64 (0)] 37)).alloc (.cells #[.int .i64 26, .int .i64 (0)] 37)).alloc (.cells #[.int .i64 2, .int .i64 (2), .int .i64 24, .int .i64 (0), .int .i64 25, .int .i64 (0), .int .i64 26, .int .i64 (0)] 37)) := (by repeat (first | exact Below.refl _ _ | refine Below.drew ?_ | refine Below.alloc ?_ (by first | omega | (simp; done) | (simp; omega)) _))
  have hg := guarded_any mb (w.heap.size + 1 + 1 + 1 + 1) l [(2, 2), (24, 0), (25, 0), (26, 0)] 2 cv (((((w.alloc (.cells #[.int .i64 2, .int .i64 (2)] 37)).alloc (.cells #[.int .i64 24, .int .i64 (0)] 37)).alloc (.cells #[.int .i64 25, .int .i64 (0)] 37)).alloc (.cells #[.int .i64 26, .int .i64 (0)] 37)).alloc (.cells #[.int .i64 2, .int .i64 (2), .int .i64 24, .int .i64 (0), .int .i64 25, .int .i64 (0), .int .i64 26, .int .i64 (0)] 37)) (hcv.below hBW) (by simp) (by simp; omega) ⟨by simp, World.news_of_block (cs := #[.int .i64 2, .int .i64 (2), .int .i64 24, .int .i64 (0), .int .i64 25, .int .i64 (0), .int .i64 26, .int .i64 (0)]) (t := 37) (fr := (0, 0)) (blk_at (by simp))⟩ (by omega) (fun k hk => by have := (h3.lt k hk).2; omega)
  have HG := (show Hid _ from hg); clear hg
  go_enter Tryd.func56, Tryd.ntmps56
  go_wp2_with (go_at_call 39; refine (at_any _ _ _).mono ?_; rintro e w' ⟨rfl, rfl⟩)
  refine Calls.mono HG.out ?_
  rintro e w2 ⟨rfl, hM, hB⟩
  have hB2 : Below mb w w2 := (hBW.mono (by omega)).trans hB
  clear hB
  go_wp2_with fail
  go_end0
  exact madePost rfl hM hB2

set_option maxRecDepth 100000 in
set_option maxHeartbeats 4000000 in
theorem objects_7 (mb : Nat) (l : List (Int × Int)) (n : Int) (w : World) (hm : MakerAt w mb l) (hl : l.length ≤ 800) :
    Calls Tryd.prog 56 #[.pointer (some ⟨mb, 0, none⟩), .int .i64 7, .int .i64 n] w fun e w' => MadePost mb (l ++ ((2, 2) :: (25, 0) :: (13, ((l.length + 3 + 4 : Nat) : Int)) :: [(2, 2), (24, 0), (25, 0), (26, 0)])) w e w' := by
  obtain ⟨cv, hcv⟩ := hm
  obtain ⟨h1, h2, h3, h4⟩ := id hcv
  have hBW : Below w.heap.size w (((((w.alloc (.cells #[.int .i64 2, .int .i64 (2)] 37)).alloc (.cells #[.int .i64 24, .int .i64 (0)] 37)).alloc (.cells #[.int .i64 25, .int .i64 (0)] 37)).alloc (.cells #[.int .i64 26, .int .i64 (0)] 37)).alloc (.cells #[.int .i64 2, .int .i64 (2), .int .i64 24, .int .i64 (0), .int .i64 25, .int .i64 (0), .int .i64 26, .int .i64 (0)] 37)) := (by repeat (first | exact Below.refl _ _ | refine Below.drew ?_ | refine Below.alloc ?_ (by first | omega | (simp; done) | (simp; omega)) _))
  have hg := guarded_any mb (w.heap.size + 1 + 1 + 1 + 1) l [(2, 2), (24, 0), (25, 0), (26, 0)] 2 cv (((((w.alloc (.cells #[.int .i64 2, .int .i64 (2)] 37)).alloc (.cells #[.int .i64 24, .int .i64 (0)] 37)).alloc (.cells #[.int .i64 25, .int .i64 (0)] 37)).alloc (.cells #[.int .i64 26, .int .i64 (0)] 37)).alloc (.cells #[.int .i64 2, .int .i64 (2), .int .i64 24, .int .i64 (0), .int .i64 25, .int .i64 (0), .int .i64 26, .int .i64 (0)] 37)) (hcv.below hBW) (by simp) (by simp; omega) ⟨by simp, World.news_of_block (cs := #[.int .i64 2, .int .i64 (2), .int .i64 24, .int .i64 (0), .int .i64 25, .int .i64 (0), .int .i64 26, .int .i64 (0)]) (t := 37) (fr := (0, 0)) (blk_at (by simp))⟩ (by omega) (fun k hk => by have := (h3.lt k hk).2; omega)
  have HG := (show Hid _ from hg); clear hg
  go_enter Tryd.func56, Tryd.ntmps56
  go_wp2_with (go_at_call 39; refine (at_any _ _ _).mono ?_; rintro e w' ⟨rfl, rfl⟩)
  refine Calls.mono HG.out ?_
  rintro e w2 ⟨rfl, hM, hB⟩
  have hB2 : Below mb w w2 := (hBW.mono (by omega)).trans hB
  clear hB
  go_wp2_with fail
  go_end0
  exact madePost rfl hM hB2

set_option maxRecDepth 100000 in
set_option maxHeartbeats 4000000 in
theorem objects_8 (mb : Nat) (l : List (Int × Int)) (n : Int) (w : World) (hm : MakerAt w mb l) (hl : l.length ≤ 800) (hn0 : 0 ≤ n) (hn8 : n ≤ 8) :
    Calls Tryd.prog 56 #[.pointer (some ⟨mb, 0, none⟩), .int .i64 8, .int .i64 n] w fun e w' => MadePost mb (l ++ ((2, 1) :: (25, 0) :: (13, ((l.length + 3 + 3 : Nat) : Int)) :: [(2, 1), (2, n % 3), (20, 1)])) w e w' := by
  obtain ⟨cv, hcv⟩ := hm
  obtain ⟨h1, h2, h3, h4⟩ := id hcv
  have hBW : Below w.heap.size w ((((w.alloc (.cells #[.int .i64 2, .int .i64 (1)] 37)).alloc (.cells #[.int .i64 2, .int .i64 (n % 3)] 37)).alloc (.cells #[.int .i64 20, .int .i64 (1)] 37)).alloc (.cells #[.int .i64 2, .int .i64 (1), .int .i64 2, .int .i64 (n % 3), .int .i64 20, .int .i64 (1)] 37)) := (by repeat (first | exact Below.refl _ _ | refine Below.drew ?_ | refine Below.alloc ?_ (by first | omega | (simp; done) | (simp; omega)) _))
  have hg := guarded_any mb (w.heap.size + 1 + 1 + 1) l [(2, 1), (2, n % 3), (20, 1)] 1 cv ((((w.alloc (.cells #[.int .i64 2, .int .i64 (1)] 37)).alloc (.cells #[.int .i64 2, .int .i64 (n % 3)] 37)).alloc (.cells #[.int .i64 20, .int .i64 (1)] 37)).alloc (.cells #[.int .i64 2, .int .i64 (1), .int .i64 2, .int .i64 (n % 3), .int .i64 20, .int .i64 (1)] 37)) (hcv.below hBW) (by simp) (by simp; omega) ⟨by simp, World.news_of_block (cs := #[.int .i64 2, .int .i64 (1), .int .i64 2, .int .i64 (n % 3), .int .i64 20, .int .i64 (1)]) (t := 37) (fr := (0, 0)) (blk_at (by simp))⟩ (by omega) (fun k hk => by have := (h3.lt k hk).2; omega)
  have HG := (show Hid _ from hg); clear hg
  go_enter Tryd.func56, Tryd.ntmps56
  go_wp2_with (go_at_call 39; refine (at_any _ _ _).mono ?_; rintro e w' ⟨rfl, rfl⟩)
  refine Calls.mono HG.out ?_
  rintro e w2 ⟨rfl, hM, hB⟩
  have hB2 : Below mb w w2 := (hBW.mono (by omega)).trans hB
  clear hB
  go_wp2_with fail
  go_end0
  exact madePost rfl hM hB2

end Go.Proofs.YtbkmgoffiigdbaaDoor
