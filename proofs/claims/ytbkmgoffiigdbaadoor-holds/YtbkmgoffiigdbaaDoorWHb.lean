import Derived.Test.YtbkmgoffiigdbaaDoorWHa
import Derived.Test.YtbkmgoffiigdbaaDoorWLh
import Derived.Test.YtbkmgoffiigdbaaDoorWNh
import Derived.Test.YtbkmgoffiigdbaaDoorCards
import Derived.Test.YtbkmgoffiigdbaaDoorTie
import Derived.Test.YtbkmgoffiigdbaaDoorTb
import Derived.WalkKit
import Derived.ProofKit
import Derived.OpenShut
import Derived.Deep.DeepHandedRow
import Derived.Deep.DeepWitnessRowRef
import Derived.LaidMore
namespace Go.Proofs.YtbkmgoffiigdbaaDoor
open Go.RowKit Go.Sort

/-! The program that holds, or does not hold. -/

theorem at_on {U w : World} (op x : Int) (h : Below U.heap.size U w) :
    Calls Tryd.prog 39 #[.int .i64 op, .int .i64 x] w fun e w' => e = .returned (.agg #[.int .i64 op, .int .i64 x]) ∧ Below U.heap.size U w' := by
  refine (at_any op x w).mono ?_
  rintro e w' ⟨rfl, rfl⟩
  exact ⟨rfl, Below.alloc h h.size _⟩

theorem prog_end {w W w5 : World} {l gq capq m : Nat} {L : List (Int × Int)} (hs0 : w.heap.size < W.heap.size) (hB5 : Below W.heap.size W w5) (hB0 : Below w.heap.size w W) (hO : w5.ownsRow W.heap.size 37 2 (.slice (some ⟨gq, 0, none⟩) m capq) m (cellsL L)) (hm : L.length = m) (h0 : 0 < m) (h1 : m ≤ 1000) :
    ProgNew l L w (.returned (.agg #[.slice (some ⟨w5.heap.size, 0, none⟩) 1 1])) ((w5.setCell ⟨w.heap.size, 0, none⟩ (.slice (some ⟨w5.heap.size, 0, none⟩) 1 1)).alloc (.cells #[.int .i64 0, .int .i64 (l : Int), .slice (some ⟨gq, 0, none⟩) m capq] 35)) := by
  subst hm
  have hs5 := hB5.size
  have hO' := (ownsRow_setCell_below hO (a := ⟨w.heap.size, 0, none⟩) (by show w.heap.size < W.heap.size; exact hs0) (.slice (some ⟨w5.heap.size, 0, none⟩) 1 1)).alloc (.cells #[.int .i64 0, .int .i64 (l : Int), .slice (some ⟨gq, 0, none⟩) L.length capq] 35)
  obtain ⟨q1, q2⟩ := oneG_own (fb := w5.heap.size) (fc := 1) (l := l) (blk_at (by simp)) hO' h0 h1
  refine ⟨_, rfl, q1, q2, ?_⟩
  have hb : Below w.heap.size w w5 := hB0.trans (hB5.mono hB0.size)
  exact Below.alloc (Below.setCell (p := ⟨w.heap.size, 0, none⟩) hb (Nat.le_refl _) _) (by simp; omega) _

theorem row_built {U V : World} (h : Below U.heap.size U V) (L : List (Int × Int)) (cs : Array Value) (hcs : cs.toList = cellsL L) (hl : L.length ≤ 1000) : (V.alloc (.cells cs 37)).ownsRow U.heap.size 37 2 (.slice (some ⟨V.heap.size, 0, none⟩) L.length L.length) L.length (cellsL L) := by
  have hz : cs.size = L.length * 2 := by rw [← Array.length_toList, hcs, cellsL_length]
  refine ⟨cellsL_length L, Or.inr ⟨V.heap.size, L.length, cs, rfl, h.size, heap_alloc_new V _, Nat.le_refl _, by unfold maxLen; omega, hz, ?_⟩⟩
  rw [hcs, List.take_of_length_le (by rw [cellsL_length]; exact Nat.le_refl _)]

set_option maxRecDepth 100000 in
set_option maxHeartbeats 8000000 in
theorem holding_false (w : World) : Calls Tryd.prog 30 #[.bool false] w fun e w' => ProgNew 2 (holdL false) w e w' := by
  go_enter Tryd.func30, Tryd.ntmps30
  go_wp2_with (go_at_call 39; refine (at_any _ _ _).mono ?_; rintro e w' ⟨rfl, hw⟩; rw [hw]; clear hw w')
  obtain ⟨W, hW⟩ : ∃ W, W = ((w.alloc (Obj.cells #[Value.slice none 0 0] 24)).alloc (Obj.cells #[Value.int IntKind.i64 1, Value.int IntKind.i64 0] 37)).alloc (Obj.cells #[Value.int IntKind.i64 1, Value.int IntKind.i64 0] 37) := ⟨_, rfl⟩
  have hB0 : Below w.heap.size w W := by rw [hW]; repeat (first | exact Below.refl _ _ | refine Below.alloc ?_ (by first | (simp; done) | (simp; omega)) _)
  have hs0 : w.heap.size + 1 + 1 < W.heap.size := by rw [hW]; simp
  have hc0 : W.cell? ⟨w.heap.size, 0, none⟩ = some (.slice none 0 0) := by rw [hW]; go_simp
  have hz0 : W.frozen? ⟨w.heap.size, 0, none⟩ = false := by rw [hW]; go_simp
  have hk0 : W.cell? ⟨w.heap.size + 1 + 1, 0, none⟩ = some (.int .i64 1) := by rw [hW]; go_simp
  have hk1 : W.cell? ⟨w.heap.size + 1 + 1, 1, none⟩ = some (.int .i64 0) := by rw [hW]; go_simp
  rw [← hW]
  clear hW
  have HC : Hid (∀ V, Below W.heap.size W V → V.cell? ⟨w.heap.size + 1 + 1, 0, none⟩ = some (.int .i64 1) ∧ V.cell? ⟨w.heap.size + 1 + 1, 1, none⟩ = some (.int .i64 0)) := fun V h => ⟨(h.cell (p := ⟨w.heap.size + 1 + 1, 0, none⟩) hs0).trans hk0, (h.cell (p := ⟨w.heap.size + 1 + 1, 1, none⟩) hs0).trans hk1⟩
  have HB0 := hid hB0
  have HZ := hid (And.intro hc0 hz0)
  have HB : Hid (Below W.heap.size W W.drew) := Below.drew (Below.refl _ _)
  clear hB0 hc0 hz0 hk0 hk1
  refine wp_region_held_drew (S := (fun u => u.cell? ⟨w.heap.size + 1 + 1, 0, none⟩ = some (.int .i64 1) ∧ u.cell? ⟨w.heap.size + 1 + 1, 1, none⟩ = some (.int .i64 0))) (by kernel_rfl) (HC.out _ HB.out) (fun hHeld => ?_)
  refine wpAnyH_take (i := 1) (v := .agg #[.int .i64 1, .int .i64 0]) rfl (by kernel_rfl) (by kernel_rfl) (by kernel_rfl) (fun _ _ _ h => h) (Or.inl ⟨by rfl, ?_⟩) (by assumption) ?_
  · intro u hSw; (try dsimp only at hSw); go_simp
  clear hHeld
  refine wpAnyH_ready (rs := [0]) (by kernel_rfl) (by simp) ?_
  refine AllReadyH.cons rfl (fun K hK => ?_) AllReadyH.nil
  go_simp
  go_at_call 39
  refine (at_on _ _ HB.out).mono ?_
  rintro e w1 ⟨rfl, hb⟩
  dsimp only
  refine hK.out _ _ (HC.out _ hb) (fun hh => ?_)
  clear hh hK K HB
  have HB := hid hb
  clear hb
  refine wpAnyH_ready (rs := [2]) (by kernel_rfl) (by simp) ?_
  refine AllReadyH.cons rfl (fun K hK => ?_) AllReadyH.nil
  go_simp
  go_at_call 39
  refine (at_on _ _ HB.out).mono ?_
  rintro e w3 ⟨rfl, hb⟩
  dsimp only
  refine hK.out _ _ (HC.out _ hb) (fun hh => ?_)
  clear hh hK K HB
  have HB := hid hb
  clear hb
  refine wpAnyH_ready (rs := [3]) (by kernel_rfl) (by simp) ?_
  refine AllReadyH.cons rfl (fun K hK => ?_) AllReadyH.nil
  go_simp
  go_at_call 39
  refine (at_on _ _ HB.out).mono ?_
  rintro e w4 ⟨rfl, hb⟩
  dsimp only
  refine hK.out _ _ (HC.out _ hb) (fun hh => ?_)
  clear hh hK K HB
  have HB := hid hb
  clear hb
  refine wpAnyH_ready (rs := [4]) (by kernel_rfl) (by simp) ?_
  refine AllReadyH.cons rfl (fun K hK => ?_) AllReadyH.nil
  go_simp
  go_at_call 39
  refine (at_on _ _ HB.out).mono ?_
  rintro e w5 ⟨rfl, hb⟩
  dsimp only
  refine hK.out _ _ (HC.out _ hb) (fun hh => ?_)
  clear hh hK K HB
  have HB := hid hb
  clear hb
  refine wpAnyH_ready (rs := [5]) (by kernel_rfl) (by simp) ?_
  refine AllReadyH.cons rfl (fun K hK => ?_) AllReadyH.nil
  go_simp
  go_at_call 39
  refine (at_on _ _ HB.out).mono ?_
  rintro e w6 ⟨rfl, hb⟩
  dsimp only
  refine hK.out _ _ (HC.out _ hb) (fun hh => ?_)
  clear hh hK K HB
  have HB := hid hb
  clear hb
  refine wpAnyH_ready (rs := [6]) (by kernel_rfl) (by simp) ?_
  refine AllReadyH.cons rfl (fun K hK => ?_) AllReadyH.nil
  go_simp
  go_at_call 39
  refine (at_on _ _ HB.out).mono ?_
  rintro e w7 ⟨rfl, hb⟩
  dsimp only
  refine hK.out _ _ (HC.out _ hb) (fun hh => ?_)
  clear hh hK K HB
  have HB := hid hb
  clear hb
  refine wpAnyH_ready (rs := [7]) (by kernel_rfl) (by simp) ?_
  refine AllReadyH.cons rfl (fun K hK => ?_) AllReadyH.nil
  go_simp
  go_at_call 39
  refine (at_on _ _ HB.out).mono ?_
  rintro e w8 ⟨rfl, hb⟩
  dsimp only
  refine hK.out _ _ (HC.out _ hb) (fun hh => ?_)
  clear hh hK K HB
  have HB := hid hb
  clear hb
  refine wpAnyH_ready (rs := [8]) (by kernel_rfl) (by simp) ?_
  refine AllReadyH.cons rfl (fun K hK => ?_) AllReadyH.nil
  go_simp
  go_at_call 39
  refine (at_on _ _ HB.out).mono ?_
  rintro e w9 ⟨rfl, hb⟩
  dsimp only
  refine hK.out _ _ (HC.out _ hb) (fun hh => ?_)
  clear hh hK K HB
  have HB := hid hb
  clear hb
  refine wpAnyH_ready (rs := [9]) (by kernel_rfl) (by simp) ?_
  refine AllReadyH.cons rfl (fun K hK => ?_) AllReadyH.nil
  go_simp
  go_at_call 39
  refine (at_on _ _ HB.out).mono ?_
  rintro e w10 ⟨rfl, hb⟩
  dsimp only
  refine hK.out _ _ (HC.out _ hb) (fun hh => ?_)
  clear hh hK K HB
  have HB := hid hb
  clear hb
  refine wpAnyH_ready (rs := [10]) (by kernel_rfl) (by simp) ?_
  refine AllReadyH.cons rfl (fun K hK => ?_) AllReadyH.nil
  go_simp
  go_at_call 39
  refine (at_on _ _ HB.out).mono ?_
  rintro e w11 ⟨rfl, hb⟩
  dsimp only
  refine hK.out _ _ (HC.out _ hb) (fun hh => ?_)
  clear hh hK K HB
  have HB := hid hb
  clear hb
  refine wpAnyH_ready (rs := [11]) (by kernel_rfl) (by simp) ?_
  refine AllReadyH.cons rfl (fun K hK => ?_) AllReadyH.nil
  go_simp
  go_at_call 39
  refine (at_on _ _ HB.out).mono ?_
  rintro e w12 ⟨rfl, hb⟩
  dsimp only
  refine hK.out _ _ (HC.out _ hb) (fun hh => ?_)
  clear hh hK K HB
  have HB := hid hb
  clear hb
  refine wpAnyH_ready (rs := [12]) (by kernel_rfl) (by simp) ?_
  refine AllReadyH.cons rfl (fun K hK => ?_) AllReadyH.nil
  go_simp
  refine hK.out _ _ (HC.out _ (Below.alloc HB.out HB.out.size _)) (fun hh => ?_)
  clear hh hK K
  refine wpAnyH_ready (rs := [13]) (by kernel_rfl) (by simp) ?_
  refine AllReadyH.cons rfl (fun K hK => ?_) AllReadyH.nil
  go_simp
  refine hK.out _ _ (HC.out _ (Below.alloc HB.out HB.out.size _)) (fun hh => ?_)
  clear hh hK K
  refine wpAnyH_done (by kernel_rfl) ?_ _
  have hs1 : w.heap.size < W.heap.size := by omega
  obtain ⟨q1, q2⟩ := HZ.out
  have hB5 : Below W.heap.size W (w12.alloc (Obj.cells #[Value.int IntKind.i64 16, Value.int IntKind.i64 0, Value.int IntKind.i64 1, Value.int IntKind.i64 0, Value.int IntKind.i64 3, Value.int IntKind.i64 1, Value.int IntKind.i64 18, Value.int IntKind.i64 0, Value.int IntKind.i64 3, Value.int IntKind.i64 0, Value.int IntKind.i64 16, Value.int IntKind.i64 1, Value.int IntKind.i64 5, Value.int IntKind.i64 0, Value.int IntKind.i64 2, Value.int IntKind.i64 0, Value.int IntKind.i64 24, Value.int IntKind.i64 0, Value.int IntKind.i64 25, Value.int IntKind.i64 0, Value.int IntKind.i64 26, Value.int IntKind.i64 0, Value.int IntKind.i64 12, Value.int IntKind.i64 5] 37)) := Below.alloc HB.out HB.out.size _
  have hR : (w12.alloc (Obj.cells #[Value.int IntKind.i64 16, Value.int IntKind.i64 0, Value.int IntKind.i64 1, Value.int IntKind.i64 0, Value.int IntKind.i64 3, Value.int IntKind.i64 1, Value.int IntKind.i64 18, Value.int IntKind.i64 0, Value.int IntKind.i64 3, Value.int IntKind.i64 0, Value.int IntKind.i64 16, Value.int IntKind.i64 1, Value.int IntKind.i64 5, Value.int IntKind.i64 0, Value.int IntKind.i64 2, Value.int IntKind.i64 0, Value.int IntKind.i64 24, Value.int IntKind.i64 0, Value.int IntKind.i64 25, Value.int IntKind.i64 0, Value.int IntKind.i64 26, Value.int IntKind.i64 0, Value.int IntKind.i64 12, Value.int IntKind.i64 5] 37)).ownsRow W.heap.size 37 2 (.slice (some ⟨w12.heap.size, 0, none⟩) 12 12) 12 (cellsL (holdL false)) := row_built HB.out (holdL false) _ rfl (by decide)
  clear HB
  generalize w12.alloc (Obj.cells #[Value.int IntKind.i64 16, Value.int IntKind.i64 0, Value.int IntKind.i64 1, Value.int IntKind.i64 0, Value.int IntKind.i64 3, Value.int IntKind.i64 1, Value.int IntKind.i64 18, Value.int IntKind.i64 0, Value.int IntKind.i64 3, Value.int IntKind.i64 0, Value.int IntKind.i64 16, Value.int IntKind.i64 1, Value.int IntKind.i64 5, Value.int IntKind.i64 0, Value.int IntKind.i64 2, Value.int IntKind.i64 0, Value.int IntKind.i64 24, Value.int IntKind.i64 0, Value.int IntKind.i64 25, Value.int IntKind.i64 0, Value.int IntKind.i64 26, Value.int IntKind.i64 0, Value.int IntKind.i64 12, Value.int IntKind.i64 5] 37) = V at *
  generalize w12.heap.size = gq at *
  have e0 := (hB5.cell (p := ⟨w.heap.size, 0, none⟩) hs1).trans q1
  have f0 := (hB5.frozen (p := ⟨w.heap.size, 0, none⟩) hs1).trans q2
  have hs5 : w.heap.size < V.heap.size := Nat.lt_of_lt_of_le hs1 hB5.size
  have HB5 := hid hB5
  have HR := hid hR
  clear hB5 hR q1 q2 HZ HC
  clear w1 w3 w4 w5 w6 w7 w8 w9 w10 w11 w12
  go_wp2_with fail
  have hP := prog_end (l := 2) hs1 HB5.out HB0.out HR.out rfl (by decide) (by decide)
  have hcV : ((V.setCell ⟨w.heap.size, 0, none⟩ (.slice (some ⟨V.heap.size, 0, none⟩) 1 1)).alloc (.cells #[.int .i64 0, .int .i64 2, .slice (some ⟨gq, 0, none⟩) 12 12] 35)).cell? ⟨w.heap.size, 0, none⟩ = some (.slice (some ⟨V.heap.size, 0, none⟩) 1 1) := by go_simp
  exact bodyPost_ret (v := .agg #[.slice (some ⟨V.heap.size, 0, none⟩) 1 1]) (by first | (simp [results, Tryd.results30, go_sem, hcV]; done) | (simp only [results, Tryd.results30]; go_simp; done)) rfl hP

set_option maxRecDepth 100000 in
set_option maxHeartbeats 8000000 in
theorem holding_true (w : World) : Calls Tryd.prog 30 #[.bool true] w fun e w' => ProgNew 2 (holdL true) w e w' := by
  go_enter Tryd.func30, Tryd.ntmps30
  go_wp2_with (go_at_call 39; refine (at_any _ _ _).mono ?_; rintro e w' ⟨rfl, hw⟩; rw [hw]; clear hw w')
  obtain ⟨W, hW⟩ : ∃ W, W = (((w.alloc (Obj.cells #[Value.slice none 0 0] 24)).alloc (Obj.cells #[Value.int IntKind.i64 1, Value.int IntKind.i64 0] 37)).alloc (Obj.cells #[Value.int IntKind.i64 4, Value.int IntKind.i64 0] 37)).alloc (Obj.cells #[Value.int IntKind.i64 4, Value.int IntKind.i64 0] 37) := ⟨_, rfl⟩
  have hB0 : Below w.heap.size w W := by rw [hW]; repeat (first | exact Below.refl _ _ | refine Below.alloc ?_ (by first | (simp; done) | (simp; omega)) _)
  have hs0 : w.heap.size + 1 + 1 < W.heap.size := by rw [hW]; simp
  have hc0 : W.cell? ⟨w.heap.size, 0, none⟩ = some (.slice none 0 0) := by rw [hW]; go_simp
  have hz0 : W.frozen? ⟨w.heap.size, 0, none⟩ = false := by rw [hW]; go_simp
  have hk0 : W.cell? ⟨w.heap.size + 1 + 1, 0, none⟩ = some (.int .i64 4) := by rw [hW]; go_simp
  have hk1 : W.cell? ⟨w.heap.size + 1 + 1, 1, none⟩ = some (.int .i64 0) := by rw [hW]; go_simp
  rw [← hW]
  clear hW
  have HC : Hid (∀ V, Below W.heap.size W V → V.cell? ⟨w.heap.size + 1 + 1, 0, none⟩ = some (.int .i64 4) ∧ V.cell? ⟨w.heap.size + 1 + 1, 1, none⟩ = some (.int .i64 0)) := fun V h => ⟨(h.cell (p := ⟨w.heap.size + 1 + 1, 0, none⟩) hs0).trans hk0, (h.cell (p := ⟨w.heap.size + 1 + 1, 1, none⟩) hs0).trans hk1⟩
  have HB0 := hid hB0
  have HZ := hid (And.intro hc0 hz0)
  have HB : Hid (Below W.heap.size W W.drew) := Below.drew (Below.refl _ _)
  clear hB0 hc0 hz0 hk0 hk1
  refine wp_region_held_drew (S := (fun u => u.cell? ⟨w.heap.size + 1 + 1, 0, none⟩ = some (.int .i64 4) ∧ u.cell? ⟨w.heap.size + 1 + 1, 1, none⟩ = some (.int .i64 0))) (by kernel_rfl) (HC.out _ HB.out) (fun hHeld => ?_)
  refine wpAnyH_take (i := 1) (v := .agg #[.int .i64 4, .int .i64 0]) rfl (by kernel_rfl) (by kernel_rfl) (by kernel_rfl) (fun _ _ _ h => h) (Or.inl ⟨by rfl, ?_⟩) (by assumption) ?_
  · intro u hSw; (try dsimp only at hSw); go_simp
  clear hHeld
  refine wpAnyH_ready (rs := [0]) (by kernel_rfl) (by simp) ?_
  refine AllReadyH.cons rfl (fun K hK => ?_) AllReadyH.nil
  go_simp
  go_at_call 39
  refine (at_on _ _ HB.out).mono ?_
  rintro e w1 ⟨rfl, hb⟩
  dsimp only
  refine hK.out _ _ (HC.out _ hb) (fun hh => ?_)
  clear hh hK K HB
  have HB := hid hb
  clear hb
  refine wpAnyH_ready (rs := [2]) (by kernel_rfl) (by simp) ?_
  refine AllReadyH.cons rfl (fun K hK => ?_) AllReadyH.nil
  go_simp
  go_at_call 39
  refine (at_on _ _ HB.out).mono ?_
  rintro e w3 ⟨rfl, hb⟩
  dsimp only
  refine hK.out _ _ (HC.out _ hb) (fun hh => ?_)
  clear hh hK K HB
  have HB := hid hb
  clear hb
  refine wpAnyH_ready (rs := [3]) (by kernel_rfl) (by simp) ?_
  refine AllReadyH.cons rfl (fun K hK => ?_) AllReadyH.nil
  go_simp
  go_at_call 39
  refine (at_on _ _ HB.out).mono ?_
  rintro e w4 ⟨rfl, hb⟩
  dsimp only
  refine hK.out _ _ (HC.out _ hb) (fun hh => ?_)
  clear hh hK K HB
  have HB := hid hb
  clear hb
  refine wpAnyH_ready (rs := [4]) (by kernel_rfl) (by simp) ?_
  refine AllReadyH.cons rfl (fun K hK => ?_) AllReadyH.nil
  go_simp
  go_at_call 39
  refine (at_on _ _ HB.out).mono ?_
  rintro e w5 ⟨rfl, hb⟩
  dsimp only
  refine hK.out _ _ (HC.out _ hb) (fun hh => ?_)
  clear hh hK K HB
  have HB := hid hb
  clear hb
  refine wpAnyH_ready (rs := [5]) (by kernel_rfl) (by simp) ?_
  refine AllReadyH.cons rfl (fun K hK => ?_) AllReadyH.nil
  go_simp
  go_at_call 39
  refine (at_on _ _ HB.out).mono ?_
  rintro e w6 ⟨rfl, hb⟩
  dsimp only
  refine hK.out _ _ (HC.out _ hb) (fun hh => ?_)
  clear hh hK K HB
  have HB := hid hb
  clear hb
  refine wpAnyH_ready (rs := [6]) (by kernel_rfl) (by simp) ?_
  refine AllReadyH.cons rfl (fun K hK => ?_) AllReadyH.nil
  go_simp
  go_at_call 39
  refine (at_on _ _ HB.out).mono ?_
  rintro e w7 ⟨rfl, hb⟩
  dsimp only
  refine hK.out _ _ (HC.out _ hb) (fun hh => ?_)
  clear hh hK K HB
  have HB := hid hb
  clear hb
  refine wpAnyH_ready (rs := [7]) (by kernel_rfl) (by simp) ?_
  refine AllReadyH.cons rfl (fun K hK => ?_) AllReadyH.nil
  go_simp
  go_at_call 39
  refine (at_on _ _ HB.out).mono ?_
  rintro e w8 ⟨rfl, hb⟩
  dsimp only
  refine hK.out _ _ (HC.out _ hb) (fun hh => ?_)
  clear hh hK K HB
  have HB := hid hb
  clear hb
  refine wpAnyH_ready (rs := [8]) (by kernel_rfl) (by simp) ?_
  refine AllReadyH.cons rfl (fun K hK => ?_) AllReadyH.nil
  go_simp
  go_at_call 39
  refine (at_on _ _ HB.out).mono ?_
  rintro e w9 ⟨rfl, hb⟩
  dsimp only
  refine hK.out _ _ (HC.out _ hb) (fun hh => ?_)
  clear hh hK K HB
  have HB := hid hb
  clear hb
  refine wpAnyH_ready (rs := [9]) (by kernel_rfl) (by simp) ?_
  refine AllReadyH.cons rfl (fun K hK => ?_) AllReadyH.nil
  go_simp
  go_at_call 39
  refine (at_on _ _ HB.out).mono ?_
  rintro e w10 ⟨rfl, hb⟩
  dsimp only
  refine hK.out _ _ (HC.out _ hb) (fun hh => ?_)
  clear hh hK K HB
  have HB := hid hb
  clear hb
  refine wpAnyH_ready (rs := [10]) (by kernel_rfl) (by simp) ?_
  refine AllReadyH.cons rfl (fun K hK => ?_) AllReadyH.nil
  go_simp
  go_at_call 39
  refine (at_on _ _ HB.out).mono ?_
  rintro e w11 ⟨rfl, hb⟩
  dsimp only
  refine hK.out _ _ (HC.out _ hb) (fun hh => ?_)
  clear hh hK K HB
  have HB := hid hb
  clear hb
  refine wpAnyH_ready (rs := [11]) (by kernel_rfl) (by simp) ?_
  refine AllReadyH.cons rfl (fun K hK => ?_) AllReadyH.nil
  go_simp
  go_at_call 39
  refine (at_on _ _ HB.out).mono ?_
  rintro e w12 ⟨rfl, hb⟩
  dsimp only
  refine hK.out _ _ (HC.out _ hb) (fun hh => ?_)
  clear hh hK K HB
  have HB := hid hb
  clear hb
  refine wpAnyH_ready (rs := [12]) (by kernel_rfl) (by simp) ?_
  refine AllReadyH.cons rfl (fun K hK => ?_) AllReadyH.nil
  go_simp
  refine hK.out _ _ (HC.out _ (Below.alloc HB.out HB.out.size _)) (fun hh => ?_)
  clear hh hK K
  refine wpAnyH_ready (rs := [13]) (by kernel_rfl) (by simp) ?_
  refine AllReadyH.cons rfl (fun K hK => ?_) AllReadyH.nil
  go_simp
  refine hK.out _ _ (HC.out _ (Below.alloc HB.out HB.out.size _)) (fun hh => ?_)
  clear hh hK K
  refine wpAnyH_done (by kernel_rfl) ?_ _
  have hs1 : w.heap.size < W.heap.size := by omega
  obtain ⟨q1, q2⟩ := HZ.out
  have hB5 : Below W.heap.size W (w12.alloc (Obj.cells #[Value.int IntKind.i64 16, Value.int IntKind.i64 0, Value.int IntKind.i64 4, Value.int IntKind.i64 0, Value.int IntKind.i64 3, Value.int IntKind.i64 1, Value.int IntKind.i64 18, Value.int IntKind.i64 0, Value.int IntKind.i64 3, Value.int IntKind.i64 0, Value.int IntKind.i64 16, Value.int IntKind.i64 1, Value.int IntKind.i64 5, Value.int IntKind.i64 0, Value.int IntKind.i64 2, Value.int IntKind.i64 0, Value.int IntKind.i64 24, Value.int IntKind.i64 0, Value.int IntKind.i64 25, Value.int IntKind.i64 0, Value.int IntKind.i64 26, Value.int IntKind.i64 0, Value.int IntKind.i64 12, Value.int IntKind.i64 5] 37)) := Below.alloc HB.out HB.out.size _
  have hR : (w12.alloc (Obj.cells #[Value.int IntKind.i64 16, Value.int IntKind.i64 0, Value.int IntKind.i64 4, Value.int IntKind.i64 0, Value.int IntKind.i64 3, Value.int IntKind.i64 1, Value.int IntKind.i64 18, Value.int IntKind.i64 0, Value.int IntKind.i64 3, Value.int IntKind.i64 0, Value.int IntKind.i64 16, Value.int IntKind.i64 1, Value.int IntKind.i64 5, Value.int IntKind.i64 0, Value.int IntKind.i64 2, Value.int IntKind.i64 0, Value.int IntKind.i64 24, Value.int IntKind.i64 0, Value.int IntKind.i64 25, Value.int IntKind.i64 0, Value.int IntKind.i64 26, Value.int IntKind.i64 0, Value.int IntKind.i64 12, Value.int IntKind.i64 5] 37)).ownsRow W.heap.size 37 2 (.slice (some ⟨w12.heap.size, 0, none⟩) 12 12) 12 (cellsL (holdL true)) := row_built HB.out (holdL true) _ rfl (by decide)
  clear HB
  generalize w12.alloc (Obj.cells #[Value.int IntKind.i64 16, Value.int IntKind.i64 0, Value.int IntKind.i64 4, Value.int IntKind.i64 0, Value.int IntKind.i64 3, Value.int IntKind.i64 1, Value.int IntKind.i64 18, Value.int IntKind.i64 0, Value.int IntKind.i64 3, Value.int IntKind.i64 0, Value.int IntKind.i64 16, Value.int IntKind.i64 1, Value.int IntKind.i64 5, Value.int IntKind.i64 0, Value.int IntKind.i64 2, Value.int IntKind.i64 0, Value.int IntKind.i64 24, Value.int IntKind.i64 0, Value.int IntKind.i64 25, Value.int IntKind.i64 0, Value.int IntKind.i64 26, Value.int IntKind.i64 0, Value.int IntKind.i64 12, Value.int IntKind.i64 5] 37) = V at *
  generalize w12.heap.size = gq at *
  have e0 := (hB5.cell (p := ⟨w.heap.size, 0, none⟩) hs1).trans q1
  have f0 := (hB5.frozen (p := ⟨w.heap.size, 0, none⟩) hs1).trans q2
  have hs5 : w.heap.size < V.heap.size := Nat.lt_of_lt_of_le hs1 hB5.size
  have HB5 := hid hB5
  have HR := hid hR
  clear hB5 hR q1 q2 HZ HC
  clear w1 w3 w4 w5 w6 w7 w8 w9 w10 w11 w12
  go_wp2_with fail
  have hP := prog_end (l := 2) hs1 HB5.out HB0.out HR.out rfl (by decide) (by decide)
  have hcV : ((V.setCell ⟨w.heap.size, 0, none⟩ (.slice (some ⟨V.heap.size, 0, none⟩) 1 1)).alloc (.cells #[.int .i64 0, .int .i64 2, .slice (some ⟨gq, 0, none⟩) 12 12] 35)).cell? ⟨w.heap.size, 0, none⟩ = some (.slice (some ⟨V.heap.size, 0, none⟩) 1 1) := by go_simp
  exact bodyPost_ret (v := .agg #[.slice (some ⟨V.heap.size, 0, none⟩) 1 1]) (by first | (simp [results, Tryd.results30, go_sem, hcV]; done) | (simp only [results, Tryd.results30]; go_simp; done)) rfl hP

end Go.Proofs.YtbkmgoffiigdbaaDoor

namespace Go.Proofs.YtbkmgoffiigdbaaDoor
open Go.RowKit Go.Sort

theorem holding_any (held : Bool) (w : World) : Calls Tryd.prog 30 #[.bool held] w fun e w' => ProgNew 2 (holdL held) w e w' := by
  cases held
  · exact holding_false w
  · exact holding_true w

/-- How a piece of a run begins and ends. -/
theorem hold_round {held : Bool} {g : PgR} (hg : IsHold held g) {sum f : Nat} {s : McA} (h : HSt held sum s) :
    (s.st = 0 ∧ (runA g f s).st = 0 ∧ stepsA g f s = f) ∨ (s.st = 0 ∧ (runA g f s).st = 7 ∧ (runA g f s).out.length = 40) ∨ (s.st = 7 ∧ (runA g f s).st = 7 ∧ (runA g f s).out.length = 40 ∧ stepsA g f s = 0) := by
  have h' := h.run hg f
  rcases h.state with h0 | ⟨h0, ho⟩
  · rcases h'.state with h1 | ⟨h1, h2⟩
    · exact Or.inl ⟨h0, h1, stepsA_all g f s h1⟩
    · exact Or.inr (Or.inl ⟨h0, h1, h2⟩)
  · have hne : s.st ≠ 0 := by omega
    have e1 : runA g f s = s := by cases f with
      | zero => rfl
      | succ n => rw [runA, if_neg hne]
    have e2 : stepsA g f s = 0 := by cases f with
      | zero => rfl
      | succ n => rw [stepsA, if_neg hne]
    rw [e1, e2]
    exact Or.inr (Or.inr ⟨h0, h0, ho, rfl⟩)

set_option maxRecDepth 100000 in
set_option maxHeartbeats 8000000 in
theorem holds_any (held : Bool) (room : Int) (sa : Option Addr) (sn sc sb so : Nat) (SR : Nat → Int) (da : Option Addr) (dn dc db dd : Nat) (DR : Nat → Int) (w : World) (hsr : RawL w.heap.size w sa sn sb so SR) (hsbd : ∀ i, -9223372036854775808 ≤ SR i ∧ SR i ≤ 9223372036854775807)
    (hdr : RawL w.heap.size w da dn db dd DR) (hdc : dn ≤ dc) (h1 : -9223372036854775808 ≤ room) (h2 : room ≤ 9223372036854775807) (ht : Tab w) :
    Calls Tryd.prog 9 #[.bool held, .int .i64 room, .slice sa sn sc, .slice da dn dc] w fun e w' => e = .returned (.bool true) ∧ Below w.heap.size w w' := by
  obtain ⟨q0, q1⟩ := pickI_bd38 room
  obtain ⟨p, hp⟩ := Int.eq_ofNat_of_zero_le q0
  have hp38 : p < 38 := by omega
  have hwr : IntKind.i64.wrap (2 + (p : Int)) = 2 + (p : Int) := Go.IntWalk.i64_in _ (by omega)
  obtain ⟨l, hll, hln, hsome⟩ := some200_any hdr (Nat.le_refl _) hdc
  have hl200 : l.length ≤ 200 := by omega
  have HLN := hid hln
  have HSM := hid hsome
  have HPK : Hid (∀ W, Calls Tryd.prog 31 #[.int .i64 room, .int .i64 38] W fun e w' => e = .returned (.int .i64 (p : Int)) ∧ w' = W) := fun W => (pick38_any room W h1 h2).mono fun e w' h => by rw [← hp]; exact h
  have HSR := hid hsr
  have HSB := hid hsbd
  have HT := hid ht
  have h0 : 0 < w.heap.size := ht.1
  clear hsr hsbd hdr ht hln hsome q0 q1 hll hp h1 h2
  go_enter Tryd.func9, Tryd.ntmps9
  go_wp2_with fail
  refine (holding_any held _).mono ?_
  rintro e w1 ⟨g, rfl, hpg, hsp, hb1⟩
  have hB1 : Below w.heap.size w w1 := below_via' hb1 (by repeat (first | exact Below.refl _ _ | refine Below.drew ?_ | refine Below.drewQ ?_ _ | refine Below.alloc ?_ (by first | (simp; done) | (simp; omega)) _))
  have ht1 : Tab w1 := HT.out.held hB1.size (hB1.block 0 h0)
  have hck := hold_check hsp
  have HBG : Hid (∀ W, Below w1.heap.size w1 W → Calls Tryd.prog 15 #[.agg #[.slice g.a g.n g.c], .int .i64 (2 + (p : Int))] W fun e w' => BegunPost2 g (3 + p) W e w') := fun W hW => begun_any2 g W (hpg.held hW.size fun k hk => hW.block k (hpg.blk_lt hk)) (ht1.held hW.size (hW.block 0 ht1.1)) hck (2 + (p : Int)) (by omega) (by omega) (3 + p) (by unfold pickI; rw [if_neg (by omega)]; omega)
  have HSP := hid hsp
  have HPK1 := hid (pgOk_of hck)
  have HB1 := hid hB1
  clear hpg hsp hb1 hB1 ht1 hck
  go_wp2_with (go_at_call 31; refine (HPK.out _).mono ?_; rintro e w' ⟨rfl, hw⟩; rw [hw]; clear hw w')
  refine (HBG.out _ (by repeat (first | exact Below.refl _ _ | refine Below.drew ?_ | refine Below.drewQ ?_ _ | refine Below.alloc ?_ (by first | (simp; done) | (simp; omega)) _))).mono ?_
  rintro e w2 ⟨oa, ma, ga, Ra, rfl, hma, hbga, hsa, hb2, hna, hba⟩
  have hB2 : Below w.heap.size w w2 := below_via' (below_via' hb2 (by repeat (first | exact Below.refl _ _ | refine Below.drew ?_ | refine Below.drewQ ?_ _ | refine Below.alloc ?_ (by first | (simp; done) | (simp; omega)) _))) HB1.out
  have hspa := HSP.out.same hsa
  have HPG := hid (Same.pgOk HPK1.out hsa)
  have HIH := hid (hold_is hspa)
  have HM0 : Hid (HM w w2 oa ma ga Ra ⟨0, [], [⟨0, 0, List.replicate 2 (0, 0), []⟩], List.replicate (3 + p) (0, []), []⟩) := ⟨hma, Is.of_begun hbga 2 HSP.out.l, inv_of_begun HPG.out (by omega) (by omega) 2 hspa.l, fun k t hk => Nat.le_trans (Nat.le_trans HB1.out.size (by simp)) (hna k t hk), hB2⟩
  have hwW2 : w.heap.size ≤ w2.heap.size := hB2.size
  clear hma hbga hsa hb2 hna hba hB2 hspa HBG HPK HPK1 HSP HB1 HT
  go_wp2_with (go_at_call 25; refine (HSM.out _).mono ?_; rintro e w' ⟨rfl, hw⟩; rw [hw]; clear hw w')
  refine ((HM0.out.later (by repeat (first | exact Below.refl _ _ | refine Below.drew ?_ | refine Below.drewQ ?_ _ | refine Below.alloc ?_ (by first | (simp; done) | (simp; omega)) _))).draw da dc l (HLN.out.later (below_via' (by repeat (first | exact Below.refl _ _ | refine Below.drew ?_ | refine Below.drewQ ?_ _ | refine Below.alloc ?_ (by first | (simp; done) | (simp; omega)) _)) HM0.out.bel)) (by simpa using hl200)).mono ?_
  rintro e w4 ⟨rfl, own4, R4, hm4⟩
  obtain ⟨s1, hs1⟩ : ∃ s1 : McA, s1 = ⟨0, [], [⟨0, 0, List.replicate 2 (0, 0), []⟩], List.replicate (3 + p) (0, []), [] ++ l⟩ := ⟨_, rfl⟩
  have HST : Hid (HSt held 0 s1) := by rw [hs1]; exact hid (HSt.begin (by omega) _)
  have HM1 : Hid (HM w w4 own4 ma ga R4 s1) := by rw [hs1]; exact hid hm4
  clear hs1 hm4 HM0 HSM HLN hwW2
  go_wp2_with fail
  go_loopw [10, 11] (fun vs vi wr => ∃ (i sum : Nat) (own : Own) (R : McR) (s : McA), i ≤ 20 ∧ i ≤ sn ∧ vi = .int .i64 i ∧ vs = .int .i64 sum ∧ sum ≤ i * 400 ∧ HSt held sum s ∧ HM w wr own ma ga R s) (fun _ vi _ => sn - (intOf vi).toNat)
  case atStart => exact ⟨0, 0, own4, R4, s1, by omega, Nat.zero_le _, rfl, rfl, Nat.zero_le _, HST.out, HM1.out⟩
  case round =>
    obtain ⟨i, sum, own, R, s, hi20, hin, rfl, rfl, hsum, hst, hm⟩ := hrel
    clear HST HM1
    have hsn := HSR.out.1
    by_cases hlt : i < sn ∧ i < 20
    · obtain ⟨hlt1, hlt2⟩ := hlt
      obtain ⟨hsae, hsb, hcell⟩ := HSR.out.2 (by omega)
      have hbd := HSB.out i
      have hc0 := hcell i hlt1
      have x0 := (hm.bel.cell (p := ⟨sb, so + i, none⟩) hsb).trans hc0
      have hpw : sb < wr.heap.size := Nat.lt_of_lt_of_le hsb hm.bel.size
      obtain ⟨q400, q401⟩ := pickI_bd400 (SR i)
      obtain ⟨f, hf⟩ := Int.eq_ofNat_of_zero_le q400
      have hf4 : f < 400 := by omega
      have hcs := hold_round HIH.out (f := f) hst
      have hst' := hst.run HIH.out f
      have hm400 := stepsA_le ga f s
      have HRUN : Hid (∀ W, Below wr.heap.size wr W → Calls Tryd.prog 16 #[.pointer (some ⟨ma, 0, none⟩), .int .i64 (f : Int)] W fun e w' => e = .returned (.tuple #[.int .i64 (stepsA ga f s : Int), .int .i64 0]) ∧ (∃ own' R', HM w w' own' ma ga R' (runA ga f s)) ∧ Spared own W w') := fun W hW => (hm.later hW).run HPG.out f (by omega)
      have HNEW : Hid (∀ k, wr.heap.size ≤ k → own k = none) := fun k hk => hm.m.new hk
      have HMS := hid hm
      rw [hsae]
      generalize runA ga f s = s' at *
      generalize stepsA ga f s = m at *
      have HST' := hid hst'
      have hsx : sum + m ≤ (i + 1) * 400 := by omega
      clear hst' hst hm hcell hsn q400 q401
      rcases hcs with ⟨e0, e1, hmf⟩ | ⟨e0, e1, e2⟩ | ⟨e0, e1, e2, hmf⟩
      · subst hmf
        have HS0 : Hid (∃ t1 d1 : Nat, ∀ W, Below wr.heap.size wr W → Calls Tryd.prog 18 #[.pointer (some ⟨ma, 0, none⟩)] W fun e w' => e = .returned (.agg #[.int .i64 0, .int .i64 (t1 : Int), .int .i64 (d1 : Int)]) ∧ Below W.heap.size W w') := ⟨_, _, fun W hW => by have := (HMS.out.later hW).status; rw [e0] at this; exact this⟩
        have HS1 : Hid (∃ t1 d1 : Nat, ∀ W own R, HM w W own ma ga R s' → Calls Tryd.prog 18 #[.pointer (some ⟨ma, 0, none⟩)] W fun e w' => e = .returned (.agg #[.int .i64 0, .int .i64 (t1 : Int), .int .i64 (d1 : Int)]) ∧ Below W.heap.size W w') := ⟨_, _, fun W own R h => by have := h.status; rw [e1] at this; exact this⟩
        obtain ⟨t0, d0, HS0⟩ := HS0.out
        obtain ⟨t1, d1, HS1⟩ := HS1.out
        have HS0 := hid HS0
        have HS1 := hid HS1
        clear HMS e0 e1
        go_wp2_with fail
        refine (HS0.out _ (by repeat (first | exact Below.refl _ _ | refine Below.drew ?_ | refine Below.drewQ ?_ _ | refine Below.alloc ?_ (by first | (simp; done) | (simp; omega)) _))).mono ?_
        rintro e w5 ⟨rfl, hb5⟩
        have HB5 := hid hb5
        have l5 := hb5.size
        have hsw5 : sb < w5.heap.size := by omega
        have x5 := (hb5.cell (p := ⟨sb, so + i, none⟩) hpw).trans x0
        clear hb5 HS0
        go_wp2_with (go_at_call 17; refine (fuel_any _ _ hbd.1 hbd.2).mono ?_; rintro e w' ⟨he, hw⟩; rw [hf] at he; rw [he, hw]; clear he hw e w')
        refine (HRUN.out _ (by have hq := HB5.out.size; repeat (first | exact HB5.out | refine Below.drew ?_ | refine Below.alloc ?_ (by first | omega | (simp; done) | (simp; omega)) _))).mono ?_
        rintro e w6 ⟨rfl, ⟨own6, R6, hm6⟩, hsp6⟩
        have y6 : w6.cell? ⟨w5.heap.size, 0, none⟩ = some (.int .i64 0) := hsp6.cell (by simp) (HNEW.out _ l5) (by go_simp)
        have x6 := (hm6.bel.cell (p := ⟨sb, so + i, none⟩) hsb).trans hc0
        have l6 : w5.heap.size < w6.heap.size := by have := hsp6.1; simp at this; omega
        have hsw6 : sb < w6.heap.size := by omega
        have HM6 := hid hm6
        clear hsp6 hm6 HRUN HNEW HB5 x5 hsw5 x0 hpw
        go_wp2_with fail
        refine (HS1.out _ own6 R6 (HM6.out.later (by repeat (first | exact Below.refl _ _ | refine Below.drew ?_ | refine Below.drewQ ?_ _ | refine Below.alloc ?_ (by first | (simp; done) | (simp; omega)) _)))).mono ?_
        rintro e w7 ⟨rfl, hb7⟩
        have y7 := (hb7.cell (p := ⟨w5.heap.size, 0, none⟩) (by first | omega | (simp; omega))).trans y6
        have x7 := (hb7.cell (p := ⟨sb, so + i, none⟩) (by first | omega | (simp; omega))).trans x6
        have l7 : w6.heap.size ≤ w7.heap.size := hb7.size
        have hsw7 : sb < w7.heap.size := by omega
        have l57 : w5.heap.size < w7.heap.size := by omega
        have HM7 := hid (HM6.out.later (below_via' hb7 (by repeat (first | exact Below.refl _ _ | refine Below.drew ?_ | refine Below.drewQ ?_ _ | refine Below.alloc ?_ (by first | (simp; done) | (simp; omega)) _))))
        clear hb7 y6 x6 HM6 HS1 hsw6
        have HM8 := HM7
        by_cases hpar : (SR i).tmod 2 = 0
        · go_wp2_with (go_at_call 17; refine (fuel_any _ _ hbd.1 hbd.2).mono ?_; rintro e w' ⟨he, hw⟩; rw [hf] at he; rw [he, hw]; clear he hw e w')
          go_roundw
          case rel => exact ⟨i + 1, sum + m, own6, R6, s', by omega, by omega, by go_num, by go_num, hsx, HST'.out, HM8.out.later (by repeat (first | exact Below.refl _ _ | refine Below.drew ?_ | refine Below.drewQ ?_ _ | refine Below.alloc ?_ (by first | (simp; done) | (simp; omega)) _))⟩
          case measure => simp [intOf]; omega
        · go_wp2_with (go_at_call 17; refine (fuel_any _ _ hbd.1 hbd.2).mono ?_; rintro e w' ⟨he, hw⟩; rw [hf] at he; rw [he, hw]; clear he hw e w')
          refine ((HM8.out.later (by repeat (first | exact Below.refl _ _ | refine Below.drew ?_ | refine Below.drewQ ?_ _ | refine Below.alloc ?_ (by first | (simp; done) | (simp; omega)) _))).collect HPG.out).mono ?_
          rintro e w9 ⟨⟨n9, rfl⟩, ⟨own9, R9, hm9⟩, _⟩
          have HM9 := hid hm9
          clear hm9
          go_wp2_with fail
          go_roundw
          case rel => exact ⟨i + 1, sum + m, own9, R9, collectA s', by omega, by omega, by go_num, by go_num, hsx, HST'.out.collect, HM9.out⟩
          case measure => simp [intOf]; omega
      · have hdum : 0 ≤ m := Nat.zero_le _
        have HS0 : Hid (∃ t1 d1 : Nat, ∀ W, Below wr.heap.size wr W → Calls Tryd.prog 18 #[.pointer (some ⟨ma, 0, none⟩)] W fun e w' => e = .returned (.agg #[.int .i64 0, .int .i64 (t1 : Int), .int .i64 (d1 : Int)]) ∧ Below W.heap.size W w') := ⟨_, _, fun W hW => by have := (HMS.out.later hW).status; rw [e0] at this; exact this⟩
        have HS1 : Hid (∃ t1 d1 : Nat, ∀ W own R, HM w W own ma ga R s' → Calls Tryd.prog 18 #[.pointer (some ⟨ma, 0, none⟩)] W fun e w' => e = .returned (.agg #[.int .i64 7, .int .i64 (t1 : Int), .int .i64 (d1 : Int)]) ∧ Below W.heap.size W w') := ⟨_, _, fun W own R h => by have := h.status; rw [e1] at this; exact this⟩
        obtain ⟨t0, d0, HS0⟩ := HS0.out
        obtain ⟨t1, d1, HS1⟩ := HS1.out
        have HS0 := hid HS0
        have HS1 := hid HS1
        have HOU : Hid (∀ W own R, HM w W own ma ga R s' → Calls Tryd.prog 20 #[.pointer (some ⟨ma, 0, none⟩)] W fun e w' => (∃ a c, e = .returned (.slice a 40 c)) ∧ Below W.heap.size W w') := fun W own R h => h.output.mono fun e w' hh => by
          obtain ⟨⟨a, c, he, _⟩, hb⟩ := hh
          rw [e2] at he
          exact ⟨⟨a, c, he⟩, hb⟩
        clear HMS e0 e1
        go_wp2_with fail
        refine (HS0.out _ (by repeat (first | exact Below.refl _ _ | refine Below.drew ?_ | refine Below.drewQ ?_ _ | refine Below.alloc ?_ (by first | (simp; done) | (simp; omega)) _))).mono ?_
        rintro e w5 ⟨rfl, hb5⟩
        have HB5 := hid hb5
        have l5 := hb5.size
        have hsw5 : sb < w5.heap.size := by omega
        have x5 := (hb5.cell (p := ⟨sb, so + i, none⟩) hpw).trans x0
        clear hb5 HS0
        go_wp2_with (go_at_call 17; refine (fuel_any _ _ hbd.1 hbd.2).mono ?_; rintro e w' ⟨he, hw⟩; rw [hf] at he; rw [he, hw]; clear he hw e w')
        refine (HRUN.out _ (by have hq := HB5.out.size; repeat (first | exact HB5.out | refine Below.drew ?_ | refine Below.alloc ?_ (by first | omega | (simp; done) | (simp; omega)) _))).mono ?_
        rintro e w6 ⟨rfl, ⟨own6, R6, hm6⟩, hsp6⟩
        have y6 : w6.cell? ⟨w5.heap.size, 0, none⟩ = some (.int .i64 0) := hsp6.cell (by simp) (HNEW.out _ l5) (by go_simp)
        have x6 := (hm6.bel.cell (p := ⟨sb, so + i, none⟩) hsb).trans hc0
        have l6 : w5.heap.size < w6.heap.size := by have := hsp6.1; simp at this; omega
        have hsw6 : sb < w6.heap.size := by omega
        have HM6 := hid hm6
        clear hsp6 hm6 HRUN HNEW HB5 x5 hsw5 x0 hpw
        go_wp2_with fail
        refine (HS1.out _ own6 R6 (HM6.out.later (by repeat (first | exact Below.refl _ _ | refine Below.drew ?_ | refine Below.drewQ ?_ _ | refine Below.alloc ?_ (by first | (simp; done) | (simp; omega)) _)))).mono ?_
        rintro e w7 ⟨rfl, hb7⟩
        have y7 := (hb7.cell (p := ⟨w5.heap.size, 0, none⟩) (by first | omega | (simp; omega))).trans y6
        have x7 := (hb7.cell (p := ⟨sb, so + i, none⟩) (by first | omega | (simp; omega))).trans x6
        have l7 : w6.heap.size ≤ w7.heap.size := hb7.size
        have hsw7 : sb < w7.heap.size := by omega
        have l57 : w5.heap.size < w7.heap.size := by omega
        have HM7 := hid (HM6.out.later (below_via' hb7 (by repeat (first | exact Below.refl _ _ | refine Below.drew ?_ | refine Below.drewQ ?_ _ | refine Below.alloc ?_ (by first | (simp; done) | (simp; omega)) _))))
        clear hb7 y6 x6 HM6 HS1 hsw6
        go_wp2_with fail
        refine (HOU.out _ own6 R6 (HM7.out.later (by repeat (first | exact Below.refl _ _ | refine Below.drew ?_ | refine Below.drewQ ?_ _ | refine Below.alloc ?_ (by first | (simp; done) | (simp; omega)) _)))).mono ?_
        rintro e w8 ⟨⟨a8, c8, rfl⟩, hb8⟩
        have y8 : w8.cell? ⟨w5.heap.size, 0, none⟩ = some (.int .i64 0) := (hb8.cell (p := ⟨w5.heap.size, 0, none⟩) (by simp; omega)).trans (by go_simp)
        have x8 : w8.cell? ⟨sb, so + i, none⟩ = some (.int .i64 (SR i)) := (hb8.cell (p := ⟨sb, so + i, none⟩) (by simp; omega)).trans (by go_simp)
        have z8 : w8.cell? ⟨w7.heap.size, 0, none⟩ = some (.int .i64 7) := (hb8.cell (p := ⟨w7.heap.size, 0, none⟩) (by simp)).trans (by go_simp)
        have l8 : w7.heap.size < w8.heap.size := Nat.lt_of_lt_of_le (by simp) hb8.size
        have l58 : w5.heap.size < w8.heap.size := by omega
        have hsw8 : sb < w8.heap.size := by omega
        have HM8 := hid (HM7.out.later (below_via' hb8 (by repeat (first | exact Below.refl _ _ | refine Below.drew ?_ | refine Below.drewQ ?_ _ | refine Below.alloc ?_ (by first | (simp; done) | (simp; omega)) _))))
        clear hb8 y7 x7 HM7 HOU
        by_cases hpar : (SR i).tmod 2 = 0
        · go_wp2_with (go_at_call 17; refine (fuel_any _ _ hbd.1 hbd.2).mono ?_; rintro e w' ⟨he, hw⟩; rw [hf] at he; rw [he, hw]; clear he hw e w')
          go_roundw
          case rel => exact ⟨i + 1, sum + m, own6, R6, s', by omega, by omega, by go_num, by go_num, hsx, HST'.out, HM8.out.later (by repeat (first | exact Below.refl _ _ | refine Below.drew ?_ | refine Below.drewQ ?_ _ | refine Below.alloc ?_ (by first | (simp; done) | (simp; omega)) _))⟩
          case measure => simp [intOf]; omega
        · go_wp2_with (go_at_call 17; refine (fuel_any _ _ hbd.1 hbd.2).mono ?_; rintro e w' ⟨he, hw⟩; rw [hf] at he; rw [he, hw]; clear he hw e w')
          refine ((HM8.out.later (by repeat (first | exact Below.refl _ _ | refine Below.drew ?_ | refine Below.drewQ ?_ _ | refine Below.alloc ?_ (by first | (simp; done) | (simp; omega)) _))).collect HPG.out).mono ?_
          rintro e w9 ⟨⟨n9, rfl⟩, ⟨own9, R9, hm9⟩, _⟩
          have HM9 := hid hm9
          clear hm9
          go_wp2_with fail
          go_roundw
          case rel => exact ⟨i + 1, sum + m, own9, R9, collectA s', by omega, by omega, by go_num, by go_num, hsx, HST'.out.collect, HM9.out⟩
          case measure => simp [intOf]; omega
      · subst hmf
        have HS0 : Hid (∃ t1 d1 : Nat, ∀ W, Below wr.heap.size wr W → Calls Tryd.prog 18 #[.pointer (some ⟨ma, 0, none⟩)] W fun e w' => e = .returned (.agg #[.int .i64 7, .int .i64 (t1 : Int), .int .i64 (d1 : Int)]) ∧ Below W.heap.size W w') := ⟨_, _, fun W hW => by have := (HMS.out.later hW).status; rw [e0] at this; exact this⟩
        have HS1 : Hid (∃ t1 d1 : Nat, ∀ W own R, HM w W own ma ga R s' → Calls Tryd.prog 18 #[.pointer (some ⟨ma, 0, none⟩)] W fun e w' => e = .returned (.agg #[.int .i64 7, .int .i64 (t1 : Int), .int .i64 (d1 : Int)]) ∧ Below W.heap.size W w') := ⟨_, _, fun W own R h => by have := h.status; rw [e1] at this; exact this⟩
        obtain ⟨t0, d0, HS0⟩ := HS0.out
        obtain ⟨t1, d1, HS1⟩ := HS1.out
        have HS0 := hid HS0
        have HS1 := hid HS1
        have HOU : Hid (∀ W own R, HM w W own ma ga R s' → Calls Tryd.prog 20 #[.pointer (some ⟨ma, 0, none⟩)] W fun e w' => (∃ a c, e = .returned (.slice a 40 c)) ∧ Below W.heap.size W w') := fun W own R h => h.output.mono fun e w' hh => by
          obtain ⟨⟨a, c, he, _⟩, hb⟩ := hh
          rw [e2] at he
          exact ⟨⟨a, c, he⟩, hb⟩
        clear HMS e0 e1
        go_wp2_with fail
        refine (HS0.out _ (by repeat (first | exact Below.refl _ _ | refine Below.drew ?_ | refine Below.drewQ ?_ _ | refine Below.alloc ?_ (by first | (simp; done) | (simp; omega)) _))).mono ?_
        rintro e w5 ⟨rfl, hb5⟩
        have HB5 := hid hb5
        have l5 := hb5.size
        have hsw5 : sb < w5.heap.size := by omega
        have x5 := (hb5.cell (p := ⟨sb, so + i, none⟩) hpw).trans x0
        clear hb5 HS0
        go_wp2_with (go_at_call 17; refine (fuel_any _ _ hbd.1 hbd.2).mono ?_; rintro e w' ⟨he, hw⟩; rw [hf] at he; rw [he, hw]; clear he hw e w')
        refine (HRUN.out _ (by have hq := HB5.out.size; repeat (first | exact HB5.out | refine Below.drew ?_ | refine Below.alloc ?_ (by first | omega | (simp; done) | (simp; omega)) _))).mono ?_
        rintro e w6 ⟨rfl, ⟨own6, R6, hm6⟩, hsp6⟩
        have y6 : w6.cell? ⟨w5.heap.size, 0, none⟩ = some (.int .i64 7) := hsp6.cell (by simp) (HNEW.out _ l5) (by go_simp)
        have x6 := (hm6.bel.cell (p := ⟨sb, so + i, none⟩) hsb).trans hc0
        have l6 : w5.heap.size < w6.heap.size := by have := hsp6.1; simp at this; omega
        have hsw6 : sb < w6.heap.size := by omega
        have HM6 := hid hm6
        clear hsp6 hm6 HRUN HNEW HB5 x5 hsw5 x0 hpw
        go_wp2_with fail
        refine (HS1.out _ own6 R6 (HM6.out.later (by repeat (first | exact Below.refl _ _ | refine Below.drew ?_ | refine Below.drewQ ?_ _ | refine Below.alloc ?_ (by first | (simp; done) | (simp; omega)) _)))).mono ?_
        rintro e w7 ⟨rfl, hb7⟩
        have y7 := (hb7.cell (p := ⟨w5.heap.size, 0, none⟩) (by first | omega | (simp; omega))).trans y6
        have x7 := (hb7.cell (p := ⟨sb, so + i, none⟩) (by first | omega | (simp; omega))).trans x6
        have l7 : w6.heap.size ≤ w7.heap.size := hb7.size
        have hsw7 : sb < w7.heap.size := by omega
        have l57 : w5.heap.size < w7.heap.size := by omega
        have HM7 := hid (HM6.out.later (below_via' hb7 (by repeat (first | exact Below.refl _ _ | refine Below.drew ?_ | refine Below.drewQ ?_ _ | refine Below.alloc ?_ (by first | (simp; done) | (simp; omega)) _))))
        clear hb7 y6 x6 HM6 HS1 hsw6
        go_wp2_with fail
        refine (HOU.out _ own6 R6 (HM7.out.later (by repeat (first | exact Below.refl _ _ | refine Below.drew ?_ | refine Below.drewQ ?_ _ | refine Below.alloc ?_ (by first | (simp; done) | (simp; omega)) _)))).mono ?_
        rintro e w8 ⟨⟨a8, c8, rfl⟩, hb8⟩
        have y8 : w8.cell? ⟨w5.heap.size, 0, none⟩ = some (.int .i64 7) := (hb8.cell (p := ⟨w5.heap.size, 0, none⟩) (by simp; omega)).trans (by go_simp)
        have x8 : w8.cell? ⟨sb, so + i, none⟩ = some (.int .i64 (SR i)) := (hb8.cell (p := ⟨sb, so + i, none⟩) (by simp; omega)).trans (by go_simp)
        have z8 : w8.cell? ⟨w7.heap.size, 0, none⟩ = some (.int .i64 7) := (hb8.cell (p := ⟨w7.heap.size, 0, none⟩) (by simp)).trans (by go_simp)
        have l8 : w7.heap.size < w8.heap.size := Nat.lt_of_lt_of_le (by simp) hb8.size
        have l58 : w5.heap.size < w8.heap.size := by omega
        have hsw8 : sb < w8.heap.size := by omega
        have HM8 := hid (HM7.out.later (below_via' hb8 (by repeat (first | exact Below.refl _ _ | refine Below.drew ?_ | refine Below.drewQ ?_ _ | refine Below.alloc ?_ (by first | (simp; done) | (simp; omega)) _))))
        clear hb8 y7 x7 HM7 HOU
        by_cases hpar : (SR i).tmod 2 = 0
        · go_wp2_with (go_at_call 17; refine (fuel_any _ _ hbd.1 hbd.2).mono ?_; rintro e w' ⟨he, hw⟩; rw [hf] at he; rw [he, hw]; clear he hw e w')
          go_roundw
          case rel => exact ⟨i + 1, sum + 0, own6, R6, s', by omega, by omega, by go_num, by go_num, hsx, HST'.out, HM8.out.later (by repeat (first | exact Below.refl _ _ | refine Below.drew ?_ | refine Below.drewQ ?_ _ | refine Below.alloc ?_ (by first | (simp; done) | (simp; omega)) _))⟩
          case measure => simp [intOf]; omega
        · go_wp2_with (go_at_call 17; refine (fuel_any _ _ hbd.1 hbd.2).mono ?_; rintro e w' ⟨he, hw⟩; rw [hf] at he; rw [he, hw]; clear he hw e w')
          refine ((HM8.out.later (by repeat (first | exact Below.refl _ _ | refine Below.drew ?_ | refine Below.drewQ ?_ _ | refine Below.alloc ?_ (by first | (simp; done) | (simp; omega)) _))).collect HPG.out).mono ?_
          rintro e w9 ⟨⟨n9, rfl⟩, ⟨own9, R9, hm9⟩, _⟩
          have HM9 := hid hm9
          clear hm9
          go_wp2_with fail
          go_roundw
          case rel => exact ⟨i + 1, sum + 0, own9, R9, collectA s', by omega, by omega, by go_num, by go_num, hsx, HST'.out.collect, HM9.out⟩
          case measure => simp [intOf]; omega
    · have hs8 : sum ≤ 8000 := by omega
      have hout := hst.outs
      obtain ⟨N, hN⟩ : ∃ N, min (hK sum) 40 = N := ⟨_, rfl⟩
      rw [hN] at hout
      have hN40 : N ≤ 40 := by omega
      have HOU : Hid (∀ W, Below wr.heap.size wr W → Calls Tryd.prog 20 #[.pointer (some ⟨ma, 0, none⟩)] W fun e w' => (∃ a c, e = .returned (.slice a N c) ∧ IntsAt w' a (List.replicate N (truthI held))) ∧ Below W.heap.size W w') := fun W hW => by
        have := (hm.later hW).output
        rw [hout, List.length_replicate] at this
        exact this
      have HBEL := hid hm.bel
      have HNK := hid hN
      clear hm hst hout hN hsn HSR HSB HPG HIH hsum
      rcases Nat.lt_or_ge i sn with hl1 | hl1
      · have hl2 : ¬ i < 20 := fun h => hlt ⟨hl1, h⟩
        clear hlt
        go_wp2_with fail
        refine (HOU.out _ (by repeat (first | exact Below.refl _ _ | refine Below.drew ?_ | refine Below.drewQ ?_ _ | refine Below.alloc ?_ (by first | (simp; done) | (simp; omega)) _))).mono ?_
        rintro e w10 ⟨⟨a10, c10, rfl, hi10⟩, hb10⟩
        have HI10 := hid hi10
        have HB10 := hid (below_via' (below_via' hb10 (by repeat (first | exact Below.refl _ _ | refine Below.drew ?_ | refine Below.drewQ ?_ _ | refine Below.alloc ?_ (by first | (simp; done) | (simp; omega)) _))) HBEL.out)
        clear hi10 hb10 HOU HBEL
        go_wp2_with fail
        go_loopw [18] (fun vi wk => ∃ k : Nat, k ≤ N ∧ vi = .int .i64 k ∧ Below w10.heap.size w10 wk) (fun vi _ => N - (intOf vi).toNat)
        case atStart => exact ⟨0, Nat.zero_le _, rfl, Below.refl _ _⟩
        case round =>
          obtain ⟨k, hk, rfl, hbk⟩ := hrel
          by_cases hkl : k < N
          · obtain ⟨ob, rfl, hob, hcs⟩ := HI10.out (by rw [List.length_replicate]; omega)
            have o0 := (hbk.cell (p := ⟨ob, k, none⟩) hob).trans (hcs k (truthI held) (by rw [List.getElem?_replicate, if_pos hkl]))
            have how := Nat.lt_of_lt_of_le hob hbk.size
            have HBK := hid hbk
            clear hcs hbk
            go_wp2_with fail
            go_region_with (go_at_call 22; refine (ktruth_any _ _).mono ?_; rintro e w' ⟨rfl, hw⟩; rw [hw]; clear hw w')
            all_goals go_wp2_with fail
            all_goals go_roundw
            all_goals first | exact ⟨k + 1, by omega, by go_num, Below.drew HBK.out⟩ | (simp [intOf]; omega)
          · obtain rfl : k = N := by omega
            have HBK := hid (below_via' hbk HB10.out)
            clear hbk
            by_cases h11 : sum < 11
            · have hN0 : k = 0 := by rw [← HNK.out]; unfold hK; rw [if_pos h11]; rfl
              subst hN0
              go_wp2_with fail
              go_ret
              exact ⟨rfl, HBK.out⟩
            · obtain ⟨r, hr⟩ : ∃ r : Nat, sum = 11 + r := ⟨sum - 11, by omega⟩
              subst hr
              have hkv : k = min (1 + r / 7) 40 := by rw [← HNK.out]; unfold hK; rw [if_neg h11, show 11 + r - 11 = r by omega]
              have hq1 : IntKind.i64.wrap (((11 + r : Nat) : Int) - 11) = (r : Int) := by rw [Go.IntWalk.i64_in _ (by omega)]; omega
              have hq2 : Int.tdiv (r : Int) 7 = ((r / 7 : Nat) : Int) := by rw [Int.tdiv_eq_ediv_of_nonneg (by omega)]; omega
              obtain ⟨z, hz⟩ : ∃ z, r / 7 = z := ⟨_, rfl⟩
              rw [hz] at hq2 hkv
              have hz8 : z ≤ 8000 := by omega
              by_cases h40 : 40 < 1 + z
              · have hk40 : k = 40 := by omega
                clear hkv
                subst hk40
                go_wp2_with fail
                go_ret
                exact ⟨rfl, HBK.out⟩
              · have hkz : k = 1 + z := by omega
                clear hkv
                subst hkz
                have hb7 : (1 + (z : Int) == 1 + (11 + (r : Int) - 11) / 7) = true := by rw [beq_iff_eq]; omega
                go_wp2_with fail
                go_ret
                refine ⟨?_, HBK.out⟩
                first | rfl | (show Ending.returned (.bool (1 + (z : Int) == 1 + (11 + (r : Int) - 11) / 7)) = _; rw [hb7])
      · have hl2 : ¬ i < sn := by omega
        clear hlt
        go_wp2_with fail
        refine (HOU.out _ (by repeat (first | exact Below.refl _ _ | refine Below.drew ?_ | refine Below.drewQ ?_ _ | refine Below.alloc ?_ (by first | (simp; done) | (simp; omega)) _))).mono ?_
        rintro e w10 ⟨⟨a10, c10, rfl, hi10⟩, hb10⟩
        have HI10 := hid hi10
        have HB10 := hid (below_via' (below_via' hb10 (by repeat (first | exact Below.refl _ _ | refine Below.drew ?_ | refine Below.drewQ ?_ _ | refine Below.alloc ?_ (by first | (simp; done) | (simp; omega)) _))) HBEL.out)
        clear hi10 hb10 HOU HBEL
        go_wp2_with fail
        go_loopw [18] (fun vi wk => ∃ k : Nat, k ≤ N ∧ vi = .int .i64 k ∧ Below w10.heap.size w10 wk) (fun vi _ => N - (intOf vi).toNat)
        case atStart => exact ⟨0, Nat.zero_le _, rfl, Below.refl _ _⟩
        case round =>
          obtain ⟨k, hk, rfl, hbk⟩ := hrel
          by_cases hkl : k < N
          · obtain ⟨ob, rfl, hob, hcs⟩ := HI10.out (by rw [List.length_replicate]; omega)
            have o0 := (hbk.cell (p := ⟨ob, k, none⟩) hob).trans (hcs k (truthI held) (by rw [List.getElem?_replicate, if_pos hkl]))
            have how := Nat.lt_of_lt_of_le hob hbk.size
            have HBK := hid hbk
            clear hcs hbk
            go_wp2_with fail
            go_region_with (go_at_call 22; refine (ktruth_any _ _).mono ?_; rintro e w' ⟨rfl, hw⟩; rw [hw]; clear hw w')
            all_goals go_wp2_with fail
            all_goals go_roundw
            all_goals first | exact ⟨k + 1, by omega, by go_num, Below.drew HBK.out⟩ | (simp [intOf]; omega)
          · obtain rfl : k = N := by omega
            have HBK := hid (below_via' hbk HB10.out)
            clear hbk
            by_cases h11 : sum < 11
            · have hN0 : k = 0 := by rw [← HNK.out]; unfold hK; rw [if_pos h11]; rfl
              subst hN0
              go_wp2_with fail
              go_ret
              exact ⟨rfl, HBK.out⟩
            · obtain ⟨r, hr⟩ : ∃ r : Nat, sum = 11 + r := ⟨sum - 11, by omega⟩
              subst hr
              have hkv : k = min (1 + r / 7) 40 := by rw [← HNK.out]; unfold hK; rw [if_neg h11, show 11 + r - 11 = r by omega]
              have hq1 : IntKind.i64.wrap (((11 + r : Nat) : Int) - 11) = (r : Int) := by rw [Go.IntWalk.i64_in _ (by omega)]; omega
              have hq2 : Int.tdiv (r : Int) 7 = ((r / 7 : Nat) : Int) := by rw [Int.tdiv_eq_ediv_of_nonneg (by omega)]; omega
              obtain ⟨z, hz⟩ : ∃ z, r / 7 = z := ⟨_, rfl⟩
              rw [hz] at hq2 hkv
              have hz8 : z ≤ 8000 := by omega
              by_cases h40 : 40 < 1 + z
              · have hk40 : k = 40 := by omega
                clear hkv
                subst hk40
                go_wp2_with fail
                go_ret
                exact ⟨rfl, HBK.out⟩
              · have hkz : k = 1 + z := by omega
                clear hkv
                subst hkz
                have hb7 : (1 + (z : Int) == 1 + (11 + (r : Int) - 11) / 7) = true := by rw [beq_iff_eq]; omega
                go_wp2_with fail
                go_ret
                refine ⟨?_, HBK.out⟩
                first | rfl | (show Ending.returned (.bool (1 + (z : Int) == 1 + (11 + (r : Int) - 11) / 7)) = _; rw [hb7])

end Go.Proofs.YtbkmgoffiigdbaaDoor

namespace Go.Proofs.YtbkmgoffiigdbaaDoor
open Go.ChangeShapes Go.WideShapes Go.ChangeAt Go.RowKit

/-- A list of numbers in memory. -/
def RawH (B : Nat) (w : World) (a : Option Addr) (n b o : Nat) (R : Nat → Int) : Prop :=
  n ≤ 1152921504606846976 ∧ (0 < n → a = some ⟨b, o, none⟩ ∧ b < B ∧ ∀ i, i < n → w.cell? ⟨b, o + i, none⟩ = some (.int .i64 (R i))) ∧ ∀ i, -9223372036854775808 ≤ R i ∧ R i ≤ 9223372036854775807

theorem hown : ownKnob Tryd.prog.godebug = none := by kernel_rfl
theorem hlaidOut : laidOutB Tryd.prog = true := by kernel_rfl
theorem hhreadable31 : Tryd.prog.readableRec 31 = true := by kernel_rfl
theorem hhrow31 : 31 < Tryd.prog.types.size := of_decide_eq_true (by kernel_rfl)
theorem hhreadable4 : Tryd.prog.readableRec 4 = true := by kernel_rfl
theorem hhrow4 : 4 < Tryd.prog.types.size := of_decide_eq_true (by kernel_rfl)
theorem hcells3 : Tryd.prog.cellsOf 3 = 1 := by kernel_rfl
theorem hbytes3 : Tryd.prog.bytesOf 3 = 8 := by kernel_rfl

theorem hwf_bd {n : Int} (h : (Lit.int .i64 n).wf = true) : -9223372036854775808 ≤ n ∧ n ≤ 9223372036854775807 := by
  have h' := h
  simp only [Lit.wf, Bool.and_eq_true, decide_eq_true_eq] at h'
  exact h'

set_option maxRecDepth 100000 in
theorem open_rawh {H : Type} {enc : TypeId × Value → H} {W : World} {fuel : Nat} {cs : List Value} {x : DataW H × List MemPlace} (h : DataW.trod enc Tryd.prog W 0 (fun _ => true) true fuel 31 cs = some x) (hw : ∀ y ∈ x.1.weights Tryd.prog 31, y ≤ 140737488351232) :
    ∃ a n c b o R, cs = [.slice a n c] ∧ RawH W.heap.size W a n b o R ∧ n ≤ c := by
  rcases open_ints Tryd.underlying31 Tryd.underlying3 hcells3 h with ⟨hcs, _⟩ | ⟨a, len, cap, zs, hcs, _, hlc, hm, hz, hx, hcell, hwf⟩
  · exact ⟨none, 0, 0, 0, 0, fun _ => 0, hcs, ⟨by omega, fun hn => absurd hn (by omega), fun _ => ⟨(show (-9223372036854775808 : Int) ≤ 0 by decide), (show (0 : Int) ≤ 9223372036854775807 by decide)⟩⟩, Nat.le_refl _⟩
  · simp only [if_true] at hz
    have hwl : cap * 8 ≤ 140737488351232 := by
      have hmem : (len + (cap - len)) * 8 ∈ x.1.weights Tryd.prog 31 := by
        rw [hx]
        simp [DataW.weights, Tryd.underlying31, hbytes3, lits, hz]
        try omega
      have := hw _ hmem
      rwa [show len + (cap - len) = cap by omega] at this
    refine ⟨some a, len, cap, a.block, a.off, fun i => zs.getD i 0, hcs, ⟨by omega, fun hn => ?_, fun i => ?_⟩, hlc⟩
    · have c0 := hcell 0 (by omega)
      have hadd : a.add 0 = a := by simp [Addr.add]
      rw [hadd] at c0
      obtain ⟨b, o, spot⟩ := a
      have hspot : spot = none := World.cell?_spot c0
      subst hspot
      refine ⟨rfl, World.block_lt_of_cell? _ _ c0, fun i hi => ?_⟩
      have := hcell i (by omega)
      rwa [add_plain] at this
    · by_cases e : i < zs.length
      · refine hwf_bd (hwf _ ?_)
        show zs.getD i 0 ∈ zs
        rw [List.getD_eq_getElem?_getD, List.getElem?_eq_getElem e]
        exact List.getElem_mem e
      · show -9223372036854775808 ≤ zs.getD i 0 ∧ zs.getD i 0 ≤ 9223372036854775807
        rw [List.getD_eq_getElem?_getD, List.getElem?_eq_none (by omega)]
        exact ⟨by decide, by decide⟩

theorem hall_mem {l : List Nat} {b : Nat} (h : l.all (· ≤ b) = true) {x : Nat} (hx : x ∈ l) : x ≤ b := by
  have := List.all_eq_true.1 h x hx
  simpa using this

theorem hreadable3 : Tryd.prog.readableRec 3 = true := by kernel_rfl
theorem hrow3 : 3 < Tryd.prog.types.size := of_decide_eq_true (by kernel_rfl)

set_option maxRecDepth 100000 in
theorem hcontract (H : Type) (enc : TypeId × Value → H) (W : World) (base : Nat) (args : Array Value) (ds gs : List (DataW H)) (before : List MemPlace)
    (hval : ∀ (j : Nat) t v, Tryd.f9.params[j]? = some t → args[j]? = some v → Value.okWide Tryd.prog W .any base t v)
    (hW : DataW.Whole enc Tryd.prog Tryd.f9.params.toList Rows.holdsSpec.vars false W args.toList ds gs before)
    (hsz : (DataW.weightsEach Tryd.prog (Tryd.f9.params.toList ++ (OpenSpec.ofChange Rows.holdsSpec).bare.plain.varTypes Tryd.prog) (ds ++ gs)).all (· ≤ reachBytes) = true)
    (hL : laidMetH Tryd.prog Rows.holdsRow.laid W) :
    Calls Tryd.prog 9 args W fun e W' => ∃ v, e = .returned v ∧ Rows.holdsSpec.post enc Tryd.prog Tryd.f9 false true false false W args v W' := by
  have hW' := hW
  have hlt := hW.lt
  obtain ⟨p, q, hA0, hV, rfl, hfz, hnd⟩ := hW
  have hA : DataW.TrodAll enc Tryd.prog W 0 (fun _ => true) true Tryd.f9.params.toList args.toList ds p := hA0
  rw [Tryd.params9] at hA hval hsz
  obtain ⟨v0, vs0, d0, ds0, p0, q0, hargs, rfl, rfl, h0, r0⟩ := trodAll_cons hA
  obtain ⟨v1, vs1, d1, ds1, p1, q1, rfl, rfl, rfl, h1, r1⟩ := trodAll_cons r0
  obtain ⟨v2, vs2, d2, ds2, p2, q2, rfl, rfl, rfl, h2, r2⟩ := trodAll_cons r1
  obtain ⟨v3, vs3, d3, ds3, p3, q3, rfl, rfl, rfl, h3, r3⟩ := trodAll_cons r2
  obtain ⟨rfl, rfl, rfl⟩ := trodAll_nil r3
  obtain rfl : args = #[v0, v1, v2, v3] := by cases args; simp_all
  obtain ⟨rfl, rfl⟩ := trodVars_none hV
  clear hA0
  have h0' := h0
  obtain ⟨held, rfl, hd0, hp0⟩ := open_bool Tryd.underlying4 (hval 0 4 v0 rfl rfl) h0
  have h1' := h1
  obtain ⟨room, rfl, hd1, hp1, hwf⟩ := open_int Tryd.underlying3 (hval 1 3 v1 rfl rfl) h1
  obtain ⟨hr1, hr2⟩ := hwf_bd hwf
  obtain ⟨a', n', c', rfl⟩ := okWide_slice Tryd.underlying31 (hval 2 31 v2 rfl rfl)
  obtain ⟨pa', pn', pc', rfl⟩ := okWide_slice Tryd.underlying31 (hval 3 31 v3 rfl rfl)
  have h2' := h2
  obtain ⟨fuel, hf⟩ := h2
  have h3' := h3
  obtain ⟨fuel3, hf3⟩ := h3
  obtain ⟨a, n, c, b, o, R, hc, hraw, hnc⟩ := open_rawh hf (fun y hm => by
    have hmem : y ∈ DataW.weightsEach Tryd.prog (#[4, 3, 31, 31].toList ++ (OpenSpec.ofChange Rows.holdsSpec).bare.plain.varTypes Tryd.prog) ([d0, d1, d2, d3] ++ []) := by
      simp only [List.cons_append, List.nil_append, DataW.weightsEach, List.mem_append]
      exact Or.inr (Or.inr (Or.inl hm))
    have := hall_mem hsz hmem
    simpa [reachBytes] using this)
  obtain ⟨pa, pn, pc, pb, po, PR, hpc, hpraw, hpnc⟩ := open_rawh hf3 (fun y hm => by
    have hmem : y ∈ DataW.weightsEach Tryd.prog (#[4, 3, 31, 31].toList ++ (OpenSpec.ofChange Rows.holdsSpec).bare.plain.varTypes Tryd.prog) ([d0, d1, d2, d3] ++ []) := by
      simp only [List.cons_append, List.nil_append, DataW.weightsEach, List.mem_append]
      exact Or.inr (Or.inr (Or.inr (Or.inl hm)))
    have := hall_mem hsz hmem
    simpa [reachBytes] using this)
  obtain ⟨rfl, rfl, rfl⟩ : a' = a ∧ n' = n ∧ c' = c := by simpa [Value.cells] using hc
  obtain ⟨rfl, rfl, rfl⟩ : pa' = pa ∧ pn' = pn ∧ pc' = pc := by simpa [Value.cells] using hpc
  refine (holds_any held room a' n' c' b o R pa' pn' pc' pb po PR W ⟨hraw.1, hraw.2.1⟩ hraw.2.2 ⟨hpraw.1, hpraw.2.1⟩ hpnc hr1 hr2 (tab_of_laid hL)).mono fun e W' ⟨he, hb⟩ => ?_
  subst he
  refine ⟨_, rfl, [d0, d1, d2, d3], [], p0 ++ (p1 ++ (p2 ++ (p3 ++ []))) ++ [], [], p0 ++ (p1 ++ (p2 ++ (p3 ++ []))), [], hW', ?_, ?_, rfl, hb.frame _, fun h => by cases h⟩
  · exact trodAll_cons_mk (shut_bool Tryd.underlying4 _) trodAll_mk0
  · exact trodAll_cons_mk (Below.trod hlaidOut hhreadable4 hhrow4 h0' hb (fun x hx => hlt x (by simp [hx]))) (trodAll_cons_mk (Below.trod hlaidOut hreadable3 hrow3 h1' hb (fun x hx => hlt x (by simp [hx]))) (trodAll_cons_mk (Below.trod hlaidOut hhreadable31 hhrow31 h2' hb (fun x hx => hlt x (by simp [hx]))) (trodAll_cons_mk (Below.trod hlaidOut hhreadable31 hhrow31 h3' hb (fun x hx => hlt x (by simp [hx]))) trodAll_mk0)))

theorem hdoor_met (os : Os) (args : Array Value) : laidMetH Tryd.prog Rows.holdsRow.laid ((World.doorLaid Tryd.prog 42 os).forCall (fun _ _ => 0) ⟨#[], args, []⟩).memory :=
  laidMetH_of_parts3 (fuel := 8) (laidMet_of_run' 8 (by kernel_rfl) (by kernel_rfl)) (by kernel_rfl) (by kernel_rfl)

theorem hreads (os : Os) {H : Type} (enc : TypeId × Value → H) : ∃ places, DataW.whole enc Tryd.prog ((World.doorLaid Tryd.prog 42 os).forCall (fun _ _ => 0) ⟨#[], #[.bool false, .int .i64 0, .slice none 0 0, .slice none 0 0], []⟩).memory Tryd.f9.params.toList Rows.holdsSpec.vars false #[Value.bool false, .int .i64 0, .slice none 0 0, .slice none 0 0].toList 8 = some ([.lit (.bool false), .lit (.int .i64 0), .nil, .nil], [], places) :=
  ⟨[], by kernel_rfl⟩

set_option maxRecDepth 100000 in
theorem hlifted (os : Os) (started : os.Started) (H : Type) (enc : TypeId × Value → H) (F : Stop.Interp) :
    ReturnsInHanded {} Tryd.checked os 9 .any ((OpenSpec.ofChange Rows.holdsSpec).preRow enc Tryd.prog Tryd.f9 Rows.holdsRow.domain false Rows.holdsRow.laid) (((OpenSpec.ofChange Rows.holdsSpec).at F).post enc Tryd.prog Tryd.f9 false true false false) := by
  obtain ⟨places, hx⟩ := hreads os enc
  refine returnsInHanded_of_row (C := Tryd.checked) (s := OpenSpec.ofChange Rows.holdsSpec) hown started (by kernel_rfl) Tryd.func9
    (witness_row_atRef (enc := enc) (C := Tryd.checked) false (World.doorLaid Tryd.prog 42 os) #[.bool false, .int .i64 0, .slice none 0 0, .slice none 0 0] rfl (by kernel_rfl) (by kernel_rfl) (by kernel_rfl)
      (OpenSpec.preRow_of_cond 8 hx (by kernel_rfl) (fun k hk => by cases hk) (by kernel_rfl) (hdoor_met os _))) ?_
  intro W base args ds gs before hval hW _ _ hsz hL _ _
  exact hcontract H enc W base args ds gs before hval hW hsz hL

theorem hsaid : Rows.HoldsSaid :=
  OpenClaim.holds_of_cond 9 Tryd.f9 rfl rfl rfl rfl rfl rfl rfl ⟨rfl, rfl, rfl, rfl, rfl⟩ rfl rfl rfl rfl rfl (by kernel_rfl) Tryd.func9 (by kernel_rfl)
    (of_decide_eq_true (by kernel_rfl)) (by unfold Func.isWrapper; first | (rw [if_pos (by decide +kernel)]; kernel_rfl) | (rw [if_neg (by decide +kernel)]; exact ⟨rfl, rfl⟩))
    (fun os started H enc _ F => by rw [OpenClaim.pre_eq_preRow]; exact hlifted os started H enc F)

theorem hplain (f : FuncId) (fn : Func) (hf : Tryd.pinned.checked.prog.funcNamed "slumber/slumberkeep.Holds" = some f) (hfn : Tryd.pinned.checked.prog.funcs[f]? = some fn) :
    false = Tryd.pinned.checked.prog.looks [] ∧ ∀ (j : Nat) t, fn.params[j]? = some t → Tryd.pinned.checked.prog.wantsStandIn t = false := by
  obtain rfl : f = 9 := Option.some.inj ((show Tryd.prog.funcNamed "slumber/slumberkeep.Holds" = some 9 by kernel_rfl).symm.trans hf) |>.symm
  obtain rfl : fn = Tryd.f9 := (Option.some.inj (Tryd.func9.symm.trans hfn)).symm
  refine ⟨by kernel_rfl, fun j t ht => ?_⟩
  rw [Tryd.params9] at ht
  have hm : t = 31 ∨ t = 4 ∨ t = 3 := by
    have := Array.mem_of_getElem? ht
    simp at this
    rcases this with rfl | rfl | rfl
    · exact Or.inr (Or.inl rfl)
    · exact Or.inr (Or.inr rfl)
    · exact Or.inl rfl
  rcases hm with rfl | rfl | rfl
  · exact (show Tryd.prog.wantsStandIn 31 = false by kernel_rfl)
  · exact (show Tryd.prog.wantsStandIn 4 = false by kernel_rfl)
  · exact (show Tryd.prog.wantsStandIn 3 = false by kernel_rfl)

theorem holds_card : Rows.HoldsCardSaid :=
  Claim7.holds_tied_plain_at .later [] _ _ _ _ hsaid (fun _ h => by cases h) (by kernel_rfl) (fun _ h => by cases h) holds_row_tie rfl ⟨rfl, rfl⟩ (by kernel_rfl) rfl hplain (by kernel_rfl)

end Go.Proofs.YtbkmgoffiigdbaaDoor
