import Derived.Test.YtbkmgoffiigdbaaDoorMR
import Derived.Deep.RegionHeldLaw
import Derived.Test.YtbkmgoffiigdbaaDoorMT
import Derived.RegionTactic
import Derived.BigRegion
namespace Go.Proofs.YtbkmgoffiigdbaaDoor
open Go.RowKit

theorem RawIn.below {B : Nat} {w w' : World} {a : Option Addr} {n b o : Nat} {R : Nat → Int} (h : RawIn B w a n b o R) (hb : Below B w w') : RawIn B w' a n b o R :=
  ⟨h.1, fun hn => by
    obtain ⟨h1, h2, h3⟩ := h.2.1 hn
    refine ⟨h1, h2, fun i hi => ?_⟩
    rw [hb.cell (p := ⟨b, o + i, none⟩) h2]; exact h3 i hi, h.2.2⟩
theorem RawIn.mono {B B' : Nat} {w : World} {a : Option Addr} {n b o : Nat} {R : Nat → Int} (h : RawIn B w a n b o R) (hb : B ≤ B') : RawIn B' w a n b o R :=
  ⟨h.1, fun hn => by obtain ⟨h1, h2, h3⟩ := h.2.1 hn; exact ⟨h1, by omega, h3⟩, h.2.2⟩

def ProgPost (R : Nat → Int) (n : Nat) (again : Bool) (w : World) (e : Ending) (w' : World) : Prop :=
  ∃ pb b1 c1 sb b2 c2, e = .returned (.agg #[.slice (some ⟨pb, 0, none⟩) 3 3]) ∧ PgIn w'.heap.size w' (madeG pb b1 c1 sb b2 c2 (mainL R n again) stepL (otherL R n)) ∧
    w.heap.size ≤ b1 ∧ b1 < b2 ∧ b2 < sb ∧ sb < pb ∧ pb < w'.heap.size ∧ (mainL R n again).length ≤ 47 ∧ 0 < (mainL R n again).length ∧ (∀ j, w'.frozen? ⟨b1, j, none⟩ = false) ∧ Below w.heap.size w w'

set_option maxRecDepth 100000 in
set_option maxHeartbeats 8000000 in
theorem program_false (a : Option Addr) (n c b o : Nat) (R : Nat → Int) (w : World) (hr : RawIn w.heap.size w a n b o R) (hc : n ≤ c) :
    Calls Tryd.prog 14 #[.slice a n c, .bool false] w fun e w' => ProgPost R n false w e w' := by
  have HR := (show Hid (RawIn w.heap.size w a n b o R) from hr); clear hr
  have hn := HR.out.1
  have hq : IntKind.i64.wrap ((n : Int).tdiv 2) = ((n / 2 : Nat) : Int) := by rw [Go.IntWalk.i64_quo _ _ (by omega)]; omega
  go_enter Tryd.func14, Tryd.ntmps14
  go_wp2_with fail
  have hl1 := bodyTo_len R (min (n / 2) 6)
  have hr0 : RawIn (w.alloc (Obj.cells #[Value.slice none 0 0] 24)).heap.size (w.alloc (Obj.cells #[Value.slice none 0 0] 24)) a (n / 2) b o R := by
    refine RawIn.mono (RawIn.below (w := w) (B := w.heap.size) ?_ (Below.alloc (Below.refl _ _) (Nat.le_refl _) _)) (by simp)
    exact ⟨by omega, fun h => by obtain ⟨h1, h2, h3⟩ := HR.out.2.1 (by omega); exact ⟨h1, h2, fun i hi => h3 i (by omega)⟩, HR.out.2.2⟩
  refine (body_any a (n / 2) c b o R _ hr0).mono ?_
  clear hr0
  rintro e w1 ⟨mb1, rfl, hmb1, hM1, hB1⟩
  have hbel1 : Below w.heap.size w w1 := (Below.alloc (Below.refl _ _) (Nat.le_refl _) _).trans (Below.mono hB1 (by simp))
  have hmb1' : w.heap.size < mb1 := Nat.lt_of_succ_le (by simpa using hmb1)
  have hrs1 : w1.cell? ⟨w.heap.size, 0, none⟩ = some (.slice none 0 0) := by rw [hB1.cell (p := ⟨w.heap.size, 0, none⟩) (by simp)]; go_simp
  have hrf1 : w1.frozen? ⟨w.heap.size, 0, none⟩ = false := by rw [hB1.frozen (p := ⟨w.heap.size, 0, none⟩) (by simp)]; go_simp
  clear hB1 hmb1
  go_wp2_with fail
  refine (op_any mb1 _ 14 2 w1 hM1 (by omega)).mono ?_
  rintro e w2 ⟨rfl, hM2, hB2⟩
  go_wp2_with fail
  refine (op_any mb1 _ 5 0 w2 hM2 (by simp; omega)).mono ?_
  rintro e w3 ⟨rfl, hM3, hB3⟩
  have hB13 := hB2.trans hB3
  clear hM1 hM2 hB2 hB3
  all_goals
    go_wp2_with fail
    refine (op_any mb1 _ _ _ w3 hM3 (by simp; omega)).mono ?_
    rintro e w4 ⟨rfl, hM4, hB4⟩
    have hB14 := hB13.trans hB4
    clear hM3 hB13 hB4
    have hsz4 := hB14.size
    have hbel4 : Below w.heap.size w w4 := hbel1.trans (Below.mono hB14 (by omega))
    have hrs4 : w4.cell? ⟨w.heap.size, 0, none⟩ = some (.slice none 0 0) := by rw [hB14.cell (p := ⟨w.heap.size, 0, none⟩) hmb1']; exact hrs1
    have hrf4 : w4.frozen? ⟨w.heap.size, 0, none⟩ = false := by rw [hB14.frozen (p := ⟨w.heap.size, 0, none⟩) hmb1']; exact hrf1
    have hl2 := bodyTo_len (fun i => R (n / 2 + i)) (min (n - n / 2) 6)
    obtain ⟨cv4, hcv4⟩ := hM4
    have hmb14 : mb1 < w4.heap.size := hcv4.2.2.2
    clear hrs1 hrf1 hB14 hbel1
    go_wp2_with fail
  all_goals
    refine (body_any _ (n - n / 2) _ b (o + n / 2) (fun i => R (n / 2 + i)) w4 ?_).mono ?_
    · refine ⟨by omega, fun h => ?_, fun i => HR.out.2.2 _⟩
      obtain ⟨h1, h2, h3⟩ := HR.out.2.1 (by omega)
      have hs := hbel4.size
      first
        | (exfalso; omega)
        | (refine ⟨by rw [h1]; simp [Go.WideShapes.add_plain], by omega, fun i hi => ?_⟩
           rw [hbel4.cell (p := ⟨b, o + n / 2 + i, none⟩) h2, Nat.add_assoc]
           exact h3 _ (by omega))
    rintro e w5 ⟨mb2, rfl, hmb2, hM5, hB5⟩
    go_wp2_with fail
    refine (op_any mb2 _ 2 1 w5 hM5 (by omega)).mono ?_
    rintro e w6 ⟨rfl, hM6, hB6⟩
    go_wp2_with fail
    refine (op_any mb2 _ 15 0 w6 hM6 (by simp; omega)).mono ?_
    rintro e w7 ⟨rfl, ⟨cv7, hcv7⟩, hB7⟩
    have hB47 : Below w4.heap.size w4 w7 := hB5.trans (Below.mono (hB6.trans hB7) hmb2)
    have hc1 := hcv4.below hB47
    have hrs7 : w7.cell? ⟨w.heap.size, 0, none⟩ = some (.slice none 0 0) := by rw [hB47.cell (p := ⟨w.heap.size, 0, none⟩) (by show w.heap.size < _; omega)]; exact hrs4
    have hrf7 : w7.frozen? ⟨w.heap.size, 0, none⟩ = false := by rw [hB47.frozen (p := ⟨w.heap.size, 0, none⟩) (by show w.heap.size < _; omega)]; exact hrf4
    have hbel7 : Below w.heap.size w w7 := hbel4.trans (Below.mono hB47 hbel4.size)
    have hln1 : ∀ x : Int × Int, 0 < (bodyTo R (min (n / 2) 6) ++ [(14, 2)] ++ [(5, 0)] ++ [x]).length ∧ (bodyTo R (min (n / 2) 6) ++ [(14, 2)] ++ [(5, 0)] ++ [x]).length ≤ 47 := fun x => by simp; omega
    have hln2 : 0 < (bodyTo (fun i => R (n / 2 + i)) (min (n - n / 2) 6) ++ [(2, 1)] ++ [(15, 0)]).length ∧ (bodyTo (fun i => R (n / 2 + i)) (min (n - n / 2) 6) ++ [(2, 1)] ++ [(15, 0)]).length ≤ 46 := by simp; omega
    obtain ⟨L1, hL1⟩ : ∃ L1, L1 = mainL R n false := ⟨_, rfl⟩
    obtain ⟨L2, hL2⟩ : ∃ L2, L2 = otherL R n := ⟨_, rfl⟩
    have hn1 : 0 < L1.length ∧ L1.length ≤ 47 := by rw [hL1]; exact hln1 _
    have hn2 : 0 < L2.length ∧ L2.length ≤ 46 := by rw [hL2]; exact hln2
    have hc1 : MakerCv w7 mb1 L1 cv4 := by rw [hL1]; exact hc1
    have hcv7 : MakerCv w7 mb2 L2 cv7 := by rw [hL2]; exact hcv7
    have HL1 := (show Hid _ from hL1); clear hL1
    have HL2 := (show Hid _ from hL2); clear hL2 hln1 hln2
    obtain ⟨g1, cap1, rfl, hg1, hg1'⟩ := hc1.2.2.1.form hn1.1
    obtain ⟨g2, cap2, rfl, hg2, hg2'⟩ := hcv7.2.2.1.form hn2.1
    have hg14 : g1 < w4.heap.size := (hcv4.2.2.1.lt g1 rfl).2
    have h1a := hc1.1
    have h1b := hc1.2.2.2
    have h2a := hcv7.1
    have h2b := hcv7.2.2.2
    have hw7 : w.heap.size < w7.heap.size := by omega
    clear hM5 hM6 hB5 hB6 hB7 hrs4 hrf4 hbel4
    go_wp2_with (go_at_call 39; refine (at_any _ _ _).mono ?_; rintro e w' ⟨rfl, rfl⟩)
    have hBk : Below w7.heap.size w7 ((((((((((w7.alloc (Obj.cells #[Value.int IntKind.i64 16, Value.int IntKind.i64 1] 37)).alloc (Obj.cells #[Value.int IntKind.i64 3, Value.int IntKind.i64 2] 37)).alloc (Obj.cells #[Value.int IntKind.i64 2, Value.int IntKind.i64 2] 37)).alloc (Obj.cells #[Value.int IntKind.i64 2, Value.int IntKind.i64 1] 37)).alloc (Obj.cells #[Value.int IntKind.i64 20, Value.int IntKind.i64 0] 37)).alloc (Obj.cells #[Value.int IntKind.i64 2, Value.int IntKind.i64 0] 37)).alloc (Obj.cells #[Value.int IntKind.i64 0, Value.int IntKind.i64 1] 37)).alloc (Obj.cells #[Value.int IntKind.i64 7, Value.int IntKind.i64 0] 37)).alloc (Obj.cells #[Value.int IntKind.i64 15, Value.int IntKind.i64 0] 37)).alloc (Obj.cells #[Value.int IntKind.i64 16, Value.int IntKind.i64 1, Value.int IntKind.i64 3, Value.int IntKind.i64 2, Value.int IntKind.i64 2, Value.int IntKind.i64 2, Value.int IntKind.i64 2, Value.int IntKind.i64 1, Value.int IntKind.i64 20, Value.int IntKind.i64 0, Value.int IntKind.i64 2, Value.int IntKind.i64 0, Value.int IntKind.i64 0, Value.int IntKind.i64 1, Value.int IntKind.i64 7, Value.int IntKind.i64 0, Value.int IntKind.i64 15, Value.int IntKind.i64 0] 37)) := by
      repeat (first | exact Below.refl _ _ | refine Below.drew ?_ | refine Below.alloc ?_ (by first | omega | (simp; done) | (simp; omega)) _)
    have hsb : (((((((((((w7.alloc (Obj.cells #[Value.int IntKind.i64 16, Value.int IntKind.i64 1] 37)).alloc (Obj.cells #[Value.int IntKind.i64 3, Value.int IntKind.i64 2] 37)).alloc (Obj.cells #[Value.int IntKind.i64 2, Value.int IntKind.i64 2] 37)).alloc (Obj.cells #[Value.int IntKind.i64 2, Value.int IntKind.i64 1] 37)).alloc (Obj.cells #[Value.int IntKind.i64 20, Value.int IntKind.i64 0] 37)).alloc (Obj.cells #[Value.int IntKind.i64 2, Value.int IntKind.i64 0] 37)).alloc (Obj.cells #[Value.int IntKind.i64 0, Value.int IntKind.i64 1] 37)).alloc (Obj.cells #[Value.int IntKind.i64 7, Value.int IntKind.i64 0] 37)).alloc (Obj.cells #[Value.int IntKind.i64 15, Value.int IntKind.i64 0] 37)).alloc (Obj.cells #[Value.int IntKind.i64 16, Value.int IntKind.i64 1, Value.int IntKind.i64 3, Value.int IntKind.i64 2, Value.int IntKind.i64 2, Value.int IntKind.i64 2, Value.int IntKind.i64 2, Value.int IntKind.i64 1, Value.int IntKind.i64 20, Value.int IntKind.i64 0, Value.int IntKind.i64 2, Value.int IntKind.i64 0, Value.int IntKind.i64 0, Value.int IntKind.i64 1, Value.int IntKind.i64 7, Value.int IntKind.i64 0, Value.int IntKind.i64 15, Value.int IntKind.i64 0] 37))).heap[w7.heap.size + 1 + 1 + 1 + 1 + 1 + 1 + 1 + 1 + 1]? = some (Obj.cells #[Value.int IntKind.i64 16, Value.int IntKind.i64 1, Value.int IntKind.i64 3, Value.int IntKind.i64 2, Value.int IntKind.i64 2, Value.int IntKind.i64 2, Value.int IntKind.i64 2, Value.int IntKind.i64 1, Value.int IntKind.i64 20, Value.int IntKind.i64 0, Value.int IntKind.i64 2, Value.int IntKind.i64 0, Value.int IntKind.i64 0, Value.int IntKind.i64 1, Value.int IntKind.i64 7, Value.int IntKind.i64 0, Value.int IntKind.i64 15, Value.int IntKind.i64 0] 37) := blk_at (by simp)
    have hsz : (((((((((((w7.alloc (Obj.cells #[Value.int IntKind.i64 16, Value.int IntKind.i64 1] 37)).alloc (Obj.cells #[Value.int IntKind.i64 3, Value.int IntKind.i64 2] 37)).alloc (Obj.cells #[Value.int IntKind.i64 2, Value.int IntKind.i64 2] 37)).alloc (Obj.cells #[Value.int IntKind.i64 2, Value.int IntKind.i64 1] 37)).alloc (Obj.cells #[Value.int IntKind.i64 20, Value.int IntKind.i64 0] 37)).alloc (Obj.cells #[Value.int IntKind.i64 2, Value.int IntKind.i64 0] 37)).alloc (Obj.cells #[Value.int IntKind.i64 0, Value.int IntKind.i64 1] 37)).alloc (Obj.cells #[Value.int IntKind.i64 7, Value.int IntKind.i64 0] 37)).alloc (Obj.cells #[Value.int IntKind.i64 15, Value.int IntKind.i64 0] 37)).alloc (Obj.cells #[Value.int IntKind.i64 16, Value.int IntKind.i64 1, Value.int IntKind.i64 3, Value.int IntKind.i64 2, Value.int IntKind.i64 2, Value.int IntKind.i64 2, Value.int IntKind.i64 2, Value.int IntKind.i64 1, Value.int IntKind.i64 20, Value.int IntKind.i64 0, Value.int IntKind.i64 2, Value.int IntKind.i64 0, Value.int IntKind.i64 0, Value.int IntKind.i64 1, Value.int IntKind.i64 7, Value.int IntKind.i64 0, Value.int IntKind.i64 15, Value.int IntKind.i64 0] 37))).heap.size = w7.heap.size + 10 := by simp
    generalize hWk : ((((((((((w7.alloc (Obj.cells #[Value.int IntKind.i64 16, Value.int IntKind.i64 1] 37)).alloc (Obj.cells #[Value.int IntKind.i64 3, Value.int IntKind.i64 2] 37)).alloc (Obj.cells #[Value.int IntKind.i64 2, Value.int IntKind.i64 2] 37)).alloc (Obj.cells #[Value.int IntKind.i64 2, Value.int IntKind.i64 1] 37)).alloc (Obj.cells #[Value.int IntKind.i64 20, Value.int IntKind.i64 0] 37)).alloc (Obj.cells #[Value.int IntKind.i64 2, Value.int IntKind.i64 0] 37)).alloc (Obj.cells #[Value.int IntKind.i64 0, Value.int IntKind.i64 1] 37)).alloc (Obj.cells #[Value.int IntKind.i64 7, Value.int IntKind.i64 0] 37)).alloc (Obj.cells #[Value.int IntKind.i64 15, Value.int IntKind.i64 0] 37)).alloc (Obj.cells #[Value.int IntKind.i64 16, Value.int IntKind.i64 1, Value.int IntKind.i64 3, Value.int IntKind.i64 2, Value.int IntKind.i64 2, Value.int IntKind.i64 2, Value.int IntKind.i64 2, Value.int IntKind.i64 1, Value.int IntKind.i64 20, Value.int IntKind.i64 0, Value.int IntKind.i64 2, Value.int IntKind.i64 0, Value.int IntKind.i64 0, Value.int IntKind.i64 1, Value.int IntKind.i64 7, Value.int IntKind.i64 0, Value.int IntKind.i64 15, Value.int IntKind.i64 0] 37)) = Wk at *
    obtain ⟨sb, hsbq⟩ : ∃ sb, sb = w7.heap.size + 1 + 1 + 1 + 1 + 1 + 1 + 1 + 1 + 1 := ⟨_, rfl⟩
    rw [← hsbq] at hsb
    rw [← hsbq]
    have hsb1 : w7.heap.size ≤ sb := by omega
    have hsb2 : sb < Wk.heap.size := by omega
    clear hsbq hWk hsz
    have hszk := hBk.size
    have k1 : Wk.cell? ⟨mb1, 0, none⟩ = some (.slice (some ⟨g1, 0, none⟩) L1.length cap1) := by rw [hBk.cell (p := ⟨mb1, 0, none⟩) h1b]; exact h1a
    have k2 : Wk.cell? ⟨mb2, 0, none⟩ = some (.slice (some ⟨g2, 0, none⟩) L2.length cap2) := by rw [hBk.cell (p := ⟨mb2, 0, none⟩) h2b]; exact h2a
    have k3 : Wk.cell? ⟨w.heap.size, 0, none⟩ = some (.slice none 0 0) := by rw [hBk.cell (p := ⟨w.heap.size, 0, none⟩) hw7]; exact hrs7
    have k4 : Wk.frozen? ⟨w.heap.size, 0, none⟩ = false := by rw [hBk.frozen (p := ⟨w.heap.size, 0, none⟩) hw7]; exact hrf7
    have j1 : mb1 < Wk.heap.size := by omega
    have j2 : mb2 < Wk.heap.size := by omega
    have j3 : w.heap.size < Wk.heap.size := by omega
    have HC1 := (show Hid _ from hc1); clear hc1
    have HC7 := (show Hid _ from hcv7); clear hcv7
    clear hcv4 h1a h2a hrs7 hrf7
    go_region
  all_goals
    have p0 : (((Wk.setCell ⟨w.heap.size, 0, none⟩ (.slice (some ⟨Wk.heap.size, 0, none⟩) 3 3)).alloc (Obj.cells #[.int .i64 0, .int .i64 3, .slice (some ⟨g1, 0, none⟩) L1.length cap1, .int .i64 2, .int .i64 3, .slice (some ⟨sb, 0, none⟩) 9 9, .int .i64 0, .int .i64 3, .slice (some ⟨g2, 0, none⟩) L2.length cap2] 35)).drew).cell? ⟨Wk.heap.size, 0, none⟩ = some (.int .i64 0) := by go_simp
    have p1 : (((Wk.setCell ⟨w.heap.size, 0, none⟩ (.slice (some ⟨Wk.heap.size, 0, none⟩) 3 3)).alloc (Obj.cells #[.int .i64 0, .int .i64 3, .slice (some ⟨g1, 0, none⟩) L1.length cap1, .int .i64 2, .int .i64 3, .slice (some ⟨sb, 0, none⟩) 9 9, .int .i64 0, .int .i64 3, .slice (some ⟨g2, 0, none⟩) L2.length cap2] 35)).drew).cell? ⟨Wk.heap.size, 1, none⟩ = some (.int .i64 3) := by go_simp
    have p2 : (((Wk.setCell ⟨w.heap.size, 0, none⟩ (.slice (some ⟨Wk.heap.size, 0, none⟩) 3 3)).alloc (Obj.cells #[.int .i64 0, .int .i64 3, .slice (some ⟨g1, 0, none⟩) L1.length cap1, .int .i64 2, .int .i64 3, .slice (some ⟨sb, 0, none⟩) 9 9, .int .i64 0, .int .i64 3, .slice (some ⟨g2, 0, none⟩) L2.length cap2] 35)).drew).cell? ⟨Wk.heap.size, 2, none⟩ = some (.slice (some ⟨g1, 0, none⟩) L1.length cap1) := by go_simp
    have p3 : (((Wk.setCell ⟨w.heap.size, 0, none⟩ (.slice (some ⟨Wk.heap.size, 0, none⟩) 3 3)).alloc (Obj.cells #[.int .i64 0, .int .i64 3, .slice (some ⟨g1, 0, none⟩) L1.length cap1, .int .i64 2, .int .i64 3, .slice (some ⟨sb, 0, none⟩) 9 9, .int .i64 0, .int .i64 3, .slice (some ⟨g2, 0, none⟩) L2.length cap2] 35)).drew).cell? ⟨Wk.heap.size, 3, none⟩ = some (.int .i64 2) := by go_simp
    have p4 : (((Wk.setCell ⟨w.heap.size, 0, none⟩ (.slice (some ⟨Wk.heap.size, 0, none⟩) 3 3)).alloc (Obj.cells #[.int .i64 0, .int .i64 3, .slice (some ⟨g1, 0, none⟩) L1.length cap1, .int .i64 2, .int .i64 3, .slice (some ⟨sb, 0, none⟩) 9 9, .int .i64 0, .int .i64 3, .slice (some ⟨g2, 0, none⟩) L2.length cap2] 35)).drew).cell? ⟨Wk.heap.size, 4, none⟩ = some (.int .i64 3) := by go_simp
    have p5 : (((Wk.setCell ⟨w.heap.size, 0, none⟩ (.slice (some ⟨Wk.heap.size, 0, none⟩) 3 3)).alloc (Obj.cells #[.int .i64 0, .int .i64 3, .slice (some ⟨g1, 0, none⟩) L1.length cap1, .int .i64 2, .int .i64 3, .slice (some ⟨sb, 0, none⟩) 9 9, .int .i64 0, .int .i64 3, .slice (some ⟨g2, 0, none⟩) L2.length cap2] 35)).drew).cell? ⟨Wk.heap.size, 5, none⟩ = some (.slice (some ⟨sb, 0, none⟩) 9 9) := by go_simp
    have p6 : (((Wk.setCell ⟨w.heap.size, 0, none⟩ (.slice (some ⟨Wk.heap.size, 0, none⟩) 3 3)).alloc (Obj.cells #[.int .i64 0, .int .i64 3, .slice (some ⟨g1, 0, none⟩) L1.length cap1, .int .i64 2, .int .i64 3, .slice (some ⟨sb, 0, none⟩) 9 9, .int .i64 0, .int .i64 3, .slice (some ⟨g2, 0, none⟩) L2.length cap2] 35)).drew).cell? ⟨Wk.heap.size, 6, none⟩ = some (.int .i64 0) := by go_simp
    have p7 : (((Wk.setCell ⟨w.heap.size, 0, none⟩ (.slice (some ⟨Wk.heap.size, 0, none⟩) 3 3)).alloc (Obj.cells #[.int .i64 0, .int .i64 3, .slice (some ⟨g1, 0, none⟩) L1.length cap1, .int .i64 2, .int .i64 3, .slice (some ⟨sb, 0, none⟩) 9 9, .int .i64 0, .int .i64 3, .slice (some ⟨g2, 0, none⟩) L2.length cap2] 35)).drew).cell? ⟨Wk.heap.size, 7, none⟩ = some (.int .i64 3) := by go_simp
    have p8 : (((Wk.setCell ⟨w.heap.size, 0, none⟩ (.slice (some ⟨Wk.heap.size, 0, none⟩) 3 3)).alloc (Obj.cells #[.int .i64 0, .int .i64 3, .slice (some ⟨g1, 0, none⟩) L1.length cap1, .int .i64 2, .int .i64 3, .slice (some ⟨sb, 0, none⟩) 9 9, .int .i64 0, .int .i64 3, .slice (some ⟨g2, 0, none⟩) L2.length cap2] 35)).drew).cell? ⟨Wk.heap.size, 8, none⟩ = some (.slice (some ⟨g2, 0, none⟩) L2.length cap2) := by go_simp
    have pr : (((Wk.setCell ⟨w.heap.size, 0, none⟩ (.slice (some ⟨Wk.heap.size, 0, none⟩) 3 3)).alloc (Obj.cells #[.int .i64 0, .int .i64 3, .slice (some ⟨g1, 0, none⟩) L1.length cap1, .int .i64 2, .int .i64 3, .slice (some ⟨sb, 0, none⟩) 9 9, .int .i64 0, .int .i64 3, .slice (some ⟨g2, 0, none⟩) L2.length cap2] 35)).drew).cell? ⟨w.heap.size, 0, none⟩ = some (.slice (some ⟨Wk.heap.size, 0, none⟩) 3 3) := by go_simp
    have hpz : (((Wk.setCell ⟨w.heap.size, 0, none⟩ (.slice (some ⟨Wk.heap.size, 0, none⟩) 3 3)).alloc (Obj.cells #[.int .i64 0, .int .i64 3, .slice (some ⟨g1, 0, none⟩) L1.length cap1, .int .i64 2, .int .i64 3, .slice (some ⟨sb, 0, none⟩) 9 9, .int .i64 0, .int .i64 3, .slice (some ⟨g2, 0, none⟩) L2.length cap2] 35)).drew).heap.size = Wk.heap.size + 1 := by simp
    have hBut : But (fun k => k = w.heap.size) Wk (((Wk.setCell ⟨w.heap.size, 0, none⟩ (.slice (some ⟨Wk.heap.size, 0, none⟩) 3 3)).alloc (Obj.cells #[.int .i64 0, .int .i64 3, .slice (some ⟨g1, 0, none⟩) L1.length cap1, .int .i64 2, .int .i64 3, .slice (some ⟨sb, 0, none⟩) 9 9, .int .i64 0, .int .i64 3, .slice (some ⟨g2, 0, none⟩) L2.length cap2] 35)).drew) := But.drew (But.alloc (But.setCell (S := fun k => k = w.heap.size) (p := ⟨w.heap.size, 0, none⟩) (But.refl _ _) (Or.inl rfl) _) _)
    have hBF : Below w.heap.size w (((Wk.setCell ⟨w.heap.size, 0, none⟩ (.slice (some ⟨Wk.heap.size, 0, none⟩) 3 3)).alloc (Obj.cells #[.int .i64 0, .int .i64 3, .slice (some ⟨g1, 0, none⟩) L1.length cap1, .int .i64 2, .int .i64 3, .slice (some ⟨sb, 0, none⟩) 9 9, .int .i64 0, .int .i64 3, .slice (some ⟨g2, 0, none⟩) L2.length cap2] 35)).drew) := (Below.alloc (Below.setCell (p := ⟨w.heap.size, 0, none⟩) (hbel7.trans (Below.mono hBk (by omega))) (Nat.le_refl _) _) (by simp; omega) _).drew
    generalize (((Wk.setCell ⟨w.heap.size, 0, none⟩ (.slice (some ⟨Wk.heap.size, 0, none⟩) 3 3)).alloc (Obj.cells #[.int .i64 0, .int .i64 3, .slice (some ⟨g1, 0, none⟩) L1.length cap1, .int .i64 2, .int .i64 3, .slice (some ⟨sb, 0, none⟩) 9 9, .int .i64 0, .int .i64 3, .slice (some ⟨g2, 0, none⟩) L2.length cap2] 35)).drew) = WF at *
    obtain ⟨pb, hpb⟩ : ∃ pb, pb = Wk.heap.size := ⟨_, rfl⟩
    rw [← hpb] at p0 p1 p2 p3 p4 p5 p6 p7 p8 pr
    have hpb1 : pb < WF.heap.size := by omega
    have q1 : CodeIn WF.heap.size WF (fnOf 0 3 g1 cap1 L1) := code_of_cells (by omega) (by omega) (fun j u hu => by
      have := HC1.out.2.2.1.cells (g := g1) rfl j u hu
      rw [Go.WideShapes.add_plain] at this ⊢
      rw [hBut.cell (p := ⟨g1, 0 + j, none⟩) (by show g1 < _; omega) (by show ¬ g1 = _; omega), hBk.cell (p := ⟨g1, 0 + j, none⟩) (by show g1 < _; omega)]
      exact this)
    have q3 : CodeIn WF.heap.size WF (fnOf 0 3 g2 cap2 L2) := code_of_cells (by omega) (by omega) (fun j u hu => by
      have := HC7.out.2.2.1.cells (g := g2) rfl j u hu
      rw [Go.WideShapes.add_plain] at this ⊢
      rw [hBut.cell (p := ⟨g2, 0 + j, none⟩) (by show g2 < _; omega) (by show ¬ g2 = _; omega), hBk.cell (p := ⟨g2, 0 + j, none⟩) (by show g2 < _; omega)]
      exact this)
    have q2 : CodeIn WF.heap.size WF (fnOf 2 3 sb 9 stepL) := code_of_cells (by decide) (by omega) (fun j u hu => by
      have := World.news_of_block hsb j u hu
      rw [Go.WideShapes.add_plain] at this ⊢
      rw [hBut.cell (p := ⟨sb, 0 + j, none⟩) (by show sb < _; omega) (by show ¬ sb = _; omega)]
      exact this)
    have qf : ∀ j, WF.frozen? ⟨g1, j, none⟩ = false := fun j => by
      have := owns_frozen HC1.out.2.2.1 j
      rw [hBut.frozen (p := ⟨g1, j, none⟩) (by show g1 < _; omega) (by show ¬ g1 = _; omega), hBk.frozen (p := ⟨g1, j, none⟩) (by show g1 < _; omega)]
      exact this
    have hpost : ProgPost R n false w (.returned (.agg #[.slice (some ⟨pb, 0, none⟩) 3 3])) WF := by
      refine ⟨pb, g1, cap1, sb, g2, cap2, rfl, ?_, by omega, by omega, by omega, by omega, by omega, by rw [← HL1.out]; exact hn1.2, by rw [← HL1.out]; exact hn1.1, qf, hBF⟩
      · rw [← HL1.out, ← HL2.out]; exact made_in hpb1 p0 p1 p2 p3 p4 p5 p6 p7 p8 q1 q2 q3
    have HP := (show Hid _ from hpost); clear hpost
    clear p0 p1 p2 p3 p4 p5 p6 p7 p8 q1 q2 q3 qf hBut hBF hBk k1 k2 k3 k4
    go_wp2_with fail
    exact bodyPost_ret (v := .agg #[.slice (some ⟨pb, 0, none⟩) 3 3]) (by simp [results, Tryd.results14, go_sem, pr]) rfl HP.out

set_option maxRecDepth 100000 in
set_option maxHeartbeats 8000000 in
theorem program_true (a : Option Addr) (n c b o : Nat) (R : Nat → Int) (w : World) (hr : RawIn w.heap.size w a n b o R) (hc : n ≤ c) :
    Calls Tryd.prog 14 #[.slice a n c, .bool true] w fun e w' => ProgPost R n true w e w' := by
  have HR := (show Hid (RawIn w.heap.size w a n b o R) from hr); clear hr
  have hn := HR.out.1
  have hq : IntKind.i64.wrap ((n : Int).tdiv 2) = ((n / 2 : Nat) : Int) := by rw [Go.IntWalk.i64_quo _ _ (by omega)]; omega
  go_enter Tryd.func14, Tryd.ntmps14
  go_wp2_with fail
  have hl1 := bodyTo_len R (min (n / 2) 6)
  have hr0 : RawIn (w.alloc (Obj.cells #[Value.slice none 0 0] 24)).heap.size (w.alloc (Obj.cells #[Value.slice none 0 0] 24)) a (n / 2) b o R := by
    refine RawIn.mono (RawIn.below (w := w) (B := w.heap.size) ?_ (Below.alloc (Below.refl _ _) (Nat.le_refl _) _)) (by simp)
    exact ⟨by omega, fun h => by obtain ⟨h1, h2, h3⟩ := HR.out.2.1 (by omega); exact ⟨h1, h2, fun i hi => h3 i (by omega)⟩, HR.out.2.2⟩
  refine (body_any a (n / 2) c b o R _ hr0).mono ?_
  clear hr0
  rintro e w1 ⟨mb1, rfl, hmb1, hM1, hB1⟩
  have hbel1 : Below w.heap.size w w1 := (Below.alloc (Below.refl _ _) (Nat.le_refl _) _).trans (Below.mono hB1 (by simp))
  have hmb1' : w.heap.size < mb1 := Nat.lt_of_succ_le (by simpa using hmb1)
  have hrs1 : w1.cell? ⟨w.heap.size, 0, none⟩ = some (.slice none 0 0) := by rw [hB1.cell (p := ⟨w.heap.size, 0, none⟩) (by simp)]; go_simp
  have hrf1 : w1.frozen? ⟨w.heap.size, 0, none⟩ = false := by rw [hB1.frozen (p := ⟨w.heap.size, 0, none⟩) (by simp)]; go_simp
  clear hB1 hmb1
  go_wp2_with fail
  refine (op_any mb1 _ 14 2 w1 hM1 (by omega)).mono ?_
  rintro e w2 ⟨rfl, hM2, hB2⟩
  go_wp2_with fail
  refine (op_any mb1 _ 5 0 w2 hM2 (by simp; omega)).mono ?_
  rintro e w3 ⟨rfl, hM3, hB3⟩
  have hB13 := hB2.trans hB3
  clear hM1 hM2 hB2 hB3
  all_goals
    go_wp2_with fail
    refine (op_any mb1 _ _ _ w3 hM3 (by simp; omega)).mono ?_
    rintro e w4 ⟨rfl, hM4, hB4⟩
    have hB14 := hB13.trans hB4
    clear hM3 hB13 hB4
    have hsz4 := hB14.size
    have hbel4 : Below w.heap.size w w4 := hbel1.trans (Below.mono hB14 (by omega))
    have hrs4 : w4.cell? ⟨w.heap.size, 0, none⟩ = some (.slice none 0 0) := by rw [hB14.cell (p := ⟨w.heap.size, 0, none⟩) hmb1']; exact hrs1
    have hrf4 : w4.frozen? ⟨w.heap.size, 0, none⟩ = false := by rw [hB14.frozen (p := ⟨w.heap.size, 0, none⟩) hmb1']; exact hrf1
    have hl2 := bodyTo_len (fun i => R (n / 2 + i)) (min (n - n / 2) 6)
    obtain ⟨cv4, hcv4⟩ := hM4
    have hmb14 : mb1 < w4.heap.size := hcv4.2.2.2
    clear hrs1 hrf1 hB14 hbel1
    go_wp2_with fail
  all_goals
    refine (body_any _ (n - n / 2) _ b (o + n / 2) (fun i => R (n / 2 + i)) w4 ?_).mono ?_
    · refine ⟨by omega, fun h => ?_, fun i => HR.out.2.2 _⟩
      obtain ⟨h1, h2, h3⟩ := HR.out.2.1 (by omega)
      have hs := hbel4.size
      first
        | (exfalso; omega)
        | (refine ⟨by rw [h1]; simp [Go.WideShapes.add_plain], by omega, fun i hi => ?_⟩
           rw [hbel4.cell (p := ⟨b, o + n / 2 + i, none⟩) h2, Nat.add_assoc]
           exact h3 _ (by omega))
    rintro e w5 ⟨mb2, rfl, hmb2, hM5, hB5⟩
    go_wp2_with fail
    refine (op_any mb2 _ 2 1 w5 hM5 (by omega)).mono ?_
    rintro e w6 ⟨rfl, hM6, hB6⟩
    go_wp2_with fail
    refine (op_any mb2 _ 15 0 w6 hM6 (by simp; omega)).mono ?_
    rintro e w7 ⟨rfl, ⟨cv7, hcv7⟩, hB7⟩
    have hB47 : Below w4.heap.size w4 w7 := hB5.trans (Below.mono (hB6.trans hB7) hmb2)
    have hc1 := hcv4.below hB47
    have hrs7 : w7.cell? ⟨w.heap.size, 0, none⟩ = some (.slice none 0 0) := by rw [hB47.cell (p := ⟨w.heap.size, 0, none⟩) (by show w.heap.size < _; omega)]; exact hrs4
    have hrf7 : w7.frozen? ⟨w.heap.size, 0, none⟩ = false := by rw [hB47.frozen (p := ⟨w.heap.size, 0, none⟩) (by show w.heap.size < _; omega)]; exact hrf4
    have hbel7 : Below w.heap.size w w7 := hbel4.trans (Below.mono hB47 hbel4.size)
    have hln1 : ∀ x : Int × Int, 0 < (bodyTo R (min (n / 2) 6) ++ [(14, 2)] ++ [(5, 0)] ++ [x]).length ∧ (bodyTo R (min (n / 2) 6) ++ [(14, 2)] ++ [(5, 0)] ++ [x]).length ≤ 47 := fun x => by simp; omega
    have hln2 : 0 < (bodyTo (fun i => R (n / 2 + i)) (min (n - n / 2) 6) ++ [(2, 1)] ++ [(15, 0)]).length ∧ (bodyTo (fun i => R (n / 2 + i)) (min (n - n / 2) 6) ++ [(2, 1)] ++ [(15, 0)]).length ≤ 46 := by simp; omega
    obtain ⟨L1, hL1⟩ : ∃ L1, L1 = mainL R n true := ⟨_, rfl⟩
    obtain ⟨L2, hL2⟩ : ∃ L2, L2 = otherL R n := ⟨_, rfl⟩
    have hn1 : 0 < L1.length ∧ L1.length ≤ 47 := by rw [hL1]; exact hln1 _
    have hn2 : 0 < L2.length ∧ L2.length ≤ 46 := by rw [hL2]; exact hln2
    have hc1 : MakerCv w7 mb1 L1 cv4 := by rw [hL1]; exact hc1
    have hcv7 : MakerCv w7 mb2 L2 cv7 := by rw [hL2]; exact hcv7
    have HL1 := (show Hid _ from hL1); clear hL1
    have HL2 := (show Hid _ from hL2); clear hL2 hln1 hln2
    obtain ⟨g1, cap1, rfl, hg1, hg1'⟩ := hc1.2.2.1.form hn1.1
    obtain ⟨g2, cap2, rfl, hg2, hg2'⟩ := hcv7.2.2.1.form hn2.1
    have hg14 : g1 < w4.heap.size := (hcv4.2.2.1.lt g1 rfl).2
    have h1a := hc1.1
    have h1b := hc1.2.2.2
    have h2a := hcv7.1
    have h2b := hcv7.2.2.2
    have hw7 : w.heap.size < w7.heap.size := by omega
    clear hM5 hM6 hB5 hB6 hB7 hrs4 hrf4 hbel4
    go_wp2_with (go_at_call 39; refine (at_any _ _ _).mono ?_; rintro e w' ⟨rfl, rfl⟩)
    have hBk : Below w7.heap.size w7 ((((((((((w7.alloc (Obj.cells #[Value.int IntKind.i64 16, Value.int IntKind.i64 1] 37)).alloc (Obj.cells #[Value.int IntKind.i64 3, Value.int IntKind.i64 2] 37)).alloc (Obj.cells #[Value.int IntKind.i64 2, Value.int IntKind.i64 2] 37)).alloc (Obj.cells #[Value.int IntKind.i64 2, Value.int IntKind.i64 1] 37)).alloc (Obj.cells #[Value.int IntKind.i64 20, Value.int IntKind.i64 0] 37)).alloc (Obj.cells #[Value.int IntKind.i64 2, Value.int IntKind.i64 0] 37)).alloc (Obj.cells #[Value.int IntKind.i64 0, Value.int IntKind.i64 1] 37)).alloc (Obj.cells #[Value.int IntKind.i64 7, Value.int IntKind.i64 0] 37)).alloc (Obj.cells #[Value.int IntKind.i64 15, Value.int IntKind.i64 0] 37)).alloc (Obj.cells #[Value.int IntKind.i64 16, Value.int IntKind.i64 1, Value.int IntKind.i64 3, Value.int IntKind.i64 2, Value.int IntKind.i64 2, Value.int IntKind.i64 2, Value.int IntKind.i64 2, Value.int IntKind.i64 1, Value.int IntKind.i64 20, Value.int IntKind.i64 0, Value.int IntKind.i64 2, Value.int IntKind.i64 0, Value.int IntKind.i64 0, Value.int IntKind.i64 1, Value.int IntKind.i64 7, Value.int IntKind.i64 0, Value.int IntKind.i64 15, Value.int IntKind.i64 0] 37)) := by
      repeat (first | exact Below.refl _ _ | refine Below.drew ?_ | refine Below.alloc ?_ (by first | omega | (simp; done) | (simp; omega)) _)
    have hsb : (((((((((((w7.alloc (Obj.cells #[Value.int IntKind.i64 16, Value.int IntKind.i64 1] 37)).alloc (Obj.cells #[Value.int IntKind.i64 3, Value.int IntKind.i64 2] 37)).alloc (Obj.cells #[Value.int IntKind.i64 2, Value.int IntKind.i64 2] 37)).alloc (Obj.cells #[Value.int IntKind.i64 2, Value.int IntKind.i64 1] 37)).alloc (Obj.cells #[Value.int IntKind.i64 20, Value.int IntKind.i64 0] 37)).alloc (Obj.cells #[Value.int IntKind.i64 2, Value.int IntKind.i64 0] 37)).alloc (Obj.cells #[Value.int IntKind.i64 0, Value.int IntKind.i64 1] 37)).alloc (Obj.cells #[Value.int IntKind.i64 7, Value.int IntKind.i64 0] 37)).alloc (Obj.cells #[Value.int IntKind.i64 15, Value.int IntKind.i64 0] 37)).alloc (Obj.cells #[Value.int IntKind.i64 16, Value.int IntKind.i64 1, Value.int IntKind.i64 3, Value.int IntKind.i64 2, Value.int IntKind.i64 2, Value.int IntKind.i64 2, Value.int IntKind.i64 2, Value.int IntKind.i64 1, Value.int IntKind.i64 20, Value.int IntKind.i64 0, Value.int IntKind.i64 2, Value.int IntKind.i64 0, Value.int IntKind.i64 0, Value.int IntKind.i64 1, Value.int IntKind.i64 7, Value.int IntKind.i64 0, Value.int IntKind.i64 15, Value.int IntKind.i64 0] 37))).heap[w7.heap.size + 1 + 1 + 1 + 1 + 1 + 1 + 1 + 1 + 1]? = some (Obj.cells #[Value.int IntKind.i64 16, Value.int IntKind.i64 1, Value.int IntKind.i64 3, Value.int IntKind.i64 2, Value.int IntKind.i64 2, Value.int IntKind.i64 2, Value.int IntKind.i64 2, Value.int IntKind.i64 1, Value.int IntKind.i64 20, Value.int IntKind.i64 0, Value.int IntKind.i64 2, Value.int IntKind.i64 0, Value.int IntKind.i64 0, Value.int IntKind.i64 1, Value.int IntKind.i64 7, Value.int IntKind.i64 0, Value.int IntKind.i64 15, Value.int IntKind.i64 0] 37) := blk_at (by simp)
    have hsz : (((((((((((w7.alloc (Obj.cells #[Value.int IntKind.i64 16, Value.int IntKind.i64 1] 37)).alloc (Obj.cells #[Value.int IntKind.i64 3, Value.int IntKind.i64 2] 37)).alloc (Obj.cells #[Value.int IntKind.i64 2, Value.int IntKind.i64 2] 37)).alloc (Obj.cells #[Value.int IntKind.i64 2, Value.int IntKind.i64 1] 37)).alloc (Obj.cells #[Value.int IntKind.i64 20, Value.int IntKind.i64 0] 37)).alloc (Obj.cells #[Value.int IntKind.i64 2, Value.int IntKind.i64 0] 37)).alloc (Obj.cells #[Value.int IntKind.i64 0, Value.int IntKind.i64 1] 37)).alloc (Obj.cells #[Value.int IntKind.i64 7, Value.int IntKind.i64 0] 37)).alloc (Obj.cells #[Value.int IntKind.i64 15, Value.int IntKind.i64 0] 37)).alloc (Obj.cells #[Value.int IntKind.i64 16, Value.int IntKind.i64 1, Value.int IntKind.i64 3, Value.int IntKind.i64 2, Value.int IntKind.i64 2, Value.int IntKind.i64 2, Value.int IntKind.i64 2, Value.int IntKind.i64 1, Value.int IntKind.i64 20, Value.int IntKind.i64 0, Value.int IntKind.i64 2, Value.int IntKind.i64 0, Value.int IntKind.i64 0, Value.int IntKind.i64 1, Value.int IntKind.i64 7, Value.int IntKind.i64 0, Value.int IntKind.i64 15, Value.int IntKind.i64 0] 37))).heap.size = w7.heap.size + 10 := by simp
    generalize hWk : ((((((((((w7.alloc (Obj.cells #[Value.int IntKind.i64 16, Value.int IntKind.i64 1] 37)).alloc (Obj.cells #[Value.int IntKind.i64 3, Value.int IntKind.i64 2] 37)).alloc (Obj.cells #[Value.int IntKind.i64 2, Value.int IntKind.i64 2] 37)).alloc (Obj.cells #[Value.int IntKind.i64 2, Value.int IntKind.i64 1] 37)).alloc (Obj.cells #[Value.int IntKind.i64 20, Value.int IntKind.i64 0] 37)).alloc (Obj.cells #[Value.int IntKind.i64 2, Value.int IntKind.i64 0] 37)).alloc (Obj.cells #[Value.int IntKind.i64 0, Value.int IntKind.i64 1] 37)).alloc (Obj.cells #[Value.int IntKind.i64 7, Value.int IntKind.i64 0] 37)).alloc (Obj.cells #[Value.int IntKind.i64 15, Value.int IntKind.i64 0] 37)).alloc (Obj.cells #[Value.int IntKind.i64 16, Value.int IntKind.i64 1, Value.int IntKind.i64 3, Value.int IntKind.i64 2, Value.int IntKind.i64 2, Value.int IntKind.i64 2, Value.int IntKind.i64 2, Value.int IntKind.i64 1, Value.int IntKind.i64 20, Value.int IntKind.i64 0, Value.int IntKind.i64 2, Value.int IntKind.i64 0, Value.int IntKind.i64 0, Value.int IntKind.i64 1, Value.int IntKind.i64 7, Value.int IntKind.i64 0, Value.int IntKind.i64 15, Value.int IntKind.i64 0] 37)) = Wk at *
    obtain ⟨sb, hsbq⟩ : ∃ sb, sb = w7.heap.size + 1 + 1 + 1 + 1 + 1 + 1 + 1 + 1 + 1 := ⟨_, rfl⟩
    rw [← hsbq] at hsb
    rw [← hsbq]
    have hsb1 : w7.heap.size ≤ sb := by omega
    have hsb2 : sb < Wk.heap.size := by omega
    clear hsbq hWk hsz
    have hszk := hBk.size
    have k1 : Wk.cell? ⟨mb1, 0, none⟩ = some (.slice (some ⟨g1, 0, none⟩) L1.length cap1) := by rw [hBk.cell (p := ⟨mb1, 0, none⟩) h1b]; exact h1a
    have k2 : Wk.cell? ⟨mb2, 0, none⟩ = some (.slice (some ⟨g2, 0, none⟩) L2.length cap2) := by rw [hBk.cell (p := ⟨mb2, 0, none⟩) h2b]; exact h2a
    have k3 : Wk.cell? ⟨w.heap.size, 0, none⟩ = some (.slice none 0 0) := by rw [hBk.cell (p := ⟨w.heap.size, 0, none⟩) hw7]; exact hrs7
    have k4 : Wk.frozen? ⟨w.heap.size, 0, none⟩ = false := by rw [hBk.frozen (p := ⟨w.heap.size, 0, none⟩) hw7]; exact hrf7
    have j1 : mb1 < Wk.heap.size := by omega
    have j2 : mb2 < Wk.heap.size := by omega
    have j3 : w.heap.size < Wk.heap.size := by omega
    have HC1 := (show Hid _ from hc1); clear hc1
    have HC7 := (show Hid _ from hcv7); clear hcv7
    clear hcv4 h1a h2a hrs7 hrf7
    go_region
  all_goals
    have p0 : (((Wk.setCell ⟨w.heap.size, 0, none⟩ (.slice (some ⟨Wk.heap.size, 0, none⟩) 3 3)).alloc (Obj.cells #[.int .i64 0, .int .i64 3, .slice (some ⟨g1, 0, none⟩) L1.length cap1, .int .i64 2, .int .i64 3, .slice (some ⟨sb, 0, none⟩) 9 9, .int .i64 0, .int .i64 3, .slice (some ⟨g2, 0, none⟩) L2.length cap2] 35)).drew).cell? ⟨Wk.heap.size, 0, none⟩ = some (.int .i64 0) := by go_simp
    have p1 : (((Wk.setCell ⟨w.heap.size, 0, none⟩ (.slice (some ⟨Wk.heap.size, 0, none⟩) 3 3)).alloc (Obj.cells #[.int .i64 0, .int .i64 3, .slice (some ⟨g1, 0, none⟩) L1.length cap1, .int .i64 2, .int .i64 3, .slice (some ⟨sb, 0, none⟩) 9 9, .int .i64 0, .int .i64 3, .slice (some ⟨g2, 0, none⟩) L2.length cap2] 35)).drew).cell? ⟨Wk.heap.size, 1, none⟩ = some (.int .i64 3) := by go_simp
    have p2 : (((Wk.setCell ⟨w.heap.size, 0, none⟩ (.slice (some ⟨Wk.heap.size, 0, none⟩) 3 3)).alloc (Obj.cells #[.int .i64 0, .int .i64 3, .slice (some ⟨g1, 0, none⟩) L1.length cap1, .int .i64 2, .int .i64 3, .slice (some ⟨sb, 0, none⟩) 9 9, .int .i64 0, .int .i64 3, .slice (some ⟨g2, 0, none⟩) L2.length cap2] 35)).drew).cell? ⟨Wk.heap.size, 2, none⟩ = some (.slice (some ⟨g1, 0, none⟩) L1.length cap1) := by go_simp
    have p3 : (((Wk.setCell ⟨w.heap.size, 0, none⟩ (.slice (some ⟨Wk.heap.size, 0, none⟩) 3 3)).alloc (Obj.cells #[.int .i64 0, .int .i64 3, .slice (some ⟨g1, 0, none⟩) L1.length cap1, .int .i64 2, .int .i64 3, .slice (some ⟨sb, 0, none⟩) 9 9, .int .i64 0, .int .i64 3, .slice (some ⟨g2, 0, none⟩) L2.length cap2] 35)).drew).cell? ⟨Wk.heap.size, 3, none⟩ = some (.int .i64 2) := by go_simp
    have p4 : (((Wk.setCell ⟨w.heap.size, 0, none⟩ (.slice (some ⟨Wk.heap.size, 0, none⟩) 3 3)).alloc (Obj.cells #[.int .i64 0, .int .i64 3, .slice (some ⟨g1, 0, none⟩) L1.length cap1, .int .i64 2, .int .i64 3, .slice (some ⟨sb, 0, none⟩) 9 9, .int .i64 0, .int .i64 3, .slice (some ⟨g2, 0, none⟩) L2.length cap2] 35)).drew).cell? ⟨Wk.heap.size, 4, none⟩ = some (.int .i64 3) := by go_simp
    have p5 : (((Wk.setCell ⟨w.heap.size, 0, none⟩ (.slice (some ⟨Wk.heap.size, 0, none⟩) 3 3)).alloc (Obj.cells #[.int .i64 0, .int .i64 3, .slice (some ⟨g1, 0, none⟩) L1.length cap1, .int .i64 2, .int .i64 3, .slice (some ⟨sb, 0, none⟩) 9 9, .int .i64 0, .int .i64 3, .slice (some ⟨g2, 0, none⟩) L2.length cap2] 35)).drew).cell? ⟨Wk.heap.size, 5, none⟩ = some (.slice (some ⟨sb, 0, none⟩) 9 9) := by go_simp
    have p6 : (((Wk.setCell ⟨w.heap.size, 0, none⟩ (.slice (some ⟨Wk.heap.size, 0, none⟩) 3 3)).alloc (Obj.cells #[.int .i64 0, .int .i64 3, .slice (some ⟨g1, 0, none⟩) L1.length cap1, .int .i64 2, .int .i64 3, .slice (some ⟨sb, 0, none⟩) 9 9, .int .i64 0, .int .i64 3, .slice (some ⟨g2, 0, none⟩) L2.length cap2] 35)).drew).cell? ⟨Wk.heap.size, 6, none⟩ = some (.int .i64 0) := by go_simp
    have p7 : (((Wk.setCell ⟨w.heap.size, 0, none⟩ (.slice (some ⟨Wk.heap.size, 0, none⟩) 3 3)).alloc (Obj.cells #[.int .i64 0, .int .i64 3, .slice (some ⟨g1, 0, none⟩) L1.length cap1, .int .i64 2, .int .i64 3, .slice (some ⟨sb, 0, none⟩) 9 9, .int .i64 0, .int .i64 3, .slice (some ⟨g2, 0, none⟩) L2.length cap2] 35)).drew).cell? ⟨Wk.heap.size, 7, none⟩ = some (.int .i64 3) := by go_simp
    have p8 : (((Wk.setCell ⟨w.heap.size, 0, none⟩ (.slice (some ⟨Wk.heap.size, 0, none⟩) 3 3)).alloc (Obj.cells #[.int .i64 0, .int .i64 3, .slice (some ⟨g1, 0, none⟩) L1.length cap1, .int .i64 2, .int .i64 3, .slice (some ⟨sb, 0, none⟩) 9 9, .int .i64 0, .int .i64 3, .slice (some ⟨g2, 0, none⟩) L2.length cap2] 35)).drew).cell? ⟨Wk.heap.size, 8, none⟩ = some (.slice (some ⟨g2, 0, none⟩) L2.length cap2) := by go_simp
    have pr : (((Wk.setCell ⟨w.heap.size, 0, none⟩ (.slice (some ⟨Wk.heap.size, 0, none⟩) 3 3)).alloc (Obj.cells #[.int .i64 0, .int .i64 3, .slice (some ⟨g1, 0, none⟩) L1.length cap1, .int .i64 2, .int .i64 3, .slice (some ⟨sb, 0, none⟩) 9 9, .int .i64 0, .int .i64 3, .slice (some ⟨g2, 0, none⟩) L2.length cap2] 35)).drew).cell? ⟨w.heap.size, 0, none⟩ = some (.slice (some ⟨Wk.heap.size, 0, none⟩) 3 3) := by go_simp
    have hpz : (((Wk.setCell ⟨w.heap.size, 0, none⟩ (.slice (some ⟨Wk.heap.size, 0, none⟩) 3 3)).alloc (Obj.cells #[.int .i64 0, .int .i64 3, .slice (some ⟨g1, 0, none⟩) L1.length cap1, .int .i64 2, .int .i64 3, .slice (some ⟨sb, 0, none⟩) 9 9, .int .i64 0, .int .i64 3, .slice (some ⟨g2, 0, none⟩) L2.length cap2] 35)).drew).heap.size = Wk.heap.size + 1 := by simp
    have hBut : But (fun k => k = w.heap.size) Wk (((Wk.setCell ⟨w.heap.size, 0, none⟩ (.slice (some ⟨Wk.heap.size, 0, none⟩) 3 3)).alloc (Obj.cells #[.int .i64 0, .int .i64 3, .slice (some ⟨g1, 0, none⟩) L1.length cap1, .int .i64 2, .int .i64 3, .slice (some ⟨sb, 0, none⟩) 9 9, .int .i64 0, .int .i64 3, .slice (some ⟨g2, 0, none⟩) L2.length cap2] 35)).drew) := But.drew (But.alloc (But.setCell (S := fun k => k = w.heap.size) (p := ⟨w.heap.size, 0, none⟩) (But.refl _ _) (Or.inl rfl) _) _)
    have hBF : Below w.heap.size w (((Wk.setCell ⟨w.heap.size, 0, none⟩ (.slice (some ⟨Wk.heap.size, 0, none⟩) 3 3)).alloc (Obj.cells #[.int .i64 0, .int .i64 3, .slice (some ⟨g1, 0, none⟩) L1.length cap1, .int .i64 2, .int .i64 3, .slice (some ⟨sb, 0, none⟩) 9 9, .int .i64 0, .int .i64 3, .slice (some ⟨g2, 0, none⟩) L2.length cap2] 35)).drew) := (Below.alloc (Below.setCell (p := ⟨w.heap.size, 0, none⟩) (hbel7.trans (Below.mono hBk (by omega))) (Nat.le_refl _) _) (by simp; omega) _).drew
    generalize (((Wk.setCell ⟨w.heap.size, 0, none⟩ (.slice (some ⟨Wk.heap.size, 0, none⟩) 3 3)).alloc (Obj.cells #[.int .i64 0, .int .i64 3, .slice (some ⟨g1, 0, none⟩) L1.length cap1, .int .i64 2, .int .i64 3, .slice (some ⟨sb, 0, none⟩) 9 9, .int .i64 0, .int .i64 3, .slice (some ⟨g2, 0, none⟩) L2.length cap2] 35)).drew) = WF at *
    obtain ⟨pb, hpb⟩ : ∃ pb, pb = Wk.heap.size := ⟨_, rfl⟩
    rw [← hpb] at p0 p1 p2 p3 p4 p5 p6 p7 p8 pr
    have hpb1 : pb < WF.heap.size := by omega
    have q1 : CodeIn WF.heap.size WF (fnOf 0 3 g1 cap1 L1) := code_of_cells (by omega) (by omega) (fun j u hu => by
      have := HC1.out.2.2.1.cells (g := g1) rfl j u hu
      rw [Go.WideShapes.add_plain] at this ⊢
      rw [hBut.cell (p := ⟨g1, 0 + j, none⟩) (by show g1 < _; omega) (by show ¬ g1 = _; omega), hBk.cell (p := ⟨g1, 0 + j, none⟩) (by show g1 < _; omega)]
      exact this)
    have q3 : CodeIn WF.heap.size WF (fnOf 0 3 g2 cap2 L2) := code_of_cells (by omega) (by omega) (fun j u hu => by
      have := HC7.out.2.2.1.cells (g := g2) rfl j u hu
      rw [Go.WideShapes.add_plain] at this ⊢
      rw [hBut.cell (p := ⟨g2, 0 + j, none⟩) (by show g2 < _; omega) (by show ¬ g2 = _; omega), hBk.cell (p := ⟨g2, 0 + j, none⟩) (by show g2 < _; omega)]
      exact this)
    have q2 : CodeIn WF.heap.size WF (fnOf 2 3 sb 9 stepL) := code_of_cells (by decide) (by omega) (fun j u hu => by
      have := World.news_of_block hsb j u hu
      rw [Go.WideShapes.add_plain] at this ⊢
      rw [hBut.cell (p := ⟨sb, 0 + j, none⟩) (by show sb < _; omega) (by show ¬ sb = _; omega)]
      exact this)
    have qf : ∀ j, WF.frozen? ⟨g1, j, none⟩ = false := fun j => by
      have := owns_frozen HC1.out.2.2.1 j
      rw [hBut.frozen (p := ⟨g1, j, none⟩) (by show g1 < _; omega) (by show ¬ g1 = _; omega), hBk.frozen (p := ⟨g1, j, none⟩) (by show g1 < _; omega)]
      exact this
    have hpost : ProgPost R n true w (.returned (.agg #[.slice (some ⟨pb, 0, none⟩) 3 3])) WF := by
      refine ⟨pb, g1, cap1, sb, g2, cap2, rfl, ?_, by omega, by omega, by omega, by omega, by omega, by rw [← HL1.out]; exact hn1.2, by rw [← HL1.out]; exact hn1.1, qf, hBF⟩
      · rw [← HL1.out, ← HL2.out]; exact made_in hpb1 p0 p1 p2 p3 p4 p5 p6 p7 p8 q1 q2 q3
    have HP := (show Hid _ from hpost); clear hpost
    clear p0 p1 p2 p3 p4 p5 p6 p7 p8 q1 q2 q3 qf hBut hBF hBk k1 k2 k3 k4
    go_wp2_with fail
    exact bodyPost_ret (v := .agg #[.slice (some ⟨pb, 0, none⟩) 3 3]) (by simp [results, Tryd.results14, go_sem, pr]) rfl HP.out

theorem program_any (a : Option Addr) (n c b o : Nat) (R : Nat → Int) (again : Bool) (w : World) (hr : RawIn w.heap.size w a n b o R) (hc : n ≤ c) :
    Calls Tryd.prog 14 #[.slice a n c, .bool again] w fun e w' => ProgPost R n again w e w' := by
  cases again
  · exact program_false a n c b o R w hr hc
  · exact program_true a n c b o R w hr hc

end Go.Proofs.YtbkmgoffiigdbaaDoor
