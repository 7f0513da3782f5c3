import Derived.Test.YtbkmgoffiigdbaaDoorMS
import Derived.Test.YtbkmgoffiigdbaaDoorMW
import Derived.WalkSmall
import Derived.RegionTactic
import Derived.BigRegion
namespace Go.Proofs.YtbkmgoffiigdbaaDoor
open Go.RowKit

theorem check_made {g : PgR} {w : World} {x a : Int} (hg : PgIn w.heap.size w g) (ht : Tab w) (h : CheckIs g x a) :
    Calls Tryd.prog 11 #[.agg #[.slice g.a g.n g.c]] w fun e w' => e = .returned (.tuple #[.int .i64 x, .int .i64 a]) ∧ Below w.heap.size w w' :=
  (Check_any g w hg ht).mono (fun e w' ⟨x', a', he, hc, hb⟩ => by
    obtain ⟨rfl, rfl⟩ := hc.unique h
    exact ⟨he, hb⟩)

theorem main_getD {B : List (Int × Int)} {x y : Int × Int} {j : Nat} (h : j < B.length + 2) : (mainW B y).getD j (0, 0) = (mainW B x).getD j (0, 0) := by
  rw [mainW_eq, mainW_eq]
  by_cases e : j < B.length
  · rw [getD_lo _ _ e, getD_lo _ _ e]
  · obtain ⟨i, rfl⟩ : ∃ i, j = B.length + i := ⟨j - B.length, by omega⟩
    rw [getD_hi, getD_hi]
    obtain rfl | rfl : i = 0 ∨ i = 1 := by omega
    · rfl
    · rfl

theorem set2_same {w : World} {b k : Nat} {y0 y1 : Int} {u0 u1 : Value} (c0 : w.cell? ⟨b, k, none⟩ = some u0) (c1 : w.cell? ⟨b, k + 1, none⟩ = some u1) :
    ((w.setCell ⟨b, k, none⟩ (.int .i64 y0)).setCell ⟨b, k + 1, none⟩ (.int .i64 y1)).cell? ⟨b, k, none⟩ = some (.int .i64 y0) ∧ ((w.setCell ⟨b, k, none⟩ (.int .i64 y0)).setCell ⟨b, k + 1, none⟩ (.int .i64 y1)).cell? ⟨b, k + 1, none⟩ = some (.int .i64 y1) :=
  ⟨by go_simp, by go_simp⟩
theorem set2_other {w : World} {b k i : Nat} {y0 y1 : Int} (h1 : i ≠ k) (h2 : i ≠ k + 1) :
    ((w.setCell ⟨b, k, none⟩ (.int .i64 y0)).setCell ⟨b, k + 1, none⟩ (.int .i64 y1)).cell? ⟨b, i, none⟩ = w.cell? ⟨b, i, none⟩ := by
  rw [World.cell?_setCell_other (h := fun e => h2 (congrArg Addr.off e).symm), World.cell?_setCell_other (h := fun e => h1 (congrArg Addr.off e).symm)]

/-- The last instruction of the main function written over. -/
theorem made_set {w : World} {pb b1 c1 sb b2 c2 m : Nat} {B S T : List (Int × Int)} {x : Int × Int} (y0 y1 : Int) (hm : m = B.length + 2) (h : PgIn w.heap.size w (madeG pb b1 c1 sb b2 c2 (mainW B x) S T)) (h1 : b1 ≠ b2) (h2 : b1 ≠ sb) (h3 : b1 ≠ pb) :
    PgIn ((w.setCell ⟨b1, m * 2, none⟩ (.int .i64 y0)).setCell ⟨b1, m * 2 + 1, none⟩ (.int .i64 y1)).heap.size ((w.setCell ⟨b1, m * 2, none⟩ (.int .i64 y0)).setCell ⟨b1, m * 2 + 1, none⟩ (.int .i64 y1)) (madeG pb b1 c1 sb b2 c2 (mainW B (y0, y1)) S T) := by
  have hsz : ((w.setCell ⟨b1, m * 2, none⟩ (.int .i64 y0)).setCell ⟨b1, m * 2 + 1, none⟩ (.int .i64 y1)).heap.size = w.heap.size := by simp
  have hBt : But (fun k => k = b1) w ((w.setCell ⟨b1, m * 2, none⟩ (.int .i64 y0)).setCell ⟨b1, m * 2 + 1, none⟩ (.int .i64 y1)) :=
    But.setCell (S := fun k => k = b1) (p := ⟨b1, m * 2 + 1, none⟩) (But.setCell (S := fun k => k = b1) (p := ⟨b1, m * 2, none⟩) (But.refl _ _) (Or.inl rfl) _) (Or.inl rfl) _
  rw [hsz]
  have hother : ∀ {p l : Int} {b c : Nat} {L : List (Int × Int)}, b ≠ b1 → CodeIn w.heap.size w (fnOf p l b c L) → CodeIn w.heap.size ((w.setCell ⟨b1, m * 2, none⟩ (.int .i64 y0)).setCell ⟨b1, m * 2 + 1, none⟩ (.int .i64 y1)) (fnOf p l b c L) := fun {p l b c L} hne hc =>
    ⟨hc.1, fun hn => by
      obtain ⟨k1, k2, k3⟩ := hc.2 hn
      refine ⟨k1, k2, fun j hj => ?_⟩
      have k2' : b < w.heap.size := k2
      have := k3 j hj
      rw [hBt.cell (p := ⟨(fnOf p l b c L).b, (fnOf p l b c L).o + j * 2, none⟩) k2 hne, hBt.cell (p := ⟨(fnOf p l b c L).b, (fnOf p l b c L).o + j * 2 + 1, none⟩) k2 hne]
      exact this⟩
  obtain ⟨g0, g1, g2⟩ := h
  obtain ⟨q1, q2, q3⟩ := g1 (by show 0 < 3; omega)
  have q2' : pb < w.heap.size := q2
  have f0 := g2 0 (by show 0 < 3; omega)
  have f1 := g2 1 (by show 1 < 3; omega)
  have f2 := g2 2 (by show 2 < 3; omega)
  refine ⟨g0, fun _ => ⟨rfl, q2', fun i hi => ?_⟩, fun i hi => ?_⟩
  · have hi' : i = 0 ∨ i = 1 ∨ i = 2 := by have : i < 3 := hi; omega
    have c := q3 i hi
    rw [hBt.cell (p := ⟨(madeG pb b1 c1 sb b2 c2 (mainW B (y0, y1)) S T).b, (madeG pb b1 c1 sb b2 c2 (mainW B (y0, y1)) S T).o + i * 3, none⟩) q2' (Ne.symm h3), hBt.cell (p := ⟨(madeG pb b1 c1 sb b2 c2 (mainW B (y0, y1)) S T).b, (madeG pb b1 c1 sb b2 c2 (mainW B (y0, y1)) S T).o + i * 3 + 1, none⟩) q2' (Ne.symm h3), hBt.cell (p := ⟨(madeG pb b1 c1 sb b2 c2 (mainW B (y0, y1)) S T).b, (madeG pb b1 c1 sb b2 c2 (mainW B (y0, y1)) S T).o + i * 3 + 2, none⟩) q2' (Ne.symm h3)]
    rcases hi' with rfl | rfl | rfl
    · refine ⟨c.1, c.2.1, ?_⟩
      have := c.2.2
      have e : (mainW B x).length = (mainW B (y0, y1)).length := by rw [mainW_len, mainW_len]
      show w.cell? ⟨pb, 0 + 0 * 3 + 2, none⟩ = some (.slice (some ⟨b1, 0, none⟩) (mainW B (y0, y1)).length c1)
      rw [← e]; exact this
    · exact c
    · exact c
  · have hi' : i = 0 ∨ i = 1 ∨ i = 2 := by have : i < 3 := hi; omega
    rcases hi' with rfl | rfl | rfl
    · have hlen := mainW_len B x
      have hlen' := mainW_len B (y0, y1)
      refine ⟨by show (mainW B (y0, y1)).length ≤ _; have : (mainW B x).length ≤ 1152921504606846976 := f0.1; omega, fun _ => ?_⟩
      obtain ⟨k1, k2, k3⟩ := f0.2 (by show 0 < (mainW B x).length; omega)
      have k2' : b1 < w.heap.size := k2
      refine ⟨rfl, k2', fun j hj => ?_⟩
      have hj' : j < B.length + 3 := by rw [← hlen']; exact hj
      have c : w.cell? ⟨b1, 0 + j * 2, none⟩ = some (.int .i64 ((mainW B x).getD j (0, 0)).1) ∧ w.cell? ⟨b1, 0 + j * 2 + 1, none⟩ = some (.int .i64 ((mainW B x).getD j (0, 0)).2) := k3 j (by show j < (mainW B x).length; omega)
      show World.cell? _ ⟨b1, 0 + j * 2, none⟩ = some (.int .i64 ((mainW B (y0, y1)).getD j (0, 0)).1) ∧ World.cell? _ ⟨b1, 0 + j * 2 + 1, none⟩ = some (.int .i64 ((mainW B (y0, y1)).getD j (0, 0)).2)
      rw [Nat.zero_add] at *
      by_cases e : j = m
      · subst e
        rw [show (mainW B (y0, y1)).getD j (0, 0) = (y0, y1) by rw [hm]; exact main_last _ _]
        exact set2_same c.1 c.2
      · have hjm : j < B.length + 2 := by omega
        rw [main_getD (x := x) hjm]
        rw [set2_other (by omega) (by omega), set2_other (by omega) (by omega)]
        exact c
    · exact hother (Ne.symm h2) f1
    · exact hother (Ne.symm h1) f2

set_option maxRecDepth 100000 in
set_option maxHeartbeats 4000000 in
theorem made_any (a : Option Addr) (n c b o : Nat) (R : Nat → Int) (again : Bool) (w : World) (hr : RawIn w.heap.size w a n b o R) (hc : n ≤ c) (ht : Tab w) :
    Calls Tryd.prog 4 #[.slice a n c, .bool again] w fun e w' => e = .returned (.bool true) ∧ Below w.heap.size w w' := by
  have HR := (show Hid (RawIn w.heap.size w a n b o R) from hr); clear hr
  have HT := (show Hid (Tab w) from ht); clear ht
  have hs1 := seg_body R (min (n / 2) 6)
  have hs2 := seg_body (fun i => R (n / 2 + i)) (min (n - n / 2) 6)
  have hl1 := bodyTo_len R (min (n / 2) 6)
  have hl2 := bodyTo_len (fun i => R (n / 2 + i)) (min (n - n / 2) 6)
  obtain ⟨B, hB⟩ : ∃ B, B = bodyTo R (min (n / 2) 6) := ⟨_, rfl⟩
  obtain ⟨C, hC⟩ : ∃ C, C = bodyTo (fun i => R (n / 2 + i)) (min (n - n / 2) 6) := ⟨_, rfl⟩
  have hprog : ∀ w0 : World, Below w.heap.size w w0 → Calls Tryd.prog 14 #[.slice a n c, .bool again] w0 fun e w' =>
      ∃ pb b1 c1 sb b2 c2, e = .returned (.agg #[.slice (some ⟨pb, 0, none⟩) 3 3]) ∧ PgIn w'.heap.size w' (madeG pb b1 c1 sb b2 c2 (mainW B (lastI again)) stepL (C ++ [(2, 1)] ++ [(15, 0)])) ∧
        w0.heap.size ≤ b1 ∧ b1 < b2 ∧ b2 < sb ∧ sb < pb ∧ pb < w'.heap.size ∧ (∀ j, w'.frozen? ⟨b1, j, none⟩ = false) ∧ Below w0.heap.size w0 w' := fun w0 hb => by
    refine (program_any a n c b o R again w0 ((HR.out.below hb).mono hb.size) hc).mono ?_
    rintro e w' ⟨pb, b1, c1, sb, b2, c2, he, hP, k1, k2, k3, k4, k5, _, _, k8, k9⟩
    rw [hB, hC]
    exact ⟨pb, b1, c1, sb, b2, c2, he, hP, k1, k2, k3, k4, k5, k8, k9⟩
  rw [← hB] at hs1 hl1
  rw [← hC] at hs2 hl2
  clear hB hC
  have h0 : 0 < w.heap.size := HT.out.1
  obtain ⟨H1, hS1⟩ := hs1
  obtain ⟨H2, hS2⟩ := hs2
  have HS1 := (show Hid _ from hS1); clear hS1
  have HS2 := (show Hid _ from hS2); clear hS2
  have HP := (show Hid _ from hprog); clear hprog
  go_enter Tryd.func4, Tryd.ntmps4
  go_wp2_with fail
  refine (HP.out w (Below.refl _ _)).mono ?_
  rintro e w1 ⟨pb, b1, c1, sb, b2, c2, rfl, hPg, k1, k2, k3, k4, k5, k8, hB1⟩
  have hchk := check_made hPg (HT.out.below h0 hB1) (made_taken HS1.out (by omega) HS2.out (by omega) again)
  have HC := (show Hid _ from hchk); clear hchk
  clear hPg k8
  go_wp2_with fail
  refine Calls.mono HC.out ?_
  rintro e w2 ⟨rfl, hB2⟩
  have hbel2 : Below w.heap.size w w2 := hB1.trans (hB2.mono hB1.size)
  clear HC k1 k2 k3 k4 k5 hB1 hB2
  go_wp2_with fail
  refine (HP.out w2 hbel2).mono ?_
  rintro e w3 ⟨pb, b1, c1, sb, b2, c2, rfl, hPg, k1, k2, k3, k4, k5, k8, hB3⟩
  have hbel3 : Below w.heap.size w w3 := hbel2.trans (hB3.mono hbel2.size)
  have hsz2 := hbel2.size
  have hsz3 := hbel3.size
  obtain ⟨m, hm⟩ : ∃ m, m = B.length + 2 := ⟨_, rfl⟩
  have hm60 : m ≤ 60 := by omega
  have hmL : (mainW B (lastI again)).length = m + 1 := by rw [mainW_len]; omega
  have q2 : w3.cell? ⟨pb, 2, none⟩ = some (.slice (some ⟨b1, 0, none⟩) (m + 1) c1) := by
    have := ((hPg.2.1 (by show 0 < 3; omega)).2.2 0 (by show 0 < 3; omega)).2.2
    rw [← hmL]; exact this
  obtain ⟨r0, r1⟩ : w3.cell? ⟨b1, m * 2, none⟩ = some (.int .i64 (lastI again).1) ∧ w3.cell? ⟨b1, m * 2 + 1, none⟩ = some (.int .i64 (lastI again).2) := by
    have hf := hPg.2.2 0 (by show 0 < 3; omega)
    have := (hf.2 (by show 0 < (mainW B (lastI again)).length; omega)).2.2 m (by show m < (mainW B (lastI again)).length; omega)
    have e : (mainW B (lastI again)).getD m (0, 0) = lastI again := by rw [hm]; exact main_last _ _
    have h' : w3.cell? ⟨b1, 0 + m * 2, none⟩ = some (.int .i64 ((mainW B (lastI again)).getD m (0, 0)).1) ∧ w3.cell? ⟨b1, 0 + m * 2 + 1, none⟩ = some (.int .i64 ((mainW B (lastI again)).getD m (0, 0)).2) := this
    rw [e, Nat.zero_add] at h'
    exact h'
  have f0 := k8 (m * 2)
  have f1 := k8 (m * 2 + 1)
  have hb1 : b1 < w3.heap.size := by omega
  have hne : b1 ≠ pb := by omega
  have HPg := (show Hid _ from hPg); clear hPg
  have HM := (show Hid (m = B.length + 2) from hm); clear hm
  clear k8
  go_wp2_with fail
  have hP4 := made_set (x := lastI again) 5 0 HM.out HPg.out (by omega) (by omega) hne
  have hbel4 : Below w.heap.size w ((w3.setCell ⟨b1, m * 2, none⟩ (.int .i64 5)).setCell ⟨b1, m * 2 + 1, none⟩ (.int .i64 0)) :=
    Below.setCell (p := ⟨b1, m * 2 + 1, none⟩) (Below.setCell (p := ⟨b1, m * 2, none⟩) hbel3 (by show w.heap.size ≤ b1; omega) _) (by show w.heap.size ≤ b1; omega) _
  have s0 : ((w3.setCell ⟨b1, m * 2, none⟩ (.int .i64 5)).setCell ⟨b1, m * 2 + 1, none⟩ (.int .i64 0)).heap.size = w3.heap.size := by simp
  have t2 : ((w3.setCell ⟨b1, m * 2, none⟩ (.int .i64 5)).setCell ⟨b1, m * 2 + 1, none⟩ (.int .i64 0)).cell? ⟨pb, 2, none⟩ = some (.slice (some ⟨b1, 0, none⟩) (m + 1) c1) := by go_simp
  have t0 : ((w3.setCell ⟨b1, m * 2, none⟩ (.int .i64 5)).setCell ⟨b1, m * 2 + 1, none⟩ (.int .i64 0)).cell? ⟨b1, m * 2, none⟩ = some (.int .i64 5) := (set2_same r0 r1).1
  have t1 : ((w3.setCell ⟨b1, m * 2, none⟩ (.int .i64 5)).setCell ⟨b1, m * 2 + 1, none⟩ (.int .i64 0)).cell? ⟨b1, m * 2 + 1, none⟩ = some (.int .i64 0) := (set2_same r0 r1).2
  have u0 : ((w3.setCell ⟨b1, m * 2, none⟩ (.int .i64 5)).setCell ⟨b1, m * 2 + 1, none⟩ (.int .i64 0)).frozen? ⟨b1, m * 2, none⟩ = false := by go_simp
  have u1 : ((w3.setCell ⟨b1, m * 2, none⟩ (.int .i64 5)).setCell ⟨b1, m * 2 + 1, none⟩ (.int .i64 0)).frozen? ⟨b1, m * 2 + 1, none⟩ = false := by go_simp
  generalize ((w3.setCell ⟨b1, m * 2, none⟩ (.int .i64 5)).setCell ⟨b1, m * 2 + 1, none⟩ (.int .i64 0)) = w4 at *
  have hBa : Below w4.heap.size w4 (w4.alloc (Obj.cells #[Value.slice (some ⟨pb, 0, none⟩) 3 3] 24)) := Below.alloc (Below.refl _ _) (Nat.le_refl _) _
  have hP5 := (hP4.below hBa).mono hBa.size
  have hbel5 : Below w.heap.size w (w4.alloc (Obj.cells #[Value.slice (some ⟨pb, 0, none⟩) 3 3] 24)) := hbel4.trans (hBa.mono hbel4.size)
  have ps5 : (w4.alloc (Obj.cells #[Value.slice (some ⟨pb, 0, none⟩) 3 3] 24)).cell? ⟨w3.heap.size, 0, none⟩ = some (.slice (some ⟨pb, 0, none⟩) 3 3) := by rw [← s0]; go_simp
  have hpb4 : pb < w4.heap.size := by omega
  have hb14 : b1 < w4.heap.size := by omega
  have t2' : (w4.alloc (Obj.cells #[Value.slice (some ⟨pb, 0, none⟩) 3 3] 24)).cell? ⟨pb, 2, none⟩ = some (.slice (some ⟨b1, 0, none⟩) (m + 1) c1) := by rw [hBa.cell (p := ⟨pb, 2, none⟩) hpb4]; exact t2
  have t0' : (w4.alloc (Obj.cells #[Value.slice (some ⟨pb, 0, none⟩) 3 3] 24)).cell? ⟨b1, m * 2, none⟩ = some (.int .i64 5) := by rw [hBa.cell (p := ⟨b1, m * 2, none⟩) hb14]; exact t0
  have t1' : (w4.alloc (Obj.cells #[Value.slice (some ⟨pb, 0, none⟩) 3 3] 24)).cell? ⟨b1, m * 2 + 1, none⟩ = some (.int .i64 0) := by rw [hBa.cell (p := ⟨b1, m * 2 + 1, none⟩) hb14]; exact t1
  have u0' : (w4.alloc (Obj.cells #[Value.slice (some ⟨pb, 0, none⟩) 3 3] 24)).frozen? ⟨b1, m * 2, none⟩ = false := by rw [hBa.frozen (p := ⟨b1, m * 2, none⟩) hb14]; exact u0
  have u1' : (w4.alloc (Obj.cells #[Value.slice (some ⟨pb, 0, none⟩) 3 3] 24)).frozen? ⟨b1, m * 2 + 1, none⟩ = false := by rw [hBa.frozen (p := ⟨b1, m * 2 + 1, none⟩) hb14]; exact u1
  have hpz : w3.heap.size < (w4.alloc (Obj.cells #[Value.slice (some ⟨pb, 0, none⟩) 3 3] 24)).heap.size := by simp; omega
  have hpb5 : pb < (w4.alloc (Obj.cells #[Value.slice (some ⟨pb, 0, none⟩) 3 3] 24)).heap.size := by simp; omega
  have hb15 : b1 < (w4.alloc (Obj.cells #[Value.slice (some ⟨pb, 0, none⟩) 3 3] 24)).heap.size := by simp; omega
  clear hP4 hbel4 t0 t1 t2 u0 u1 hBa hpb4 hb14 q2 r0 r1 f0 f1 HPg
  generalize (w4.alloc (Obj.cells #[Value.slice (some ⟨pb, 0, none⟩) 3 3] 24)) = w5 at *
  have hchk := check_made hP5 (HT.out.below h0 hbel5) (made_high HS1.out (by omega) HS2.out (by omega))
  refine (show Calls Tryd.prog 11 #[.agg #[.slice (some ⟨pb, 0, none⟩) 3 3]] w5 _ from hchk).mono ?_
  clear hchk
  rintro e w6 ⟨rfl, hB6⟩
  have hP6 := (hP5.below hB6).mono hB6.size
  have hbel6 := hbel5.trans (hB6.mono hbel5.size)
  have hsz6 := hB6.size
  rw [← hB6.cell (p := ⟨w3.heap.size, 0, none⟩) hpz] at ps5
  rw [← hB6.cell (p := ⟨pb, 2, none⟩) hpb5] at t2'
  rw [← hB6.cell (p := ⟨b1, m * 2, none⟩) hb15] at t0'
  rw [← hB6.cell (p := ⟨b1, m * 2 + 1, none⟩) hb15] at t1'
  rw [← hB6.frozen (p := ⟨b1, m * 2, none⟩) hb15] at u0'
  rw [← hB6.frozen (p := ⟨b1, m * 2 + 1, none⟩) hb15] at u1'
  have hpz6 : w3.heap.size < w6.heap.size := by omega
  have hpb6 : pb < w6.heap.size := by omega
  have hb16 : b1 < w6.heap.size := by omega
  have HP6 := (show Hid _ from hP6); clear hP6
  clear hP5 hbel5 hB6 hpz hpb5 hb15
  go_wp2_with fail
  have hP7 := made_set (x := (5, 0)) 2 3 HM.out HP6.out (by omega) (by omega) hne
  have hbel7 : Below w.heap.size w ((w6.setCell ⟨b1, m * 2, none⟩ (.int .i64 2)).setCell ⟨b1, m * 2 + 1, none⟩ (.int .i64 3)) :=
    Below.setCell (p := ⟨b1, m * 2 + 1, none⟩) (Below.setCell (p := ⟨b1, m * 2, none⟩) hbel6 (by show w.heap.size ≤ b1; omega) _) (by show w.heap.size ≤ b1; omega) _
  clear ps5 t2' t0' t1' u0' u1' HP6 hbel6 hpz6 hpb6 hb16
  generalize ((w6.setCell ⟨b1, m * 2, none⟩ (.int .i64 2)).setCell ⟨b1, m * 2 + 1, none⟩ (.int .i64 3)) = w7 at *
  have hchk := check_made hP7 (HT.out.below h0 hbel7) (made_wrong HS1.out (by omega) (by omega))
  rw [← HM.out] at hchk
  refine (show Calls Tryd.prog 11 #[.agg #[.slice (some ⟨pb, 0, none⟩) 3 3]] w7 _ from hchk).mono ?_
  clear hchk hP7
  rintro e w8 ⟨rfl, hB8⟩
  have hbel8 := hbel7.trans (hB8.mono hbel7.size)
  clear hbel7 hB8
  go_wp2_with fail
  go_ret
  exact ⟨rfl, hbel8⟩


end Go.Proofs.YtbkmgoffiigdbaaDoor
