import Derived.Test.YtbkmgoffiigdbaaDoorNW
namespace Go.Proofs.YtbkmgoffiigdbaaDoor
open Go.RowKit Go.Sort

/-- One number is told. -/
def ToldOne (z : Int) (w : World) (e : Ending) (w' : World) : Prop :=
  ∃ b c, e = .returned (.tuple #[.slice (some ⟨b, 0, none⟩) 1 c, .bool true]) ∧ w'.cell? ⟨b, 0, none⟩ = some (.int .i64 z) ∧ b < w'.heap.size ∧ Below w.heap.size w w'

set_option maxRecDepth 100000 in
set_option maxHeartbeats 1000000 in
theorem told_one (g : PgR) (w : World) (hg : PgIn w.heap.size w g) (ht : Tab w) (hck : CheckIs g 0 0) (z : Int) (N : Nat)
    (hrun : ∀ own mb g' R w, MachAt w own mb g' R → Begun g 11 R → Same g g' → Calls Tryd.prog 42 #[.pointer (some ⟨mb, 0, none⟩), .int .i64 1000] w fun e w' => RunPost own mb g' (Ended 11 [z]) N w e w') :
    Calls Tryd.prog 23 #[.agg #[.slice g.a g.n g.c]] w fun e w' => ToldOne z w e w' := by
  have HB : Hid (∀ W, Below w.heap.size w W → Calls Tryd.prog 15 #[.agg #[.slice g.a g.n g.c], .int .i64 10] W fun e w' => BegunPost g 11 W e w') := fun W hW =>
    begun_any g W (hg.held hW.size fun k hk => hW.block k (hg.blk_lt hk)) (ht.held hW.size (hW.block 0 ht.1)) hck 10 (by omega) (by omega) 11 (by decide)
  have HR := hid hrun
  clear hg ht hck hrun
  go_enter Tryd.func23, Tryd.ntmps23
  go_wp2_with (go_at_call 15; refine (HB.out _ ?_).mono ?_; exact (by repeat (first | exact Below.refl _ _ | refine Below.alloc ?_ (by first | (simp; done) | (simp; omega)) _)); rintro e w2 ⟨own, mb, g', R, rfl, hm, hbg, hsame, hb, hnew⟩; have HB2 : Hid (Below w.heap.size w w2) := below_via' hb (by repeat (first | exact Below.refl _ _ | refine Below.alloc ?_ (by first | (simp; done) | (simp; omega)) _)); have HRUN := hid (Run_any (HR.out own mb g' R w2 hm hbg hsame)); have HNEW := hid hnew; clear hm hbg hsame hb hnew)
  refine HRUN.out.mono ?_
  rintro e w3 ⟨own3, R3, rfl, hm3, hend3, ht3⟩
  have HM3 := hid hm3
  have HE3 := hid hend3
  have HST : Hid (∀ U, Below w3.heap.size w3 U → Calls Tryd.prog 18 #[.pointer (some ⟨mb, 0, none⟩)] U fun e w' => e = .returned (.agg #[.int .i64 1, .int .i64 (taken R3.obs : Int), .int .i64 (R3.dr.length : Int)]) ∧ Below U.heap.size U w') := by
    intro U hU
    have := Status_any (hm3.same hU.size fun k hk => hU.block k hk) (by rw [hend3.obs]; omega) (by rw [hend3.obs]; omega)
    rw [hend3.st] at this
    exact this
  have HOUT : Hid (∀ U, Below w3.heap.size w3 U → Calls Tryd.prog 20 #[.pointer (some ⟨mb, 0, none⟩)] U fun e w' => ∃ b c, e = .returned (.slice (some ⟨b, 0, none⟩) 1 c) ∧ w'.cell? ⟨b, 0, none⟩ = some (.int .i64 z) ∧ U.heap.size ≤ b ∧ b < w'.heap.size ∧ Below U.heap.size U w') :=
    fun U hU => ended_out (hm3.same hU.size fun k hk => hU.block k hk) hend3
  have HB3 : Hid (Below w.heap.size w w3) := HB2.out.trans (ht3.below HB2.out.size fun k hk => by
    cases e : own k with
    | none => rfl
    | some t => have := HNEW.out k t e; simp at this; omega)
  clear hm3 hend3 ht3
  go_wp2_with (first | (go_at_call 18; refine (HST.out _ ?_).mono ?_; exact (by repeat (first | exact Below.refl _ _ | refine Below.alloc ?_ (by first | (simp; done) | (simp; omega)) _)); rintro e w5 ⟨rfl, hb5⟩; have HB5 : Hid (Below w3.heap.size w3 w5) := below_via' hb5 (by repeat (first | exact Below.refl _ _ | refine Below.alloc ?_ (by first | (simp; done) | (simp; omega)) _)); clear hb5))
  have j0 : (w5.alloc (Obj.cells #[.int .i64 1, .int .i64 (taken R3.obs : Int), .int .i64 (R3.dr.length : Int)] 45)).cell? ⟨w5.heap.size, 0, none⟩ = some (.int .i64 1) := by go_simp
  have hBV : Below w3.heap.size w3 (w5.alloc (Obj.cells #[.int .i64 1, .int .i64 (taken R3.obs : Int), .int .i64 (R3.dr.length : Int)] 45)) := Below.alloc HB5.out HB5.out.size _
  have hlV : w5.heap.size < (w5.alloc (Obj.cells #[.int .i64 1, .int .i64 (taken R3.obs : Int), .int .i64 (R3.dr.length : Int)] 45)).heap.size := by simp
  generalize (w5.alloc (Obj.cells #[.int .i64 1, .int .i64 (taken R3.obs : Int), .int .i64 (R3.dr.length : Int)] 45)) = V at *
  have HBV := hid hBV
  clear hBV
  go_region_with (first | (go_at_call 20; refine (HOUT.out _ ?_).mono ?_; exact (by repeat (first | exact HBV.out | refine Below.drew ?_)); rintro e w6 ⟨b, c, rfl, hcell, hb6, hb6', hB6⟩; have j6 := (hB6.cell (p := ⟨w5.heap.size, 0, none⟩) hlV).trans j0; have HC := hid hcell; have HL := hid hb6'; have HB6 : Hid (Below w3.heap.size w3 w6) := below_via' hB6 (by repeat (first | exact HBV.out | refine Below.drew ?_)); clear hcell hb6 hb6' hB6))
  all_goals
    go_wp2_with fail
    go_ret2
    exact ⟨b, c, rfl, HC.out, HL.out, below_via' HB6.out HB3.out⟩

end Go.Proofs.YtbkmgoffiigdbaaDoor
