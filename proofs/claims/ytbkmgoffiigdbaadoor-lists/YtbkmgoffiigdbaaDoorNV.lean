import Derived.Test.YtbkmgoffiigdbaaDoorNU
namespace Go.Proofs.YtbkmgoffiigdbaaDoor
open Go.RowKit Go.Sort

/-- Behind a run of a straight program: what is asked of the machine. -/
theorem ended_out {own : Own} {mb cap : Nat} {g : PgR} {R : McR} {w : World} {z : Int} (h : MachAt w own mb g R) (hR : Ended cap [z] R) :
    Calls Tryd.prog 20 #[.pointer (some ⟨mb, 0, none⟩)] w fun e w' => ∃ b c, e = .returned (.slice (some ⟨b, 0, none⟩) 1 c) ∧ w'.cell? ⟨b, 0, none⟩ = some (.int .i64 z) ∧ w.heap.size ≤ b ∧ b < w'.heap.size ∧ Below w.heap.size w w' := by
  refine (Output_any h (by rw [hR.out]; simp) (fun e => by rw [hR.out] at e; simp at e)).mono ?_
  rintro e w' ⟨hB, ⟨h0, _⟩ | ⟨_, b, c, rfl, hown, _⟩⟩
  · rw [hR.out] at h0; cases h0
  · rw [hR.out] at hown
    have hc := hown.cellAt 0 (by simp)
    have hb : w.heap.size ≤ b ∧ b < w'.heap.size := by
      rcases hown.2 with ⟨h0, _⟩ | ⟨_, _, _, hv, h1, hg, _⟩
      · cases h0
      · cases hv; exact ⟨h1, (Array.getElem?_eq_some_iff.1 hg).1⟩
    exact ⟨b, c, by rw [hR.out]; rfl, hc, hb.1, hb.2, hB⟩

set_option maxRecDepth 100000 in
set_option maxHeartbeats 4000000 in
theorem lives_any (w : World) (ht : Tab w) : Calls Tryd.prog 40 #[] w fun e w' => e = .returned (.bool true) ∧ Below w.heap.size w w' := by
  have HT := hid ht
  clear ht
  go_enter Tryd.func40, Tryd.ntmps40
  go_wp2_with (go_at_call 39; refine (at_any _ _ _).mono ?_; rintro e w' ⟨rfl, hw⟩; rw [hw]; clear hw w')
  obtain ⟨h1, h2⟩ := oneG_in (l := 0) (fc := 1) (cc := 3) (L := livesL) (W := ((((((w.alloc (Obj.cells #[Value.int IntKind.i64 0, Value.int IntKind.i64 7] 37)).alloc (Obj.cells #[Value.int IntKind.i64 26, Value.int IntKind.i64 0] 37)).alloc (Obj.cells #[Value.int IntKind.i64 27, Value.int IntKind.i64 0] 37)).alloc (Obj.cells #[Value.int IntKind.i64 0, Value.int IntKind.i64 7, Value.int IntKind.i64 26, Value.int IntKind.i64 0, Value.int IntKind.i64 27, Value.int IntKind.i64 0] 37)).alloc (Obj.cells #[Value.int IntKind.i64 0, Value.int IntKind.i64 0, Value.slice (some { block := w.heap.size + 1 + 1 + 1, off := 0 }) 3 3] 35)).alloc (Obj.cells #[Value.slice (some { block := w.heap.size + 1 + 1 + 1 + 1, off := 0 }) 1 1] 24)))
    (blk_old (blk_new (n := w.heap.size + 1 + 1 + 1 + 1) (by simp))) (blk_old (blk_old (blk_new (n := w.heap.size + 1 + 1 + 1) (by simp)))) rfl (by simp [livesL])
  have hB : Below w.heap.size w ((((((w.alloc (Obj.cells #[Value.int IntKind.i64 0, Value.int IntKind.i64 7] 37)).alloc (Obj.cells #[Value.int IntKind.i64 26, Value.int IntKind.i64 0] 37)).alloc (Obj.cells #[Value.int IntKind.i64 27, Value.int IntKind.i64 0] 37)).alloc (Obj.cells #[Value.int IntKind.i64 0, Value.int IntKind.i64 7, Value.int IntKind.i64 26, Value.int IntKind.i64 0, Value.int IntKind.i64 27, Value.int IntKind.i64 0] 37)).alloc (Obj.cells #[Value.int IntKind.i64 0, Value.int IntKind.i64 0, Value.slice (some { block := w.heap.size + 1 + 1 + 1, off := 0 }) 3 3] 35)).alloc (Obj.cells #[Value.slice (some { block := w.heap.size + 1 + 1 + 1 + 1, off := 0 }) 1 1] 24)) := by repeat (first | exact Below.refl _ _ | refine Below.alloc ?_ (by first | (simp; done) | (simp; omega)) _)
  generalize ((((((w.alloc (Obj.cells #[Value.int IntKind.i64 0, Value.int IntKind.i64 7] 37)).alloc (Obj.cells #[Value.int IntKind.i64 26, Value.int IntKind.i64 0] 37)).alloc (Obj.cells #[Value.int IntKind.i64 27, Value.int IntKind.i64 0] 37)).alloc (Obj.cells #[Value.int IntKind.i64 0, Value.int IntKind.i64 7, Value.int IntKind.i64 26, Value.int IntKind.i64 0, Value.int IntKind.i64 27, Value.int IntKind.i64 0] 37)).alloc (Obj.cells #[Value.int IntKind.i64 0, Value.int IntKind.i64 0, Value.slice (some { block := w.heap.size + 1 + 1 + 1, off := 0 }) 3 3] 35)).alloc (Obj.cells #[Value.slice (some { block := w.heap.size + 1 + 1 + 1 + 1, off := 0 }) 1 1] 24)) = W at *
  have HN : Hid (Calls Tryd.prog 41 #[.agg #[.slice (some ⟨w.heap.size + 1 + 1 + 1 + 1, 0, none⟩) 1 1], .int .i64 1] W fun e w' => NewPost (oneG (w.heap.size + 1 + 1 + 1 + 1) 1 0 (w.heap.size + 1 + 1 + 1) 3 livesL) 1 W e w') := New_any _ W h1 (HT.out.held hB.size (hB.block 0 HT.out.1)) (check_lives h2) 1 (by omega) (by omega)
  refine HN.out.mono ?_
  rintro e w2 ⟨own, mb, g', R, rfl, hm, hbg, hsame, hb, hnew⟩
  have hmid := mid_begun h2 hbg
  have hsp := h2.same hsame
  have HRUN := hid (Run_any (run_lives hm hsp hmid))
  have HNEW := hid hnew
  have HB2 : Hid (Below w.heap.size w w2) := below_via' hb hB
  have HBW := hid hB
  clear h1 h2 hB HN hm hbg hsame hb hnew hmid hsp
  go_wp2_with (go_at_call 16; refine HRUN.out.mono ?_; rintro e w3 ⟨own3, R3, rfl, hm3, hend3, ht3⟩; have HM3 := hid hm3; have HE3 := hid hend3; have HT3 := hid ht3; clear hm3 hend3 ht3)
  refine (ended_out HM3.out HE3.out).mono ?_
  rintro e w4 ⟨b, c, rfl, hcell, hb4, hb4', hB4⟩
  have HM4 : Hid (MachAt w4 own3 mb g' R3) := HM3.out.same hB4.size fun k hk => hB4.block k hk
  have HST : Hid (∀ U, Below w4.heap.size w4 U → Calls Tryd.prog 18 #[.pointer (some ⟨mb, 0, none⟩)] U fun e w' => e = .returned (.agg #[.int .i64 1, .int .i64 (taken R3.obs : Int), .int .i64 (R3.dr.length : Int)]) ∧ Below U.heap.size U w') := by
    intro U hU
    have := Status_any (HM4.out.same hU.size fun k hk => hU.block k hk) (by rw [HE3.out.obs]; omega) (by rw [HE3.out.obs]; omega)
    rw [HE3.out.st] at this
    exact this
  have HB4 := hid hB4
  have HL4 := hid hb4
  clear hB4 hb4
  go_wp2_with (go_at_call 18; refine (HST.out _ ?_).mono ?_; exact (by repeat (first | exact Below.refl _ _ | refine Below.alloc ?_ (by first | (simp; done) | (simp; omega)) _)); rintro e w5 ⟨rfl, hb5⟩; obtain ⟨hcc, hff⟩ := bcell hb5; have hl5 := Nat.lt_of_lt_of_le hb4' hb5.size; have HB5 := hid hb5; clear hb5)
  go_ret
  have hB3 : Below w.heap.size w w3 := HB2.out.trans (HT3.out.below HB2.out.size fun k hk => by
    cases e : own k with
    | none => rfl
    | some t => have := HNEW.out k t e; have := HBW.out.size; omega)
  have hB5 : Below w.heap.size w w5 := below_via' HB5.out (below_via' HB4.out hB3)
  exact ⟨rfl, Below.alloc hB5 hB5.size _⟩

end Go.Proofs.YtbkmgoffiigdbaaDoor
