import Derived.Test.YtbkmgoffiigdbaaDoorNV
import Derived.Test.YtbkmgoffiigdbaaDoorMQ
namespace Go.Proofs.YtbkmgoffiigdbaaDoor
open Go.RowKit Go.Sort

set_option maxHeartbeats 1000000 in
theorem pick40_any (c : Int) (w : World) (h1 : -9223372036854775808 ≤ c) (h2 : c ≤ 9223372036854775807) :
    Calls Tryd.prog 31 #[.int .i64 c, .int .i64 40] w fun e w' => e = .returned (.int .i64 (pickI c 40)) ∧ w' = w := by
  by_cases hc : c < 0
  · go_enter Tryd.func31, Tryd.ntmps31
    go_wp2
    go_ret
    refine ⟨ret_i64 ?_, rfl⟩
    show -(c + 1).tmod 40 = pickI c 40
    unfold pickI
    rw [if_pos hc, ← Int.neg_tmod]
    exact Int.tmod_eq_emod_of_nonneg (by omega)
  · go_enter Tryd.func31, Tryd.ntmps31
    go_wp2
    go_ret
    refine ⟨ret_i64 ?_, rfl⟩
    show c % 40 = pickI c 40
    unfold pickI
    rw [if_neg (by omega)]

def BegunPost (g : PgR) (cap : Nat) (w : World) (e : Ending) (w' : World) : Prop :=
  ∃ own mb g' R, e = .returned (.pointer (some ⟨mb, 0, none⟩)) ∧ MachAt w' own mb g' R ∧ Begun g cap R ∧ Same g g' ∧ Below w.heap.size w w' ∧ ∀ k t, own k = some t → w.heap.size ≤ k

theorem pickI_bd40 (c : Int) : 0 ≤ pickI c 40 ∧ pickI c 40 < 40 := by
  unfold pickI; split <;> omega

set_option maxRecDepth 100000 in
set_option maxHeartbeats 1000000 in
theorem begun_any (g : PgR) (w : World) (hg : PgIn w.heap.size w g) (ht : Tab w) (hck : CheckIs g 0 0) (room : Int) (h1 : -9223372036854775808 ≤ room) (h2 : room ≤ 9223372036854775807) (cap : Nat) (hcap : (cap : Int) = 1 + pickI room 40) :
    Calls Tryd.prog 15 #[.agg #[.slice g.a g.n g.c], .int .i64 room] w fun e w' => BegunPost g cap w e w' := by
  obtain ⟨hp0, hp1⟩ := pickI_bd40 room
  have HL : Hid (∀ W, Below w.heap.size w W → Calls Tryd.prog 40 #[] W fun e w' => e = .returned (.bool true) ∧ Below W.heap.size W w') := fun W hW => lives_any W (ht.held hW.size (hW.block 0 ht.1))
  have HN : Hid (∀ W, Below w.heap.size w W → Calls Tryd.prog 41 #[.agg #[.slice g.a g.n g.c], .int .i64 (1 + pickI room 40)] W fun e w' => NewPost g cap W e w') := by
    intro W hW
    rw [← hcap]
    exact New_any g W (hg.held hW.size fun k hk => hW.block k (hg.blk_lt hk)) (ht.held hW.size (hW.block 0 ht.1)) hck cap (by omega) (by omega)
  have hwr : IntKind.i64.wrap (1 + pickI room 40) = 1 + pickI room 40 := Go.IntWalk.i64_in _ (by omega)
  clear hg ht hck hcap
  go_enter Tryd.func15, Tryd.ntmps15
  go_wp2_with (first | (go_at_call 40; refine (HL.out _ ?_).mono ?_; exact (by repeat (first | exact Below.refl _ _ | refine Below.alloc ?_ (by first | (simp; done) | (simp; omega)) _)); rintro e w2 ⟨rfl, hb2⟩; obtain ⟨hcc, hff⟩ := bcell hb2; have HB2 : Hid (Below w.heap.size w w2) := below_via' hb2 (by repeat (first | exact Below.refl _ _ | refine Below.alloc ?_ (by first | (simp; done) | (simp; omega)) _)); clear hb2))
  go_region_with (first | (go_at_call 31; refine (pick40_any _ _ h1 h2).mono ?_; rintro e w3 ⟨rfl, rfl⟩) | (go_at_call 41; refine (HN.out _ ?_).mono ?_; exact (by repeat (first | exact HB2.out | refine Below.drew ?_)); rintro e w4 ⟨own, mb, g', R, rfl, hm, hbg, hsame, hb, hnew⟩; have HM := hid hm; have HBG := hid hbg; have HSAME := hid hsame; have HB4 : Hid (Below w.heap.size w w4) := below_via' hb (by repeat (first | exact HB2.out | refine Below.drew ?_)); have HNEW := hid hnew; clear hm hbg hsame hb hnew))
  all_goals
    clear hcc hff
    go_wp2_with fail
    go_ret
    exact ⟨own, mb, g', R, rfl, HM.out, HBG.out, HSAME.out, HB4.out, fun k t hk => Nat.le_trans HB2.out.size (HNEW.out k t hk)⟩

end Go.Proofs.YtbkmgoffiigdbaaDoor
