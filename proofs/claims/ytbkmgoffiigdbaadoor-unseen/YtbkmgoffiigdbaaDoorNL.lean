import Derived.Test.YtbkmgoffiigdbaaDoorNK
import Derived.Handy
namespace Go.Proofs.YtbkmgoffiigdbaaDoor
open Go.RowKit Go.Sort

/-- A run: so many steps, through states of which something is known. -/
def RunPost (own : Own) (mb : Nat) (g : PgR) (P : McR → Prop) (n : Nat) (w : World) (e : Ending) (w' : World) : Prop :=
  ∃ own' R', e = .returned (.tuple #[.int .i64 (n : Int), .int .i64 0]) ∧ MachAt w' own' mb g R' ∧ P R' ∧ Touched own w own' w'

def RunAt (own : Own) (mb : Nat) (g : PgR) (S : Nat → McR → Prop) (w : World) (i : Nat) (wr : World) : Prop :=
  ∃ own' R', MachAt wr own' mb g R' ∧ S i R' ∧ Touched own w own' wr

set_option maxRecDepth 100000 in
set_option maxHeartbeats 2000000 in
theorem run_any {own : Own} {mb : Nat} {g : PgR} {R : McR} {w : World} (h : MachAt w own mb g R) (S : Nat → McR → Prop) (h0 : S 0 R) (N fuel : Nat) (hN : N ≤ fuel) (hfuel : fuel ≤ 10000)
    (hrun : ∀ i R, i < N → S i R → R.st = 0) (hend : N < fuel → ∀ R, S N R → R.st ≠ 0)
    (hstep : ∀ i own R w, i < N → MachAt w own mb g R → S i R → Calls Tryd.prog 59 #[.pointer (some ⟨mb, 0, none⟩)] w fun e w' => StepPost own mb g (S (i + 1)) w e w') :
    Calls Tryd.prog 42 #[.pointer (some ⟨mb, 0, none⟩), .int .i64 (fuel : Int)] w fun e w' => RunPost own mb g (S N) N w e w' := by
  have hin : insideB (fuel : Int) 0 10000 = true := insideB_t (by omega) (by omega)
  have HR : Hid (RunAt own mb g S w 0 w) := ⟨own, R, h, h0, Touched.refl _ _⟩
  have HRUN := hid hrun
  have HEND := hid hend
  have HSTEP := hid hstep
  clear h h0 hrun hend hstep
  go_enter Tryd.func42, Tryd.ntmps42
  go_wp2_with (go_at_call 58; refine (within_any _ _ _ _).mono ?_; rintro e w' ⟨rfl, hw⟩; rw [hw]; clear hw w')
  go_loopw [6] (fun v wr => ∃ i : Nat, i ≤ N ∧ v = .int .i64 i ∧ RunAt own mb g S w i wr) (fun v _ => N - (intOf v).toNat)
  case atStart => exact ⟨0, Nat.zero_le _, rfl, HR.out⟩
  case round =>
    obtain ⟨i, hi, rfl, own', R', hm, hs, ht⟩ := hrel
    have c1 := hm.c1
    have HM := hid hm
    have HS := hid hs
    have HT := hid ht
    clear hm hs ht
    by_cases hlt : i < N
    · have hst := HRUN.out i R' hlt HS.out
      rw [hst] at c1
      clear hst
      have HC := hid (HSTEP.out i own' R' wr hlt HM.out HS.out)
      go_wp2_with (go_at_call 59; refine HC.out.mono ?_; rintro e w2 ⟨own2, R2, rfl, hm2, hs2, ht2⟩)
      go_roundw
      case rel => exact ⟨i + 1, by omega, by go_num, own2, R2, hm2, hs2, HT.out.trans ht2⟩
      case measure => simp [intOf]; omega
    · obtain rfl : i = N := by omega
      by_cases hf : i < fuel
      · have hst : (R'.st == 0) = false := beq_eq_false_iff_ne.2 (HEND.out hf R' HS.out)
        go_wp2_with fail
        all_goals go_ret2
        all_goals exact ⟨own', R', rfl, HM.out, HS.out, HT.out⟩
      · obtain rfl : i = fuel := by omega
        go_wp2_with fail
        all_goals go_ret2
        all_goals exact ⟨own', R', rfl, HM.out, HS.out, HT.out⟩

end Go.Proofs.YtbkmgoffiigdbaaDoor
