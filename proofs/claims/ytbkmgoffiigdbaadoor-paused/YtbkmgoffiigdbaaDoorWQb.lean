import Derived.Test.YtbkmgoffiigdbaaDoorWQa
import Derived.Test.YtbkmgoffiigdbaaDoorWM
import Derived.Test.YtbkmgoffiigdbaaDoorWH
namespace Go.Proofs.YtbkmgoffiigdbaaDoor
open Go.RowKit Go.Sort

/-- The program that is made, and that Check takes it. -/
def MadeProg (w : World) (e : Ending) (w' : World) : Prop :=
  ∃ g : PgR, e = .returned (.agg #[.slice g.a g.n g.c]) ∧ PgIn w'.heap.size w' g ∧ CheckIs g 0 0 ∧ Below w.heap.size w w'

theorem made_prog (a : Option Addr) (n c b o : Nat) (R : Nat → Int) (again : Bool) (w : World) (hr : RawIn w.heap.size w a n b o R) (hc : n ≤ c) :
    Calls Tryd.prog 14 #[.slice a n c, .bool again] w fun e w' => MadeProg w e w' := by
  have hs1 := seg_body R (min (n / 2) 6)
  have hs2 := seg_body (fun i => R (n / 2 + i)) (min (n - n / 2) 6)
  have hl1 := bodyTo_len R (min (n / 2) 6)
  have hl2 := bodyTo_len (fun i => R (n / 2 + i)) (min (n - n / 2) 6)
  refine (program_any a n c b o R again w hr hc).mono ?_
  rintro e w' ⟨pb, b1, c1, sb, b2, c2, he, hP, k1, k2, k3, k4, k5, _, _, k8, k9⟩
  obtain ⟨H1, hS1⟩ := hs1
  obtain ⟨H2, hS2⟩ := hs2
  exact ⟨_, he, hP, made_taken hS1 (by omega) hS2 (by omega) again, k9⟩

set_option maxRecDepth 100000 in
set_option maxHeartbeats 4000000 in
theorem paused_any (a : Option Addr) (n c b o : Nat) (R : Nat → Int) (again : Bool) (room : Int) (pa : Option Addr) (pn pc pb po : Nat) (PR : Nat → Int) (w : World) (hr : RawIn w.heap.size w a n b o R) (hc : n ≤ c) (h1 : -9223372036854775808 ≤ room) (h2 : room ≤ 9223372036854775807) (hpr : RawIn w.heap.size w pa pn pb po PR) (ht : Tab w) :
    Calls Tryd.prog 5 #[.slice a n c, .bool again, .int .i64 room, .slice pa pn pc] w fun e w' => e = .returned (.bool true) ∧ Below w.heap.size w w' := by
  obtain ⟨q0, q1⟩ := pickI_bd40 room
  obtain ⟨cap, hcap⟩ := Int.eq_ofNat_of_zero_le (show 0 ≤ 1 + pickI room 40 by omega)
  have hcap1 : 1 ≤ cap := by omega
  have hcap2 : cap ≤ 40 := by omega
  have HP : Hid (∀ W, Below w.heap.size w W → Calls Tryd.prog 14 #[.slice a n c, .bool again] W fun e w' => MadeProg W e w') := fun W hW => made_prog a n c b o R again W ((hr.below hW).mono hW.size) hc
  have HT := hid ht
  have HPR := hid hpr
  have h0 : 0 < w.heap.size := ht.1
  clear hr hpr ht
  go_enter Tryd.func5, Tryd.ntmps5
  go_wp2_with fail
  refine (HP.out _ (by repeat (first | exact Below.refl _ _ | refine Below.drew ?_ | refine Below.drewQ ?_ _ | refine Below.alloc ?_ (by first | (simp; done) | (simp; omega)) _))).mono ?_
  rintro e w1 ⟨g, rfl, hpg, hck, hb1⟩
  have hB1 : Below w.heap.size w w1 := below_via' hb1 (by repeat (first | exact Below.refl _ _ | refine Below.drew ?_ | refine Below.drewQ ?_ _ | refine Below.alloc ?_ (by first | (simp; done) | (simp; omega)) _))
  have ht1 : Tab w1 := HT.out.held hB1.size (hB1.block 0 h0)
  have HBG : Hid (∀ W, Below w1.heap.size w1 W → Calls Tryd.prog 15 #[.agg #[.slice g.a g.n g.c], .int .i64 room] W fun e w' => BegunPost2 g cap W e w') := fun W hW => begun_any2 g W (hpg.held hW.size fun k hk => hW.block k (hpg.blk_lt hk)) (ht1.held hW.size (hW.block 0 ht1.1)) hck room h1 h2 cap hcap.symm
  have hpk := pgOk_of hck
  have HB1 := hid hB1
  have HPK := hid hpk
  clear hpg hck hb1 hB1 ht1 hpk
  go_wp2_with fail
  refine (HBG.out _ (by repeat (first | exact Below.refl _ _ | refine Below.drew ?_ | refine Below.drewQ ?_ _ | refine Below.alloc ?_ (by first | (simp; done) | (simp; omega)) _))).mono ?_
  rintro e w2 ⟨oa, ma, ga, Ra, rfl, hma, hbga, hsa, hb2, hna, hba⟩
  have pc2 : w2.cell? ⟨w1.heap.size, 0, none⟩ = some (.slice g.a g.n g.c) := (hb2.cell (p := ⟨w1.heap.size, 0, none⟩) (by simp)).trans (by go_simp)
  have hl2 : w1.heap.size < w2.heap.size := Nat.lt_of_lt_of_le (by simp) hb2.size
  have hB2 : Below w1.heap.size w1 w2 := below_via' hb2 (by repeat (first | exact Below.refl _ _ | refine Below.drew ?_ | refine Below.drewQ ?_ _ | refine Below.alloc ?_ (by first | (simp; done) | (simp; omega)) _))
  have HMA := hid hma
  have HBA := hid hbga
  have HSA := hid hsa
  have HB2 := hid hB2
  have HNA : Hid (∀ k t, oa k = some t → w.heap.size ≤ k) := fun k t hk => Nat.le_trans (Nat.le_trans HB1.out.size (by simp)) (hna k t hk)
  clear hma hbga hsa hb2 hna hba hB2
  go_wp2_with fail
  refine (HBG.out _ HB2.out).mono ?_
  rintro e w3 ⟨ob, mb, gb, Rb, rfl, hmb, hbgb, hsb, hb3, hnb, hbb⟩
  have HTWO : Hid (Two w3 oa ob ma mb ga gb Ra Rb) := ⟨HMA.out.same hb3.size fun k hk => hb3.block k hk, hmb, fun k t hk => HMA.out.new (hnb k t hk), fun k hk => HMA.out.new (hbb k hk), fun k hk => by
    cases e : ob k with
    | none => rfl
    | some t => have := hnb k t e; have := HMA.out.pg.blk_lt hk; omega⟩
  have HB3 : Hid (Below w.heap.size w w3) := below_via' (below_via' hb3 HB2.out) HB1.out
  have HSB := hid hsb
  have HBB := hid hbgb
  have HNB : Hid (∀ k t, ob k = some t → w.heap.size ≤ k) := fun k t hk => Nat.le_trans (Nat.le_trans HB1.out.size HB2.out.size) (hnb k t hk)
  obtain ⟨s0, hs0⟩ : ∃ s0 : McA, s0 = ⟨0, [], [⟨0, 0, List.replicate (g.f 0).l.toNat (0, 0), []⟩], List.replicate cap (0, []), []⟩ := ⟨_, rfl⟩
  have HINV : Hid (InvA g s0) := by rw [hs0]; exact hid (inv_begin HPK.out hcap1 hcap2)
  have HISA : Hid (Is ga s0 Ra) := by rw [hs0]; exact hid ⟨(begun_is HBA.out).1, (begun_is HBA.out).2⟩
  have HISB : Hid (Is gb s0 Rb) := by rw [hs0]; exact hid ⟨(begun_is HBB.out).1, (begun_is HBB.out).2⟩
  clear hmb hbgb hsb hb3 hnb hbb pc2 hl2 hs0 HBA HBB HB2 HMA HBG HB1 HP
  go_wp2_with fail
  go_loopw [12, 13] (fun vs vi wr => ∃ (i sum : Nat) (oa' : Own) (Ra' : McR), i ≤ 20 ∧ i ≤ pn ∧ vi = .int .i64 i ∧ vs = .int .i64 sum ∧ sum ≤ i * 400 ∧ stepsA g sum s0 = sum ∧ Is ga (runA g sum s0) Ra' ∧ Two wr oa' ob ma mb ga gb Ra' Rb ∧ (∀ k t, oa' k = some t → w.heap.size ≤ k) ∧ Below w.heap.size w wr) (fun _ vi _ => pn - (intOf vi).toNat)
  case atStart => exact ⟨0, 0, oa, Ra, by omega, Nat.zero_le _, rfl, rfl, Nat.zero_le _, rfl, HISA.out, HTWO.out, HNA.out, HB3.out⟩
  case round =>
    obtain ⟨i, sum, oa', Ra', hi20, hip, rfl, rfl, hsum, hst, his, htwo, hno, hbel⟩ := hrel
    have hpn := HPR.out.1
    by_cases hlt : i < pn ∧ i < 20
    · obtain ⟨hlt1, hlt2⟩ := hlt
      obtain ⟨hpa, hpb, hpcell⟩ := HPR.out.2.1 (by omega)
      have hbd := HPR.out.2.2 i
      have x0 := (hbel.cell (p := ⟨pb, po + i, none⟩) hpb).trans (hpcell i hlt1)
      have hpw : pb < wr.heap.size := Nat.lt_of_lt_of_le hpb hbel.size
      obtain ⟨q400, q401⟩ := pickI_bd400 (PR i)
      obtain ⟨f, hf⟩ := Int.eq_ofNat_of_zero_le q400
      have hf4 : f < 400 := by omega
      have hinv : InvA g (runA g sum s0) := inv_run HPK.out sum HINV.out
      have hsame := runA_same HPK.out HSA.out f hinv
      have hnf := stepsA_le g f (runA g sum s0)
      have hadd := runA_add g sum (stepsA g f (runA g sum s0)) s0
      have hstp := runA_steps g f (runA g sum s0)
      have HRUN : Hid (∀ W, Below wr.heap.size wr W → Calls Tryd.prog 16 #[.pointer (some ⟨ma, 0, none⟩), .int .i64 (f : Int)] W fun e w' => ∃ oa2 R2, e = .returned (.tuple #[.int .i64 (stepsA g f (runA g sum s0) : Int), .int .i64 0]) ∧ Two w' oa2 ob ma mb ga gb R2 Rb ∧ Is ga (runA g (sum + stepsA g f (runA g sum s0)) s0) R2 ∧ (∀ k t, oa2 k = some t → w.heap.size ≤ k) ∧ Below w.heap.size w w') := by
        intro W hW
        have h2 := htwo.later hW
        refine (run_total (HSA.out.pgOk HPK.out) (HSA.out.inv HPK.out hinv) his h2.a f (by omega)).mono ?_
        rintro e w' ⟨oa2, R2, rfl, hm2, his2, ht2⟩
        have hBW := below_via' hW hbel
        refine ⟨oa2, R2, by rw [hsame.2], h2.runA hm2 ht2, ?_, fun k t hk => ?_, hBW.trans (ht2.below hBW.size fun k hk => ?_)⟩
        · rw [hadd.1, hstp.1, ← hsame.1]; exact his2
        · rcases Nat.lt_or_ge k W.heap.size with hl | hl
          · rw [ht2.old k hl] at hk; exact hno k t hk
          · exact Nat.le_trans hBW.size hl
        · cases e : oa' k with
          | none => rfl
          | some t => have := hno k t e; omega
      have HST : Hid (stepsA g (sum + stepsA g f (runA g sum s0)) s0 = sum + stepsA g f (runA g sum s0)) := by
        refine hid ?_
        rw [hadd.2, hst, hstp.2]
      generalize stepsA g f (runA g sum s0) = m at *
      have HBEL := hid hbel
      rw [hpa]
      clear hinv hsame hadd hstp his htwo hno hbel hpcell
      go_wp2_with (first | (go_at_call 17; refine (fuel_any _ _ hbd.1 hbd.2).mono ?_; rintro e w' ⟨he, hw⟩; rw [hf] at he; rw [he, hw]; clear he hw e w') | (go_at_call 16; refine (HRUN.out _ ?_).mono ?_; exact (by repeat (first | exact Below.refl _ _ | refine Below.drew ?_ | refine Below.drewQ ?_ _ | refine Below.alloc ?_ (by first | (simp; done) | (simp; omega)) _)); rintro e w4 ⟨oa2, R2, rfl, htwo2, his2, hno2, hb2⟩; have HT2 := hid htwo2; have HI2 := hid his2; have HN2 := hid hno2; have HB2 := hid hb2; have y0 := (hb2.cell (p := ⟨pb, po + i, none⟩) hpb).trans ((HPR.out.2.1 (by omega)).2.2 i hlt1); clear htwo2 his2 hno2 hb2))
      go_roundw
      case rel => exact ⟨i + 1, sum + m, oa2, R2, by omega, by omega, by go_num, by go_num, by omega, HST.out, HI2.out, HT2.out, HN2.out, HB2.out⟩
      case measure => simp [intOf]; omega
    · have hs8 : sum ≤ 8000 := by omega
      have hinv : InvA g (runA g sum s0) := inv_run HPK.out sum HINV.out
      have hsame := runA_same HPK.out HSB.out sum HINV.out
      have HRB : Hid (∀ W, Below wr.heap.size wr W → Calls Tryd.prog 16 #[.pointer (some ⟨mb, 0, none⟩), .int .i64 (sum : Int)] W fun e w' => ∃ ob2 R2, e = .returned (.tuple #[.int .i64 (sum : Int), .int .i64 0]) ∧ Two w' oa' ob2 ma mb ga gb Ra' R2 ∧ Is gb (runA g sum s0) R2 ∧ Below w.heap.size w w') := by
        intro W hW
        have h2 := (htwo.later hW).flip
        refine (run_total (HSB.out.pgOk HPK.out) (HSB.out.inv HPK.out HINV.out) HISB.out h2.a sum (by omega)).mono ?_
        rintro e w' ⟨ob2, R2, rfl, hm2, his2, ht2⟩
        have hBW := below_via' hW hbel
        refine ⟨ob2, R2, by rw [hsame.2, hst], (h2.runA hm2 ht2).flip, by rw [← hsame.1]; exact his2, hBW.trans (ht2.below hBW.size fun k hk => ?_)⟩
        cases e : ob k with
        | none => rfl
        | some t => have := HNB.out k t e; omega
      have HIA := hid his
      have HINVS := hid hinv
      have HBEL := hid hbel
      clear hinv hsame his htwo hno hbel hst hsum
      generalize runA g sum s0 = s at *
      go_wp2_with fail
      all_goals
        refine (HRB.out _ (Below.refl _ _)).mono ?_
        rintro e w4 ⟨ob2, R2, rfl, htwo4, his4, hb4⟩
        have HB4 := hid hb4
        have each : ∀ mx, (mx = ma ∨ mx = mb) → ∃ (gx : PgR) (ox : Own) (Rx : McR), MachAt w4 ox mx gx Rx ∧ Rx.abs = s ∧ NilOut Rx := fun mx hx => by
          rcases hx with rfl | rfl
          · exact ⟨ga, oa', Ra', htwo4.a, HIA.out.abs, HIA.out.nil⟩
          · exact ⟨gb, ob2, R2, htwo4.b, his4.abs, his4.nil⟩
        have HS : Hid (∀ W mx, (mx = ma ∨ mx = mb) → Below w4.heap.size w4 W → Calls Tryd.prog 18 #[.pointer (some ⟨mx, 0, none⟩)] W fun e w' => e = .returned (.agg #[.int .i64 s.st, .int .i64 (takenA s.obs : Int), .int .i64 (s.dr.length : Int)]) ∧ Below W.heap.size W w') := fun W mx hx hW => by
          obtain ⟨gx, ox, Rx, hm, rfl, _⟩ := each mx hx
          have hl : Rx.abs.obs.length = Rx.obs.length := by simp [McR.abs]
          have hcp := HINVS.out.cap
          have := Status_any (hm.same hW.size fun k hk => hW.block k hk) (by omega) (by omega)
          rw [taken_abs] at this
          exact this
        have HO : Hid (∀ W mx, (mx = ma ∨ mx = mb) → Below w4.heap.size w4 W → Calls Tryd.prog 20 #[.pointer (some ⟨mx, 0, none⟩)] W fun e w' => (∃ a c, e = .returned (.slice a s.out.length c) ∧ IntsAt w' a s.out) ∧ Below W.heap.size W w') := fun W mx hx hW => by
          obtain ⟨gx, ox, Rx, hm, rfl, hnil⟩ := each mx hx
          have ho := HINVS.out.out
          have e : Rx.abs.out = Rx.out := rfl
          rw [e] at ho
          exact (Output_any (hm.same hW.size fun k hk => hW.block k hk) (by omega) hnil).mono fun _ _ h => outPost_ints h
        have HFR : Hid (∀ W mx, (mx = ma ∨ mx = mb) → Below w4.heap.size w4 W → Calls Tryd.prog 21 #[.pointer (some ⟨mx, 0, none⟩)] W fun e w' => (∃ a c, e = .returned (.slice a s.frs.length c)) ∧ Below W.heap.size W w') := fun W mx hx hW => by
          obtain ⟨gx, ox, Rx, hm, rfl, _⟩ := each mx hx
          have hk := HINVS.out.heapOk HPK.out
          have := Frames_any (hm.same hW.size fun k hk => hW.block k hk) hk.frn hk.fr
          have e : Rx.abs.frs.length = Rx.frs.length := by simp [McR.abs]
          rw [e]
          exact this
        have hol : s.out.length ≤ 1000 := by have := HINVS.out.out; omega
        have hfl : s.frs.length ≤ 1000 := by have := HINVS.out.depth; omega
        have htk : takenA s.obs ≤ 1000 := by
          have h1 : takenA s.obs ≤ s.obs.length := List.length_filter_le _ _
          have := HINVS.out.cap; omega
        have hdl : s.dr.length ≤ 1000 := by have := HINVS.out.dr; omega
        clear htwo4 his4 hb4 each HRB
        go_wp2_with fail
        refine (HS.out _ ma (Or.inl rfl) (Below.refl _ _)).mono ?_
        rintro e w5 ⟨rfl, hb5⟩
        have H5 := hid hb5
        have l5 := hb5.size
        clear hb5
        go_wp2_with fail
        refine (HS.out _ mb (Or.inr rfl) (by have hq := H5.out.size; repeat (first | exact H5.out | refine Below.drew ?_ | refine Below.alloc ?_ (by first | omega | (simp; done) | (simp; omega)) _))).mono ?_
        rintro e w6 ⟨rfl, hb6⟩
        have x60 : w6.cell? ⟨w5.heap.size, 0, none⟩ = some (.int .i64 s.st) := (hb6.cell (p := ⟨w5.heap.size, 0, none⟩) (by simp)).trans (by go_simp)
        have x61 : w6.cell? ⟨w5.heap.size, 1, none⟩ = some (.int .i64 (takenA s.obs : Int)) := (hb6.cell (p := ⟨w5.heap.size, 1, none⟩) (by simp)).trans (by go_simp)
        have l6 : w5.heap.size < w6.heap.size := Nat.lt_of_lt_of_le (by simp) hb6.size
        have H6 : Hid (Below w4.heap.size w4 w6) := below_via' hb6 (by have hq := H5.out.size; repeat (first | exact H5.out | refine Below.drew ?_ | refine Below.alloc ?_ (by first | omega | (simp; done) | (simp; omega)) _))
        clear hb6
        go_wp2_with fail
        refine (HO.out _ ma (Or.inl rfl) (by have hq := H6.out.size; repeat (first | exact H6.out | refine Below.drew ?_ | refine Below.alloc ?_ (by first | omega | (simp; done) | (simp; omega)) _))).mono ?_
        rintro e w7 ⟨⟨a7, c7, rfl, hi7⟩, hb7⟩
        have x70 : w7.cell? ⟨w5.heap.size, 0, none⟩ = some (.int .i64 s.st) := (hb7.cell (p := ⟨w5.heap.size, 0, none⟩) (by simp; omega)).trans (by go_simp)
        have x71 : w7.cell? ⟨w5.heap.size, 1, none⟩ = some (.int .i64 (takenA s.obs : Int)) := (hb7.cell (p := ⟨w5.heap.size, 1, none⟩) (by simp; omega)).trans (by go_simp)
        have y70 : w7.cell? ⟨w6.heap.size, 0, none⟩ = some (.int .i64 s.st) := (hb7.cell (p := ⟨w6.heap.size, 0, none⟩) (by simp)).trans (by go_simp)
        have y71 : w7.cell? ⟨w6.heap.size, 1, none⟩ = some (.int .i64 (takenA s.obs : Int)) := (hb7.cell (p := ⟨w6.heap.size, 1, none⟩) (by simp)).trans (by go_simp)
        have l7 : w6.heap.size < w7.heap.size := Nat.lt_of_lt_of_le (by simp) hb7.size
        have H7 : Hid (Below w4.heap.size w4 w7) := below_via' hb7 (by have hq := H6.out.size; repeat (first | exact H6.out | refine Below.drew ?_ | refine Below.alloc ?_ (by first | omega | (simp; done) | (simp; omega)) _))
        have HI7 := hid hi7
        clear hb7 hi7 x60 x61
        go_wp2_with fail
        refine (HO.out _ mb (Or.inr rfl) (by have hq := H7.out.size; repeat (first | exact H7.out | refine Below.drew ?_ | refine Below.alloc ?_ (by first | omega | (simp; done) | (simp; omega)) _))).mono ?_
        rintro e w8 ⟨⟨a8, c8, rfl, hi8⟩, hb8⟩
        have x80 := (hb8.cell (p := ⟨w5.heap.size, 0, none⟩) (by first | omega | (simp; omega))).trans x70
        have x81 := (hb8.cell (p := ⟨w5.heap.size, 1, none⟩) (by first | omega | (simp; omega))).trans x71
        have y80 := (hb8.cell (p := ⟨w6.heap.size, 0, none⟩) (by first | omega | (simp; omega))).trans y70
        have y81 := (hb8.cell (p := ⟨w6.heap.size, 1, none⟩) (by first | omega | (simp; omega))).trans y71
        have l8 : w7.heap.size ≤ w8.heap.size := hb8.size
        have H8 : Hid (Below w4.heap.size w4 w8) := below_via' hb8 (by have hq := H7.out.size; repeat (first | exact H7.out | refine Below.drew ?_ | refine Below.alloc ?_ (by first | omega | (simp; done) | (simp; omega)) _))
        have HI78 := hid (HI7.out.later hb8)
        have HI8 := hid hi8
        clear hi8
        clear hb8 x70 x71 y70 y71
        go_wp2_with fail
        refine (sameInts_any a7 a8 c7 c8 s.out _ hol HI78.out HI8.out).mono ?_
        rintro e w9 ⟨rfl, hb9⟩
        have x90 := (hb9.cell (p := ⟨w5.heap.size, 0, none⟩) (show w5.heap.size < w8.heap.size by omega)).trans x80
        have x91 := (hb9.cell (p := ⟨w5.heap.size, 1, none⟩) (show w5.heap.size < w8.heap.size by omega)).trans x81
        have y90 := (hb9.cell (p := ⟨w6.heap.size, 0, none⟩) (show w6.heap.size < w8.heap.size by omega)).trans y80
        have y91 := (hb9.cell (p := ⟨w6.heap.size, 1, none⟩) (show w6.heap.size < w8.heap.size by omega)).trans y81
        have l9 : w8.heap.size ≤ w9.heap.size := hb9.size
        have H9 : Hid (Below w4.heap.size w4 w9) := below_via' hb9 H8.out
        clear hb9 x80 x81 y80 y81
        go_wp2_with fail
        refine (HFR.out _ ma (Or.inl rfl) (by have hq := H9.out.size; repeat (first | exact H9.out | refine Below.drew ?_ | refine Below.alloc ?_ (by first | omega | (simp; done) | (simp; omega)) _))).mono ?_
        rintro e w10 ⟨⟨a10, c10, rfl⟩, hb10⟩
        have x100 := (hb10.cell (p := ⟨w5.heap.size, 0, none⟩) (by first | omega | (simp; omega))).trans x90
        have x101 := (hb10.cell (p := ⟨w5.heap.size, 1, none⟩) (by first | omega | (simp; omega))).trans x91
        have y100 := (hb10.cell (p := ⟨w6.heap.size, 0, none⟩) (by first | omega | (simp; omega))).trans y90
        have y101 := (hb10.cell (p := ⟨w6.heap.size, 1, none⟩) (by first | omega | (simp; omega))).trans y91
        have l10 : w9.heap.size ≤ w10.heap.size := hb10.size
        have H10 : Hid (Below w4.heap.size w4 w10) := below_via' hb10 (by have hq := H9.out.size; repeat (first | exact H9.out | refine Below.drew ?_ | refine Below.alloc ?_ (by first | omega | (simp; done) | (simp; omega)) _))
        clear hb10 x90 x91 y90 y91
        go_wp2_with fail
        refine (HFR.out _ mb (Or.inr rfl) (by have hq := H10.out.size; repeat (first | exact H10.out | refine Below.drew ?_ | refine Below.alloc ?_ (by first | omega | (simp; done) | (simp; omega)) _))).mono ?_
        rintro e w11 ⟨⟨a11, c11, rfl⟩, hb11⟩
        have x110 := (hb11.cell (p := ⟨w5.heap.size, 0, none⟩) (by first | omega | (simp; omega))).trans x100
        have x111 := (hb11.cell (p := ⟨w5.heap.size, 1, none⟩) (by first | omega | (simp; omega))).trans x101
        have y110 := (hb11.cell (p := ⟨w6.heap.size, 0, none⟩) (by first | omega | (simp; omega))).trans y100
        have y111 := (hb11.cell (p := ⟨w6.heap.size, 1, none⟩) (by first | omega | (simp; omega))).trans y101
        have l11 : w10.heap.size ≤ w11.heap.size := hb11.size
        have H11 : Hid (Below w4.heap.size w4 w11) := below_via' hb11 (by have hq := H10.out.size; repeat (first | exact H10.out | refine Below.drew ?_ | refine Below.alloc ?_ (by first | omega | (simp; done) | (simp; omega)) _))
        clear hb11 x100 x101 y100 y101
        go_wp2_with fail
        go_ret
        exact ⟨rfl, below_via' H11.out HB4.out⟩

end Go.Proofs.YtbkmgoffiigdbaaDoor

namespace Go.Proofs.YtbkmgoffiigdbaaDoor
open Go.ChangeShapes Go.WideShapes Go.ChangeAt Go.RowKit

theorem preadable3 : Tryd.prog.readableRec 3 = true := by kernel_rfl
theorem prow3 : 3 < Tryd.prog.types.size := of_decide_eq_true (by kernel_rfl)

set_option maxRecDepth 100000 in
theorem pcontract (H : Type) (enc : TypeId × Value → H) (W : World) (base : Nat) (args : Array Value) (ds gs : List (DataW H)) (before : List MemPlace)
    (hval : ∀ (j : Nat) t v, Tryd.f5.params[j]? = some t → args[j]? = some v → Value.okWide Tryd.prog W .any base t v)
    (hW : DataW.Whole enc Tryd.prog Tryd.f5.params.toList Rows.pausedSpec.vars false W args.toList ds gs before)
    (hsz : (DataW.weightsEach Tryd.prog (Tryd.f5.params.toList ++ (OpenSpec.ofChange Rows.pausedSpec).bare.plain.varTypes Tryd.prog) (ds ++ gs)).all (· ≤ reachBytes) = true)
    (hL : laidMetH Tryd.prog Rows.pausedRow.laid W) :
    Calls Tryd.prog 5 args W fun e W' => ∃ v, e = .returned v ∧ Rows.pausedSpec.post enc Tryd.prog Tryd.f5 false true false false W args v W' := by
  have hW' := hW
  have hlt := hW.lt
  obtain ⟨p, q, hA0, hV, rfl, hfz, hnd⟩ := hW
  have hA : DataW.TrodAll enc Tryd.prog W 0 (fun _ => true) true Tryd.f5.params.toList args.toList ds p := hA0
  rw [Tryd.params5] at hA hval hsz
  obtain ⟨v0, vs0, d0, ds0, p0, q0, hargs, rfl, rfl, h0, r0⟩ := trodAll_cons hA
  obtain ⟨v1, vs1, d1, ds1, p1, q1, rfl, rfl, rfl, h1, r1⟩ := trodAll_cons r0
  obtain ⟨v2, vs2, d2, ds2, p2, q2, rfl, rfl, rfl, h2, r2⟩ := trodAll_cons r1
  obtain ⟨v3, vs3, d3, ds3, p3, q3, rfl, rfl, rfl, h3, r3⟩ := trodAll_cons r2
  obtain ⟨rfl, rfl, rfl⟩ := trodAll_nil r3
  obtain rfl : args = #[v0, v1, v2, v3] := by cases args; simp_all
  obtain ⟨rfl, rfl⟩ := trodVars_none hV
  clear hA0
  obtain ⟨a', n', c', rfl⟩ := okWide_slice Tryd.underlying31 (hval 0 31 v0 rfl rfl)
  have h1' := h1
  obtain ⟨again, rfl, hd1, hp1⟩ := open_bool Tryd.underlying4 (hval 1 4 v1 rfl rfl) h1
  have h2' := h2
  obtain ⟨room, rfl, hd2, hp2, hwf⟩ := open_int Tryd.underlying3 (hval 2 3 v2 rfl rfl) h2
  obtain ⟨hr1, hr2⟩ := wf_bd hwf
  obtain ⟨pa', pn', pc', rfl⟩ := okWide_slice Tryd.underlying31 (hval 3 31 v3 rfl rfl)
  have h0' := h0
  obtain ⟨fuel, hf⟩ := h0
  have h3' := h3
  obtain ⟨fuel3, hf3⟩ := h3
  obtain ⟨a, n, c, b, o, R, hc, hraw, hnc⟩ := open_raw hf (fun y hm => by
    have hmem : y ∈ DataW.weightsEach Tryd.prog (#[31, 4, 3, 31].toList ++ (OpenSpec.ofChange Rows.pausedSpec).bare.plain.varTypes Tryd.prog) ([d0, d1, d2, d3] ++ []) := by
      simp only [List.cons_append, List.nil_append, DataW.weightsEach, List.mem_append]
      exact Or.inl hm
    have := mall_mem hsz hmem
    simpa [reachBytes] using this)
  obtain ⟨pa, pn, pc, pb, po, PR, hpc, hpraw, hpnc⟩ := open_raw hf3 (fun y hm => by
    have hmem : y ∈ DataW.weightsEach Tryd.prog (#[31, 4, 3, 31].toList ++ (OpenSpec.ofChange Rows.pausedSpec).bare.plain.varTypes Tryd.prog) ([d0, d1, d2, d3] ++ []) := by
      simp only [List.cons_append, List.nil_append, DataW.weightsEach, List.mem_append]
      exact Or.inr (Or.inr (Or.inr (Or.inl hm)))
    have := mall_mem hsz hmem
    simpa [reachBytes] using this)
  obtain ⟨rfl, rfl, rfl⟩ : a' = a ∧ n' = n ∧ c' = c := by simpa [Value.cells] using hc
  obtain ⟨rfl, rfl, rfl⟩ : pa' = pa ∧ pn' = pn ∧ pc' = pc := by simpa [Value.cells] using hpc
  refine (paused_any a' n' c' b o R again room pa' pn' pc' pb po PR W hraw hnc hr1 hr2 hpraw (tab_of_laid hL)).mono fun e W' ⟨he, hb⟩ => ?_
  subst he
  refine ⟨_, rfl, [d0, d1, d2, d3], [], p0 ++ (p1 ++ (p2 ++ (p3 ++ []))) ++ [], [], p0 ++ (p1 ++ (p2 ++ (p3 ++ []))), [], hW', ?_, ?_, rfl, hb.frame _, fun h => by cases h⟩
  · exact trodAll_cons_mk (shut_bool Tryd.underlying4 _) trodAll_mk0
  · exact trodAll_cons_mk (Below.trod mlaidOut mreadable31 mrow31 h0' hb (fun x hx => hlt x (by simp [hx]))) (trodAll_cons_mk (Below.trod mlaidOut mreadable4 mrow4 h1' hb (fun x hx => hlt x (by simp [hx]))) (trodAll_cons_mk (Below.trod mlaidOut preadable3 prow3 h2' hb (fun x hx => hlt x (by simp [hx]))) (trodAll_cons_mk (Below.trod mlaidOut mreadable31 mrow31 h3' hb (fun x hx => hlt x (by simp [hx]))) trodAll_mk0)))

theorem pdoor_met (os : Os) (args : Array Value) : laidMetH Tryd.prog Rows.pausedRow.laid ((World.doorLaid Tryd.prog 42 os).forCall (fun _ _ => 0) ⟨#[], args, []⟩).memory :=
  laidMetH_of_parts3 (fuel := 8) (laidMet_of_run' 8 (by kernel_rfl) (by kernel_rfl)) (by kernel_rfl) (by kernel_rfl)

theorem preads (os : Os) {H : Type} (enc : TypeId × Value → H) : ∃ places, DataW.whole enc Tryd.prog ((World.doorLaid Tryd.prog 42 os).forCall (fun _ _ => 0) ⟨#[], #[.slice none 0 0, .bool false, .int .i64 0, .slice none 0 0], []⟩).memory Tryd.f5.params.toList Rows.pausedSpec.vars false #[Value.slice none 0 0, .bool false, .int .i64 0, .slice none 0 0].toList 8 = some ([.nil, .lit (.bool false), .lit (.int .i64 0), .nil], [], places) :=
  ⟨[], by kernel_rfl⟩

set_option maxRecDepth 100000 in
theorem plifted (os : Os) (started : os.Started) (H : Type) (enc : TypeId × Value → H) (F : Stop.Interp) :
    ReturnsInHanded {} Tryd.checked os 5 .any ((OpenSpec.ofChange Rows.pausedSpec).preRow enc Tryd.prog Tryd.f5 Rows.pausedRow.domain false Rows.pausedRow.laid) (((OpenSpec.ofChange Rows.pausedSpec).at F).post enc Tryd.prog Tryd.f5 false true false false) := by
  obtain ⟨places, hx⟩ := preads os enc
  refine returnsInHanded_of_row (C := Tryd.checked) (s := OpenSpec.ofChange Rows.pausedSpec) mown started (by kernel_rfl) Tryd.func5
    (witness_row_atRef (enc := enc) (C := Tryd.checked) false (World.doorLaid Tryd.prog 42 os) #[.slice none 0 0, .bool false, .int .i64 0, .slice none 0 0] rfl (by kernel_rfl) (by kernel_rfl) (by kernel_rfl)
      (OpenSpec.preRow_of_cond 8 hx (by kernel_rfl) (fun k hk => by cases hk) (by kernel_rfl) (pdoor_met os _))) ?_
  intro W base args ds gs before hval hW _ _ hsz hL _ _
  exact pcontract H enc W base args ds gs before hval hW hsz hL

theorem psaid : Rows.PausedSaid :=
  OpenClaim.holds_of_cond 5 Tryd.f5 rfl rfl rfl rfl rfl rfl rfl ⟨rfl, rfl, rfl, rfl, rfl⟩ rfl rfl rfl rfl rfl (by kernel_rfl) Tryd.func5 (by kernel_rfl)
    (of_decide_eq_true (by kernel_rfl)) (by unfold Func.isWrapper; first | (rw [if_pos (by decide +kernel)]; kernel_rfl) | (rw [if_neg (by decide +kernel)]; exact ⟨rfl, rfl⟩))
    (fun os started H enc _ F => by rw [OpenClaim.pre_eq_preRow]; exact plifted os started H enc F)

theorem pplain (f : FuncId) (fn : Func) (hf : Tryd.pinned.checked.prog.funcNamed "slumber/slumberkeep.Paused" = some f) (hfn : Tryd.pinned.checked.prog.funcs[f]? = some fn) :
    false = Tryd.pinned.checked.prog.looks [] ∧ ∀ (j : Nat) t, fn.params[j]? = some t → Tryd.pinned.checked.prog.wantsStandIn t = false := by
  obtain rfl : f = 5 := Option.some.inj ((show Tryd.prog.funcNamed "slumber/slumberkeep.Paused" = some 5 by kernel_rfl).symm.trans hf) |>.symm
  obtain rfl : fn = Tryd.f5 := (Option.some.inj (Tryd.func5.symm.trans hfn)).symm
  refine ⟨by kernel_rfl, fun j t ht => ?_⟩
  rw [Tryd.params5] at ht
  have hm : t = 31 ∨ t = 4 ∨ t = 3 := by
    have := Array.mem_of_getElem? ht
    simp at this
    rcases this with rfl | rfl | rfl | rfl
    · exact Or.inl rfl
    · exact Or.inr (Or.inl rfl)
    · exact Or.inr (Or.inr rfl)
    · exact Or.inl rfl
  rcases hm with rfl | rfl | rfl
  · exact (show Tryd.prog.wantsStandIn 31 = false by kernel_rfl)
  · exact (show Tryd.prog.wantsStandIn 4 = false by kernel_rfl)
  · exact (show Tryd.prog.wantsStandIn 3 = false by kernel_rfl)

theorem paused_card : Rows.PausedCardSaid :=
  Claim7.holds_tied_plain_at .later [] _ _ _ _ psaid (fun _ h => by cases h) (by kernel_rfl) (fun _ h => by cases h) paused_row_tie rfl ⟨rfl, rfl⟩ (by kernel_rfl) rfl pplain (by kernel_rfl)

end Go.Proofs.YtbkmgoffiigdbaaDoor
