import Derived.Test.YtbkmgoffiigdbaaDoorVQa
import Derived.Test.YtbkmgoffiigdbaaDoorVM
import Derived.Test.YtbkmgoffiigdbaaDoorVPd
namespace Go.Proofs.YtbkmgoffiigdbaaDoor
open Go.RowKit Go.Sort

/-- The program that is made, and that Check takes it. -/
def MadeProg (w : World) (e : Ending) (w' : World) : Prop :=
  ∃ g : PgR, e = .returned (.agg #[.slice g.a g.n g.c]) ∧ PgIn w'.heap.size w' g ∧ CheckIs g 0 0 ∧ Below w.heap.size w w'

theorem made_prog (a : Option Addr) (n c b o : Nat) (R : Nat → Int) (again : Bool) (w : World) (hr : RawIn w.heap.size w a n b o R) (hc : n ≤ c) :
    Calls Tryd.prog 14 #[.slice a n c, .bool again] w fun e w' => MadeProg w e w' := by
  have hs1 := seg_body R (min (n / 2) 6)
  have hs2 := seg_body (fun i => R (n / 2 + i)) (min (n - n / 2) 6)
  have hl1 := bodyTo_len R (min (n / 2) 6)
  have hl2 := bodyTo_len (fun i => R (n / 2 + i)) (min (n - n / 2) 6)
  refine (program_any a n c b o R again w hr hc).mono ?_
  rintro e w' ⟨pb, b1, c1, sb, b2, c2, he, hP, k1, k2, k3, k4, k5, _, _, k8, k9⟩
  obtain ⟨H1, hS1⟩ := hs1
  obtain ⟨H2, hS2⟩ := hs2
  exact ⟨_, he, hP, made_taken hS1 (by omega) hS2 (by omega) again, k9⟩

set_option maxRecDepth 100000 in
set_option maxHeartbeats 4000000 in
theorem paused_any (a : Option Addr) (n c b o : Nat) (R : Nat → Int) (again : Bool) (room : Int) (pa : Option Addr) (pn pc pb po : Nat) (PR : Nat → Int) (w : World) (hr : RawIn w.heap.size w a n b o R) (hc : n ≤ c) (h1 : -9223372036854775808 ≤ room) (h2 : room ≤ 9223372036854775807) (hpr : RawIn w.heap.size w pa pn pb po PR) (ht : Tab w) :
    Calls Tryd.prog 5 #[.slice a n c, .bool again, .int .i64 room, .slice pa pn pc] w fun e w' => e = .returned (.bool true) ∧ Below w.heap.size w w' := by
  obtain ⟨q0, q1⟩ := pickI_bd40 room
  obtain ⟨cap, hcap⟩ := Int.eq_ofNat_of_zero_le (show 0 ≤ 1 + pickI room 40 by omega)
  have hcap1 : 1 ≤ cap := by omega
  have hcap2 : cap ≤ 40 := by omega
  have HP : Hid (∀ W, Below w.heap.size w W → Calls Tryd.prog 14 #[.slice a n c, .bool again] W fun e w' => MadeProg W e w') := fun W hW => made_prog a n c b o R again W ((hr.below hW).mono hW.size) hc
  have HT := hid ht
  have HPR := hid hpr
  have h0 : 0 < w.heap.size := ht.1
  clear hr hpr ht
  go_enter Tryd.func5, Tryd.ntmps5
  go_wp2_with fail
  refine (HP.out _ (by repeat (first | exact Below.refl _ _ | refine Below.drew ?_ | refine Below.drewQ ?_ _ | refine Below.alloc ?_ (by first | (simp; done) | (simp; omega)) _))).mono ?_
  rintro e w1 ⟨g, rfl, hpg, hck, hb1⟩
  have hB1 : Below w.heap.size w w1 := below_via' hb1 (by repeat (first | exact Below.refl _ _ | refine Below.drew ?_ | refine Below.drewQ ?_ _ | refine Below.alloc ?_ (by first | (simp; done) | (simp; omega)) _))
  have ht1 : Tab w1 := HT.out.held hB1.size (hB1.block 0 h0)
  have HBG : Hid (∀ W, Below w1.heap.size w1 W → Calls Tryd.prog 15 #[.agg #[.slice g.a g.n g.c], .int .i64 room] W fun e w' => BegunPost2 g cap W e w') := fun W hW => begun_any2 g W (hpg.held hW.size fun k hk => hW.block k (hpg.blk_lt hk)) (ht1.held hW.size (hW.block 0 ht1.1)) hck room h1 h2 cap hcap.symm
  have hpk := pgOk_of hck
  have HB1 := hid hB1
  have HPK := hid hpk
  clear hpg hck hb1 hB1 ht1 hpk
  go_wp2_with fail
  refine (HBG.out _ (by repeat (first | exact Below.refl _ _ | refine Below.drew ?_ | refine Below.drewQ ?_ _ | refine Below.alloc ?_ (by first | (simp; done) | (simp; omega)) _))).mono ?_
  rintro e w2 ⟨oa, ma, ga, Ra, rfl, hma, hbga, hsa, hb2, hna, hba⟩
  have pc2 : w2.cell? ⟨w1.heap.size, 0, none⟩ = some (.slice g.a g.n g.c) := (hb2.cell (p := ⟨w1.heap.size, 0, none⟩) (by simp)).trans (by go_simp)
  have hl2 : w1.heap.size < w2.heap.size := Nat.lt_of_lt_of_le (by simp) hb2.size
  have hB2 : Below w1.heap.size w1 w2 := below_via' hb2 (by repeat (first | exact Below.refl _ _ | refine Below.drew ?_ | refine Below.drewQ ?_ _ | refine Below.alloc ?_ (by first | (simp; done) | (simp; omega)) _))
  have HMA := hid hma
  have HBA := hid hbga
  have HSA := hid hsa
  have HB2 := hid hB2
  have HNA : Hid (∀ k t, oa k = some t → w.heap.size ≤ k) := fun k t hk => Nat.le_trans (Nat.le_trans HB1.out.size (by simp)) (hna k t hk)
  clear hma hbga hsa hb2 hna hba hB2
  go_wp2_with fail
  refine (HBG.out _ HB2.out).mono ?_
  rintro e w3 ⟨ob, mb, gb, Rb, rfl, hmb, hbgb, hsb, hb3, hnb, hbb⟩
  have HTWO : Hid (Two w3 oa ob ma mb ga gb Ra Rb) := ⟨HMA.out.same hb3.size fun k hk => hb3.block k hk, hmb, fun k t hk => HMA.out.new (hnb k t hk), fun k hk => HMA.out.new (hbb k hk), fun k hk => by
    cases e : ob k with
    | none => rfl
    | some t => have := hnb k t e; have := HMA.out.pg.blk_lt hk; omega⟩
  have HB3 : Hid (Below w.heap.size w w3) := below_via' (below_via' hb3 HB2.out) HB1.out
  have HSB := hid hsb
  have HBB := hid hbgb
  have HNB : Hid (∀ k t, ob k = some t → w.heap.size ≤ k) := fun k t hk => Nat.le_trans (Nat.le_trans HB1.out.size HB2.out.size) (hnb k t hk)
  obtain ⟨s0, hs0⟩ : ∃ s0 : McA, s0 = ⟨0, [], [⟨0, 0, List.replicate (g.f 0).l.toNat (0, 0), []⟩], List.replicate cap (0, []), []⟩ := ⟨_, rfl⟩
  have HINV : Hid (InvA g s0) := by rw [hs0]; exact hid (inv_begin HPK.out hcap1 hcap2)
  have HISA : Hid (Is ga s0 Ra) := by rw [hs0]; exact hid ⟨(begun_is HBA.out).1, (begun_is HBA.out).2⟩
  have HISB : Hid (Is gb s0 Rb) := by rw [hs0]; exact hid ⟨(begun_is HBB.out).1, (begun_is HBB.out).2⟩
  clear hmb hbgb hsb hb3 hnb hbb pc2 hl2 hs0 HBA HBB HB2 HMA HBG HB1 HP
  go_wp2_with fail
  go_loopw [12, 13] (fun vs vi wr => ∃ (i sum : Nat) (oa' : Own) (Ra' : McR), i ≤ 20 ∧ i ≤ pn ∧ vi = .int .i64 i ∧ vs = .int .i64 sum ∧ sum ≤ i * 400 ∧ stepsA g sum s0 = sum ∧ Is ga (runA g sum s0) Ra' ∧ Two wr oa' ob ma mb ga gb Ra' Rb ∧ (∀ k t, oa' k = some t → w.heap.size ≤ k) ∧ Below w.heap.size w wr) (fun _ vi _ => pn - (intOf vi).toNat)
  case atStart => exact ⟨0, 0, oa, Ra, by omega, Nat.zero_le _, rfl, rfl, Nat.zero_le _, rfl, HISA.out, HTWO.out, HNA.out, HB3.out⟩
  case round =>
    obtain ⟨i, sum, oa', Ra', hi20, hip, rfl, rfl, hsum, hst, his, htwo, hno, hbel⟩ := hrel
    have hpn := HPR.out.1
    by_cases hlt : i < pn ∧ i < 20
    · obtain ⟨hlt1, hlt2⟩ := hlt
      obtain ⟨hpa, hpb, hpcell⟩ := HPR.out.2.1 (by omega)
      have hbd := HPR.out.2.2 i
      have x0 := (hbel.cell (p := ⟨pb, po + i, none⟩) hpb).trans (hpcell i hlt1)
      have hpw : pb < wr.heap.size := Nat.lt_of_lt_of_le hpb hbel.size
      obtain ⟨q400, q401⟩ := pickI_bd400 (PR i)
      obtain ⟨f, hf⟩ := Int.eq_ofNat_of_zero_le q400
      have hf4 : f < 400 := by omega
      have hinv : InvA g (runA g sum s0) := inv_run HPK.out sum HINV.out
      have hsame := runA_same HPK.out HSA.out f hinv
      have hnf := stepsA_le g f (runA g sum s0)
      have hadd := runA_add g sum (stepsA g f (runA g sum s0)) s0
      have hstp := runA_steps g f (runA g sum s0)
      have HRUN : Hid (∀ W, Below wr.heap.size wr W → Calls Tryd.prog 16 #[.pointer (some ⟨ma, 0, none⟩), .int .i64 (f : Int)] W fun e w' => ∃ oa2 R2, e = .returned (.tuple #[.int .i64 (stepsA g f (runA g sum s0) : Int), .int .i64 0]) ∧ Two w' oa2 ob ma mb ga gb R2 Rb ∧ Is ga (runA g (sum + stepsA g f (runA g sum s0)) s0) R2 ∧ (∀ k t, oa2 k = some t → w.heap.size ≤ k) ∧ Below w.heap.size w w') := by
        intro W hW
        have h2 := htwo.later hW
        refine (run_total (HSA.out.pgOk HPK.out) (HSA.out.inv HPK.out hinv) his h2.a f (by omega)).mono ?_
        rintro e w' ⟨oa2, R2, rfl, hm2, his2, ht2⟩
        have hBW := below_via' hW hbel
        refine ⟨oa2, R2, by rw [hsame.2], h2.runA hm2 ht2, ?_, fun k t hk => ?_, hBW.trans (ht2.below hBW.size fun k hk => ?_)⟩
        · rw [hadd.1, hstp.1, ← hsame.1]; exact his2
        · rcases Nat.lt_or_ge k W.heap.size with hl | hl
          · rw [ht2.old k hl] at hk; exact hno k t hk
          · exact Nat.le_trans hBW.size hl
        · cases e : oa' k with
          | none => rfl
          | some t => have := hno k t e; omega
      have HST : Hid (stepsA g (sum + stepsA g f (runA g sum s0)) s0 = sum + stepsA g f (runA g sum s0)) := by
        refine hid ?_
        rw [hadd.2, hst, hstp.2]
      generalize stepsA g f (runA g sum s0) = m at *
      have HBEL := hid hbel
      rw [hpa]
      clear hinv hsame hadd hstp his htwo hno hbel hpcell
      go_wp2_with (first | (go_at_call 17; refine (fuel_any _ _ hbd.1 hbd.2).mono ?_; rintro e w' ⟨he, hw⟩; rw [hf] at he; rw [he, hw]; clear he hw e w') | (go_at_call 16; refine (HRUN.out _ ?_).mono ?_; exact (by repeat (first | exact Below.refl _ _ | refine Below.drew ?_ | refine Below.drewQ ?_ _ | refine Below.alloc ?_ (by first | (simp; done) | (simp; omega)) _)); rintro e w4 ⟨oa2, R2, rfl, htwo2, his2, hno2, hb2⟩; have HT2 := hid htwo2; have HI2 := hid his2; have HN2 := hid hno2; have HB2 := hid hb2; have y0 := (hb2.cell (p := ⟨pb, po + i, none⟩) hpb).trans ((HPR.out.2.1 (by omega)).2.2 i hlt1); clear htwo2 his2 hno2 hb2))
      go_roundw
      case rel => exact ⟨i + 1, sum + m, oa2, R2, by omega, by omega, by go_num, by go_num, by omega, HST.out, HI2.out, HT2.out, HN2.out, HB2.out⟩
      case measure => simp [intOf]; omega
    · have hs8 : sum ≤ 8000 := by omega
      have hinv : InvA g (runA g sum s0) := inv_run HPK.out sum HINV.out
      have hsame := runA_same HPK.out HSB.out sum HINV.out
      have HRB : Hid (∀ W, Below wr.heap.size wr W → Calls Tryd.prog 16 #[.pointer (some ⟨mb, 0, none⟩), .int .i64 (sum : Int)] W fun e w' => ∃ ob2 R2, e = .returned (.tuple #[.int .i64 (sum : Int), .int .i64 0]) ∧ Two w' oa' ob2 ma mb ga gb Ra' R2 ∧ Is gb (runA g sum s0) R2 ∧ Below w.heap.size w w') := by
        intro W hW
        have h2 := (htwo.later hW).flip
        refine (run_total (HSB.out.pgOk HPK.out) (HSB.out.inv HPK.out HINV.out) HISB.out h2.a sum (by omega)).mono ?_
        rintro e w' ⟨ob2, R2, rfl, hm2, his2, ht2⟩
        have hBW := below_via' hW hbel
        refine ⟨ob2, R2, by rw [hsame.2, hst], (h2.runA hm2 ht2).flip, by rw [← hsame.1]; exact his2, hBW.trans (ht2.below hBW.size fun k hk => ?_)⟩
        cases e : ob k with
        | none => rfl
        | some t => have := HNB.out k t e; omega
      have HIA := hid his
      have HINVS := hid hinv
      have HBEL := hid hbel
      clear hinv hsame his htwo hno hbel hst hsum
      generalize runA g sum s0 = s at *
      go_wp2_with fail
      all_goals
        refine (HRB.out _ (Below.refl _ _)).mono ?_
        rintro e w4 ⟨ob2, R2, rfl, htwo4, his4, hb4⟩
        have HB4 := hid hb4
        have each : ∀ mx, (mx = ma ∨ mx = mb) → ∃ (gx : PgR) (ox : Own) (Rx : McR), MachAt w4 ox mx gx Rx ∧ Rx.abs = s ∧ NilOut Rx := fun mx hx => by
          rcases hx with rfl | rfl
          · exact ⟨ga, oa', Ra', htwo4.a, HIA.out.abs, HIA.out.nil⟩
          · exact ⟨gb, ob2, R2, htwo4.b, his4.abs, his4.nil⟩
        have HS : Hid (∀ W mx, (mx = ma ∨ mx = mb) → Below w4.heap.size w4 W → Calls Tryd.prog 18 #[.pointer (some ⟨mx, 0, none⟩)] W fun e w' => e = .returned (.agg #[.int .i64 s.st, .int .i64 (takenA s.obs : Int), .int .i64 (s.dr.length : Int)]) ∧ Below W.heap.size W w') := fun W mx hx hW => by
          obtain ⟨gx, ox, Rx, hm, rfl, _⟩ := each mx hx
          have hl : Rx.abs.obs.length = Rx.obs.length := by simp [McR.abs]
          have hcp := HINVS.out.cap
          have := Status_any (hm.same hW.size fun k hk => hW.block k hk) (by omega) (by omega)
          rw [taken_abs] at this
          exact this
        have HO : Hid (∀ W mx, (mx = ma ∨ mx = mb) → Below w4.heap.size w4 W → Calls Tryd.prog 20 #[.pointer (some ⟨mx, 0, none⟩)] W fun e w' => (∃ a c, e = .returned (.slice a s.out.length c) ∧ IntsAt w' a s.out) ∧ Below W.heap.size W w') := fun W mx hx hW => by
          obtain ⟨gx, ox, Rx, hm, rfl, hnil⟩ := each mx hx
          have ho := HINVS.out.out
          have e : Rx.abs.out = Rx.out := rfl
          rw [e] at ho
          exact (Output_any (hm.same hW.size fun k hk => hW.block k hk) (by omega) hnil).mono fun _ _ h => outPost_ints h
        have HFR : Hid (∀ W mx, (mx = ma ∨ mx = mb) → Below w4.heap.size w4 W → Calls Tryd.prog 21 #[.pointer (some ⟨mx, 0, none⟩)] W fun e w' => (∃ a c, e = .returned (.slice a s.frs.length c)) ∧ Below W.heap.size W w') := fun W mx hx hW => by
          obtain ⟨gx, ox, Rx, hm, rfl, _⟩ := each mx hx
          have hk := HINVS.out.heapOk HPK.out
          have := Frames_any (hm.same hW.size fun k hk => hW.block k hk) hk.frn hk.fr
          have e : Rx.abs.frs.length = Rx.frs.length := by simp [McR.abs]
          rw [e]
          exact this
        have hol : s.out.length ≤ 1000 := by have := HINVS.out.out; omega
        have hfl : s.frs.length ≤ 1000 := by have := HINVS.out.depth; omega
        have htk : takenA s.obs ≤ 1000 := by
          have h1 : takenA s.obs ≤ s.obs.length := List.length_filter_le _ _
          have := HINVS.out.cap; omega
        have hdl : s.dr.length ≤ 1000 := by have := HINVS.out.dr; omega
        clear htwo4 his4 hb4 each HRB
        go_wp2_with fail
        refine (HS.out _ ma (Or.inl rfl) (Below.refl _ _)).mono ?_
        rintro e w5 ⟨rfl, hb5⟩
        have H5 := hid hb5
        have l5 := hb5.size
        clear hb5
        go_wp2_with fail
        refine (HS.out _ mb (Or.inr rfl) (by have hq := H5.out.size; repeat (first | exact H5.out | refine Below.drew ?_ | refine Below.alloc ?_ (by first | omega | (simp; done) | (simp; omega)) _))).mono ?_
        rintro e w6 ⟨rfl, hb6⟩
        have x60 : w6.cell? ⟨w5.heap.size, 0, none⟩ = some (.int .i64 s.st) := (hb6.cell (p := ⟨w5.heap.size, 0, none⟩) (by simp)).trans (by go_simp)
        have x61 : w6.cell? ⟨w5.heap.size, 1, none⟩ = some (.int .i64 (takenA s.obs : Int)) := (hb6.cell (p := ⟨w5.heap.size, 1, none⟩) (by simp)).trans (by go_simp)
        have l6 : w5.heap.size < w6.heap.size := Nat.lt_of_lt_of_le (by simp) hb6.size
        have H6 : Hid (Below w4.heap.size w4 w6) := below_via' hb6 (by have hq := H5.out.size; repeat (first | exact H5.out | refine Below.drew ?_ | refine Below.alloc ?_ (by first | omega | (simp; done) | (simp; omega)) _))
        clear hb6
        go_wp2_with fail
        refine (HO.out _ ma (Or.inl rfl) (by have hq := H6.out.size; repeat (first | exact H6.out | refine Below.drew ?_ | refine Below.alloc ?_ (by first | omega | (simp; done) | (simp; omega)) _))).mono ?_
        rintro e w7 ⟨⟨a7, c7, rfl, hi7⟩, hb7⟩
        have x70 : w7.cell? ⟨w5.heap.size, 0, none⟩ = some (.int .i64 s.st) := (hb7.cell (p := ⟨w5.heap.size, 0, none⟩) (by simp; omega)).trans (by go_simp)
        have x71 : w7.cell? ⟨w5.heap.size, 1, none⟩ = some (.int .i64 (takenA s.obs : Int)) := (hb7.cell (p := ⟨w5.heap.size, 1, none⟩) (by simp; omega)).trans (by go_simp)
        have y70 : w7.cell? ⟨w6.heap.size, 0, none⟩ = some (.int .i64 s.st) := (hb7.cell (p := ⟨w6.heap.size, 0, none⟩) (by simp)).trans (by go_simp)
        have y71 : w7.cell? ⟨w6.heap.size, 1, none⟩ = some (.int .i64 (takenA s.obs : Int)) := (hb7.cell (p := ⟨w6.heap.size, 1, none⟩) (by simp)).trans (by go_simp)
        have l7 : w6.heap.size < w7.heap.size := Nat.lt_of_lt_of_le (by simp) hb7.size
        have H7 : Hid (Below w4.heap.size w4 w7) := below_via' hb7 (by have hq := H6.out.size; repeat (first | exact H6.out | refine Below.drew ?_ | refine Below.alloc ?_ (by first | omega | (simp; done) | (simp; omega)) _))
        have HI7 := hid hi7
        clear hb7 hi7 x60 x61
        go_wp2_with fail
        refine (HO.out _ mb (Or.inr rfl) (by have hq := H7.out.size; repeat (first | exact H7.out | refine Below.drew ?_ | refine Below.alloc ?_ (by first | omega | (simp; done) | (simp; omega)) _))).mono ?_
        rintro e w8 ⟨⟨a8, c8, rfl, hi8⟩, hb8⟩
        have x80 := (hb8.cell (p := ⟨w5.heap.size, 0, none⟩) (by first | omega | (simp; omega))).trans x70
        have x81 := (hb8.cell (p := ⟨w5.heap.size, 1, none⟩) (by first | omega | (simp; omega))).trans x71
        have y80 := (hb8.cell (p := ⟨w6.heap.size, 0, none⟩) (by first | omega | (simp; omega))).trans y70
        have y81 := (hb8.cell (p := ⟨w6.heap.size, 1, none⟩) (by first | omega | (simp; omega))).trans y71
        have l8 : w7.heap.size ≤ w8.heap.size := hb8.size
        have H8 : Hid (Below w4.heap.size w4 w8) := below_via' hb8 (by have hq := H7.out.size; repeat (first | exact H7.out | refine Below.drew ?_ | refine Below.alloc ?_ (by first | omega | (simp; done) | (simp; omega)) _))
        have HI78 := hid (HI7.out.later hb8)
        have HI8 := hid hi8
        clear hi8
        clear hb8 x70 x71 y70 y71
        go_wp2_with fail
        refine (sameInts_any a7 a8 c7 c8 s.out _ hol HI78.out HI8.out).mono ?_
        rintro e w9 ⟨rfl, hb9⟩
        have x90 := (hb9.cell (p := ⟨w5.heap.size, 0, none⟩) (show w5.heap.size < w8.heap.size by omega)).trans x80
        have x91 := (hb9.cell (p := ⟨w5.heap.size, 1, none⟩) (show w5.heap.size < w8.heap.size by omega)).trans x81
        have y90 := (hb9.cell (p := ⟨w6.heap.size, 0, none⟩) (show w6.heap.size < w8.heap.size by omega)).trans y80
        have y91 := (hb9.cell (p := ⟨w6.heap.size, 1, none⟩) (show w6.heap.size < w8.heap.size by omega)).trans y81
        have l9 : w8.heap.size ≤ w9.heap.size := hb9.size
        have H9 : Hid (Below w4.heap.size w4 w9) := below_via' hb9 H8.out
        clear hb9 x80 x81 y80 y81
        go_wp2_with fail
        refine (HFR.out _ ma (Or.inl rfl) (by have hq := H9.out.size; repeat (first | exact H9.out | refine Below.drew ?_ | refine Below.alloc ?_ (by first | omega | (simp; done) | (simp; omega)) _))).mono ?_
        rintro e w10 ⟨⟨a10, c10, rfl⟩, hb10⟩
        have x100 := (hb10.cell (p := ⟨w5.heap.size, 0, none⟩) (by first | omega | (simp; omega))).trans x90
        have x101 := (hb10.cell (p := ⟨w5.heap.size, 1, none⟩) (by first | omega | (simp; omega))).trans x91
        have y100 := (hb10.cell (p := ⟨w6.heap.size, 0, none⟩) (by first | omega | (simp; omega))).trans y90
        have y101 := (hb10.cell (p := ⟨w6.heap.size, 1, none⟩) (by first | omega | (simp; omega))).trans y91
        have l10 : w9.heap.size ≤ w10.heap.size := hb10.size
        have H10 : Hid (Below w4.heap.size w4 w10) := below_via' hb10 (by have hq := H9.out.size; repeat (first | exact H9.out | refine Below.drew ?_ | refine Below.alloc ?_ (by first | omega | (simp; done) | (simp; omega)) _))
        clear hb10 x90 x91 y90 y91
        go_wp2_with fail
        refine (HFR.out _ mb (Or.inr rfl) (by have hq := H10.out.size; repeat (first | exact H10.out | refine Below.drew ?_ | refine Below.alloc ?_ (by first | omega | (simp; done) | (simp; omega)) _))).mono ?_
        rintro e w11 ⟨⟨a11, c11, rfl⟩, hb11⟩
        have x110 := (hb11.cell (p := ⟨w5.heap.size, 0, none⟩) (by first | omega | (simp; omega))).trans x100
        have x111 := (hb11.cell (p := ⟨w5.heap.size, 1, none⟩) (by first | omega | (simp; omega))).trans x101
        have y110 := (hb11.cell (p := ⟨w6.heap.size, 0, none⟩) (by first | omega | (simp; omega))).trans y100
        have y111 := (hb11.cell (p := ⟨w6.heap.size, 1, none⟩) (by first | omega | (simp; omega))).trans y101
        have l11 : w10.heap.size ≤ w11.heap.size := hb11.size
        have H11 : Hid (Below w4.heap.size w4 w11) := below_via' hb11 (by have hq := H10.out.size; repeat (first | exact H10.out | refine Below.drew ?_ | refine Below.alloc ?_ (by first | omega | (simp; done) | (simp; omega)) _))
        clear hb11 x100 x101 y100 y101
        go_wp2_with fail
        go_ret
        exact ⟨rfl, below_via' H11.out HB4.out⟩

end Go.Proofs.YtbkmgoffiigdbaaDoor

namespace Go.Proofs.YtbkmgoffiigdbaaDoor
open Go.RowKit Go.Sort

/-! Draw, Collect. -/

def DrawPost (own : Own) (mb : Nat) (g : PgR) (R : McR) (l : List Int) (w : World) (e : Ending) (w' : World) : Prop :=
  ∃ own' dv, e = .returned (.int .i64 0) ∧ MachAt w' own' mb g { R with dv := dv, dr := R.dr ++ l } ∧ Touched own w own' w'

theorem draws_end {own : Own} {mb : Nat} {g : PgR} {R : McR} {l : List Int} {w W w5 : World} {v : Value} (hm : MachAt w own mb g R) (hB : Below w.heap.size w W) (hgrow : W.grownBy w5 R.dv.ownBlock)
    (hown : w5.ownsRow 0 3 1 v (R.dr.length + l.length) ((R.dr.map fun n => .int .i64 n) ++ l.map fun n => .int .i64 n)) (hat : ∀ gb, v.ownBlock = some gb → R.dv.ownBlock = some gb ∨ gb = W.heap.size) :
    w5.frozen? ⟨mb, 5, none⟩ = false ∧ w5.cell? ⟨mb, 5, none⟩ = some R.dv ∧ mb < w5.heap.size ∧ DrawPost own mb g R l w (.returned (.int .i64 0)) (w5.setCell ⟨mb, 5, none⟩ v) := by
  have hmb : mb < w.heap.size := hm.lt mb _ hm.me
  have hob : ∀ b, R.dv.ownBlock = some b → own b = some .draws := hm.draws.2
  have hnm : R.dv.ownBlock ≠ some mb := fun e => by have := hob mb e; rw [hm.me] at this; cases this
  have hgm : v.ownBlock ≠ some mb := fun e => by
    rcases hat mb e with h1 | h1
    · exact hnm h1
    · have := hB.size; omega
  have hsz : w.heap.size ≤ w5.heap.size := Nat.le_trans hB.size hgrow.size
  have hon : OldOrNew w own v .draws := fun b hb => by
    rcases hat b hb with h1 | h1
    · exact Or.inl (hob b h1)
    · exact Or.inr (by have := hB.size; omega)
  have hblk : ∀ k, k < w.heap.size → own k ≠ some .draws → w5.heap[k]? = w.heap[k]? := fun k hk ho => by
    rw [hgrow.block k (Nat.lt_of_lt_of_le hk hB.size) (fun e => ho (hob k e.symm)), hB.block k hk]
  have hmblk := hblk mb hmb (by rw [hm.me]; simp)
  have hfz : ∀ j, w5.frozen? ⟨mb, j, none⟩ = false := fun j => by rw [World.frozen?_of_block (w := w) (a := ⟨mb, j, none⟩) hmblk]; exact hm.fz j
  have hc5 : w5.cell? ⟨mb, 5, none⟩ = some R.dv := by rw [World.cell?_of_block (w := w) (a := ⟨mb, 5, none⟩) hmblk]; exact hm.c5
  have hmb5 : mb < w5.heap.size := by omega
  have hM : MachAt (w5.setCell ⟨mb, 5, none⟩ v) (own.upd v.ownBlock .draws) mb g { R with dv := v, dr := R.dr ++ l } := by
    refine MachAt.setDraws (v := v) (l := R.dr ++ l) hm (by simpa using hsz) (fun k hk h1 h2 => ?_) (fun j hj => ?_) ?_ (fun j => ?_) ?_ hon
    · rw [heap_setCell_other _ _ _ _ h1]; exact hblk k hk h2
    · rw [← World.cell?_of_block (w := w) (w' := w5) (a := ⟨mb, j, none⟩) hmblk]
      go_simp
    · go_simp
    · have := hfz j
      go_simp
    · have := ownsRow_setCell_other hown (a := ⟨mb, 5, none⟩) hgm v
      simpa using this
  refine ⟨hfz 5, hc5, hmb5, own.upd v.ownBlock .draws, v, rfl, hM, ⟨?_, ?_, ?_, by simpa using hsz, fun k hk hno => ?_, fun k hk => Own.upd_old hon hk⟩⟩
  · exact hgrow.os.trans hB.os
  · exact hgrow.tape.trans hB.tape
  · exact hgrow.output.trans hB.output
  · rw [heap_setCell_other _ _ _ _ (fun e => by rw [e, hm.me] at hno; cases hno)]
    exact hblk k hk (by rw [hno]; simp)

/-- Numbers in memory, at some place. -/
def NumsE (w : World) (a : Option Addr) (l : List Int) : Prop := 0 < l.length → ∃ b o, a = some ⟨b, o, none⟩ ∧ b < w.heap.size ∧ ∀ (i : Nat) (x : Int), l[i]? = some x → w.cell? ⟨b, o + i, none⟩ = some (.int .i64 x)

set_option maxRecDepth 100000 in
set_option maxHeartbeats 2000000 in
theorem addDraws_any {own : Own} {mb : Nat} {g : PgR} {R : McR} {w : World} (h : MachAt w own mb g R) (a : Option Addr) (c : Nat) (l : List Int) (hl : NumsE w a l) (hn : R.dr.length + l.length ≤ 200) :
    Calls Tryd.prog 46 #[.pointer (some ⟨mb, 4, none⟩), .slice a l.length c] w fun e w' => DrawPost own mb g R l w e w' := by
  have c5 := h.c5
  have hmb : mb < w.heap.size := h.lt mb _ h.me
  have hlen : ∃ va' cc, R.dv = .slice va' R.dr.length cc := by
    rcases h.draws.1.2 with ⟨e, e0⟩ | ⟨gb, cap, _, e, _⟩
    · exact ⟨none, 0, by rw [e, e0]⟩
    · exact ⟨_, _, e⟩
  obtain ⟨va', cc, hdv⟩ := hlen
  have HO := hid h.draws.1
  rw [hdv] at c5
  have HDV := hid hdv
  have HH := hid h
  have HNEWS : Hid (∀ W, Below w.heap.size w W → 0 < l.length → ∃ d, a = some d ∧ ∀ j u, (l.map fun n => Value.int .i64 n)[j]? = some u → W.cell? (d.add j) = some u) := fun W hW h0 => by
    obtain ⟨b, o, h1, h2, h3⟩ := hl h0
    refine ⟨_, h1, fun j u hu => ?_⟩
    rw [List.getElem?_map] at hu
    obtain ⟨x, hx, rfl⟩ := Option.map_eq_some_iff.1 hu
    have := (hW.cell (p := ⟨b, o + j, none⟩) h2).trans (h3 j x hx)
    cases j with
    | zero => simpa [Addr.add] using this
    | succ j => simpa [Addr.add] using this
  have hn' : ¬ (200 : Int) < (R.dr.length : Int) + (l.length : Int) := by omega
  have hwr : IntKind.i64.wrap ((R.dr.length : Int) + (l.length : Int)) = (R.dr.length : Int) + (l.length : Int) := Go.IntWalk.i64_in _ (by omega)
  clear h hdv hl
  obtain ⟨i3, hi, hz, hsz, hby⟩ := info_parts info3
  have HI := hid hi
  have HZ := hid hz
  have HSZ := hid hsz
  have HBY := hid hby
  clear hi hz hsz hby
  go_enter Tryd.func46, Tryd.ntmps46
  go_wp2_with (at_builtin; go_must (refine wpList_append_any _ rfl (.tmp 18) (.tmp 19) 31 rfl 0 3 i3 _ 1 8 Tryd.underlying31 HI.out HZ.out HSZ.out HBY.out rfl (by decide) R.dv R.dr.length (R.dr.map fun n => .int .i64 n) (by rw [HDV.out]; rfl) HO.out a l.length c (l.map fun n => .int .i64 n) rfl (by simp) (HNEWS.out _ (Below.refl _ _)) (by intro u hu; obtain ⟨n, _, rfl⟩ := List.mem_map.1 hu; rfl) (by unfold maxLen; omega) (by omega) (Nat.zero_le _) ?_))
  intro v' w5 hown5 hgrow5 hat5
  obtain ⟨y0, y1, y2, hP⟩ := draws_end HH.out (Below.refl _ _) hgrow5 hown5 hat5
  have HP := hid hP
  rw [HDV.out] at y1
  obtain ⟨va5, cc5, hv5⟩ : ∃ va5 cc5, v' = .slice va5 (R.dr.length + l.length) cc5 := by
    rcases hown5.2 with ⟨e, e0⟩ | ⟨gb, cap, _, e, _⟩
    · exact ⟨none, 0, by rw [e, e0]⟩
    · exact ⟨_, _, e⟩
  subst hv5
  clear hown5 hgrow5 hat5 hP
  go_wp2_with fail
  go_ret
  exact HP.out

set_option maxHeartbeats 1000000 in
theorem Draw_any {own : Own} {mb : Nat} {g : PgR} {R : McR} {w : World} (h : MachAt w own mb g R) (a : Option Addr) (c : Nat) (l : List Int) (hl : NumsE w a l) (hn : R.dr.length + l.length ≤ 200) :
    Calls Tryd.prog 27 #[.pointer (some ⟨mb, 0, none⟩), .slice a l.length c] w fun e w' => DrawPost own mb g R l w e w' := by
  have HA := hid (addDraws_any h a c l hl hn)
  have hmb : mb < w.heap.size := h.lt mb _ h.me
  clear h hl
  go_enter Tryd.func27, Tryd.ntmps27
  go_wp2_with (go_at_call 46; refine HA.out.mono ?_; rintro e w2 ⟨own', dv, rfl, hm, ht⟩)
  go_ret
  exact ⟨own', dv, rfl, hm, ht⟩

set_option maxHeartbeats 1000000 in
theorem Collect_any {own : Own} {mb : Nat} {g : PgR} {R : McR} {w : World} (h : MachAt w own mb g R) (ho : HeapOk R) (hal : (aliveA R.abs).length ≤ 1000) :
    Calls Tryd.prog 28 #[.pointer (some ⟨mb, 0, none⟩)] w fun e w' => CollectPost own mb g R w e w' := by
  have HA := hid (collect_any h ho hal)
  have hmb : mb < w.heap.size := h.lt mb _ h.me
  clear h
  go_enter Tryd.func28, Tryd.ntmps28
  go_wp2_with (go_at_call 47; refine HA.out.mono ?_; rintro e w2 ⟨rfl, hm, ht⟩)
  go_ret
  exact ⟨rfl, hm, ht⟩

end Go.Proofs.YtbkmgoffiigdbaaDoor

namespace Go.Proofs.YtbkmgoffiigdbaaDoor
open Go.RowKit Go.Sort

/-! What Tidy calls. -/

/-- A list of numbers in memory. -/
def RawL (B : Nat) (w : World) (a : Option Addr) (n b o : Nat) (R : Nat → Int) : Prop :=
  n ≤ 1152921504606846976 ∧ (0 < n → a = some ⟨b, o, none⟩ ∧ b < B ∧ ∀ i, i < n → w.cell? ⟨b, o + i, none⟩ = some (.int .i64 (R i)))

set_option maxHeartbeats 1000000 in
theorem some200_few (a : Option Addr) (n c : Nat) (w : World) (h : ¬ 200 < n) : Calls Tryd.prog 25 #[.slice a n c, .int .i64 200] w fun e w' => e = .returned (.slice a n c) ∧ w' = w := by
  have h' : ¬ (200 : Int) < (n : Int) := by omega
  go_enter Tryd.func25, Tryd.ntmps25
  go_wp2
  go_ret
  exact ⟨rfl, rfl⟩

set_option maxHeartbeats 1000000 in
theorem some200_many (b o n c : Nat) (w : World) (h : 200 < n) (hc : n ≤ c) : Calls Tryd.prog 25 #[.slice (some ⟨b, o, none⟩) n c, .int .i64 200] w fun e w' => e = .returned (.slice (some ⟨b, o, none⟩) 200 c) ∧ w' = w := by
  have h' : (200 : Int) < (n : Int) := by omega
  have h6 : 200 ≤ c := by omega
  go_enter Tryd.func25, Tryd.ntmps25
  go_wp2
  go_ret
  exact ⟨rfl, rfl⟩

/-- The first two hundred numbers. -/
theorem some200_any {B : Nat} {w : World} {a : Option Addr} {n c b o : Nat} {R : Nat → Int} (hr : RawL B w a n b o R) (hB : B ≤ w.heap.size) (hc : n ≤ c) :
    ∃ l : List Int, l.length = min n 200 ∧ NumsE w a l ∧ ∀ W, Calls Tryd.prog 25 #[.slice a n c, .int .i64 200] W fun e w' => e = .returned (.slice a l.length c) ∧ w' = W := by
  refine ⟨(List.range (min n 200)).map R, by simp, fun h0 => ?_, fun W => ?_⟩
  · have h0' : 0 < n := by simp at h0; omega
    obtain ⟨h1, h2, h3⟩ := hr.2 h0'
    refine ⟨b, o, h1, by omega, fun i x hx => ?_⟩
    have hi := (List.getElem?_eq_some_iff.1 hx).1
    simp at hi
    rw [List.getElem?_map, List.getElem?_range (by omega)] at hx
    cases hx
    exact h3 i (by omega)
  · rw [List.length_map, List.length_range]
    by_cases h : 200 < n
    · obtain ⟨rfl, _⟩ := hr.2 (by omega)
      rw [show min n 200 = 200 by omega]
      exact some200_many b o n c W h hc
    · rw [show min n 200 = n by omega]
      exact some200_few a n c W h

/-- Draws more, as the plain machine has it. -/
theorem Draw_is {own : Own} {mb : Nat} {g : PgR} {R : McR} {s : McA} {w : World} (h : MachAt w own mb g R) (his : Is g s R) (a : Option Addr) (c : Nat) (l : List Int) (hl : NumsE w a l) (hn : s.dr.length + l.length ≤ 200) :
    Calls Tryd.prog 27 #[.pointer (some ⟨mb, 0, none⟩), .slice a l.length c] w fun e w' => ∃ own' R', e = .returned (.int .i64 0) ∧ MachAt w' own' mb g R' ∧ Is g { s with dr := s.dr ++ l } R' ∧ Touched own w own' w' := by
  obtain ⟨rfl, hq⟩ := his
  refine (Draw_any h a c l hl hn).mono ?_
  rintro e w' ⟨own', dv, he, hm, ht⟩
  exact ⟨own', _, he, hm, ⟨rfl, hq⟩, ht⟩

theorem Collect_is {own : Own} {mb : Nat} {g : PgR} {R : McR} {s : McA} {w : World} (hp : PgOk g) (h : MachAt w own mb g R) (his : Is g s R) (hi : InvA g s) :
    Calls Tryd.prog 28 #[.pointer (some ⟨mb, 0, none⟩)] w fun e w' => ∃ (R' : McR), e = .returned (.int .i64 ((takenA s.obs : Int) - (takenA (collectA s).obs : Int))) ∧ MachAt w' own mb g R' ∧ Is g (collectA s) R' ∧ Touched own w own w' := by
  obtain ⟨rfl, hq⟩ := his
  refine (Collect_any h (hi.heapOk hp) hi.alive_len).mono ?_
  rintro e w' ⟨he, hm, ht⟩
  have e1 : taken R.obs = takenA R.abs.obs := taken_abs R.obs
  have e2 : taken (sweepR R.obs (aliveA R.abs)) = takenA (collectA R.abs).obs := by
    rw [← swept_abs R]
    exact taken_abs (swept R).obs
  rw [e1, e2] at he
  exact ⟨swept R, he, hm, ⟨swept_abs R, hq⟩, ht.touched⟩

end Go.Proofs.YtbkmgoffiigdbaaDoor

namespace Go.Proofs.YtbkmgoffiigdbaaDoor
open Go.RowKit Go.Sort

/-! A machine that stands, and what is asked of it, in one piece. -/

structure HM (w0 w : World) (own : Own) (ma : Nat) (g : PgR) (R : McR) (s : McA) : Prop where
  m : MachAt w own ma g R
  is : Is g s R
  inv : InvA g s
  no : ∀ k t, own k = some t → w0.heap.size ≤ k
  bel : Below w0.heap.size w0 w

theorem HM.later {w0 w W : World} {own : Own} {ma : Nat} {g : PgR} {R : McR} {s : McA} (h : HM w0 w own ma g R s) (hB : Below w.heap.size w W) : HM w0 W own ma g R s :=
  ⟨h.m.same hB.size fun k hk => hB.block k hk, h.is, h.inv, h.no, below_via' hB h.bel⟩

theorem HM.touched {w0 w w' : World} {own own' : Own} {ma : Nat} {g : PgR} {R R' : McR} {s s' : McA} (h : HM w0 w own ma g R s) (hm : MachAt w' own' ma g R') (his : Is g s' R') (hi : InvA g s') (ht : Touched own w own' w') : HM w0 w' own' ma g R' s' := by
  refine ⟨hm, his, hi, fun k t hk => ?_, h.bel.trans (ht.below h.bel.size fun k hk => ?_)⟩
  · rcases Nat.lt_or_ge k w.heap.size with hl | hl
    · rw [ht.old k hl] at hk; exact h.no k t hk
    · exact Nat.le_trans h.bel.size hl
  · cases e : own k with
    | none => rfl
    | some t => have := h.no k t e; omega

/-- What is left alone: what lay there and is not the machine's. -/
def Spared (own : Own) (w w' : World) : Prop := w.heap.size ≤ w'.heap.size ∧ ∀ k, k < w.heap.size → own k = none → w'.heap[k]? = w.heap[k]?

theorem HM.run {w0 w : World} {own : Own} {ma : Nat} {g : PgR} {R : McR} {s : McA} (h : HM w0 w own ma g R s) (hp : PgOk g) (f : Nat) (hf : f ≤ 10000) :
    Calls Tryd.prog 16 #[.pointer (some ⟨ma, 0, none⟩), .int .i64 (f : Int)] w fun e w' => e = .returned (.tuple #[.int .i64 (stepsA g f s : Int), .int .i64 0]) ∧ (∃ own' R', HM w0 w' own' ma g R' (runA g f s)) ∧ Spared own w w' := by
  refine (run_total hp h.inv h.is h.m f hf).mono ?_
  rintro e w' ⟨own', R', rfl, hm, his, ht⟩
  exact ⟨rfl, ⟨own', R', h.touched hm his (inv_run hp f h.inv) ht⟩, ht.size, ht.block⟩

theorem HM.status {w0 w : World} {own : Own} {ma : Nat} {g : PgR} {R : McR} {s : McA} (h : HM w0 w own ma g R s) :
    Calls Tryd.prog 18 #[.pointer (some ⟨ma, 0, none⟩)] w fun e w' => e = .returned (.agg #[.int .i64 s.st, .int .i64 (takenA s.obs : Int), .int .i64 (s.dr.length : Int)]) ∧ Below w.heap.size w w' := by
  obtain ⟨rfl, _⟩ := h.is
  have hl : R.abs.obs.length = R.obs.length := by simp [McR.abs]
  have hcp := h.inv.cap
  have := Status_any h.m (by omega) (by omega)
  rw [taken_abs] at this
  exact this

theorem HM.output {w0 w : World} {own : Own} {ma : Nat} {g : PgR} {R : McR} {s : McA} (h : HM w0 w own ma g R s) :
    Calls Tryd.prog 20 #[.pointer (some ⟨ma, 0, none⟩)] w fun e w' => (∃ a c, e = .returned (.slice a s.out.length c) ∧ IntsAt w' a s.out) ∧ Below w.heap.size w w' := by
  obtain ⟨rfl, hnil⟩ := h.is
  have ho := h.inv.out
  have e : R.abs.out = R.out := rfl
  rw [e] at ho
  exact (Output_any h.m (by omega) hnil).mono fun _ _ h => outPost_ints h

theorem HM.collect {w0 w : World} {own : Own} {ma : Nat} {g : PgR} {R : McR} {s : McA} (h : HM w0 w own ma g R s) (hp : PgOk g) :
    Calls Tryd.prog 28 #[.pointer (some ⟨ma, 0, none⟩)] w fun e w' => e = .returned (.int .i64 ((takenA s.obs : Int) - (takenA (collectA s).obs : Int))) ∧ (∃ R', HM w0 w' own ma g R' (collectA s)) ∧ Spared own w w' := by
  refine (Collect_is hp h.m h.is h.inv).mono ?_
  rintro e w' ⟨R', rfl, hm, his, ht⟩
  exact ⟨rfl, ⟨R', h.touched hm his (inv_collect h.inv) ht⟩, ht.size, ht.block⟩

theorem HM.draw {w0 w : World} {own : Own} {ma : Nat} {g : PgR} {R : McR} {s : McA} (h : HM w0 w own ma g R s) (a : Option Addr) (c : Nat) (l : List Int) (hl : NumsE w a l) (hn : s.dr.length + l.length ≤ 200) :
    Calls Tryd.prog 27 #[.pointer (some ⟨ma, 0, none⟩), .slice a l.length c] w fun e w' => e = .returned (.int .i64 0) ∧ ∃ own' R', HM w0 w' own' ma g R' { s with dr := s.dr ++ l } := by
  refine (Draw_is h.m h.is a c l hl hn).mono ?_
  rintro e w' ⟨own', R', rfl, hm, his, ht⟩
  have hi := h.inv
  exact ⟨rfl, own', R', h.touched hm his ⟨hi.run, hi.frs, hi.depth, hi.vals, hi.obs, hi.cap, hi.out, by simpa using hn⟩ ht⟩

theorem NumsE.later {w W : World} {a : Option Addr} {l : List Int} (h : NumsE w a l) (hB : Below w.heap.size w W) : NumsE W a l := fun h0 => by
  obtain ⟨b, o, e, hb, hc⟩ := h h0
  exact ⟨b, o, e, Nat.lt_of_lt_of_le hb hB.size, fun i x hx => (hB.cell (p := ⟨b, o + i, none⟩) hb).trans (hc i x hx)⟩

theorem Spared.cell {own : Own} {w w' : World} (h : Spared own w w') {b i : Nat} {v : Value} (hb : b < w.heap.size) (ho : own b = none) (hc : w.cell? ⟨b, i, none⟩ = some v) : w'.cell? ⟨b, i, none⟩ = some v := by
  rw [World.cell?_of_block (w := w) (a := ⟨b, i, none⟩) (h.2 b hb ho)]; exact hc

theorem Is.of_begun {g g' : PgR} {cap : Nat} {R : McR} (hb : Begun g cap R) (l : Nat) (hl : (g.f 0).l = l) : Is g' ⟨0, [], [⟨0, 0, List.replicate l (0, 0), []⟩], List.replicate cap (0, []), []⟩ R := by
  have := begun_is hb
  rw [hl, Int.toNat_natCast] at this
  exact ⟨this.1, this.2⟩

theorem inv_of_begun {g : PgR} (hp : PgOk g) {cap : Nat} (h1 : 1 ≤ cap) (h40 : cap ≤ 40) (l : Nat) (hl : (g.f 0).l = l) : InvA g ⟨0, [], [⟨0, 0, List.replicate l (0, 0), []⟩], List.replicate cap (0, []), []⟩ := by
  have := inv_begin hp h1 h40
  rw [hl, Int.toNat_natCast] at this
  exact this

end Go.Proofs.YtbkmgoffiigdbaaDoor
