import Derived.Test.YtbkmgoffiigdbaaDoorG
namespace Go.Proofs.YtbkmgoffiigdbaaDoor
open Go.RowKit

def SpreadPost (hb : Nat) (g : PgR) (f : FnR) (H : Nat → Int) (w : World) (e : Ending) (w' : World) : Prop :=
  ∃ fr ok H', e = .returned (.tuple #[.bool fr, .bool ok]) ∧ SpreadSay (flowOf g f) H H' fr ok ∧ But (· = hb) w w' ∧ w'.rowIs hb 3 f.n (fun i => .int .i64 (H' i))
theorem spreadPost {hb : Nat} {g : PgR} {f : FnR} {H : Nat → Int} {w : World} {e : Ending} {w' : World} (fr ok : Bool) (H' : Nat → Int)
    (he : e = .returned (.tuple #[.bool fr, .bool ok])) (hs : SpreadSay (flowOf g f) H H' fr ok) (hw : But (· = hb) w w') (hr : w'.rowIs hb 3 f.n (fun i => .int .i64 (H' i))) : SpreadPost hb g f H w e w' := ⟨fr, ok, H', he, hs, hw, hr⟩

set_option maxRecDepth 100000 in
set_option maxHeartbeats 4000000 in
theorem spread_any (hb : Nat) (g : PgR) (f : FnR) (H : Nat → Int) (w : World) (hB : hb < w.heap.size) (hg : PgIn hb w g) (hf : CodeIn hb w f) (hgood : Good g f)
    (hrow : w.rowIs hb 3 f.n (fun i => .int .i64 (H i))) (hH : ∀ a, a < f.n → -1 ≤ H a ∧ H a ≤ 10 ∧ (0 ≤ H a → (flowOf g f).Reach a (H a))) :
    Calls Tryd.prog 54 #[.agg #[.slice g.a g.n g.c], .agg #[.int .i64 f.p, .int .i64 f.l, .slice f.a f.n f.c], .slice (some ⟨hb, 0, none⟩) f.n f.n] w fun e w' =>
      SpreadPost hb g f H w e w' := by
  have HH := (show Hid _ from hH); clear hH
  have hn1 : 1 ≤ f.n := hgood.1
  have hn60 : f.n ≤ 60 := hgood.2.1
  obtain ⟨ha, hfb, hcode⟩ := hf.2 hn1
  have HCODE := (show Hid _ from hcode); clear hcode
  rw [ha]; clear ha
  have hbut1 : But (· = hb) w ((w.alloc (.cells #[.slice g.a g.n g.c] 24)).alloc (.cells #[.int .i64 f.p, .int .i64 f.l, .slice (some ⟨f.b, f.o, none⟩) f.n f.c] 35)) := ((But.refl _ _).alloc _).alloc _
  have hrow1 : ((w.alloc (.cells #[.slice g.a g.n g.c] 24)).alloc (.cells #[.int .i64 f.p, .int .i64 f.l, .slice (some ⟨f.b, f.o, none⟩) f.n f.c] 35)).rowIs hb 3 f.n (fun i => .int .i64 (H i)) := (hrow.alloc _).alloc _
  have g0 : ((w.alloc (.cells #[.slice g.a g.n g.c] 24)).alloc (.cells #[.int .i64 f.p, .int .i64 f.l, .slice (some ⟨f.b, f.o, none⟩) f.n f.c] 35)).cell? ⟨w.heap.size, 0, none⟩ = some (.slice g.a g.n g.c) := by go_simp
  have f0 : ((w.alloc (.cells #[.slice g.a g.n g.c] 24)).alloc (.cells #[.int .i64 f.p, .int .i64 f.l, .slice (some ⟨f.b, f.o, none⟩) f.n f.c] 35)).cell? ⟨w.heap.size + 1, 0, none⟩ = some (.int .i64 f.p) := by go_simp
  have f1 : ((w.alloc (.cells #[.slice g.a g.n g.c] 24)).alloc (.cells #[.int .i64 f.p, .int .i64 f.l, .slice (some ⟨f.b, f.o, none⟩) f.n f.c] 35)).cell? ⟨w.heap.size + 1, 1, none⟩ = some (.int .i64 f.l) := by go_simp
  have f2 : ((w.alloc (.cells #[.slice g.a g.n g.c] 24)).alloc (.cells #[.int .i64 f.p, .int .i64 f.l, .slice (some ⟨f.b, f.o, none⟩) f.n f.c] 35)).cell? ⟨w.heap.size + 1, 2, none⟩ = some (.slice (some ⟨f.b, f.o, none⟩) f.n f.c) := by go_simp
  have hW1s : ((w.alloc (.cells #[.slice g.a g.n g.c] 24)).alloc (.cells #[.int .i64 f.p, .int .i64 f.l, .slice (some ⟨f.b, f.o, none⟩) f.n f.c] 35)).heap.size = w.heap.size + 2 := by simp
  go_enter Tryd.func54, Tryd.ntmps54
  go_wp2
  generalize ((w.alloc (.cells #[.slice g.a g.n g.c] 24)).alloc (.cells #[.int .i64 f.p, .int .i64 f.l, .slice (some ⟨f.b, f.o, none⟩) f.n f.c] 35)) = W1 at *
  go_loopw [8, 9] (fun v i wr => ∃ (pc : Nat) (H' : Nat → Int) (fr : Bool), pc ≤ f.n ∧ i = .int .i64 pc ∧ v = .bool fr ∧ But (· = hb) W1 wr ∧ wr.rowIs hb 3 f.n (fun i => .int .i64 (H' i)) ∧
      Sp (flowOf g f) H H' (∀ a, a < pc → 0 ≤ H a → (flowOf g f).Shut H a) fr) (fun _ i _ => f.n - (intOf i).toNat)
  case atStart => exact ⟨0, H, false, Nat.zero_le _, rfl, rfl, But.refl _ _, hrow1, HH.out, fun _ _ => rfl, Or.inl ⟨rfl, fun _ => rfl, fun a ha => by omega⟩⟩
  case round =>
    obtain ⟨pc, H', fr, hpc, rfl, rfl, hbut, hrowr, hsp⟩ := hrel
    have hszr : w.heap.size + 2 ≤ wr.heap.size := by have := hbut.size; omega
    have hszr0 : w.heap.size < wr.heap.size := by omega
    have hszr1 : w.heap.size + 1 < wr.heap.size := by omega
    rw [← hbut.cell (by show w.heap.size < _; omega) (by show ¬ w.heap.size = hb; omega)] at g0
    rw [← hbut.cell (by show w.heap.size + 1 < _; omega) (by show ¬ w.heap.size + 1 = hb; omega)] at f0 f1 f2
    by_cases hlt : pc < f.n
    · have hcell := hrowr.cell hlt
      obtain ⟨hl1, hl2, hl3⟩ := hsp.1 pc hlt
      have HL3 := (show Hid _ from hl3); clear hl3
      by_cases hneg : H' pc < 0
      · clear g0 f0 f1
        go_wp2
        go_roundw
        case rel => exact ⟨pc + 1, H', fr, by omega, by go_num, rfl, hbut, hrowr, hsp.imp fun he hq a ha hz => by
            by_cases e : a = pc
            · subst e; rw [he] at hneg; omega
            · exact hq a (by omega) hz⟩
        case measure => simp [intOf]; omega
      · have hbelow : Below hb w wr := (hbut1.trans hbut).below (by omega) (fun k hk => by omega)
        obtain ⟨co, ca⟩ := HCODE.out pc hlt
        rw [← hbelow.cell (p := ⟨f.b, _, none⟩) hfb] at co ca
        have hgr : PgIn hb wr g := hg.below hbelow
        have hleg := hgood.2.2.2 pc hlt
        have HLEG := (show Hid _ from hleg); clear hleg
        have hfbw : f.b < wr.heap.size := by omega
        have hbw : hb < wr.heap.size := by omega
        obtain ⟨q, hq⟩ : ∃ q, q = (flowOf g f).pop pc := ⟨_, rfl⟩
        obtain ⟨hq0, hq8⟩ := hgood.pop_bd hlt
        rw [← hq] at hq0 hq8
        obtain ⟨r, hr⟩ : ∃ r, r = (flowOf g f).push pc := ⟨_, rfl⟩
        obtain ⟨hr0, hr2⟩ := pushD_bd (f.op pc)
        rw [show pushD (f.op pc) = r from hr.symm] at hr0 hr2
        have HP : Hid (∀ W, Below wr.heap.size wr W → Calls Tryd.prog 68 #[.agg #[.slice g.a g.n g.c], .agg #[.int .i64 (f.op pc), .int .i64 (f.ar pc)]] W fun e w' => e = .returned (.int .i64 q) ∧ Below W.heap.size W w') := by
          intro W hW
          rw [hq]
          exact pops_any hb g (f.op pc) (f.ar pc) W (by have := hW.size; omega) (hgr.below (hW.mono (by omega))) (fun ho => legal_call HLEG.out ho)
        have HU : Hid (∀ W, Calls Tryd.prog 69 #[.int .i64 (f.op pc)] W fun e w' => e = .returned (.int .i64 r) ∧ w' = W) := by
          intro W
          rw [hr]
          exact pushes_any _ W
        have HQ := (show Hid _ from hq); clear hq
        have HR := (show Hid _ from hr); clear hr
        go_wp2_with fail
        refine (HP.out _ (by repeat (first | exact Below.refl _ _ | refine Below.setCell ?_ (by first | omega | (simp; done) | (simp; omega)) _ | refine Below.alloc ?_ (by first | omega | (simp; done) | (simp; omega)) _))).mono ?_
        rintro e w2 ⟨rfl, hb2⟩
        have k0 : w2.cell? ⟨hb, pc, none⟩ = some (.int .i64 (H' pc)) := by rw [hb2.cell (by simp; omega)]; go_simp
        have k1 : w2.cell? ⟨wr.heap.size, 0, none⟩ = some (.int .i64 (f.op pc)) := by rw [hb2.cell (by simp)]; go_simp
        have k2 : w2.cell? ⟨wr.heap.size, 1, none⟩ = some (.int .i64 (f.ar pc)) := by rw [hb2.cell (by simp)]; go_simp
        have k3 : w2.cell? ⟨w.heap.size + 1, 2, none⟩ = some (.slice (some ⟨f.b, f.o, none⟩) f.n f.c) := by rw [hb2.cell (by simp; omega)]; go_simp
        have hbut2 : But (· = hb) wr w2 := ((But.refl _ wr).alloc _).trans (But.of_below hb2)
        have hrow2 : w2.rowIs hb 3 f.n (fun i => .int .i64 (H' i)) := (hrowr.alloc _).of_block (hb2.block hb (by simp; omega))
        have hsz2 : wr.heap.size + 1 ≤ w2.heap.size := by have := hb2.size; simpa using this
        clear hb2 g0 f0 f1 f2 co ca hcell HP
        go_wp2_with fail
        go_quiet ((go_at_call 69; exact Calls.quiet_of_same (HU.out _)))
        have hge : 0 ≤ H' pc := by omega
        have hreach := HL3.out hge
        have HREACH := (show Hid _ from hreach); clear hreach
        by_cases hb1 : H' pc < q
        · go_wp2_with fail
          go_ret2
          exact spreadPost fr false H' rfl (Or.inl ⟨rfl, Flow.not_fits_pop HREACH.out (Or.inl (by rw [← HQ.out]; exact hb1))⟩) ((hbut1.trans hbut).trans (hbut2.drewN _)) hrow2
        by_cases hb2 : 10 < H' pc - q + r
        · go_wp2_with fail
          go_ret2
          exact spreadPost fr false H' rfl (Or.inl ⟨rfl, Flow.not_fits_pop HREACH.out (Or.inr (by unfold Flow.behind; rw [← HQ.out, ← HR.out]; exact hb2))⟩) ((hbut1.trans hbut).trans (hbut2.drewN _)) hrow2
        go_wp2_with fail
        refine (next_any pc (f.op pc) (f.ar pc) _ (by omega) (fun ho => (legal_jump HLEG.out ho).1)).mono ?_
        rintro e w4 ⟨v4, rfl, hlist, hb4⟩
        have hbut4 : But (· = hb) wr w4 := (hbut2.drewN nq).trans (But.of_below hb4)
        have hrow4 : w4.rowIs hb 3 f.n (fun i => .int .i64 (H' i)) := hrow2.of_block (hb4.block hb (by show hb < w2.heap.size; omega))
        have k4 : w4.cell? ⟨w.heap.size + 1, 2, none⟩ = some (.slice (some ⟨f.b, f.o, none⟩) f.n f.c) := by rw [hb4.cell (by show w.heap.size + 1 < w2.heap.size; omega)]; exact k3
        have hsz4 : w2.heap.size ≤ w4.heap.size := hb4.size
        clear hb4 k0 k1 k2 k3
        have HBE : Hid ((flowOf g f).behind pc (H' pc) = H' pc - q + r) := by show _ = _; unfold Flow.behind; rw [← HQ.out, ← HR.out]
        generalize hbv : H' pc - q + r = bv at *
        have hbv0 : 0 ≤ bv := by omega
        have hbv10 : bv ≤ 10 := by omega
        clear hbv
        have hnx : (flowOf g f).next pc = nextD pc (f.op pc) (f.ar pc) := rfl
        generalize nextD pc (f.op pc) (f.ar pc) = L at hlist hnx
        have HNX := (show Hid _ from hnx); clear hnx
        rcases hlist with ⟨rfl, rfl⟩ | ⟨lb, rfl, hlb1, hlb2, hlc⟩
        · go_wp2_with fail
          go_loop [8, 14] (fun v i => v = .bool fr ∧ i = .int .i64 0) (fun _ _ => 0)
          case atStart => exact ⟨rfl, rfl⟩
          case round =>
            obtain ⟨rfl, rfl⟩ := hrel
            go_wp2
            go_roundw
            case rel => exact ⟨pc + 1, H', fr, by omega, by go_num, rfl, hbut.trans hbut4, hrow4, hsp.imp fun he hq a ha hz => by
              by_cases e : a = pc
              · subst e
                exact ⟨by rw [← he, ← HQ.out]; omega, by rw [← he, HBE.out]; exact hbv10, fun c hc => by rw [HNX.out] at hc; cases hc⟩
              · exact hq a (by omega) hz⟩
            case measure => simp [intOf]; omega
        · have HLC := (show Hid _ from hlc); clear hlc
          have hLn : L.length ≤ 2 := by rw [← HNX.out]; show (nextD pc (f.op pc) (f.ar pc)).length ≤ 2; unfold nextD; repeat' split
                                        all_goals simp
          go_wp2_with fail
          go_loopw [8, 14] (fun v vi wx => ∃ (i : Nat) (H2 : Nat → Int) (fr2 : Bool), i ≤ L.length ∧ vi = .int .i64 i ∧ v = .bool fr2 ∧ But (· = hb) w4 wx ∧ wx.rowIs hb 3 f.n (fun i => .int .i64 (H2 i)) ∧
              Sp (flowOf g f) H H2 ((∀ a, a < pc → 0 ≤ H a → (flowOf g f).Shut H a) ∧ H' pc = H pc ∧ ∀ j, j < i → L.getD j 0 < f.n ∧ H (L.getD j 0) = bv) fr2) (fun _ vi _ => L.length - (intOf vi).toNat)
          case atStart => exact ⟨0, H', fr, Nat.zero_le _, rfl, rfl, But.refl _ _, hrow4, hsp.imp fun he hq => ⟨hq, he pc, fun j hj => by omega⟩⟩
          case round =>
            obtain ⟨i, H2, fr2, hi, rfl, rfl, hbutx, hrowx, hspx⟩ := hrel
            have hszx := hbutx.size
            have hlbhb : ¬ lb = hb := by have : w2.heap.size ≤ lb := hlb1; omega
            have kx : wr.cell? ⟨w.heap.size + 1, 2, none⟩ = some (.slice (some ⟨f.b, f.o, none⟩) f.n f.c) := by rw [hbutx.cell (by show w.heap.size + 1 < w4.heap.size; omega) (by show ¬ w.heap.size + 1 = hb; omega)]; exact k4
            have hbutw : But (· = hb) w wr := ((hbut1.trans hbut).trans hbut4).trans hbutx
            by_cases hil : i < L.length
            · obtain ⟨c, hc⟩ : ∃ c, c = L.getD i 0 := ⟨_, rfl⟩
              have hcm : c ∈ (flowOf g f).next pc := by rw [HNX.out, hc, List.getD_eq_getElem?_getD, List.getElem?_eq_getElem hil]; exact List.getElem_mem hil
              have HCM := (show Hid _ from hcm); clear hcm
              have kc : wr.cell? ⟨lb, i, none⟩ = some (.int .i64 (c : Nat)) := by rw [hbutx.cell hlb2 hlbhb, HLC.out i hil, hc]
              have HC := (show Hid _ from hc); clear hc
              have hlbx : lb < wr.heap.size := by omega
              have hrc : (flowOf g f).Reach c bv := by rw [← HBE.out]; exact Flow.reach_next HREACH.out HCM.out
              have HRC := (show Hid _ from hrc); clear hrc
              by_cases hcn : c < f.n
              · have kh := hrowx.cell hcn
                have kf := hrowx.frozen c
                obtain ⟨hx1, hx2, hx3⟩ := hspx.1 c hcn
                have HX3 := (show Hid _ from hx3); clear hx3
                by_cases hcneg : H2 c < 0
                · go_wp2_with fail
                  go_quiet (fail)
                  go_wp2_with fail
                  go_roundw
                  case rel => exact ⟨i + 1, fun j => if j = c then bv else H2 j, true, by omega, by go_num, rfl, ((hbutx.drewN _).setCell (p := ⟨hb, c, none⟩) (Or.inl rfl) (.int .i64 bv)), (hrowx.set c (.int .i64 bv)).congr (fun j _ => by by_cases e : j = c <;> simp [e]), hspx.set hcn hcneg hbv0 hbv10 HRC.out⟩
                  case measure => simp [intOf]; omega
                by_cases hceq : (H2 c != bv) = true
                · go_wp2_with fail
                  go_quiet (fail)
                  go_wp2_with fail
                  go_ret2
                  exact spreadPost fr2 false H2 rfl (Or.inl ⟨rfl, Flow.not_fits_two HREACH.out HCM.out (HX3.out (by omega)) (by rw [HBE.out]; simpa using hceq)⟩) (hbutw.drewN _) hrowx
                · go_wp2_with fail
                  go_quiet (fail)
                  go_wp2_with fail
                  go_roundw
                  case rel => exact ⟨i + 1, H2, fr2, by omega, by go_num, rfl, hbutx.drewN _, hrowx, hspx.imp fun he ⟨q1, q2, q3⟩ => ⟨q1, q2, fun j hj => by
                    by_cases e : j = i
                    · subst e; rw [← HC.out]; exact ⟨hcn, by rw [← he]; simpa using hceq⟩
                    · exact q3 j (by omega)⟩⟩
                  case measure => simp [intOf]; omega
              · go_wp2_with fail
                go_quiet (fail)
                go_wp2_with fail
                go_ret2
                exact spreadPost fr2 false H2 rfl (Or.inl ⟨rfl, Flow.not_fits_past HREACH.out HCM.out (by show f.n ≤ c; omega)⟩) (hbutw.drewN _) hrowx
            · go_wp2_with fail
              go_roundw
              case rel => exact ⟨pc + 1, H2, fr2, by omega, by go_num, rfl, (hbut.trans hbut4).trans hbutx, hrowx, hspx.imp fun he ⟨q1, q2, q3⟩ a ha hz => by
                by_cases e : a = pc
                · subst e
                  refine ⟨by rw [← q2, ← HQ.out]; omega, by rw [← q2, HBE.out]; exact hbv10, fun c hc => ?_⟩
                  rw [HNX.out] at hc
                  obtain ⟨j, hj, rfl⟩ := List.getElem_of_mem hc
                  have := q3 j (by omega)
                  rw [List.getD_eq_getElem?_getD, List.getElem?_eq_getElem hj] at this
                  exact ⟨this.1, by rw [← q2, HBE.out]; exact this.2⟩
                · exact q1 a (by omega) hz⟩
              case measure => simp [intOf]; omega
    · clear g0 f0 f1
      go_wp2
      go_ret2
      exact spreadPost fr true H' rfl (Or.inr ⟨rfl, hsp.imp fun _ hq a ha hz => hq a (by have : a < f.n := ha; omega) hz⟩) (hbut1.trans hbut) hrowr

end Go.Proofs.YtbkmgoffiigdbaaDoor
