import Derived.Test.YtbkmgoffiigdbabDoorWQb
import Derived.Test.YtbkmgoffiigdbabDoorWH
namespace Go.Proofs.YtbkmgoffiigdbabDoor
open Go.RowKit Go.Sort

set_option maxHeartbeats 1000000 in
theorem tpick40_any (c : Int) (w : World) (h1 : -9223372036854775808 ≤ c) (h2 : c ≤ 9223372036854775807) :
    Calls Tryd.prog 13 #[.int .i64 c, .int .i64 40] w fun e w' => e = .returned (.int .i64 (pickI c 40)) ∧ w' = w := by
  by_cases hc : c < 0
  · go_enter Tryd.func13, Tryd.ntmps13
    go_wp2
    go_ret
    refine ⟨ret_i64 ?_, rfl⟩
    show -(c + 1).tmod 40 = pickI c 40
    unfold pickI
    rw [if_pos hc, ← Int.neg_tmod]
    exact Int.tmod_eq_emod_of_nonneg (by omega)
  · go_enter Tryd.func13, Tryd.ntmps13
    go_wp2
    go_ret
    refine ⟨ret_i64 ?_, rfl⟩
    show c % 40 = pickI c 40
    unfold pickI
    rw [if_neg (by omega)]

theorem HM.obs_fl {w0 w : World} {own : Own} {ma : Nat} {g : PgR} {R : McR} {s : McA} (h : HM w0 w own ma g R s) : R.obs.map ObR.abs = s.obs ∧ R.obs.length = s.obs.length ∧ ∀ o, o ∈ R.obs → o.fl.length ≤ 1000 := by
  obtain ⟨rfl, _⟩ := h.is
  refine ⟨rfl, by simp [McR.abs], fun o ho => ?_⟩
  have : OOk R.abs.obs o.abs := h.inv.obs o.abs (List.mem_map.2 ⟨o, ho, rfl⟩)
  rcases this with ⟨_, e⟩ | ⟨_, e, _⟩ | ⟨_, e, _⟩ | ⟨_, u, e, _⟩
  · have : o.fl = [] := e
    rw [this]; simp
  · have : o.fl.length ≤ 8 := e
    omega
  · have : o.fl.length ≤ 12 := e
    omega
  · have : o.fl = [u] := e
    rw [this]; simp

set_option maxHeartbeats 1000000 in
theorem HM.heap {w0 w : World} {own : Own} {ma : Nat} {g : PgR} {R : McR} {s : McA} (h : HM w0 w own ma g R s) :
    Calls Tryd.prog 10 #[.pointer (some ⟨ma, 0, none⟩)] w fun e w' => SlotsPost s.obs w e w' := by
  obtain ⟨e1, e2, e3⟩ := h.obs_fl
  have hcp := h.inv.cap
  have HC : Hid (Calls Tryd.prog 25 #[.pointer (some ⟨ma, 4, none⟩)] w fun e w' => SlotsPost s.obs w e w') := by
    have := copySlots_any h.m (by omega) (by omega) e3
    rw [e1] at this
    exact hid this
  have hmb : ma < w.heap.size := h.m.lt ma _ h.m.me
  clear h e1 e2 e3 hcp
  go_enter Tryd.func10, Tryd.ntmps10
  go_wp2_with (go_at_call 25; refine HC.out.mono ?_; rintro e w2 ⟨⟨a, c, rfl, ho⟩, hb⟩)
  go_ret
  exact ⟨⟨a, c, rfl, ho⟩, hb⟩

set_option maxHeartbeats 1000000 in
theorem HM.frames {w0 w : World} {own : Own} {ma : Nat} {g : PgR} {R : McR} {s : McA} (h : HM w0 w own ma g R s) (hp : PgOk g) :
    Calls Tryd.prog 16 #[.pointer (some ⟨ma, 0, none⟩)] w fun e w' => FrsPost s.frs w e w' := by
  obtain ⟨e0, _⟩ := h.is
  have hk : HeapOk R := by
    have := h.inv
    rw [← e0] at this
    exact this.heapOk hp
  have HC : Hid (Calls Tryd.prog 27 #[.pointer (some ⟨ma, 3, none⟩)] w fun e w' => FrsPost s.frs w e w') := by
    have := copyFrames_full h.m hk.frn hk.fr
    rw [show R.frs.map FrR.abs = s.frs by rw [← e0]; rfl] at this
    exact hid this
  have hmb : ma < w.heap.size := h.m.lt ma _ h.m.me
  clear h e0 hk
  go_enter Tryd.func16, Tryd.ntmps16
  go_wp2_with (go_at_call 27; refine HC.out.mono ?_; rintro e w2 ⟨⟨a, c, rfl, ho⟩, hb⟩)
  go_ret
  exact ⟨⟨a, c, rfl, ho⟩, hb⟩

theorem InvA.frs_len {g : PgR} (hp : PgOk g) {w0 w : World} {own : Own} {ma : Nat} {R : McR} {s : McA} (h : HM w0 w own ma g R s) : ∀ f, f ∈ s.frs → f.loc.length ≤ 1000 ∧ f.stk.length ≤ 1000 := by
  obtain ⟨e0, _⟩ := h.is
  have hk : HeapOk R := by
    have := h.inv
    rw [← e0] at this
    exact this.heapOk hp
  intro f hf
  rw [← e0] at hf
  obtain ⟨r, hr, rfl⟩ := List.mem_map.1 hf
  exact hk.fr r hr

/-- How many are alive, by the law's own walk. -/
theorem values_ok {g : PgR} {s : McA} (h : InvA g s) : ∀ u, u ∈ valuesA s.frs → VOk s.obs u := fun u hu => by
  obtain ⟨f, hf, hv⟩ := mem_valuesA.1 hu
  exact h.vals f hf u hv

theorem HM.aside {w0 w : World} {own : Own} {ma : Nat} {g : PgR} {R : McR} {s : McA} (h : HM w0 w own ma g R s) {k i : Nat} {v : Value} (ho : own k = none) (hb : ¬ g.blk k) (h0 : k ≠ 0) (hw : w0.heap.size ≤ k) : HM w0 (w.setCell ⟨k, i, none⟩ v) own ma g R s :=
  ⟨h.m.beside (by simp) fun j _ hj => heap_setCell_other _ _ _ _ (by
    rintro rfl
    rcases hj with hj | hj | hj
    · exact hj ho
    · exact hb hj
    · exact h0 hj), h.is, h.inv, h.no, Below.setCell h.bel (p := ⟨k, i, none⟩) hw v⟩

theorem ValsIn.aside {W : World} {a : Option Addr} {l : List Val} {k i : Nat} {st : Int} {v : Value} (h : ValsIn W W.heap.size a l) (hk : W.cell? ⟨k, 0, none⟩ = some (.int .i64 st)) : ValsIn (W.setCell ⟨k, i, none⟩ v) (W.setCell ⟨k, i, none⟩ v).heap.size a l := fun h0 => by
  obtain ⟨b, e, hb, hc⟩ := h h0
  obtain ⟨x, hx⟩ : ∃ x, l[0]? = some x := ⟨_, List.getElem?_eq_getElem h0⟩
  have hbk : k ≠ b := by
    rintro rfl
    have := (hc 0 x hx).1
    rw [show 0 * 2 = 0 by omega, hk] at this
    cases this
  refine ⟨b, e, by simpa using hb, fun j y hy => ?_⟩
  rw [World.cell?_setCell_far _ ⟨k, i, none⟩ ⟨b, _, none⟩ _ hbk, World.cell?_setCell_far _ ⟨k, i, none⟩ ⟨b, _, none⟩ _ hbk]
  exact hc j y hy

theorem ObsAt.aside {W : World} {a : Option Addr} {obs : List Ob} {k i : Nat} {st : Int} {v : Value} (h : ObsAt W a obs) (hk : W.cell? ⟨k, 0, none⟩ = some (.int .i64 st)) : ObsAt (W.setCell ⟨k, i, none⟩ v) a obs := fun h0 => by
  obtain ⟨b, e, hb, hc⟩ := h h0
  obtain ⟨x, hx⟩ : ∃ x, obs[0]? = some x := ⟨_, List.getElem?_eq_getElem h0⟩
  have hbk : k ≠ b := by
    rintro rfl
    have := (hc 0 x hx).1
    rw [show 0 * 2 = 0 by omega, hk] at this
    cases this
  refine ⟨b, e, by simpa using hb, fun j y hy => ?_⟩
  obtain ⟨q1, fa, fc, q2, q3⟩ := hc j y hy
  refine ⟨?_, fa, fc, ?_, q3.aside hk⟩
  · rw [World.cell?_setCell_far _ ⟨k, i, none⟩ ⟨b, _, none⟩ _ hbk]; exact q1
  · rw [World.cell?_setCell_far _ ⟨k, i, none⟩ ⟨b, _, none⟩ _ hbk]; exact q2

theorem Spared.frozen {own : Own} {w w' : World} (h : Spared own w w') {b i : Nat} (hb : b < w.heap.size) (ho : own b = none) (hc : w.frozen? ⟨b, i, none⟩ = false) : w'.frozen? ⟨b, i, none⟩ = false := by
  rw [World.frozen?_of_block (w := w) (a := ⟨b, i, none⟩) (h.2 b hb ho)]; exact hc

end Go.Proofs.YtbkmgoffiigdbabDoor

namespace Go.Proofs.YtbkmgoffiigdbabDoor
open Go.RowKit Go.Sort

set_option maxRecDepth 100000 in
set_option maxHeartbeats 8000000 in
theorem tidy_any (a : Option Addr) (n c b o : Nat) (R : Nat → Int) (again : Bool) (room steps : Int) (da : Option Addr) (dn dc db dd : Nat) (DR : Nat → Int) (w : World) (hr : RawIn w.heap.size w a n b o R) (hc : n ≤ c) (h1 : -9223372036854775808 ≤ room) (h2 : room ≤ 9223372036854775807) (h3 : -9223372036854775808 ≤ steps) (h4 : steps ≤ 9223372036854775807)
    (hdr : RawL w.heap.size w da dn db dd DR) (hdc : dn ≤ dc) (ht : Tab w) :
    Calls Tryd.prog 3 #[.slice a n c, .bool again, .int .i64 room, .int .i64 steps, .slice da dn dc] w fun e w' => e = .returned (.bool true) ∧ Below w.heap.size w w' := by
  obtain ⟨q0, q1⟩ := pickI_bd40 room
  obtain ⟨cap, hcap⟩ := Int.eq_ofNat_of_zero_le (show 0 ≤ 1 + pickI room 40 by omega)
  have hcap1 : 1 ≤ cap := by omega
  have hcap2 : cap ≤ 40 := by omega
  obtain ⟨p, hp⟩ := Int.eq_ofNat_of_zero_le q0
  obtain ⟨q400, q401⟩ := pickI_bd400 steps
  obtain ⟨f, hf⟩ := Int.eq_ofNat_of_zero_le q400
  have hf4 : f < 400 := by omega
  obtain ⟨l, hll, hln, hsome⟩ := some200_any hdr (Nat.le_refl _) hdc
  have hl200 : l.length ≤ 200 := by omega
  have HLN := hid hln
  have HSM := hid hsome
  have HP : Hid (∀ W, Below w.heap.size w W → Calls Tryd.prog 5 #[.slice a n c, .bool again] W fun e w' => MadeProg W e w') := fun W hW => made_prog a n c b o R again W ((hr.below hW).mono hW.size) hc
  have HPI : Hid (∀ W, Calls Tryd.prog 13 #[.int .i64 room, .int .i64 40] W fun e w' => e = .returned (.int .i64 (p : Int)) ∧ w' = W) := fun W => (tpick40_any room W h1 h2).mono fun e w' h => by rw [← hp]; exact h
  have HFU : Hid (∀ W, Calls Tryd.prog 9 #[.int .i64 steps] W fun e w' => e = .returned (.int .i64 (f : Int)) ∧ w' = W) := fun W => (fuel_any steps W h3 h4).mono fun e w' h => by rw [← hf]; exact h
  have HT := hid ht
  have h0 : 0 < w.heap.size := ht.1
  have HRM := hid (And.intro h1 h2)
  have hwp : IntKind.i64.wrap (1 + (p : Int)) = (cap : Int) := by rw [Go.IntWalk.i64_in _ (by omega)]; omega
  clear hr hdr ht hln hsome hll q400 q401 h1 h2 h3 h4 q0 q1 hp hf
  go_enter Tryd.func3, Tryd.ntmps3
  go_wp2_with fail
  refine (HP.out _ (by repeat (first | exact Below.refl _ _ | refine Below.drew ?_ | refine Below.drewQ ?_ _ | refine Below.alloc ?_ (by first | omega | (simp; done) | (simp; omega)) _))).mono ?_
  rintro e w1 ⟨g, rfl, hpg, hck, hb1⟩
  have hB1 : Below w.heap.size w w1 := below_via' hb1 (by repeat (first | exact Below.refl _ _ | refine Below.drew ?_ | refine Below.drewQ ?_ _ | refine Below.alloc ?_ (by first | omega | (simp; done) | (simp; omega)) _))
  have ht1 : Tab w1 := HT.out.held hB1.size (hB1.block 0 h0)
  have HBG : Hid (∀ W, Below w1.heap.size w1 W → Calls Tryd.prog 4 #[.agg #[.slice g.a g.n g.c], .int .i64 room] W fun e w' => BegunPost2 g cap W e w') := fun W hW => begun_any2 g W (hpg.held hW.size fun k hk => hW.block k (hpg.blk_lt hk)) (ht1.held hW.size (hW.block 0 ht1.1)) hck room HRM.out.1 HRM.out.2 cap hcap.symm
  have HPK := hid (pgOk_of hck)
  have HB1 := hid hB1
  clear hpg hck hb1 hB1 ht1 HP HT hcap
  go_wp2_with fail
  refine (HBG.out _ (by repeat (first | exact Below.refl _ _ | refine Below.drew ?_ | refine Below.drewQ ?_ _ | refine Below.alloc ?_ (by first | omega | (simp; done) | (simp; omega)) _))).mono ?_
  rintro e w2 ⟨oa, ma, ga, Ra, rfl, hma, hbga, hsa, hb2, hna, hba⟩
  have hB2 : Below w.heap.size w w2 := below_via' (below_via' hb2 (by repeat (first | exact Below.refl _ _ | refine Below.drew ?_ | refine Below.drewQ ?_ _ | refine Below.alloc ?_ (by first | omega | (simp; done) | (simp; omega)) _))) HB1.out
  have hpk2 := Same.pgOk HPK.out hsa
  have HPG := hid hpk2
  obtain ⟨s0, hs0⟩ : ∃ s0 : McA, s0 = ⟨0, [], [⟨0, 0, List.replicate (g.f 0).l.toNat (0, 0), []⟩], List.replicate cap (0, []), []⟩ := ⟨_, rfl⟩
  have hi0 : InvA g s0 := by rw [hs0]; exact inv_begin HPK.out hcap1 hcap2
  have HM0 : Hid (HM w w2 oa ma ga Ra s0) := ⟨hma, by rw [hs0]; exact ⟨(begun_is hbga).1, (begun_is hbga).2⟩, Same.inv HPK.out hsa hi0, fun k t hk => Nat.le_trans (Nat.le_trans HB1.out.size (by simp)) (hna k t hk), hB2⟩
  have hlen0 : s0.obs.length = cap := by rw [hs0]; simp
  have hdr0 : s0.dr.length = 0 := by rw [hs0]; rfl
  clear hma hbga hsa hb2 hna hba hB2 HBG HPK hs0 hi0 hpk2 HB1 HRM
  go_wp2_with (go_at_call 7; refine (HSM.out _).mono ?_; rintro e w' ⟨rfl, hw⟩; rw [hw]; clear hw w')
  refine ((HM0.out.later (by repeat (first | exact Below.refl _ _ | refine Below.drew ?_ | refine Below.drewQ ?_ _ | refine Below.alloc ?_ (by first | omega | (simp; done) | (simp; omega)) _))).draw da dc l (HLN.out.later (below_via' (by repeat (first | exact Below.refl _ _ | refine Below.drew ?_ | refine Below.drewQ ?_ _ | refine Below.alloc ?_ (by first | omega | (simp; done) | (simp; omega)) _)) HM0.out.bel)) (by omega)).mono ?_
  rintro e w4 ⟨rfl, own4, R4, hm4⟩
  have HM4 := hid hm4
  have HRUN := hid (fun (W : World) (hW : Below w4.heap.size w4 W) => (hm4.later hW).run HPG.out f (by omega))
  have hlen1 : (runA ga f { s0 with dr := s0.dr ++ l }).obs.length = cap := by rw [run_len]; exact hlen0
  clear hm4 HM0 HSM HLN
  go_wp2_with (go_at_call 9; refine (HFU.out _).mono ?_; rintro e w' ⟨rfl, hw⟩; rw [hw]; clear hw w')
  refine (HRUN.out _ (by repeat (first | exact Below.refl _ _ | refine Below.drew ?_ | refine Below.drewQ ?_ _ | refine Below.alloc ?_ (by first | omega | (simp; done) | (simp; omega)) _))).mono ?_
  rintro e w5 ⟨rfl, ⟨own5, R5, hm5⟩, _⟩
  generalize stepsA ga f { s0 with dr := s0.dr ++ l } = m at *
  generalize runA ga f { s0 with dr := s0.dr ++ l } = s at *
  have hm5 : HM w w5 own5 ma ga R5 s := hm5
  have hinv := hm5.inv
  have hinv3 := inv_collect hinv
  -- the numbers
  obtain ⟨A, hA⟩ : ∃ A, (aliveA s).length = A := ⟨_, rfl⟩
  obtain ⟨N, hN⟩ : ∃ N, takenA s.obs = N := ⟨_, rfl⟩
  have hA40 : A ≤ 40 := by rw [← hA]; have := nodup_len hinv.alive.nodup hinv.alive.lt; have := hinv.cap; omega
  have hN40 : N ≤ 40 := by rw [← hN]; have := takenA_le s.obs; have := hinv.cap; omega
  have t1 : takenA (collectA s).obs = A := by rw [taken_collect hinv, hA]
  have t2 : (aliveA (collectA s)).length = A := by rw [alive_collect hinv, hA]
  have t3 : takenA (collectA (collectA s)).obs = A := by rw [taken_collect hinv3, t2]
  have hlc : (collectA s).obs.length = cap := by show (sweepA _ _).length = cap; rw [sweepA_len]; exact hlen1
  have HST : Hid (∃ d : Nat, ∀ W own R, HM w W own ma ga R s → Calls Tryd.prog 12 #[.pointer (some ⟨ma, 0, none⟩)] W fun e w' => e = .returned (.agg #[.int .i64 s.st, .int .i64 (N : Int), .int .i64 (d : Int)]) ∧ Below W.heap.size W w') := ⟨_, fun W own R h => by have := h.status; rw [hN] at this; exact this⟩
  have HST2 : Hid (∃ d : Nat, ∀ W own R, HM w W own ma ga R (collectA s) → Calls Tryd.prog 12 #[.pointer (some ⟨ma, 0, none⟩)] W fun e w' => e = .returned (.agg #[.int .i64 (collectA s).st, .int .i64 (A : Int), .int .i64 (d : Int)]) ∧ Below W.heap.size W w') := ⟨_, fun W own R h => by have := h.status; rw [t1] at this; exact this⟩
  obtain ⟨d1, HST⟩ := HST.out
  obtain ⟨d2, HST2⟩ := HST2.out
  have HST := hid HST
  have HST2 := hid HST2
  have HSO : Hid (∀ W a c, ObsAt W a s.obs → Calls Tryd.prog 11 #[.slice a cap c] W fun e w' => e = .returned (.tuple #[.int .i64 (N : Int), .bool true]) ∧ Below W.heap.size W w') := fun W a c h => by
    have := sound_any a c s.obs W (by omega) (by omega) h hinv.obs
    rw [hN, hlen1] at this
    exact this
  have HSO2 : Hid (∀ W a c, ObsAt W a (collectA s).obs → Calls Tryd.prog 11 #[.slice a cap c] W fun e w' => e = .returned (.tuple #[.int .i64 (A : Int), .bool true]) ∧ Below W.heap.size W w') := fun W a c h => by
    have := sound_any a c (collectA s).obs W (by omega) (by omega) h hinv3.obs
    rw [t1, hlc] at this
    exact this
  have HHP : Hid (∀ W own R, HM w W own ma ga R s → Calls Tryd.prog 10 #[.pointer (some ⟨ma, 0, none⟩)] W fun e w' => (∃ a c, e = .returned (.slice a cap c) ∧ ObsAt w' a s.obs) ∧ Below W.heap.size W w') := fun W own R h => by
    have := h.heap
    unfold SlotsPost at this
    rw [hlen1] at this
    exact this
  have HHP2 : Hid (∀ W own R, HM w W own ma ga R (collectA s) → Calls Tryd.prog 10 #[.pointer (some ⟨ma, 0, none⟩)] W fun e w' => (∃ a c, e = .returned (.slice a cap c) ∧ ObsAt w' a (collectA s).obs) ∧ Below W.heap.size W w') := fun W own R h => by
    have := h.heap
    unfold SlotsPost at this
    rw [hlc] at this
    exact this
  have hfr := InvA.frs_len HPG.out hm5
  have hdp := hinv.depth
  have hvlen : (valuesA s.frs).length ≤ 30000 := by
    have hb := valuesA_len s.frs 1000 hfr
    have : s.frs.length * (2 * 1000) ≤ 12 * (2 * 1000) := Nat.mul_le_mul_right _ hdp
    omega
  have HRO : Hid (∀ W a c, FrsAt W a s.frs → Calls Tryd.prog 15 #[.slice a s.frs.length c] W fun e w' => ValsPost (valuesA s.frs) W e w') := fun W a c h => roots_any a c s.frs W (by omega) hfr h
  have HRE : Hid (∀ w0 W a c v, ObsAt w0 a s.obs → Below w0.heap.size w0 W → W.ownsRow w0.heap.size 73 2 v (valuesA s.frs).length (vflat (valuesA s.frs)) → Calls Tryd.prog 14 #[.slice a cap c, v] W fun e w' => e = .returned (.int .i64 (A : Int)) ∧ Below w0.heap.size w0 w') := fun w0 W a c v ho hB hrow => by
    have := lreach_any a c s.obs v (valuesA s.frs) w0 W (by omega) (by omega) ho hB hinv.obs hvlen (values_ok hinv) hrow
    rw [hlen1] at this
    rw [← hA]
    exact this
  have HRE2 : Hid (∀ w0 W a c v, ObsAt w0 a (collectA s).obs → Below w0.heap.size w0 W → W.ownsRow w0.heap.size 73 2 v (valuesA s.frs).length (vflat (valuesA s.frs)) → Calls Tryd.prog 14 #[.slice a cap c, v] W fun e w' => e = .returned (.int .i64 (A : Int)) ∧ Below w0.heap.size w0 w') := fun w0 W a c v ho hB hrow => by
    have := lreach_any a c (collectA s).obs v (valuesA s.frs) w0 W (by omega) (by omega) ho hB hinv3.obs hvlen (values_ok hinv3) hrow
    rw [hlc] at this
    rw [← t2]
    exact this
  have HFR : Hid (∀ W own R, HM w W own ma ga R s → Calls Tryd.prog 16 #[.pointer (some ⟨ma, 0, none⟩)] W fun e w' => FrsPost s.frs W e w') := fun W own R h => h.frames HPG.out
  have HFR2 : Hid (∀ W own R, HM w W own ma ga R (collectA s) → Calls Tryd.prog 16 #[.pointer (some ⟨ma, 0, none⟩)] W fun e w' => FrsPost s.frs W e w') := fun W own R h => h.frames HPG.out
  have HCO : Hid (∀ W own R, HM w W own ma ga R s → Calls Tryd.prog 17 #[.pointer (some ⟨ma, 0, none⟩)] W fun e w' => e = .returned (.int .i64 ((N : Int) - (A : Int))) ∧ (∃ R', HM w w' own ma ga R' (collectA s)) ∧ Spared own W w') := fun W own R h => by
    have := h.collect HPG.out
    rw [hN, t1] at this
    exact this
  have HCO2 : Hid (∀ W own R, HM w W own ma ga R (collectA s) → Calls Tryd.prog 17 #[.pointer (some ⟨ma, 0, none⟩)] W fun e w' => e = .returned (.int .i64 ((A : Int) - (A : Int))) ∧ (∃ R', HM w w' own ma ga R' (collectA (collectA s))) ∧ Spared own W w') := fun W own R h => by
    have := h.collect HPG.out
    rw [t1, t3] at this
    exact this
  have HM5 := hid hm5
  have HNEW : Hid (∀ k, w5.heap.size ≤ k → own5 k = none) := fun k hk => hm5.m.new hk
  have HBLK : Hid (∀ k, w5.heap.size ≤ k → ¬ ga.blk k) := fun k hk hb => by have := hm5.m.pg.blk_lt hb; omega
  have hw5 : w.heap.size ≤ w5.heap.size := hm5.bel.size
  have hsub : IntKind.i64.wrap ((N : Int) - (A : Int)) = (N : Int) - (A : Int) := Go.IntWalk.i64_in _ (by omega)
  have hAA : (A : Int) - (A : Int) = 0 := by omega
  generalize (collectA s).st = st3 at *
  generalize s.st = st2 at *
  clear hm5 hinv hinv3 hA hN t1 t2 t3 hlc hfr hdp hvlen hlen0 hlen1 hdr0 HM4 HRUN HFU
  go_wp2_with fail
  refine (HHP.out _ own5 R5 (HM5.out.later (by repeat (first | exact Below.refl _ _ | refine Below.drew ?_ | refine Below.drewQ ?_ _ | refine Below.alloc ?_ (by first | omega | (simp; done) | (simp; omega)) _)))).mono ?_
  rintro e w6 ⟨⟨a6, c6, rfl, ho6⟩, hb6⟩
  have HO6 := hid ho6
  have HB6 := hid (below_via' hb6 (by repeat (first | exact Below.refl _ _ | refine Below.drew ?_ | refine Below.drewQ ?_ _ | refine Below.alloc ?_ (by first | omega | (simp; done) | (simp; omega)) _)) : Below w5.heap.size w5 w6)
  have l6 := HB6.out.size
  clear ho6 hb6
  go_wp2_with fail
  refine (HSO.out _ a6 c6 (HO6.out.later (by repeat (first | exact Below.refl _ _ | refine Below.drew ?_ | refine Below.drewQ ?_ _ | refine Below.alloc ?_ (by first | omega | (simp; done) | (simp; omega)) _)))).mono ?_
  rintro e w7 ⟨rfl, hb7⟩
  have HB7 := hid (below_via' hb7 (by have hq := HB6.out.size; repeat (first | exact HB6.out | refine Below.drew ?_ | refine Below.alloc ?_ (by first | omega | (simp; done) | (simp; omega)) _)) : Below w5.heap.size w5 w7)
  have HO7 := hid (HO6.out.later (below_via' hb7 (by repeat (first | exact Below.refl _ _ | refine Below.drew ?_ | refine Below.drewQ ?_ _ | refine Below.alloc ?_ (by first | omega | (simp; done) | (simp; omega)) _))))
  have l7 := HB7.out.size
  clear hb7 HO6
  go_wp2_with fail
  refine (HST.out _ own5 R5 (HM5.out.later (by have hq := HB7.out.size; repeat (first | exact HB7.out | refine Below.drew ?_ | refine Below.alloc ?_ (by first | omega | (simp; done) | (simp; omega)) _)))).mono ?_
  rintro e w8 ⟨rfl, hb8⟩
  have HB8 := hid (below_via' hb8 (by have hq := HB7.out.size; repeat (first | exact HB7.out | refine Below.drew ?_ | refine Below.alloc ?_ (by first | omega | (simp; done) | (simp; omega)) _)) : Below w5.heap.size w5 w8)
  have HO8 := hid (HO7.out.later (below_via' hb8 (by repeat (first | exact Below.refl _ _ | refine Below.drew ?_ | refine Below.drewQ ?_ _ | refine Below.alloc ?_ (by first | omega | (simp; done) | (simp; omega)) _))))
  have l8 := HB8.out.size
  clear hb8 HO7
  go_wp2_with (go_at_call 13; refine (HPI.out _).mono ?_; rintro e w' ⟨rfl, hw⟩; rw [hw]; clear hw w')
  refine (HFR.out _ own5 R5 (HM5.out.later (by have hq := HB8.out.size; repeat (first | exact HB8.out | refine Below.drew ?_ | refine Below.alloc ?_ (by first | omega | (simp; done) | (simp; omega)) _)))).mono ?_
  rintro e w9 ⟨⟨a9, c9, rfl, hf9⟩, hb9⟩
  have l89 : w8.heap.size < w9.heap.size := Nat.lt_of_lt_of_le (by simp) hb9.size
  have x90 : w9.cell? ⟨w8.heap.size, 0, none⟩ = some (.int .i64 st2) := (hb9.cell (p := ⟨w8.heap.size, 0, none⟩) (by simp)).trans (by go_simp)
  have x91 : w9.cell? ⟨w8.heap.size, 1, none⟩ = some (.int .i64 (N : Int)) := (hb9.cell (p := ⟨w8.heap.size, 1, none⟩) (by simp)).trans (by go_simp)
  have x92 : w9.cell? ⟨w8.heap.size, 2, none⟩ = some (.int .i64 (d1 : Int)) := (hb9.cell (p := ⟨w8.heap.size, 2, none⟩) (by simp)).trans (by go_simp)
  have z90 : w9.frozen? ⟨w8.heap.size, 0, none⟩ = false := (hb9.frozen (p := ⟨w8.heap.size, 0, none⟩) (by simp)).trans (by go_simp)
  have z91 : w9.frozen? ⟨w8.heap.size, 1, none⟩ = false := (hb9.frozen (p := ⟨w8.heap.size, 1, none⟩) (by simp)).trans (by go_simp)
  have z92 : w9.frozen? ⟨w8.heap.size, 2, none⟩ = false := (hb9.frozen (p := ⟨w8.heap.size, 2, none⟩) (by simp)).trans (by go_simp)
  have HB9 := hid (below_via' hb9 (by have hq := HB8.out.size; repeat (first | exact HB8.out | refine Below.drew ?_ | refine Below.alloc ?_ (by first | omega | (simp; done) | (simp; omega)) _)) : Below w5.heap.size w5 w9)
  have HO9 := hid (HO8.out.later (below_via' hb9 (by repeat (first | exact Below.refl _ _ | refine Below.drew ?_ | refine Below.drewQ ?_ _ | refine Below.alloc ?_ (by first | omega | (simp; done) | (simp; omega)) _))))
  have HF9 := hid hf9
  have HX9 := hid (And.intro (And.intro x90 (And.intro x91 x92)) (And.intro z90 (And.intro z91 z92)))
  clear hb9 hf9 HO8 x90 x91 x92 z90 z91 z92
  go_wp2_with fail
  refine (HRO.out _ a9 c9 HF9.out).mono ?_
  rintro e w10 ⟨v10, rfl, hown10, hb10⟩
  have HO10 := hid hown10
  have HB10 := hid hb10
  clear hown10 hb10 HF9
  go_wp2_with fail
  refine (HRE.out w9 _ a6 c6 v10 HO9.out HB10.out HO10.out).mono ?_
  rintro e w11 ⟨rfl, hb11⟩
  have HB11 := hid (below_via' hb11 HB9.out)
  have l11 : w8.heap.size < w11.heap.size := Nat.lt_of_lt_of_le l89 hb11.size
  have HX11 : Hid ((w11.cell? ⟨w8.heap.size, 0, none⟩ = some (.int .i64 st2) ∧ w11.cell? ⟨w8.heap.size, 1, none⟩ = some (.int .i64 (N : Int)) ∧ w11.cell? ⟨w8.heap.size, 2, none⟩ = some (.int .i64 (d1 : Int))) ∧ (w11.frozen? ⟨w8.heap.size, 0, none⟩ = false ∧ w11.frozen? ⟨w8.heap.size, 1, none⟩ = false ∧ w11.frozen? ⟨w8.heap.size, 2, none⟩ = false)) := ⟨⟨(hb11.cell (p := ⟨w8.heap.size, 0, none⟩) l89).trans HX9.out.1.1, (hb11.cell (p := ⟨w8.heap.size, 1, none⟩) l89).trans HX9.out.1.2.1, (hb11.cell (p := ⟨w8.heap.size, 2, none⟩) l89).trans HX9.out.1.2.2⟩, (hb11.frozen (p := ⟨w8.heap.size, 0, none⟩) l89).trans HX9.out.2.1, (hb11.frozen (p := ⟨w8.heap.size, 1, none⟩) l89).trans HX9.out.2.2.1, (hb11.frozen (p := ⟨w8.heap.size, 2, none⟩) l89).trans HX9.out.2.2.2⟩
  clear hb11 HB10 HO10 HO9 HX9 HB9
  go_wp2_with fail
  refine (HCO.out _ own5 R5 (HM5.out.later HB11.out)).mono ?_
  rintro e w12 ⟨rfl, ⟨R12, hm12⟩, hsp12⟩
  have ho8 := HNEW.out w8.heap.size l8
  have l12 : w8.heap.size < w12.heap.size := Nat.lt_of_lt_of_le l11 hsp12.1
  have HX12 : Hid ((w12.cell? ⟨w8.heap.size, 0, none⟩ = some (.int .i64 st2) ∧ w12.cell? ⟨w8.heap.size, 1, none⟩ = some (.int .i64 (N : Int)) ∧ w12.cell? ⟨w8.heap.size, 2, none⟩ = some (.int .i64 (d1 : Int))) ∧ (w12.frozen? ⟨w8.heap.size, 0, none⟩ = false ∧ w12.frozen? ⟨w8.heap.size, 1, none⟩ = false ∧ w12.frozen? ⟨w8.heap.size, 2, none⟩ = false)) := ⟨⟨hsp12.cell l11 ho8 HX11.out.1.1, hsp12.cell l11 ho8 HX11.out.1.2.1, hsp12.cell l11 ho8 HX11.out.1.2.2⟩, hsp12.frozen l11 ho8 HX11.out.2.1, hsp12.frozen l11 ho8 HX11.out.2.2.1, hsp12.frozen l11 ho8 HX11.out.2.2.2⟩
  have HM12 := hid hm12
  clear hm12 hsp12 HX11 HB11
  go_wp2_with fail
  refine (HHP2.out _ own5 R12 (HM12.out.later (by repeat (first | exact Below.refl _ _ | refine Below.drew ?_ | refine Below.drewQ ?_ _ | refine Below.alloc ?_ (by first | omega | (simp; done) | (simp; omega)) _)))).mono ?_
  rintro e w13 ⟨⟨a13, c13, rfl, ho13⟩, hb13⟩
  have HO13 := hid ho13
  have HB13 := hid (below_via' hb13 (by repeat (first | exact Below.refl _ _ | refine Below.drew ?_ | refine Below.drewQ ?_ _ | refine Below.alloc ?_ (by first | omega | (simp; done) | (simp; omega)) _)) : Below w12.heap.size w12 w13)
  clear ho13 hb13
  go_wp2_with fail
  refine (HSO2.out _ a13 c13 HO13.out).mono ?_
  rintro e w14 ⟨rfl, hb14⟩
  have HO14 := hid (HO13.out.later hb14)
  have HB14 := hid (below_via' hb14 HB13.out)
  clear hb14 HO13 HB13
  go_wp2_with fail
  refine (HST2.out _ own5 R12 (HM12.out.later HB14.out)).mono ?_
  rintro e w15 ⟨rfl, hb15⟩
  have HO15 := hid (HO14.out.later hb15)
  have hB15 := below_via' hb15 HB14.out
  have HM15 := hid (HM12.out.later hB15)
  have y0 := (hB15.cell (p := ⟨w8.heap.size, 0, none⟩) l12).trans HX12.out.1.1
  have y1 := (hB15.cell (p := ⟨w8.heap.size, 1, none⟩) l12).trans HX12.out.1.2.1
  have y2 := (hB15.cell (p := ⟨w8.heap.size, 2, none⟩) l12).trans HX12.out.1.2.2
  have u0 := (hB15.frozen (p := ⟨w8.heap.size, 0, none⟩) l12).trans HX12.out.2.1
  have u1 := (hB15.frozen (p := ⟨w8.heap.size, 1, none⟩) l12).trans HX12.out.2.2.1
  have u2 := (hB15.frozen (p := ⟨w8.heap.size, 2, none⟩) l12).trans HX12.out.2.2.2
  have l15 : w8.heap.size < w15.heap.size := Nat.lt_of_lt_of_le l12 hB15.size
  clear hb15 hB15 HO14 HB14 HM12 HX12
  go_wp2_with fail
  have h80 : w8.heap.size ≠ 0 := by omega
  have hw8 : w.heap.size ≤ w8.heap.size := by omega
  have hnb := HBLK.out w8.heap.size l8
  obtain ⟨V, hV⟩ : ∃ V, V = ((w15.setCell ⟨w8.heap.size, 0, none⟩ (.int .i64 st3)).setCell ⟨w8.heap.size, 1, none⟩ (.int .i64 (A : Int))).setCell ⟨w8.heap.size, 2, none⟩ (.int .i64 (d2 : Int)) := ⟨_, rfl⟩
  have HMV : Hid (HM w V own5 ma ga R12 (collectA s)) := by rw [hV]; exact hid (((HM15.out.aside ho8 hnb h80 hw8).aside ho8 hnb h80 hw8).aside ho8 hnb h80 hw8)
  have k1 : (w15.setCell ⟨w8.heap.size, 0, none⟩ (.int .i64 st3)).cell? ⟨w8.heap.size, 0, none⟩ = some (.int .i64 st3) := by go_simp
  have k2 : ((w15.setCell ⟨w8.heap.size, 0, none⟩ (.int .i64 st3)).setCell ⟨w8.heap.size, 1, none⟩ (.int .i64 (A : Int))).cell? ⟨w8.heap.size, 0, none⟩ = some (.int .i64 st3) := by go_simp
  have HOV : Hid (ObsAt V a13 (collectA s).obs) := by rw [hV]; exact hid (((HO15.out.aside y0).aside k1).aside k2)
  have v1 : V.cell? ⟨w8.heap.size, 1, none⟩ = some (.int .i64 (A : Int)) := by rw [hV]; go_simp
  have lV : w8.heap.size < V.heap.size := by rw [hV]; simpa using l15
  rw [← hV]
  clear hV k1 k2 HO15 HM15 y0 y1 y2 u0 u1 u2 l15 h80 hw8 hnb HBLK
  refine (HFR2.out _ own5 R12 HMV.out).mono ?_
  rintro e w16 ⟨⟨a16, c16, rfl, hf16⟩, hb16⟩
  have v16 := (hb16.cell (p := ⟨w8.heap.size, 1, none⟩) lV).trans v1
  have l16 : w8.heap.size < w16.heap.size := Nat.lt_of_lt_of_le lV hb16.size
  have HO16 := hid (HOV.out.later hb16)
  have HM16 := hid (HMV.out.later hb16)
  have HF16 := hid hf16
  have HV16 := hid v16
  clear hb16 hf16 HMV HOV v1 v16
  go_wp2_with fail
  refine (HRO.out _ a16 c16 HF16.out).mono ?_
  rintro e w17 ⟨v17, rfl, hown17, hb17⟩
  have HO17 := hid hown17
  have HB17 := hid hb17
  clear hown17 hb17 HF16
  go_wp2_with fail
  refine (HRE2.out w16 _ a13 c13 v17 HO16.out HB17.out HO17.out).mono ?_
  rintro e w18 ⟨rfl, hb18⟩
  have x18 := (hb18.cell (p := ⟨w8.heap.size, 1, none⟩) l16).trans HV16.out
  have l18 : w8.heap.size < w18.heap.size := Nat.lt_of_lt_of_le l16 hb18.size
  have HM18 := hid (HM16.out.later hb18)
  have HX18 := hid x18
  clear hb18 x18 HM16 HV16 HO16 HB17 HO17
  go_wp2_with fail
  refine (HCO2.out _ own5 R12 HM18.out).mono ?_
  rintro e w19 ⟨rfl, ⟨R19, hm19⟩, hsp19⟩
  have x19 := hsp19.cell l18 ho8 HX18.out
  have l19 : w8.heap.size < w19.heap.size := Nat.lt_of_lt_of_le l18 hsp19.1
  have HB19 := hid hm19.bel
  rw [hAA]
  clear hsp19 hm19 HX18 HM18
  go_wp2_with fail
  go_ret
  exact ⟨rfl, HB19.out⟩

end Go.Proofs.YtbkmgoffiigdbabDoor

namespace Go.Proofs.YtbkmgoffiigdbabDoor
open Go.ChangeShapes Go.WideShapes Go.ChangeAt Go.RowKit

theorem treadable3 : Tryd.prog.readableRec 3 = true := by kernel_rfl
theorem trow3 : 3 < Tryd.prog.types.size := of_decide_eq_true (by kernel_rfl)

set_option maxRecDepth 100000 in
theorem tcontract (H : Type) (enc : TypeId × Value → H) (W : World) (base : Nat) (args : Array Value) (ds gs : List (DataW H)) (before : List MemPlace)
    (hval : ∀ (j : Nat) t v, Tryd.f3.params[j]? = some t → args[j]? = some v → Value.okWide Tryd.prog W .any base t v)
    (hW : DataW.Whole enc Tryd.prog Tryd.f3.params.toList Rows.tidySpec.vars false W args.toList ds gs before)
    (hsz : (DataW.weightsEach Tryd.prog (Tryd.f3.params.toList ++ (OpenSpec.ofChange Rows.tidySpec).bare.plain.varTypes Tryd.prog) (ds ++ gs)).all (· ≤ reachBytes) = true)
    (hL : laidMetH Tryd.prog Rows.tidyRow.laid W) :
    Calls Tryd.prog 3 args W fun e W' => ∃ v, e = .returned v ∧ Rows.tidySpec.post enc Tryd.prog Tryd.f3 false true false false W args v W' := by
  have hW' := hW
  have hlt := hW.lt
  obtain ⟨p, q, hA0, hV, rfl, hfz, hnd⟩ := hW
  have hA : DataW.TrodAll enc Tryd.prog W 0 (fun _ => true) true Tryd.f3.params.toList args.toList ds p := hA0
  rw [Tryd.params3] at hA hval hsz
  obtain ⟨v0, vs0, d0, ds0, p0, q0, hargs, rfl, rfl, h0, r0⟩ := trodAll_cons hA
  obtain ⟨v1, vs1, d1, ds1, p1, q1, rfl, rfl, rfl, h1, r1⟩ := trodAll_cons r0
  obtain ⟨v2, vs2, d2, ds2, p2, q2, rfl, rfl, rfl, h2, r2⟩ := trodAll_cons r1
  obtain ⟨v3, vs3, d3, ds3, p3, q3, rfl, rfl, rfl, h3, r3⟩ := trodAll_cons r2
  obtain ⟨v4, vs4, d4, ds4, p4, q4, rfl, rfl, rfl, h4, r4⟩ := trodAll_cons r3
  obtain ⟨rfl, rfl, rfl⟩ := trodAll_nil r4
  obtain rfl : args = #[v0, v1, v2, v3, v4] := by cases args; simp_all
  obtain ⟨rfl, rfl⟩ := trodVars_none hV
  clear hA0
  obtain ⟨a', n', c', rfl⟩ := okWide_slice Tryd.underlying22 (hval 0 22 v0 rfl rfl)
  have h1' := h1
  obtain ⟨again, rfl, hd1, hp1⟩ := open_bool Tryd.underlying4 (hval 1 4 v1 rfl rfl) h1
  have h2' := h2
  obtain ⟨room, rfl, hd2, hp2, hwf⟩ := open_int Tryd.underlying3 (hval 2 3 v2 rfl rfl) h2
  obtain ⟨hr1, hr2⟩ := wf_bd hwf
  have h3' := h3
  obtain ⟨steps, rfl, hd3, hp3, hwf3⟩ := open_int Tryd.underlying3 (hval 3 3 v3 rfl rfl) h3
  obtain ⟨hs1, hs2⟩ := wf_bd hwf3
  obtain ⟨pa', pn', pc', rfl⟩ := okWide_slice Tryd.underlying22 (hval 4 22 v4 rfl rfl)
  have h0' := h0
  obtain ⟨fuel, hf⟩ := h0
  have h4' := h4
  obtain ⟨fuel4, hf4⟩ := h4
  obtain ⟨a, n, c, b, o, R, hc, hraw, hnc⟩ := open_raw hf (fun y hm => by
    have hmem : y ∈ DataW.weightsEach Tryd.prog (#[22, 4, 3, 3, 22].toList ++ (OpenSpec.ofChange Rows.tidySpec).bare.plain.varTypes Tryd.prog) ([d0, d1, d2, d3, d4] ++ []) := by
      simp only [List.cons_append, List.nil_append, DataW.weightsEach, List.mem_append]
      exact Or.inl hm
    have := mall_mem hsz hmem
    simpa [reachBytes] using this)
  obtain ⟨pa, pn, pc, pb, po, PR, hpc, hpraw, hpnc⟩ := open_raw hf4 (fun y hm => by
    have hmem : y ∈ DataW.weightsEach Tryd.prog (#[22, 4, 3, 3, 22].toList ++ (OpenSpec.ofChange Rows.tidySpec).bare.plain.varTypes Tryd.prog) ([d0, d1, d2, d3, d4] ++ []) := by
      simp only [List.cons_append, List.nil_append, DataW.weightsEach, List.mem_append]
      exact Or.inr (Or.inr (Or.inr (Or.inr (Or.inl hm))))
    have := mall_mem hsz hmem
    simpa [reachBytes] using this)
  obtain ⟨rfl, rfl, rfl⟩ : a' = a ∧ n' = n ∧ c' = c := by simpa [Value.cells] using hc
  obtain ⟨rfl, rfl, rfl⟩ : pa' = pa ∧ pn' = pn ∧ pc' = pc := by simpa [Value.cells] using hpc
  refine (tidy_any a' n' c' b o R again room steps pa' pn' pc' pb po PR W hraw hnc hr1 hr2 hs1 hs2 ⟨hpraw.1, hpraw.2.1⟩ hpnc (tab_of_laid hL)).mono fun e W' ⟨he, hb⟩ => ?_
  subst he
  refine ⟨_, rfl, [d0, d1, d2, d3, d4], [], p0 ++ (p1 ++ (p2 ++ (p3 ++ (p4 ++ [])))) ++ [], [], p0 ++ (p1 ++ (p2 ++ (p3 ++ (p4 ++ [])))), [], hW', ?_, ?_, rfl, hb.frame _, fun h => by cases h⟩
  · exact trodAll_cons_mk (shut_bool Tryd.underlying4 _) trodAll_mk0
  · exact trodAll_cons_mk (Below.trod mlaidOut mreadable31 mrow31 h0' hb (fun x hx => hlt x (by simp [hx]))) (trodAll_cons_mk (Below.trod mlaidOut mreadable4 mrow4 h1' hb (fun x hx => hlt x (by simp [hx]))) (trodAll_cons_mk (Below.trod mlaidOut treadable3 trow3 h2' hb (fun x hx => hlt x (by simp [hx]))) (trodAll_cons_mk (Below.trod mlaidOut treadable3 trow3 h3' hb (fun x hx => hlt x (by simp [hx]))) (trodAll_cons_mk (Below.trod mlaidOut mreadable31 mrow31 h4' hb (fun x hx => hlt x (by simp [hx]))) trodAll_mk0))))

theorem tdoor_met (os : Os) (args : Array Value) : laidMetH Tryd.prog Rows.tidyRow.laid ((World.doorLaid Tryd.prog 42 os).forCall (fun _ _ => 0) ⟨#[], args, []⟩).memory :=
  laidMetH_of_parts3 (fuel := 8) (laidMet_of_run' 8 (by kernel_rfl) (by kernel_rfl)) (by kernel_rfl) (by kernel_rfl)

theorem treads (os : Os) {H : Type} (enc : TypeId × Value → H) : ∃ places, DataW.whole enc Tryd.prog ((World.doorLaid Tryd.prog 42 os).forCall (fun _ _ => 0) ⟨#[], #[.slice none 0 0, .bool false, .int .i64 0, .int .i64 0, .slice none 0 0], []⟩).memory Tryd.f3.params.toList Rows.tidySpec.vars false #[Value.slice none 0 0, .bool false, .int .i64 0, .int .i64 0, .slice none 0 0].toList 8 = some ([.nil, .lit (.bool false), .lit (.int .i64 0), .lit (.int .i64 0), .nil], [], places) :=
  ⟨[], by kernel_rfl⟩

set_option maxRecDepth 100000 in
theorem tlifted (os : Os) (started : os.Started) (H : Type) (enc : TypeId × Value → H) (F : Stop.Interp) :
    ReturnsInHanded {} Tryd.checked os 3 .any ((OpenSpec.ofChange Rows.tidySpec).preRow enc Tryd.prog Tryd.f3 Rows.tidyRow.domain false Rows.tidyRow.laid) (((OpenSpec.ofChange Rows.tidySpec).at F).post enc Tryd.prog Tryd.f3 false true false false) := by
  obtain ⟨places, hx⟩ := treads os enc
  refine returnsInHanded_of_row (C := Tryd.checked) (s := OpenSpec.ofChange Rows.tidySpec) mown started (by kernel_rfl) Tryd.func3
    (witness_row_atRef (enc := enc) (C := Tryd.checked) false (World.doorLaid Tryd.prog 42 os) #[.slice none 0 0, .bool false, .int .i64 0, .int .i64 0, .slice none 0 0] rfl (by kernel_rfl) (by kernel_rfl) (by kernel_rfl)
      (OpenSpec.preRow_of_cond 8 hx (by kernel_rfl) (fun k hk => by cases hk) (by kernel_rfl) (tdoor_met os _))) ?_
  intro W base args ds gs before hval hW _ _ hsz hL _ _
  exact tcontract H enc W base args ds gs before hval hW hsz hL

theorem tsaid : Rows.TidySaid :=
  OpenClaim.holds_of_cond 3 Tryd.f3 rfl rfl rfl rfl rfl rfl rfl ⟨rfl, rfl, rfl, rfl, rfl⟩ rfl rfl rfl rfl rfl (by kernel_rfl) Tryd.func3 (by kernel_rfl)
    (of_decide_eq_true (by kernel_rfl)) (by unfold Func.isWrapper; first | (rw [if_pos (by decide +kernel)]; kernel_rfl) | (rw [if_neg (by decide +kernel)]; exact ⟨rfl, rfl⟩))
    (fun os started H enc _ F => by rw [OpenClaim.pre_eq_preRow]; exact tlifted os started H enc F)

theorem tplain (f : FuncId) (fn : Func) (hf : Tryd.pinned.checked.prog.funcNamed "slumber/slumberkeep.Tidy" = some f) (hfn : Tryd.pinned.checked.prog.funcs[f]? = some fn) :
    false = Tryd.pinned.checked.prog.looks [] ∧ ∀ (j : Nat) t, fn.params[j]? = some t → Tryd.pinned.checked.prog.wantsStandIn t = false := by
  obtain rfl : f = 3 := Option.some.inj ((show Tryd.prog.funcNamed "slumber/slumberkeep.Tidy" = some 3 by kernel_rfl).symm.trans hf) |>.symm
  obtain rfl : fn = Tryd.f3 := (Option.some.inj (Tryd.func3.symm.trans hfn)).symm
  refine ⟨by kernel_rfl, fun j t ht => ?_⟩
  rw [Tryd.params3] at ht
  have hm : t = 22 ∨ t = 4 ∨ t = 3 := by
    have := Array.mem_of_getElem? ht
    simp at this
    rcases this with rfl | rfl | rfl | rfl
    · exact Or.inl rfl
    · exact Or.inr (Or.inl rfl)
    · exact Or.inr (Or.inr rfl)
    · exact Or.inl rfl
  rcases hm with rfl | rfl | rfl
  · exact (show Tryd.prog.wantsStandIn 22 = false by kernel_rfl)
  · exact (show Tryd.prog.wantsStandIn 4 = false by kernel_rfl)
  · exact (show Tryd.prog.wantsStandIn 3 = false by kernel_rfl)

theorem tidy_card : Rows.TidyCardSaid :=
  Claim7.holds_tied_plain_at .later [] _ _ _ _ tsaid (fun _ h => by cases h) (by kernel_rfl) (fun _ h => by cases h) tidy_row_tie rfl ⟨rfl, rfl⟩ (by kernel_rfl) rfl tplain (by kernel_rfl)

end Go.Proofs.YtbkmgoffiigdbabDoor
