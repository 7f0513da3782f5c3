import Derived.Test.YtbkmgoffiigdbabGreatDoorVQa
import Derived.Test.YtbkmgoffiigdbabGreatDoorVPd
import Derived.Test.YtbkmgoffiigdbabGreatDoorVM
namespace Go.Proofs.YtbkmgoffiigdbabGreatDoor
open Go.RowKit Go.Sort

/-! Draw, Collect. -/

def DrawPost (own : Own) (mb : Nat) (g : PgR) (R : McR) (l : List Int) (w : World) (e : Ending) (w' : World) : Prop :=
  ∃ own' dv, e = .returned (.int .i64 0) ∧ MachAt w' own' mb g { R with dv := dv, dr := R.dr ++ l } ∧ Touched own w own' w'

theorem draws_end {own : Own} {mb : Nat} {g : PgR} {R : McR} {l : List Int} {w W w5 : World} {v : Value} (hm : MachAt w own mb g R) (hB : Below w.heap.size w W) (hgrow : W.grownBy w5 R.dv.ownBlock)
    (hown : w5.ownsRow 0 3 1 v (R.dr.length + l.length) ((R.dr.map fun n => .int .i64 n) ++ l.map fun n => .int .i64 n)) (hat : ∀ gb, v.ownBlock = some gb → R.dv.ownBlock = some gb ∨ gb = W.heap.size) :
    w5.frozen? ⟨mb, 5, none⟩ = false ∧ w5.cell? ⟨mb, 5, none⟩ = some R.dv ∧ mb < w5.heap.size ∧ DrawPost own mb g R l w (.returned (.int .i64 0)) (w5.setCell ⟨mb, 5, none⟩ v) := by
  have hmb : mb < w.heap.size := hm.lt mb _ hm.me
  have hob : ∀ b, R.dv.ownBlock = some b → own b = some .draws := hm.draws.2
  have hnm : R.dv.ownBlock ≠ some mb := fun e => by have := hob mb e; rw [hm.me] at this; cases this
  have hgm : v.ownBlock ≠ some mb := fun e => by
    rcases hat mb e with h1 | h1
    · exact hnm h1
    · have := hB.size; omega
  have hsz : w.heap.size ≤ w5.heap.size := Nat.le_trans hB.size hgrow.size
  have hon : OldOrNew w own v .draws := fun b hb => by
    rcases hat b hb with h1 | h1
    · exact Or.inl (hob b h1)
    · exact Or.inr (by have := hB.size; omega)
  have hblk : ∀ k, k < w.heap.size → own k ≠ some .draws → w5.heap[k]? = w.heap[k]? := fun k hk ho => by
    rw [hgrow.block k (Nat.lt_of_lt_of_le hk hB.size) (fun e => ho (hob k e.symm)), hB.block k hk]
  have hmblk := hblk mb hmb (by rw [hm.me]; simp)
  have hfz : ∀ j, w5.frozen? ⟨mb, j, none⟩ = false := fun j => by rw [World.frozen?_of_block (w := w) (a := ⟨mb, j, none⟩) hmblk]; exact hm.fz j
  have hc5 : w5.cell? ⟨mb, 5, none⟩ = some R.dv := by rw [World.cell?_of_block (w := w) (a := ⟨mb, 5, none⟩) hmblk]; exact hm.c5
  have hmb5 : mb < w5.heap.size := by omega
  have hM : MachAt (w5.setCell ⟨mb, 5, none⟩ v) (own.upd v.ownBlock .draws) mb g { R with dv := v, dr := R.dr ++ l } := by
    refine MachAt.setDraws (v := v) (l := R.dr ++ l) hm (by simpa using hsz) (fun k hk h1 h2 => ?_) (fun j hj => ?_) ?_ (fun j => ?_) ?_ hon
    · rw [heap_setCell_other _ _ _ _ h1]; exact hblk k hk h2
    · rw [← World.cell?_of_block (w := w) (w' := w5) (a := ⟨mb, j, none⟩) hmblk]
      go_simp
    · go_simp
    · have := hfz j
      go_simp
    · have := ownsRow_setCell_other hown (a := ⟨mb, 5, none⟩) hgm v
      simpa using this
  refine ⟨hfz 5, hc5, hmb5, own.upd v.ownBlock .draws, v, rfl, hM, ⟨?_, ?_, ?_, by simpa using hsz, fun k hk hno => ?_, fun k hk => Own.upd_old hon hk⟩⟩
  · exact hgrow.os.trans hB.os
  · exact hgrow.tape.trans hB.tape
  · exact hgrow.output.trans hB.output
  · rw [heap_setCell_other _ _ _ _ (fun e => by rw [e, hm.me] at hno; cases hno)]
    exact hblk k hk (by rw [hno]; simp)

/-- Numbers in memory, at some place. -/
def NumsE (w : World) (a : Option Addr) (l : List Int) : Prop := 0 < l.length → ∃ b o, a = some ⟨b, o, none⟩ ∧ b < w.heap.size ∧ ∀ (i : Nat) (x : Int), l[i]? = some x → w.cell? ⟨b, o + i, none⟩ = some (.int .i64 x)

set_option maxRecDepth 100000 in
set_option maxHeartbeats 2000000 in
theorem addDraws_any {own : Own} {mb : Nat} {g : PgR} {R : McR} {w : World} (h : MachAt w own mb g R) (a : Option Addr) (c : Nat) (l : List Int) (hl : NumsE w a l) (hn : R.dr.length + l.length ≤ 200) :
    Calls Tryz.prog 86 #[.pointer (some ⟨mb, 4, none⟩), .slice a l.length c] w fun e w' => DrawPost own mb g R l w e w' := by
  have c5 := h.c5
  have hmb : mb < w.heap.size := h.lt mb _ h.me
  have hlen : ∃ va' cc, R.dv = .slice va' R.dr.length cc := by
    rcases h.draws.1.2 with ⟨e, e0⟩ | ⟨gb, cap, _, e, _⟩
    · exact ⟨none, 0, by rw [e, e0]⟩
    · exact ⟨_, _, e⟩
  obtain ⟨va', cc, hdv⟩ := hlen
  have HO := hid h.draws.1
  rw [hdv] at c5
  have HDV := hid hdv
  have HH := hid h
  have HNEWS : Hid (∀ W, Below w.heap.size w W → 0 < l.length → ∃ d, a = some d ∧ ∀ j u, (l.map fun n => Value.int .i64 n)[j]? = some u → W.cell? (d.add j) = some u) := fun W hW h0 => by
    obtain ⟨b, o, h1, h2, h3⟩ := hl h0
    refine ⟨_, h1, fun j u hu => ?_⟩
    rw [List.getElem?_map] at hu
    obtain ⟨x, hx, rfl⟩ := Option.map_eq_some_iff.1 hu
    have := (hW.cell (p := ⟨b, o + j, none⟩) h2).trans (h3 j x hx)
    cases j with
    | zero => simpa [Addr.add] using this
    | succ j => simpa [Addr.add] using this
  have hn' : ¬ (200 : Int) < (R.dr.length : Int) + (l.length : Int) := by omega
  have hwr : IntKind.i64.wrap ((R.dr.length : Int) + (l.length : Int)) = (R.dr.length : Int) + (l.length : Int) := Go.IntWalk.i64_in _ (by omega)
  clear h hdv hl
  obtain ⟨i3, hi, hz, hsz, hby⟩ := info_parts info3
  have HI := hid hi
  have HZ := hid hz
  have HSZ := hid hsz
  have HBY := hid hby
  clear hi hz hsz hby
  go_enter Tryz.func86, Tryz.ntmps86
  go_wp2_with (at_builtin; go_must (refine wpList_append_any _ rfl (.tmp 18) (.tmp 19) 22 rfl 0 3 i3 _ 1 8 Tryz.underlying22 HI.out HZ.out HSZ.out HBY.out rfl (by decide) R.dv R.dr.length (R.dr.map fun n => .int .i64 n) (by rw [HDV.out]; rfl) HO.out a l.length c (l.map fun n => .int .i64 n) rfl (by simp) (HNEWS.out _ (Below.refl _ _)) (by intro u hu; obtain ⟨n, _, rfl⟩ := List.mem_map.1 hu; rfl) (by unfold maxLen; omega) (by omega) (Nat.zero_le _) ?_))
  intro v' w5 hown5 hgrow5 hat5
  obtain ⟨y0, y1, y2, hP⟩ := draws_end HH.out (Below.refl _ _) hgrow5 hown5 hat5
  have HP := hid hP
  rw [HDV.out] at y1
  obtain ⟨va5, cc5, hv5⟩ : ∃ va5 cc5, v' = .slice va5 (R.dr.length + l.length) cc5 := by
    rcases hown5.2 with ⟨e, e0⟩ | ⟨gb, cap, _, e, _⟩
    · exact ⟨none, 0, by rw [e, e0]⟩
    · exact ⟨_, _, e⟩
  subst hv5
  clear hown5 hgrow5 hat5 hP
  go_wp2_with fail
  go_ret
  exact HP.out

set_option maxHeartbeats 1000000 in
theorem Collect_any {own : Own} {mb : Nat} {g : PgR} {R : McR} {w : World} (h : MachAt w own mb g R) (ho : HeapOk R) (hal : (aliveA R.abs).length ≤ 1000) :
    Calls Tryz.prog 15 #[.pointer (some ⟨mb, 0, none⟩)] w fun e w' => CollectPost own mb g R w e w' := by
  have HA := hid (collect_any h ho hal)
  have hmb : mb < w.heap.size := h.lt mb _ h.me
  clear h
  go_enter Tryz.func15, Tryz.ntmps15
  go_wp2_with (go_at_call 33; refine HA.out.mono ?_; rintro e w2 ⟨rfl, hm, ht⟩)
  go_ret
  exact ⟨rfl, hm, ht⟩

end Go.Proofs.YtbkmgoffiigdbabGreatDoor

namespace Go.Proofs.YtbkmgoffiigdbabGreatDoor
open Go.RowKit Go.Sort

/-- The program that is made, and that Check takes it. -/
def MadeProg (w : World) (e : Ending) (w' : World) : Prop :=
  ∃ g : PgR, e = .returned (.agg #[.slice g.a g.n g.c]) ∧ PgIn w'.heap.size w' g ∧ CheckIs g 0 0 ∧ Below w.heap.size w w'

theorem made_prog (a : Option Addr) (n c b o : Nat) (R : Nat → Int) (again : Bool) (w : World) (hr : RawIn w.heap.size w a n b o R) (hc : n ≤ c) :
    Calls Tryz.prog 7 #[.slice a n c, .bool again] w fun e w' => MadeProg w e w' := by
  have hs1 := seg_body R (min (n / 2) 6)
  have hs2 := seg_body (fun i => R (n / 2 + i)) (min (n - n / 2) 6)
  have hl1 := bodyTo_len R (min (n / 2) 6)
  have hl2 := bodyTo_len (fun i => R (n / 2 + i)) (min (n - n / 2) 6)
  refine (program_any a n c b o R again w hr hc).mono ?_
  rintro e w' ⟨pb, b1, c1, sb, b2, c2, he, hP, k1, k2, k3, k4, k5, _, _, k8, k9⟩
  obtain ⟨H1, hS1⟩ := hs1
  obtain ⟨H2, hS2⟩ := hs2
  exact ⟨_, he, hP, made_taken hS1 (by omega) hS2 (by omega) again, k9⟩

end Go.Proofs.YtbkmgoffiigdbabGreatDoor

namespace Go.Proofs.YtbkmgoffiigdbabGreatDoor
open Go.RowKit Go.Sort

/-! What Tidy calls. -/

/-- A list of numbers in memory. -/
def RawL (B : Nat) (w : World) (a : Option Addr) (n b o : Nat) (R : Nat → Int) : Prop :=
  n ≤ 1152921504606846976 ∧ (0 < n → a = some ⟨b, o, none⟩ ∧ b < B ∧ ∀ i, i < n → w.cell? ⟨b, o + i, none⟩ = some (.int .i64 (R i)))

set_option maxHeartbeats 1000000 in
theorem some200_few (a : Option Addr) (n c : Nat) (w : World) (h : ¬ 200 < n) : Calls Tryz.prog 13 #[.slice a n c, .int .i64 200] w fun e w' => e = .returned (.slice a n c) ∧ w' = w := by
  have h' : ¬ (200 : Int) < (n : Int) := by omega
  go_enter Tryz.func13, Tryz.ntmps13
  go_wp2
  go_ret
  exact ⟨rfl, rfl⟩

set_option maxHeartbeats 1000000 in
theorem some200_many (b o n c : Nat) (w : World) (h : 200 < n) (hc : n ≤ c) : Calls Tryz.prog 13 #[.slice (some ⟨b, o, none⟩) n c, .int .i64 200] w fun e w' => e = .returned (.slice (some ⟨b, o, none⟩) 200 c) ∧ w' = w := by
  have h' : (200 : Int) < (n : Int) := by omega
  have h6 : 200 ≤ c := by omega
  go_enter Tryz.func13, Tryz.ntmps13
  go_wp2
  go_ret
  exact ⟨rfl, rfl⟩

/-- The first two hundred numbers. -/
theorem some200_any {B : Nat} {w : World} {a : Option Addr} {n c b o : Nat} {R : Nat → Int} (hr : RawL B w a n b o R) (hB : B ≤ w.heap.size) (hc : n ≤ c) :
    ∃ l : List Int, l.length = min n 200 ∧ NumsE w a l ∧ ∀ W, Calls Tryz.prog 13 #[.slice a n c, .int .i64 200] W fun e w' => e = .returned (.slice a l.length c) ∧ w' = W := by
  refine ⟨(List.range (min n 200)).map R, by simp, fun h0 => ?_, fun W => ?_⟩
  · have h0' : 0 < n := by simp at h0; omega
    obtain ⟨h1, h2, h3⟩ := hr.2 h0'
    refine ⟨b, o, h1, by omega, fun i x hx => ?_⟩
    have hi := (List.getElem?_eq_some_iff.1 hx).1
    simp at hi
    rw [List.getElem?_map, List.getElem?_range (by omega)] at hx
    cases hx
    exact h3 i (by omega)
  · rw [List.length_map, List.length_range]
    by_cases h : 200 < n
    · obtain ⟨rfl, _⟩ := hr.2 (by omega)
      rw [show min n 200 = 200 by omega]
      exact some200_many b o n c W h hc
    · rw [show min n 200 = n by omega]
      exact some200_few a n c W h

theorem Collect_is {own : Own} {mb : Nat} {g : PgR} {R : McR} {s : McA} {w : World} (hp : PgOk g) (h : MachAt w own mb g R) (his : Is g s R) (hi : InvA g s) :
    Calls Tryz.prog 15 #[.pointer (some ⟨mb, 0, none⟩)] w fun e w' => ∃ (R' : McR), e = .returned (.int .i64 ((takenA s.obs : Int) - (takenA (collectA s).obs : Int))) ∧ MachAt w' own mb g R' ∧ Is g (collectA s) R' ∧ Touched own w own w' := by
  obtain ⟨rfl, hq⟩ := his
  refine (Collect_any h (hi.heapOk hp) hi.alive_len).mono ?_
  rintro e w' ⟨he, hm, ht⟩
  have e1 : taken R.obs = takenA R.abs.obs := taken_abs R.obs
  have e2 : taken (sweepR R.obs (aliveA R.abs)) = takenA (collectA R.abs).obs := by
    rw [← swept_abs R]
    exact taken_abs (swept R).obs
  rw [e1, e2] at he
  exact ⟨swept R, he, hm, ⟨swept_abs R, hq⟩, ht.touched⟩

end Go.Proofs.YtbkmgoffiigdbabGreatDoor

namespace Go.Proofs.YtbkmgoffiigdbabGreatDoor
open Go.RowKit Go.Sort

/-! A machine that stands, and what is asked of it, in one piece. -/

structure HM (w0 w : World) (own : Own) (ma : Nat) (g : PgR) (R : McR) (s : McA) : Prop where
  m : MachAt w own ma g R
  is : Is g s R
  inv : InvA g s
  no : ∀ k t, own k = some t → w0.heap.size ≤ k
  bel : Below w0.heap.size w0 w

theorem HM.later {w0 w W : World} {own : Own} {ma : Nat} {g : PgR} {R : McR} {s : McA} (h : HM w0 w own ma g R s) (hB : Below w.heap.size w W) : HM w0 W own ma g R s :=
  ⟨h.m.same hB.size fun k hk => hB.block k hk, h.is, h.inv, h.no, below_via' hB h.bel⟩

theorem HM.touched {w0 w w' : World} {own own' : Own} {ma : Nat} {g : PgR} {R R' : McR} {s s' : McA} (h : HM w0 w own ma g R s) (hm : MachAt w' own' ma g R') (his : Is g s' R') (hi : InvA g s') (ht : Touched own w own' w') : HM w0 w' own' ma g R' s' := by
  refine ⟨hm, his, hi, fun k t hk => ?_, h.bel.trans (ht.below h.bel.size fun k hk => ?_)⟩
  · rcases Nat.lt_or_ge k w.heap.size with hl | hl
    · rw [ht.old k hl] at hk; exact h.no k t hk
    · exact Nat.le_trans h.bel.size hl
  · cases e : own k with
    | none => rfl
    | some t => have := h.no k t e; omega

/-- What is left alone: what lay there and is not the machine's. -/
def Spared (own : Own) (w w' : World) : Prop := w.heap.size ≤ w'.heap.size ∧ ∀ k, k < w.heap.size → own k = none → w'.heap[k]? = w.heap[k]?

theorem HM.run {w0 w : World} {own : Own} {ma : Nat} {g : PgR} {R : McR} {s : McA} (h : HM w0 w own ma g R s) (hp : PgOk g) (f : Nat) (hf : f ≤ 10000) :
    Calls Tryz.prog 8 #[.pointer (some ⟨ma, 0, none⟩), .int .i64 (f : Int)] w fun e w' => e = .returned (.tuple #[.int .i64 (stepsA g f s : Int), .int .i64 0]) ∧ (∃ own' R', HM w0 w' own' ma g R' (runA g f s)) ∧ Spared own w w' := by
  refine (run_total hp h.inv h.is h.m f hf).mono ?_
  rintro e w' ⟨own', R', rfl, hm, his, ht⟩
  exact ⟨rfl, ⟨own', R', h.touched hm his (inv_run hp f h.inv) ht⟩, ht.size, ht.block⟩

theorem HM.status {w0 w : World} {own : Own} {ma : Nat} {g : PgR} {R : McR} {s : McA} (h : HM w0 w own ma g R s) :
    Calls Tryz.prog 20 #[.pointer (some ⟨ma, 0, none⟩)] w fun e w' => e = .returned (.agg #[.int .i64 s.st, .int .i64 (takenA s.obs : Int), .int .i64 (s.dr.length : Int)]) ∧ Below w.heap.size w w' := by
  obtain ⟨rfl, _⟩ := h.is
  have hl : R.abs.obs.length = R.obs.length := by simp [McR.abs]
  have hcp := h.inv.cap
  have := Status_any h.m (by omega) (by omega)
  rw [taken_abs] at this
  exact this

theorem HM.output {w0 w : World} {own : Own} {ma : Nat} {g : PgR} {R : McR} {s : McA} (h : HM w0 w own ma g R s) :
    Calls Tryz.prog 32 #[.pointer (some ⟨ma, 0, none⟩)] w fun e w' => (∃ a c, e = .returned (.slice a s.out.length c) ∧ IntsAt w' a s.out) ∧ Below w.heap.size w w' := by
  obtain ⟨rfl, hnil⟩ := h.is
  have ho := h.inv.out
  have e : R.abs.out = R.out := rfl
  rw [e] at ho
  exact (Output_any h.m (by omega) hnil).mono fun _ _ h => outPost_ints h

theorem HM.collect {w0 w : World} {own : Own} {ma : Nat} {g : PgR} {R : McR} {s : McA} (h : HM w0 w own ma g R s) (hp : PgOk g) :
    Calls Tryz.prog 15 #[.pointer (some ⟨ma, 0, none⟩)] w fun e w' => e = .returned (.int .i64 ((takenA s.obs : Int) - (takenA (collectA s).obs : Int))) ∧ (∃ R', HM w0 w' own ma g R' (collectA s)) ∧ Spared own w w' := by
  refine (Collect_is hp h.m h.is h.inv).mono ?_
  rintro e w' ⟨R', rfl, hm, his, ht⟩
  exact ⟨rfl, ⟨R', h.touched hm his (inv_collect h.inv) ht⟩, ht.size, ht.block⟩

theorem NumsE.later {w W : World} {a : Option Addr} {l : List Int} (h : NumsE w a l) (hB : Below w.heap.size w W) : NumsE W a l := fun h0 => by
  obtain ⟨b, o, e, hb, hc⟩ := h h0
  exact ⟨b, o, e, Nat.lt_of_lt_of_le hb hB.size, fun i x hx => (hB.cell (p := ⟨b, o + i, none⟩) hb).trans (hc i x hx)⟩

theorem Spared.cell {own : Own} {w w' : World} (h : Spared own w w') {b i : Nat} {v : Value} (hb : b < w.heap.size) (ho : own b = none) (hc : w.cell? ⟨b, i, none⟩ = some v) : w'.cell? ⟨b, i, none⟩ = some v := by
  rw [World.cell?_of_block (w := w) (a := ⟨b, i, none⟩) (h.2 b hb ho)]; exact hc

theorem Is.of_begun {g g' : PgR} {cap : Nat} {R : McR} (hb : Begun g cap R) (l : Nat) (hl : (g.f 0).l = l) : Is g' ⟨0, [], [⟨0, 0, List.replicate l (0, 0), []⟩], List.replicate cap (0, []), []⟩ R := by
  have := begun_is hb
  rw [hl, Int.toNat_natCast] at this
  exact ⟨this.1, this.2⟩

theorem inv_of_begun {g : PgR} (hp : PgOk g) {cap : Nat} (h1 : 1 ≤ cap) (h40 : cap ≤ 40) (l : Nat) (hl : (g.f 0).l = l) : InvA g ⟨0, [], [⟨0, 0, List.replicate l (0, 0), []⟩], List.replicate cap (0, []), []⟩ := by
  have := inv_begin hp h1 h40
  rw [hl, Int.toNat_natCast] at this
  exact this

end Go.Proofs.YtbkmgoffiigdbabGreatDoor
