import Derived.Test.YtbkmgoffiigdbaaDoorVUq
import Derived.Test.YtbkmgoffiigdbaaDoorVUc
import Derived.Test.YtbkmgoffiigdbaaDoorVH
namespace Go.Proofs.YtbkmgoffiigdbaaDoor
open Go.RowKit Go.Sort

/-! PLAIN: the numbers of the programs that are made. -/

def relI (p : List (Int × Int × Int)) : Bool := p.all fun t => decide (-1000 ≤ t.2.1 ∧ t.2.1 ≤ 1000)
theorem relV_i : (List.range 8).all (fun k => (List.range 9).all fun n => relI (relV k n)) = true := by decide +kernel
theorem relO_i : (List.range 10).all (fun k => (List.range 9).all fun n => relI (relO k n)) = true := by decide +kernel

theorem rel_i (c : Int) : relI (rel c) = true := by
  have hb : 0 ≤ pickI c 1099511627776 ∧ pickI c 1099511627776 < 1099511627776 := by unfold pickI; split <;> omega
  have hn : (((pickI c 1099511627776 / 18 % 9).toNat : Nat) : Int) = pickI c 1099511627776 / 18 % 9 := by omega
  unfold rel
  split
  · have h := List.all_eq_true.1 relV_i (pickI c 1099511627776 % 18).toNat (List.mem_range.2 (by omega))
    have h' := List.all_eq_true.1 h (pickI c 1099511627776 / 18 % 9).toNat (List.mem_range.2 (by omega))
    simp only [hn] at h'
    exact h'
  · have h := List.all_eq_true.1 relO_i (pickI c 1099511627776 % 18 - 8).toNat (List.mem_range.2 (by omega))
    have h' := List.all_eq_true.1 h (pickI c 1099511627776 / 18 % 9).toNat (List.mem_range.2 (by omega))
    simp only [hn] at h'
    exact h'

def LI (L : List (Int × Int)) : Prop := ∀ x, x ∈ L → I64 x.2

theorem LI.app {L K : List (Int × Int)} (h : LI L) (k : LI K) : LI (L ++ K) := fun x hx => by
  rcases List.mem_append.1 hx with hx | hx
  · exact h x hx
  · exact k x hx
theorem LI.of_all {L : List (Int × Int)} (h : (L.all fun t => decide (-1000 ≤ t.2 ∧ t.2 ≤ 1000)) = true) : LI L := fun x hx => by
  have := of_decide_eq_true (List.all_eq_true.1 h x hx)
  unfold I64
  omega

theorem piece_i (c : Int) {len : Nat} (hl : len ≤ 1000) : LI (piece c len) := fun x hx => by
  rw [piece_rel] at hx
  obtain ⟨t, ht, rfl⟩ := List.mem_map.1 hx
  have := of_decide_eq_true (List.all_eq_true.1 (rel_i c) t ht)
  unfold absI I64
  simp only
  split <;> omega

theorem body_i (R : Nat → Int) : ∀ i, i ≤ 6 → LI (bodyTo R i)
  | 0, _ => LI.of_all (L := [(0, 0), (3, 0)]) (by decide)
  | i + 1, hi => by
    have hl := bodyTo_len R i
    exact (body_i R i (by omega)).app (piece_i _ (by omega))

theorem arI_made {L1 L2 : List (Int × Int)} (h1 : LI L1) (h2 : LI L2) (pb b1 c1 sb b2 c2 : Nat) : ArI (madeG pb b1 c1 sb b2 c2 L1 stepL L2) := by
  have key : ∀ (p l : Int) (b c : Nat) (L : List (Int × Int)), LI L → ∀ j, j < (fnOf p l b c L).n → I64 ((fnOf p l b c L).ar j) := fun p l b c L hL j hj => by
    show I64 (L.getD j (0, 0)).2
    rw [List.getD_eq_getElem?_getD, List.getElem?_eq_getElem (show j < L.length from hj)]
    exact hL _ (List.getElem_mem _)
  have hs : LI stepL := LI.of_all (by decide)
  intro i hi
  have hi3 : i < 3 := hi
  match i, hi3 with
  | 0, _ => exact key _ _ _ _ _ h1
  | 1, _ => exact key _ _ _ _ _ hs
  | 2, _ => exact key _ _ _ _ _ h2

def MadeProg2 (w : World) (e : Ending) (w' : World) : Prop :=
  ∃ g : PgR, e = .returned (.agg #[.slice g.a g.n g.c]) ∧ PgIn w'.heap.size w' g ∧ CheckIs g 0 0 ∧ Below w.heap.size w w' ∧ ArI g

theorem made_prog2 (a : Option Addr) (n c b o : Nat) (R : Nat → Int) (again : Bool) (w : World) (hr : RawIn w.heap.size w a n b o R) (hc : n ≤ c) :
    Calls Tryd.prog 14 #[.slice a n c, .bool again] w fun e w' => MadeProg2 w e w' := by
  have hs1 := seg_body R (min (n / 2) 6)
  have hs2 := seg_body (fun i => R (n / 2 + i)) (min (n - n / 2) 6)
  have hl1 := bodyTo_len R (min (n / 2) 6)
  have hl2 := bodyTo_len (fun i => R (n / 2 + i)) (min (n - n / 2) 6)
  refine (program_any a n c b o R again w hr hc).mono ?_
  rintro e w' ⟨pb, b1, c1, sb, b2, c2, he, hP, k1, k2, k3, k4, k5, _, _, k8, k9⟩
  obtain ⟨H1, hS1⟩ := hs1
  obtain ⟨H2, hS2⟩ := hs2
  refine ⟨_, he, hP, made_taken hS1 (by omega) hS2 (by omega) again, k9, arI_made ?_ ?_ _ _ _ _ _ _⟩
  · exact (((body_i R _ (by omega)).app (LI.of_all (by decide))).app (LI.of_all (by decide))).app (LI.of_all (by cases again <;> decide))
  · exact ((body_i _ _ (by omega)).app (LI.of_all (by decide))).app (LI.of_all (by decide))

end Go.Proofs.YtbkmgoffiigdbaaDoor

namespace Go.Proofs.YtbkmgoffiigdbaaDoor
open Go.RowKit Go.Sort

/-! Two machines that can't be told apart. -/

set_option maxRecDepth 100000 in
set_option maxHeartbeats 2000000 in
theorem sameBytes_any (a1 a2 : Option Addr) (c1 c2 : Nat) (l : List Int) (w : World) (hl : l.length ≤ 20000) (h1 : BytesAt w a1 l) (h2 : BytesAt w a2 l) :
    Calls Tryd.prog 49 #[.slice a1 l.length c1, .slice a2 l.length c2] w fun e w' => e = .returned (.bool true) ∧ Below w.heap.size w w' := by
  have H1 := hid h1
  have H2 := hid h2
  clear h1 h2
  go_enter Tryd.func49, Tryd.ntmps49
  go_wp2_with fail
  go_loopw [5] (fun vi wr => ∃ i : Nat, i ≤ l.length ∧ vi = .int .i64 i ∧ Below w.heap.size w wr) (fun vi _ => l.length - (intOf vi).toNat)
  case atStart => exact ⟨0, Nat.zero_le _, rfl, Below.refl _ _⟩
  case round =>
    obtain ⟨i, hi, rfl, hbel⟩ := hrel
    have HBEL := hid hbel
    by_cases hlt : i < l.length
    · obtain ⟨x, hx⟩ : ∃ x, l[i]? = some x := ⟨_, List.getElem?_eq_getElem hlt⟩
      obtain ⟨b1, o1, rfl, hb1, hc1⟩ := H1.out (by omega)
      obtain ⟨b2, o2, rfl, hb2, hc2⟩ := H2.out (by omega)
      have k1 := (hbel.cell (p := ⟨b1, o1 + i, none⟩) hb1).trans (hc1 i x hx)
      have k2 := (hbel.cell (p := ⟨b2, o2 + i, none⟩) hb2).trans (hc2 i x hx)
      have l1 : b1 < wr.heap.size := Nat.lt_of_lt_of_le hb1 hbel.size
      have l2 : b2 < wr.heap.size := Nat.lt_of_lt_of_le hb2 hbel.size
      clear hc1 hc2 hbel hx
      go_wp2_with fail
      go_region
      all_goals
        go_wp2_with fail
        go_roundw
        case rel => exact ⟨i + 1, by omega, by go_num, Below.drew HBEL.out⟩
        case measure => simp [intOf]; omega
    · clear hbel
      go_wp2_with fail
      go_ret
      exact ⟨rfl, HBEL.out⟩

structure TM (w0 w : World) (g : PgR) (oa ob : Own) (ma mb : Nat) (ga gb : PgR) (Ra Rb : McR) (s t : McA) : Prop where
  two : Two w oa ob ma mb ga gb Ra Rb
  isa : Is ga s Ra
  isb : Is gb t Rb
  sa : Same g ga
  sb : Same g gb
  inva : InvA g s
  invb : InvA g t
  inta : IntsA s
  intb : IntsA t
  na : ∀ k t, oa k = some t → w0.heap.size ≤ k
  nb : ∀ k t, ob k = some t → w0.heap.size ≤ k
  bel : Below w0.heap.size w0 w

theorem TM.flip {w0 w : World} {g : PgR} {oa ob : Own} {ma mb : Nat} {ga gb : PgR} {Ra Rb : McR} {s t : McA} (h : TM w0 w g oa ob ma mb ga gb Ra Rb s t) : TM w0 w g ob oa mb ma gb ga Rb Ra t s :=
  ⟨h.two.flip, h.isb, h.isa, h.sb, h.sa, h.invb, h.inva, h.intb, h.inta, h.nb, h.na, h.bel⟩
theorem TM.later {w0 w W : World} {g : PgR} {oa ob : Own} {ma mb : Nat} {ga gb : PgR} {Ra Rb : McR} {s t : McA} (h : TM w0 w g oa ob ma mb ga gb Ra Rb s t) (hB : Below w.heap.size w W) : TM w0 W g oa ob ma mb ga gb Ra Rb s t :=
  ⟨h.two.later hB, h.isa, h.isb, h.sa, h.sb, h.inva, h.invb, h.inta, h.intb, h.na, h.nb, below_via' hB h.bel⟩
theorem TM.touch {w0 w w' : World} {g : PgR} {oa oa' ob : Own} {ma mb : Nat} {ga gb : PgR} {Ra Ra' Rb : McR} {s s' t : McA} (h : TM w0 w g oa ob ma mb ga gb Ra Rb s t) (hm : MachAt w' oa' ma ga Ra') (his : Is ga s' Ra') (hi : InvA g s') (hz : IntsA s') (ht : Touched oa w oa' w') : TM w0 w' g oa' ob ma mb ga gb Ra' Rb s' t := by
  refine ⟨h.two.runA hm ht, his, h.isb, h.sa, h.sb, hi, h.invb, hz, h.intb, fun k t hk => ?_, h.nb, h.bel.trans (ht.below h.bel.size fun k hk => ?_)⟩
  · rcases Nat.lt_or_ge k w.heap.size with hl | hl
    · rw [ht.old k hl] at hk; exact h.na k t hk
    · exact Nat.le_trans h.bel.size hl
  · cases e : oa k with
    | none => rfl
    | some t => have := h.na k t e; omega

theorem TM.run {w0 w : World} {g : PgR} {oa ob : Own} {ma mb : Nat} {ga gb : PgR} {Ra Rb : McR} {s t : McA} (h : TM w0 w g oa ob ma mb ga gb Ra Rb s t) (hp : PgOk g) (ha : ArI g) (f : Nat) (hf : f ≤ 10000) :
    Calls Tryd.prog 16 #[.pointer (some ⟨ma, 0, none⟩), .int .i64 (f : Int)] w fun e w' => e = .returned (.tuple #[.int .i64 (stepsA g f s : Int), .int .i64 0]) ∧ ∃ oa' Ra', TM w0 w' g oa' ob ma mb ga gb Ra' Rb (runA g f s) t := by
  have hs := runA_same hp h.sa f h.inva
  refine (run_total (h.sa.pgOk hp) (h.sa.inv hp h.inva) h.isa h.two.a f hf).mono ?_
  rintro e w' ⟨oa', Ra', rfl, hm, his, ht⟩
  rw [hs.1] at his
  rw [hs.2]
  exact ⟨rfl, oa', Ra', h.touch hm his (inv_run hp f h.inva) (ints_run hp ha f h.inta h.inva) ht⟩

theorem TM.collect {w0 w : World} {g : PgR} {oa ob : Own} {ma mb : Nat} {ga gb : PgR} {Ra Rb : McR} {s t : McA} (h : TM w0 w g oa ob ma mb ga gb Ra Rb s t) (hp : PgOk g) :
    Calls Tryd.prog 28 #[.pointer (some ⟨ma, 0, none⟩)] w fun e w' => (∃ n : Int, e = .returned (.int .i64 n)) ∧ ∃ oa' Ra', TM w0 w' g oa' ob ma mb ga gb Ra' Rb (collectA s) t := by
  refine (Collect_is (h.sa.pgOk hp) h.two.a h.isa (h.sa.inv hp h.inva)).mono ?_
  rintro e w' ⟨R', rfl, hm, his, ht⟩
  exact ⟨⟨_, rfl⟩, oa, R', h.touch hm his (inv_collect h.inva) (ints_collect h.inta) ht⟩

theorem TM.draw {w0 w : World} {g : PgR} {oa ob : Own} {ma mb : Nat} {ga gb : PgR} {Ra Rb : McR} {s t : McA} (h : TM w0 w g oa ob ma mb ga gb Ra Rb s t) (a : Option Addr) (c : Nat) (l : List Int) (hl : NumsE w a l) (hn : s.dr.length + l.length ≤ 200) :
    Calls Tryd.prog 27 #[.pointer (some ⟨ma, 0, none⟩), .slice a l.length c] w fun e w' => e = .returned (.int .i64 0) ∧ ∃ oa' Ra', TM w0 w' g oa' ob ma mb ga gb Ra' Rb { s with dr := s.dr ++ l } t := by
  refine (Draw_is h.two.a h.isa a c l hl hn).mono ?_
  rintro e w' ⟨oa', R', rfl, hm, his, ht⟩
  have hi := h.inva
  have hz := h.inta
  exact ⟨rfl, oa', R', h.touch hm his ⟨hi.run, hi.frs, hi.depth, hi.vals, hi.obs, hi.cap, hi.out, by simpa using hn⟩ ⟨hz.st, hz.out, hz.frs, hz.obs⟩ ht⟩

theorem TM.status {w0 w : World} {g : PgR} {oa ob : Own} {ma mb : Nat} {ga gb : PgR} {Ra Rb : McR} {s t : McA} (h : TM w0 w g oa ob ma mb ga gb Ra Rb s t) (hp : PgOk g) :
    Calls Tryd.prog 18 #[.pointer (some ⟨ma, 0, none⟩)] w fun e w' => (∃ n d : Nat, e = .returned (.agg #[.int .i64 s.st, .int .i64 (n : Int), .int .i64 (d : Int)])) ∧ Below w.heap.size w w' := by
  refine (HM.status (w0 := w0) ⟨h.two.a, h.isa, h.sa.inv hp h.inva, h.na, h.bel⟩).mono ?_
  rintro e w' ⟨rfl, hb⟩
  exact ⟨⟨_, _, rfl⟩, hb⟩

theorem TM.output {w0 w : World} {g : PgR} {oa ob : Own} {ma mb : Nat} {ga gb : PgR} {Ra Rb : McR} {s t : McA} (h : TM w0 w g oa ob ma mb ga gb Ra Rb s t) (hp : PgOk g) :
    Calls Tryd.prog 20 #[.pointer (some ⟨ma, 0, none⟩)] w fun e w' => (∃ a c, e = .returned (.slice a s.out.length c) ∧ IntsAt w' a s.out) ∧ Below w.heap.size w w' :=
  HM.output (w0 := w0) ⟨h.two.a, h.isa, h.sa.inv hp h.inva, h.na, h.bel⟩

theorem TM.save {w0 w : World} {g : PgR} {oa ob : Own} {ma mb : Nat} {ga gb : PgR} {Ra Rb : McR} {s t : McA} (h : TM w0 w g oa ob ma mb ga gb Ra Rb s t) (hp : PgOk g) (ha : ArI g) :
    Calls Tryd.prog 48 #[.pointer (some ⟨ma, 0, none⟩)] w fun e w' => SavePost (imgB g (packA s)) w e w' := by
  have hi := h.sa.inv hp h.inva
  have hz := h.inta
  obtain ⟨e, _⟩ := h.isa
  rw [← e] at hi hz
  have := Save_any h.two.a (h.sa.pgOk hp) hi hz (h.sa.arI ha)
  rw [h.sa.imgB, e] at this
  exact this

set_option maxRecDepth 100000 in
set_option maxHeartbeats 4000000 in
theorem alike_any {w0 w : World} {g : PgR} {oa ob : Own} {ma mb : Nat} {ga gb : PgR} {Ra Rb : McR} {s t : McA} (h : TM w0 w g oa ob ma mb ga gb Ra Rb s t) (hp : PgOk g) (ha : ArI g) {r : Nat → Nat} (hr : Rel r s t) :
    Calls Tryd.prog 29 #[.pointer (some ⟨ma, 0, none⟩), .pointer (some ⟨mb, 0, none⟩)] w fun e w' => e = .returned (.bool true) ∧ Below w.heap.size w w' := by
  have hst := hr.st
  have hout := hr.out
  have hpk := pack_rel hr h.inva h.invb
  have hol : s.out.length ≤ 1000 := by have := h.inva.out; omega
  have hbl := imgB_le (pg_small hp ha) (pack_small hp h.inva h.inta)
  have hb8 := imgB_len g (packA s)
  have HSA : Hid (∀ W, Below w.heap.size w W → Calls Tryd.prog 18 #[.pointer (some ⟨ma, 0, none⟩)] W fun e w' => (∃ n d : Nat, e = .returned (.agg #[.int .i64 s.st, .int .i64 (n : Int), .int .i64 (d : Int)])) ∧ Below W.heap.size W w') := fun W hW => (h.later hW).status hp
  have HSB : Hid (∀ W, Below w.heap.size w W → Calls Tryd.prog 18 #[.pointer (some ⟨mb, 0, none⟩)] W fun e w' => (∃ n d : Nat, e = .returned (.agg #[.int .i64 s.st, .int .i64 (n : Int), .int .i64 (d : Int)])) ∧ Below W.heap.size W w') := fun W hW => by
    have := (h.later hW).flip.status hp
    rw [hst] at this
    exact this
  have HOA : Hid (∀ W, Below w.heap.size w W → Calls Tryd.prog 20 #[.pointer (some ⟨ma, 0, none⟩)] W fun e w' => (∃ a c, e = .returned (.slice a s.out.length c) ∧ IntsAt w' a s.out) ∧ Below W.heap.size W w') := fun W hW => (h.later hW).output hp
  have HOB : Hid (∀ W, Below w.heap.size w W → Calls Tryd.prog 20 #[.pointer (some ⟨mb, 0, none⟩)] W fun e w' => (∃ a c, e = .returned (.slice a s.out.length c) ∧ IntsAt w' a s.out) ∧ Below W.heap.size W w') := fun W hW => by
    have := (h.later hW).flip.output hp
    rw [hout] at this
    exact this
  have HVA : Hid (∀ W, Below w.heap.size w W → Calls Tryd.prog 48 #[.pointer (some ⟨ma, 0, none⟩)] W fun e w' => SavePost (imgB g (packA s)) W e w') := fun W hW => (h.later hW).save hp ha
  have HVB : Hid (∀ W, Below w.heap.size w W → Calls Tryd.prog 48 #[.pointer (some ⟨mb, 0, none⟩)] W fun e w' => SavePost (imgB g (packA s)) W e w') := fun W hW => by
    have := (h.later hW).flip.save hp ha
    rw [hpk] at this
    exact this
  generalize imgB g (packA s) = img at *
  generalize s.out = out at *
  generalize s.st = st at *
  clear h hp ha hr hst hout hpk
  go_enter Tryd.func29, Tryd.ntmps29
  go_wp2_with fail
  refine (HSA.out _ (by repeat (first | exact Below.refl _ _ | refine Below.drew ?_ | refine Below.drewQ ?_ _ | refine Below.alloc ?_ (by first | omega | (simp; done) | (simp; omega)) _))).mono ?_
  rintro e w1 ⟨⟨n1, d1, rfl⟩, hb1⟩
  have B1 := hid (below_via' hb1 (by repeat (first | exact Below.refl _ _ | refine Below.drew ?_ | refine Below.drewQ ?_ _ | refine Below.alloc ?_ (by first | omega | (simp; done) | (simp; omega)) _)) : Below w.heap.size w w1)
  have s1 := B1.out.size
  clear hb1
  go_wp2_with fail
  refine (HSB.out _ (by repeat (first | exact B1.out | refine Below.drew ?_ | refine Below.alloc ?_ (by first | omega | (simp; done) | (simp; omega)) _))).mono ?_
  rintro e w2 ⟨⟨n2, d2, rfl⟩, hb2⟩
  have B2 := hid (below_via' hb2 (by repeat (first | exact B1.out | refine Below.drew ?_ | refine Below.alloc ?_ (by first | omega | (simp; done) | (simp; omega)) _)) : Below w.heap.size w w2)
  have x2 : w2.cell? ⟨w1.heap.size, 0, none⟩ = some (.int .i64 st) := (hb2.cell (p := ⟨w1.heap.size, 0, none⟩) (by simp)).trans (by go_simp)
  have l2 : w1.heap.size < w2.heap.size := Nat.lt_of_lt_of_le (by simp) hb2.size
  have s2 := B2.out.size
  clear hb2
  go_wp2_with fail
  refine (HOA.out _ (by repeat (first | exact B2.out | refine Below.drew ?_ | refine Below.alloc ?_ (by first | omega | (simp; done) | (simp; omega)) _))).mono ?_
  rintro e w3 ⟨⟨a3, c3, rfl, hi3⟩, hb3⟩
  have B3 := hid (below_via' hb3 (by repeat (first | exact B2.out | refine Below.drew ?_ | refine Below.alloc ?_ (by first | omega | (simp; done) | (simp; omega)) _)) : Below w.heap.size w w3)
  have x3 : w3.cell? ⟨w1.heap.size, 0, none⟩ = some (.int .i64 st) := (hb3.cell (p := ⟨w1.heap.size, 0, none⟩) (by simp; omega)).trans (by go_simp)
  have y3 : w3.cell? ⟨w2.heap.size, 0, none⟩ = some (.int .i64 st) := (hb3.cell (p := ⟨w2.heap.size, 0, none⟩) (by simp)).trans (by go_simp)
  have l3 : w2.heap.size < w3.heap.size := Nat.lt_of_lt_of_le (by simp) hb3.size
  have s3 := B3.out.size
  have I3 := hid hi3
  clear hb3 hi3 x2
  go_wp2_with fail
  refine (HOB.out _ B3.out).mono ?_
  rintro e w4 ⟨⟨a4, c4, rfl, hi4⟩, hb4⟩
  have B4 := hid (below_via' hb4 B3.out)
  have x4 := (hb4.cell (p := ⟨w1.heap.size, 0, none⟩) (show w1.heap.size < w3.heap.size by omega)).trans x3
  have y4 := (hb4.cell (p := ⟨w2.heap.size, 0, none⟩) (show w2.heap.size < w3.heap.size by omega)).trans y3
  have l4 := hb4.size
  have I34 := hid (I3.out.later hb4)
  have I4 := hid hi4
  clear hb4 hi4 x3 y3 I3
  go_wp2_with fail
  refine (sameInts_any a3 a4 c3 c4 out _ hol I34.out I4.out).mono ?_
  rintro e w5 ⟨rfl, hb5⟩
  have B5 := hid (below_via' hb5 B4.out)
  have x5 := (hb5.cell (p := ⟨w1.heap.size, 0, none⟩) (show w1.heap.size < w4.heap.size by omega)).trans x4
  have y5 := (hb5.cell (p := ⟨w2.heap.size, 0, none⟩) (show w2.heap.size < w4.heap.size by omega)).trans y4
  have l5 := hb5.size
  clear hb5 x4 y4 I34 I4
  go_wp2_with fail
  refine (HVA.out _ B5.out).mono ?_
  rintro e w6 ⟨g6, c6, rfl, hi6, hb6⟩
  have B6 := hid (below_via' hb6 B5.out)
  have x6 := (hb6.cell (p := ⟨w1.heap.size, 0, none⟩) (show w1.heap.size < w5.heap.size by omega)).trans x5
  have y6 := (hb6.cell (p := ⟨w2.heap.size, 0, none⟩) (show w2.heap.size < w5.heap.size by omega)).trans y5
  have l6 := hb6.size
  have I6 := hid hi6
  clear hb6 hi6 x5 y5
  go_wp2_with fail
  refine (HVB.out _ B6.out).mono ?_
  rintro e w7 ⟨g7, c7, rfl, hi7, hb7⟩
  have B7 := hid (below_via' hb7 B6.out)
  have x7 := (hb7.cell (p := ⟨w1.heap.size, 0, none⟩) (show w1.heap.size < w6.heap.size by omega)).trans x6
  have y7 := (hb7.cell (p := ⟨w2.heap.size, 0, none⟩) (show w2.heap.size < w6.heap.size by omega)).trans y6
  have l7 := hb7.size
  have I67 := hid (I6.out.later hb7)
  have I7 := hid hi7
  clear hb7 hi7 x6 y6 I6
  go_wp2_with fail
  refine (sameBytes_any (some ⟨g6, 0, none⟩) (some ⟨g7, 0, none⟩) c6 c7 img _ (by omega) I67.out I7.out).mono ?_
  rintro e w8 ⟨rfl, hb8'⟩
  have B8 := hid (below_via' hb8' B7.out)
  have x8 := (hb8'.cell (p := ⟨w1.heap.size, 0, none⟩) (show w1.heap.size < w7.heap.size by omega)).trans x7
  have y8 := (hb8'.cell (p := ⟨w2.heap.size, 0, none⟩) (show w2.heap.size < w7.heap.size by omega)).trans y7
  have l8 := hb8'.size
  have q1 : w1.heap.size < w8.heap.size := by omega
  have q2 : w2.heap.size < w8.heap.size := by omega
  clear hb8' x7 y7 I67 I7
  have hb8i : (8 : Int) ≤ (img.length : Int) := by omega
  go_wp2_with fail
  go_ret
  exact ⟨rfl, B8.out⟩

end Go.Proofs.YtbkmgoffiigdbaaDoor

namespace Go.Proofs.YtbkmgoffiigdbaaDoor
open Go.RowKit Go.Sort

theorem tdiv2_bd {x : Int} (h1 : -9223372036854775808 ≤ x) (h2 : x ≤ 9223372036854775807) : -9223372036854775808 ≤ x.tdiv 2 ∧ x.tdiv 2 ≤ 9223372036854775807 := by
  rcases Int.le_total 0 x with h | h
  · rw [Int.tdiv_eq_ediv_of_nonneg h]
    omega
  · have e : x.tdiv 2 = -((-x).tdiv 2) := by rw [Int.neg_tdiv, Int.neg_neg]
    rw [e, Int.tdiv_eq_ediv_of_nonneg (by omega)]
    omega

set_option maxRecDepth 100000 in
set_option maxHeartbeats 8000000 in
theorem unseen_any (a : Option Addr) (n c b o : Nat) (R : Nat → Int) (again : Bool) (room : Int) (pa : Option Addr) (pn pc pb po : Nat) (PR : Nat → Int) (xa : Option Addr) (xn xc xb xo : Nat) (XR : Nat → Int) (ya : Option Addr) (yn yc yb yo : Nat) (YR : Nat → Int) (w : World) (hr : RawIn w.heap.size w a n b o R) (hc : n ≤ c) (h1 : -9223372036854775808 ≤ room) (h2 : room ≤ 9223372036854775807) (hpr : RawIn w.heap.size w pa pn pb po PR)
    (hxr : RawL w.heap.size w xa xn xb xo XR) (hxc : xn ≤ xc) (hyr : RawL w.heap.size w ya yn yb yo YR) (hyc : yn ≤ yc) (ht : Tab w) :
    Calls Tryd.prog 8 #[.slice a n c, .bool again, .int .i64 room, .slice pa pn pc, .slice xa xn xc, .slice ya yn yc] w fun e w' => e = .returned (.bool true) ∧ Below w.heap.size w w' := by
  obtain ⟨q0, q1⟩ := pickI_bd40 room
  obtain ⟨cap, hcap⟩ := Int.eq_ofNat_of_zero_le (show 0 ≤ 1 + pickI room 40 by omega)
  have hcap1 : 1 ≤ cap := by omega
  have hcap2 : cap ≤ 40 := by omega
  obtain ⟨lx, hlx, hlnx, hsx⟩ := some200_any hxr (Nat.le_refl _) hxc
  obtain ⟨ly, hly, hlny, hsy⟩ := some200_any hyr (Nat.le_refl _) hyc
  have hlx2 : lx.length ≤ 200 := by omega
  have hly2 : ly.length ≤ 200 := by omega
  have HLX := hid hlnx
  have HLY := hid hlny
  have HSX := hid hsx
  have HSY := hid hsy
  have HP : Hid (∀ W, Below w.heap.size w W → Calls Tryd.prog 14 #[.slice a n c, .bool again] W fun e w' => MadeProg2 W e w') := fun W hW => made_prog2 a n c b o R again W ((hr.below hW).mono hW.size) hc
  have HT := hid ht
  have HPR := hid hpr
  have HRM := hid (And.intro h1 h2)
  have h0 : 0 < w.heap.size := ht.1
  clear hr hpr ht hxr hyr hlnx hlny hsx hsy h1 h2 q0 q1 hlx hly
  go_enter Tryd.func8, Tryd.ntmps8
  go_wp2_with fail
  refine (HP.out _ (by repeat (first | exact Below.refl _ _ | refine Below.drew ?_ | refine Below.drewQ ?_ _ | refine Below.alloc ?_ (by first | (simp; done) | (simp; omega)) _))).mono ?_
  rintro e w1 ⟨g, rfl, hpg, hck, hb1, har⟩
  have hB1 : Below w.heap.size w w1 := below_via' hb1 (by repeat (first | exact Below.refl _ _ | refine Below.drew ?_ | refine Below.drewQ ?_ _ | refine Below.alloc ?_ (by first | (simp; done) | (simp; omega)) _))
  have ht1 : Tab w1 := HT.out.held hB1.size (hB1.block 0 h0)
  have HBG : Hid (∀ W, Below w1.heap.size w1 W → Calls Tryd.prog 15 #[.agg #[.slice g.a g.n g.c], .int .i64 room] W fun e w' => BegunPost2 g cap W e w') := fun W hW => begun_any2 g W (hpg.held hW.size fun k hk => hW.block k (hpg.blk_lt hk)) (ht1.held hW.size (hW.block 0 ht1.1)) hck room HRM.out.1 HRM.out.2 cap hcap.symm
  have HB1 := hid hB1
  have HPK := hid (pgOk_of hck)
  have HAR := hid har
  clear hpg hck hb1 hB1 ht1 har hcap HT HRM
  go_wp2_with fail
  refine (HBG.out _ (by repeat (first | exact Below.refl _ _ | refine Below.drew ?_ | refine Below.drewQ ?_ _ | refine Below.alloc ?_ (by first | (simp; done) | (simp; omega)) _))).mono ?_
  rintro e w2 ⟨oa, ma, ga, Ra, rfl, hma, hbga, hsa, hb2, hna, hba⟩
  have pc2 : w2.cell? ⟨w1.heap.size, 0, none⟩ = some (.slice g.a g.n g.c) := (hb2.cell (p := ⟨w1.heap.size, 0, none⟩) (by simp)).trans (by go_simp)
  have hl2 : w1.heap.size < w2.heap.size := Nat.lt_of_lt_of_le (by simp) hb2.size
  have hB2 : Below w1.heap.size w1 w2 := below_via' hb2 (by repeat (first | exact Below.refl _ _ | refine Below.drew ?_ | refine Below.drewQ ?_ _ | refine Below.alloc ?_ (by first | (simp; done) | (simp; omega)) _))
  have HMA := hid hma
  have HBA := hid hbga
  have HSA := hid hsa
  have HB2 := hid hB2
  have HNA : Hid (∀ k t, oa k = some t → w.heap.size ≤ k) := fun k t hk => Nat.le_trans (Nat.le_trans HB1.out.size (by simp)) (hna k t hk)
  clear hma hbga hsa hb2 hna hba hB2
  go_wp2_with fail
  refine (HBG.out _ HB2.out).mono ?_
  rintro e w3 ⟨ob, mb, gb, Rb, rfl, hmb, hbgb, hsb, hb3, hnb, hbb⟩
  obtain ⟨s0, hs0⟩ : ∃ s0 : McA, s0 = ⟨0, [], [⟨0, 0, List.replicate (g.f 0).l.toNat (0, 0), []⟩], List.replicate cap (0, []), []⟩ := ⟨_, rfl⟩
  have hinv : InvA g s0 := by rw [hs0]; exact inv_begin HPK.out hcap1 hcap2
  have hints : IntsA s0 := by rw [hs0]; exact ints_begin _ _ _
  have hdr0 : s0.dr.length = 0 := by rw [hs0]; rfl
  have HTM : Hid (TM w w3 g oa ob ma mb ga gb Ra Rb s0 s0) := ⟨⟨HMA.out.same hb3.size fun k hk => hb3.block k hk, hmb, fun k t hk => HMA.out.new (hnb k t hk), fun k hk => HMA.out.new (hbb k hk), fun k hk => by
    cases e : ob k with
    | none => rfl
    | some t => have := hnb k t e; have := HMA.out.pg.blk_lt hk; omega⟩, by rw [hs0]; exact ⟨(begun_is HBA.out).1, (begun_is HBA.out).2⟩, by rw [hs0]; exact ⟨(begun_is hbgb).1, (begun_is hbgb).2⟩, HSA.out, hsb, hinv, hinv, hints, hints, HNA.out, fun k t hk => Nat.le_trans (Nat.le_trans HB1.out.size HB2.out.size) (hnb k t hk), below_via' (below_via' hb3 HB2.out) HB1.out⟩
  clear hmb hbgb hsb hb3 hnb hbb pc2 hl2 hs0 hinv hints HBA HB2 HMA HBG HB1 HP HNA HSA
  go_wp2_with (go_at_call 25; refine (HSX.out _).mono ?_; rintro e w' ⟨rfl, hw⟩; rw [hw]; clear hw w')
  refine (HTM.out.draw xa xc lx (HLX.out.later HTM.out.bel) (by omega)).mono ?_
  rintro e w4 ⟨rfl, oa4, Ra4, h4⟩
  have H4 := hid h4
  clear h4 HTM HSX HLX
  go_wp2_with (go_at_call 25; refine (HSY.out _).mono ?_; rintro e w' ⟨rfl, hw⟩; rw [hw]; clear hw w')
  refine (H4.out.flip.draw ya yc ly (HLY.out.later H4.out.bel) (by omega)).mono ?_
  rintro e w5 ⟨rfl, ob5, Rb5, h5⟩
  obtain ⟨sA, hsA⟩ : ∃ sA : McA, sA = { s0 with dr := s0.dr ++ lx } := ⟨_, rfl⟩
  obtain ⟨sB, hsB⟩ : ∃ sB : McA, sB = { s0 with dr := s0.dr ++ ly } := ⟨_, rfl⟩
  have h5' := h5.flip
  rw [← hsA, ← hsB] at h5'
  have HREL : Hid (Rel id sA sB) := by
    have := rel_draws h5'.inva (s0.dr ++ ly)
    have e : ({ sA with dr := s0.dr ++ ly } : McA) = sB := by rw [hsA, hsB]
    rw [e] at this
    exact this
  have H5 := hid h5'
  clear h5 h5' H4 HSY HLY hsA hsB hdr0
  go_wp2_with fail
  go_loopw [18] (fun vi wr => ∃ (i : Nat) (oa ob : Own) (Ra Rb : McR) (s t : McA) (r : Nat → Nat), i ≤ 20 ∧ i ≤ pn ∧ vi = .int .i64 i ∧ TM w wr g oa ob ma mb ga gb Ra Rb s t ∧ Rel r s t) (fun vi _ => pn - (intOf vi).toNat)
  case atStart => exact ⟨0, oa4, ob5, Ra4, Rb5, sA, sB, id, by omega, Nat.zero_le _, rfl, H5.out, HREL.out⟩
  case round =>
    obtain ⟨i, oa, ob, Ra, Rb, s, t, r, hi20, hip, rfl, htm, hrl⟩ := hrel
    clear H5 HREL
    have hpn := HPR.out.1
    by_cases hlt : i < pn ∧ i < 20
    · obtain ⟨hlt1, hlt2⟩ := hlt
      obtain ⟨hpa, hpb, hpcell⟩ := HPR.out.2.1 (by omega)
      have hbd := HPR.out.2.2 i
      have hc0 := hpcell i hlt1
      have x0 := (htm.bel.cell (p := ⟨pb, po + i, none⟩) hpb).trans hc0
      have hpw : pb < wr.heap.size := Nat.lt_of_lt_of_le hpb htm.bel.size
      obtain ⟨q400, q401⟩ := pickI_bd400 (PR i)
      obtain ⟨f, hf⟩ := Int.eq_ofNat_of_zero_le q400
      have hf4 : f < 400 := by omega
      obtain ⟨⟨q, hrel'⟩, hsteps⟩ := run_rel HPK.out f hrl htm.inva htm.invb
      have hm4 := stepsA_le g f s
      have HRA : Hid (∀ W, Below wr.heap.size wr W → Calls Tryd.prog 16 #[.pointer (some ⟨ma, 0, none⟩), .int .i64 (f : Int)] W fun e w' => e = .returned (.tuple #[.int .i64 (stepsA g f s : Int), .int .i64 0]) ∧ ∃ oa' Ra', TM w w' g oa' ob ma mb ga gb Ra' Rb (runA g f s) t) := fun W hW => (htm.later hW).run HPK.out HAR.out f (by omega)
      have HRB : Hid (∀ W oa' Ra', TM w W g oa' ob ma mb ga gb Ra' Rb (runA g f s) t → Calls Tryd.prog 16 #[.pointer (some ⟨mb, 0, none⟩), .int .i64 (f : Int)] W fun e w' => e = .returned (.tuple #[.int .i64 (stepsA g f s : Int), .int .i64 0]) ∧ ∃ ob' Rb', TM w w' g oa' ob' ma mb ga gb Ra' Rb' (runA g f s) (runA g f t)) := fun W oa' Ra' h => by
        refine (h.flip.run HPK.out HAR.out f (by omega)).mono ?_
        rintro e w' ⟨rfl, ob', Rb', h'⟩
        exact ⟨by rw [hsteps], ob', Rb', h'.flip⟩
      have HREL := hid hrel'
      rw [hpa]
      clear hrel' hsteps htm hrl hpcell hpn q400 q401
      generalize runA g f s = s' at *
      generalize runA g f t = t' at *
      generalize stepsA g f s = m at *
      generalize PR i = x at *
      have hquo : IntKind.i64.wrap (x.tdiv 2) = x.tdiv 2 := Go.IntWalk.i64_in _ (by have := tdiv2_bd hbd.1 hbd.2; omega)
      go_wp2_with (go_at_call 17; refine (fuel_any _ _ hbd.1 hbd.2).mono ?_; rintro e w' ⟨he, hw⟩; rw [hf] at he; rw [he, hw]; clear he hw e w')
      refine (HRA.out _ (by repeat (first | exact Below.refl _ _ | refine Below.drew ?_ | refine Below.drewQ ?_ _ | refine Below.alloc ?_ (by first | (simp; done) | (simp; omega)) _))).mono ?_
      rintro e w4 ⟨rfl, oa4, Ra4, h4⟩
      have x4 := (h4.bel.cell (p := ⟨pb, po + i, none⟩) hpb).trans hc0
      have hpw4 : pb < w4.heap.size := Nat.lt_of_lt_of_le hpb h4.bel.size
      have H4 := hid h4
      clear h4 x0 hpw HRA
      go_wp2_with (go_at_call 17; refine (fuel_any _ _ hbd.1 hbd.2).mono ?_; rintro e w' ⟨he, hw⟩; rw [hf] at he; rw [he, hw]; clear he hw e w')
      refine (HRB.out _ _ _ H4.out).mono ?_
      rintro e w5 ⟨rfl, ob5, Rb5, h5⟩
      have x5 := (h5.bel.cell (p := ⟨pb, po + i, none⟩) hpb).trans hc0
      have hpw5 : pb < w5.heap.size := Nat.lt_of_lt_of_le hpb h5.bel.size
      have H5 := hid h5
      clear h5 x4 hpw4 HRB H4
      by_cases e1 : x.tmod 2 = 0
      · by_cases e2 : (x.tdiv 2).tmod 2 = 0
        · go_wp2_with fail
          refine (alike_any H5.out HPK.out HAR.out HREL.out).mono ?_
          rintro e w8 ⟨rfl, hb8⟩
          have H8 := hid (H5.out.later hb8)
          clear hb8
          go_wp2_with fail
          go_roundw
          case rel => exact ⟨i + 1, _, _, _, _, _, _, _, by omega, by omega, by go_num, H8.out, HREL.out⟩
          case measure => simp [intOf]; omega
        · go_wp2_with fail
          refine (H5.out.flip.collect HPK.out).mono ?_
          rintro e w7 ⟨⟨n7, rfl⟩, ob7, Rb7, h7⟩
          have H7 := hid h7.flip
          obtain ⟨r7, hr7⟩ := HREL.out.collectR H5.out.inva H5.out.invb
          have HR7 := hid hr7
          clear h7 hr7
          go_wp2_with fail
          refine (alike_any H7.out HPK.out HAR.out HR7.out).mono ?_
          rintro e w8 ⟨rfl, hb8⟩
          have H8 := hid (H7.out.later hb8)
          clear hb8
          go_wp2_with fail
          go_roundw
          case rel => exact ⟨i + 1, _, _, _, _, _, _, _, by omega, by omega, by go_num, H8.out, HR7.out⟩
          case measure => simp [intOf]; omega
      · go_wp2_with fail
        refine (H5.out.collect HPK.out).mono ?_
        rintro e w6 ⟨⟨n6, rfl⟩, oa6, Ra6, h6⟩
        have x6 := (h6.bel.cell (p := ⟨pb, po + i, none⟩) hpb).trans hc0
        have hpw6 : pb < w6.heap.size := Nat.lt_of_lt_of_le hpb h6.bel.size
        have H6 := hid h6
        obtain ⟨r6, hr6⟩ := HREL.out.collectL H5.out.inva
        have HR6 := hid hr6
        clear h6 hr6 x5 hpw5
        by_cases e2 : (x.tdiv 2).tmod 2 = 0
        · go_wp2_with fail
          refine (alike_any H6.out HPK.out HAR.out HR6.out).mono ?_
          rintro e w8 ⟨rfl, hb8⟩
          have H8 := hid (H6.out.later hb8)
          clear hb8
          go_wp2_with fail
          go_roundw
          case rel => exact ⟨i + 1, _, _, _, _, _, _, _, by omega, by omega, by go_num, H8.out, HR6.out⟩
          case measure => simp [intOf]; omega
        · go_wp2_with fail
          refine (H6.out.flip.collect HPK.out).mono ?_
          rintro e w7 ⟨⟨n7, rfl⟩, ob7, Rb7, h7⟩
          have H7 := hid h7.flip
          obtain ⟨r7, hr7⟩ := HR6.out.collectR H6.out.inva H6.out.invb
          have HR7 := hid hr7
          clear h7 hr7
          go_wp2_with fail
          refine (alike_any H7.out HPK.out HAR.out HR7.out).mono ?_
          rintro e w8 ⟨rfl, hb8⟩
          have H8 := hid (H7.out.later hb8)
          clear hb8
          go_wp2_with fail
          go_roundw
          case rel => exact ⟨i + 1, _, _, _, _, _, _, _, by omega, by omega, by go_num, H8.out, HR7.out⟩
          case measure => simp [intOf]; omega
    · have HTM := hid htm
      have HRL := hid hrl
      clear htm hrl
      go_wp2_with fail
      all_goals
        refine (alike_any HTM.out HPK.out HAR.out HRL.out).mono ?_
        rintro e w8 ⟨rfl, hb8⟩
        have HB8 := hid (below_via' hb8 HTM.out.bel)
        clear hb8
        go_wp2_with fail
        go_ret
        exact ⟨rfl, HB8.out⟩

end Go.Proofs.YtbkmgoffiigdbaaDoor

namespace Go.Proofs.YtbkmgoffiigdbaaDoor
open Go.ChangeShapes Go.WideShapes Go.ChangeAt Go.RowKit

theorem ureadable3 : Tryd.prog.readableRec 3 = true := by kernel_rfl
theorem urow3 : 3 < Tryd.prog.types.size := of_decide_eq_true (by kernel_rfl)

set_option maxRecDepth 100000 in
theorem ucontract (H : Type) (enc : TypeId × Value → H) (W : World) (base : Nat) (args : Array Value) (ds gs : List (DataW H)) (before : List MemPlace)
    (hval : ∀ (j : Nat) t v, Tryd.f8.params[j]? = some t → args[j]? = some v → Value.okWide Tryd.prog W .any base t v)
    (hW : DataW.Whole enc Tryd.prog Tryd.f8.params.toList Rows.unseenSpec.vars false W args.toList ds gs before)
    (hsz : (DataW.weightsEach Tryd.prog (Tryd.f8.params.toList ++ (OpenSpec.ofChange Rows.unseenSpec).bare.plain.varTypes Tryd.prog) (ds ++ gs)).all (· ≤ reachBytes) = true)
    (hL : laidMetH Tryd.prog Rows.unseenRow.laid W) :
    Calls Tryd.prog 8 args W fun e W' => ∃ v, e = .returned v ∧ Rows.unseenSpec.post enc Tryd.prog Tryd.f8 false true false false W args v W' := by
  have hW' := hW
  have hlt := hW.lt
  obtain ⟨p, q, hA0, hV, rfl, hfz, hnd⟩ := hW
  have hA : DataW.TrodAll enc Tryd.prog W 0 (fun _ => true) true Tryd.f8.params.toList args.toList ds p := hA0
  rw [Tryd.params8] at hA hval hsz
  obtain ⟨v0, vs0, d0, ds0, p0, q0, hargs, rfl, rfl, h0, r0⟩ := trodAll_cons hA
  obtain ⟨v1, vs1, d1, ds1, p1, q1, rfl, rfl, rfl, h1, r1⟩ := trodAll_cons r0
  obtain ⟨v2, vs2, d2, ds2, p2, q2, rfl, rfl, rfl, h2, r2⟩ := trodAll_cons r1
  obtain ⟨v3, vs3, d3, ds3, p3, q3, rfl, rfl, rfl, h3, r3⟩ := trodAll_cons r2
  obtain ⟨v4, vs4, d4, ds4, p4, q4, rfl, rfl, rfl, h4, r4⟩ := trodAll_cons r3
  obtain ⟨v5, vs5, d5, ds5, p5, q5, rfl, rfl, rfl, h5, r5⟩ := trodAll_cons r4
  obtain ⟨rfl, rfl, rfl⟩ := trodAll_nil r5
  obtain rfl : args = #[v0, v1, v2, v3, v4, v5] := by cases args; simp_all
  obtain ⟨rfl, rfl⟩ := trodVars_none hV
  clear hA0
  obtain ⟨a', n', c', rfl⟩ := okWide_slice Tryd.underlying31 (hval 0 31 v0 rfl rfl)
  have h1' := h1
  obtain ⟨again, rfl, hd1, hp1⟩ := open_bool Tryd.underlying4 (hval 1 4 v1 rfl rfl) h1
  have h2' := h2
  obtain ⟨room, rfl, hd2, hp2, hwf⟩ := open_int Tryd.underlying3 (hval 2 3 v2 rfl rfl) h2
  obtain ⟨hr1, hr2⟩ := wf_bd hwf
  obtain ⟨pa', pn', pc', rfl⟩ := okWide_slice Tryd.underlying31 (hval 3 31 v3 rfl rfl)
  obtain ⟨xa', xn', xc', rfl⟩ := okWide_slice Tryd.underlying31 (hval 4 31 v4 rfl rfl)
  obtain ⟨ya', yn', yc', rfl⟩ := okWide_slice Tryd.underlying31 (hval 5 31 v5 rfl rfl)
  have h0' := h0
  obtain ⟨fuel, hf⟩ := h0
  have h3' := h3
  obtain ⟨fuel3, hf3⟩ := h3
  have h4' := h4
  obtain ⟨fuel4, hf4⟩ := h4
  have h5' := h5
  obtain ⟨fuel5, hf5⟩ := h5
  obtain ⟨a, n, c, b, o, R, hc, hraw, hnc⟩ := open_raw hf (fun y hm => by
    have hmem : y ∈ DataW.weightsEach Tryd.prog (#[31, 4, 3, 31, 31, 31].toList ++ (OpenSpec.ofChange Rows.unseenSpec).bare.plain.varTypes Tryd.prog) ([d0, d1, d2, d3, d4, d5] ++ []) := by
      simp only [List.cons_append, List.nil_append, DataW.weightsEach, List.mem_append]
      exact Or.inl hm
    have := mall_mem hsz hmem
    simpa [reachBytes] using this)
  obtain ⟨pa, pn, pc, pb, po, PR, hpc, hpraw, hpnc⟩ := open_raw hf3 (fun y hm => by
    have hmem : y ∈ DataW.weightsEach Tryd.prog (#[31, 4, 3, 31, 31, 31].toList ++ (OpenSpec.ofChange Rows.unseenSpec).bare.plain.varTypes Tryd.prog) ([d0, d1, d2, d3, d4, d5] ++ []) := by
      simp only [List.cons_append, List.nil_append, DataW.weightsEach, List.mem_append]
      exact Or.inr (Or.inr (Or.inr (Or.inl hm)))
    have := mall_mem hsz hmem
    simpa [reachBytes] using this)
  obtain ⟨xa, xn, xc, xb, xo, XR, hxc, hxraw, hxnc⟩ := open_raw hf4 (fun y hm => by
    have hmem : y ∈ DataW.weightsEach Tryd.prog (#[31, 4, 3, 31, 31, 31].toList ++ (OpenSpec.ofChange Rows.unseenSpec).bare.plain.varTypes Tryd.prog) ([d0, d1, d2, d3, d4, d5] ++ []) := by
      simp only [List.cons_append, List.nil_append, DataW.weightsEach, List.mem_append]
      exact Or.inr (Or.inr (Or.inr (Or.inr (Or.inl hm))))
    have := mall_mem hsz hmem
    simpa [reachBytes] using this)
  obtain ⟨ya, yn, yc, yb, yo, YR, hyc, hyraw, hync⟩ := open_raw hf5 (fun y hm => by
    have hmem : y ∈ DataW.weightsEach Tryd.prog (#[31, 4, 3, 31, 31, 31].toList ++ (OpenSpec.ofChange Rows.unseenSpec).bare.plain.varTypes Tryd.prog) ([d0, d1, d2, d3, d4, d5] ++ []) := by
      simp only [List.cons_append, List.nil_append, DataW.weightsEach, List.mem_append]
      exact Or.inr (Or.inr (Or.inr (Or.inr (Or.inr (Or.inl hm)))))
    have := mall_mem hsz hmem
    simpa [reachBytes] using this)
  obtain ⟨rfl, rfl, rfl⟩ : a' = a ∧ n' = n ∧ c' = c := by simpa [Value.cells] using hc
  obtain ⟨rfl, rfl, rfl⟩ : pa' = pa ∧ pn' = pn ∧ pc' = pc := by simpa [Value.cells] using hpc
  obtain ⟨rfl, rfl, rfl⟩ : xa' = xa ∧ xn' = xn ∧ xc' = xc := by simpa [Value.cells] using hxc
  obtain ⟨rfl, rfl, rfl⟩ : ya' = ya ∧ yn' = yn ∧ yc' = yc := by simpa [Value.cells] using hyc
  refine (unseen_any a' n' c' b o R again room pa' pn' pc' pb po PR xa' xn' xc' xb xo XR ya' yn' yc' yb yo YR W hraw hnc hr1 hr2 hpraw ⟨hxraw.1, hxraw.2.1⟩ hxnc ⟨hyraw.1, hyraw.2.1⟩ hync (tab_of_laid hL)).mono fun e W' ⟨he, hb⟩ => ?_
  subst he
  refine ⟨_, rfl, [d0, d1, d2, d3, d4, d5], [], p0 ++ (p1 ++ (p2 ++ (p3 ++ (p4 ++ (p5 ++ []))))) ++ [], [], p0 ++ (p1 ++ (p2 ++ (p3 ++ (p4 ++ (p5 ++ []))))), [], hW', ?_, ?_, rfl, hb.frame _, fun h => by cases h⟩
  · exact trodAll_cons_mk (shut_bool Tryd.underlying4 _) trodAll_mk0
  · exact trodAll_cons_mk (Below.trod mlaidOut mreadable31 mrow31 h0' hb (fun x hx => hlt x (by simp [hx]))) (trodAll_cons_mk (Below.trod mlaidOut mreadable4 mrow4 h1' hb (fun x hx => hlt x (by simp [hx]))) (trodAll_cons_mk (Below.trod mlaidOut ureadable3 urow3 h2' hb (fun x hx => hlt x (by simp [hx]))) (trodAll_cons_mk (Below.trod mlaidOut mreadable31 mrow31 h3' hb (fun x hx => hlt x (by simp [hx]))) (trodAll_cons_mk (Below.trod mlaidOut mreadable31 mrow31 h4' hb (fun x hx => hlt x (by simp [hx]))) (trodAll_cons_mk (Below.trod mlaidOut mreadable31 mrow31 h5' hb (fun x hx => hlt x (by simp [hx]))) trodAll_mk0)))))

theorem udoor_met (os : Os) (args : Array Value) : laidMetH Tryd.prog Rows.unseenRow.laid ((World.doorLaid Tryd.prog 42 os).forCall (fun _ _ => 0) ⟨#[], args, []⟩).memory :=
  laidMetH_of_parts3 (fuel := 8) (laidMet_of_run' 8 (by kernel_rfl) (by kernel_rfl)) (by kernel_rfl) (by kernel_rfl)

theorem ureads (os : Os) {H : Type} (enc : TypeId × Value → H) : ∃ places, DataW.whole enc Tryd.prog ((World.doorLaid Tryd.prog 42 os).forCall (fun _ _ => 0) ⟨#[], #[.slice none 0 0, .bool false, .int .i64 0, .slice none 0 0, .slice none 0 0, .slice none 0 0], []⟩).memory Tryd.f8.params.toList Rows.unseenSpec.vars false #[Value.slice none 0 0, .bool false, .int .i64 0, .slice none 0 0, .slice none 0 0, .slice none 0 0].toList 8 = some ([.nil, .lit (.bool false), .lit (.int .i64 0), .nil, .nil, .nil], [], places) :=
  ⟨[], by kernel_rfl⟩

set_option maxRecDepth 100000 in
theorem ulifted (os : Os) (started : os.Started) (H : Type) (enc : TypeId × Value → H) (F : Stop.Interp) :
    ReturnsInHanded {} Tryd.checked os 8 .any ((OpenSpec.ofChange Rows.unseenSpec).preRow enc Tryd.prog Tryd.f8 Rows.unseenRow.domain false Rows.unseenRow.laid) (((OpenSpec.ofChange Rows.unseenSpec).at F).post enc Tryd.prog Tryd.f8 false true false false) := by
  obtain ⟨places, hx⟩ := ureads os enc
  refine returnsInHanded_of_row (C := Tryd.checked) (s := OpenSpec.ofChange Rows.unseenSpec) mown started (by kernel_rfl) Tryd.func8
    (witness_row_atRef (enc := enc) (C := Tryd.checked) false (World.doorLaid Tryd.prog 42 os) #[.slice none 0 0, .bool false, .int .i64 0, .slice none 0 0, .slice none 0 0, .slice none 0 0] rfl (by kernel_rfl) (by kernel_rfl) (by kernel_rfl)
      (OpenSpec.preRow_of_cond 8 hx (by kernel_rfl) (fun k hk => by cases hk) (by kernel_rfl) (udoor_met os _))) ?_
  intro W base args ds gs before hval hW _ _ hsz hL _ _
  exact ucontract H enc W base args ds gs before hval hW hsz hL

theorem usaid : Rows.UnseenSaid :=
  OpenClaim.holds_of_cond 8 Tryd.f8 rfl rfl rfl rfl rfl rfl rfl ⟨rfl, rfl, rfl, rfl, rfl⟩ rfl rfl rfl rfl rfl (by kernel_rfl) Tryd.func8 (by kernel_rfl)
    (of_decide_eq_true (by kernel_rfl)) (by unfold Func.isWrapper; first | (rw [if_pos (by decide +kernel)]; kernel_rfl) | (rw [if_neg (by decide +kernel)]; exact ⟨rfl, rfl⟩))
    (fun os started H enc _ F => by rw [OpenClaim.pre_eq_preRow]; exact ulifted os started H enc F)

theorem uplain (f : FuncId) (fn : Func) (hf : Tryd.pinned.checked.prog.funcNamed "slumber/slumberkeep.Unseen" = some f) (hfn : Tryd.pinned.checked.prog.funcs[f]? = some fn) :
    false = Tryd.pinned.checked.prog.looks [] ∧ ∀ (j : Nat) t, fn.params[j]? = some t → Tryd.pinned.checked.prog.wantsStandIn t = false := by
  obtain rfl : f = 8 := Option.some.inj ((show Tryd.prog.funcNamed "slumber/slumberkeep.Unseen" = some 8 by kernel_rfl).symm.trans hf) |>.symm
  obtain rfl : fn = Tryd.f8 := (Option.some.inj (Tryd.func8.symm.trans hfn)).symm
  refine ⟨by kernel_rfl, fun j t ht => ?_⟩
  rw [Tryd.params8] at ht
  have hm : t = 31 ∨ t = 4 ∨ t = 3 := by
    have := Array.mem_of_getElem? ht
    simp at this
    rcases this with rfl | rfl | rfl | rfl | rfl | rfl
    all_goals first | exact Or.inl rfl | exact Or.inr (Or.inl rfl) | exact Or.inr (Or.inr rfl)
  rcases hm with rfl | rfl | rfl
  · exact (show Tryd.prog.wantsStandIn 31 = false by kernel_rfl)
  · exact (show Tryd.prog.wantsStandIn 4 = false by kernel_rfl)
  · exact (show Tryd.prog.wantsStandIn 3 = false by kernel_rfl)

theorem unseen_card : Rows.UnseenCardSaid :=
  Claim7.holds_tied_plain_at .later [] _ _ _ _ usaid (fun _ h => by cases h) (by kernel_rfl) (fun _ h => by cases h) unseen_row_tie rfl ⟨rfl, rfl⟩ (by kernel_rfl) rfl uplain (by kernel_rfl)

end Go.Proofs.YtbkmgoffiigdbaaDoor
