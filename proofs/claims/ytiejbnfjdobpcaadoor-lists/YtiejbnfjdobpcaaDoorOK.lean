import Derived.Test.YtiejbnfjdobpcaaDoorNX
import Derived.Test.YtiejbnfjdobpcaaDoorOJ
namespace Go.Proofs.YtiejbnfjdobpcaaDoor
open Go.RowKit Go.Sort

/-- A machine that has ended, with what it has put out. -/
structure EndedL (cap : Nat) (out : List Int) (R : McR) : Prop where
  st : R.st = 1
  out : R.out = out
  obs : R.obs.length = cap
  nil : NilOut R

theorem ended_outs {own : Own} {mb cap : Nat} {g : PgR} {R : McR} {w : World} {out : List Int} (h : MachAt w own mb g R) (hR : EndedL cap out R) (hn : out.length ≤ 1000) :
    Calls Tryd.prog 19 #[.pointer (some ⟨mb, 0, none⟩)] w fun e w' => ∃ a b c, e = .returned (.slice a out.length c) ∧ NumsIn w' a out b 0 ∧ Below w.heap.size w w' := by
  refine (Output_any h (by rw [hR.out]; exact hn) hR.nil).mono ?_
  rintro e w' ⟨hB, ⟨h0, rfl⟩ | ⟨_, b, c, rfl, hown, _⟩⟩
  · rw [hR.out] at h0
    subst h0
    exact ⟨none, 0, 0, rfl, fun h => by simp at h, hB⟩
  · rw [hR.out] at hown
    refine ⟨_, b, c, by rw [hR.out], fun h => ⟨rfl, ?_, fun i x hx => ?_⟩, hB⟩
    · rcases hown.2 with ⟨_, h0⟩ | ⟨_, _, _, hv, h1, hg, _⟩
      · omega
      · cases hv; exact (Array.getElem?_eq_some_iff.1 hg).1
    · have hi := (List.getElem?_eq_some_iff.1 hx).1
      rw [Nat.zero_add, hown.cellAt i (by simpa using hi)]
      simp [hx]

def ToldL (out : List Int) (w : World) (e : Ending) (w' : World) : Prop :=
  ∃ a b c, e = .returned (.tuple #[.slice a out.length c, .bool true]) ∧ NumsIn w' a out b 0 ∧ Below w.heap.size w w'

theorem NumsIn.on {w w' : World} {a : Option Addr} {l : List Int} {b o : Nat} (h : NumsIn w a l b o) (hB : Below w.heap.size w w') : NumsIn w' a l b o := fun h0 => by
  obtain ⟨h1, h2, h3⟩ := h h0
  exact ⟨h1, Nat.lt_of_lt_of_le h2 hB.size, fun i x hx => by rw [hB.cell (p := ⟨b, o + i, none⟩) h2]; exact h3 i x hx⟩

set_option maxRecDepth 100000 in
set_option maxHeartbeats 1000000 in
theorem told_list (g : PgR) (w : World) (hg : PgIn w.heap.size w g) (ht : Tab w) (hck : CheckIs g 0 0) (out : List Int) (hn : out.length ≤ 1000) (N : Nat)
    (hrun : ∀ own mb g' R w, MachAt w own mb g' R → Begun g 11 R → Same g g' → Calls Tryd.prog 40 #[.pointer (some ⟨mb, 0, none⟩), .int .i64 1000] w fun e w' => RunPost own mb g' (EndedL 11 out) N w e w') :
    Calls Tryd.prog 22 #[.agg #[.slice g.a g.n g.c]] w fun e w' => ToldL out w e w' := by
  have HB : Hid (∀ W, Below w.heap.size w W → Calls Tryd.prog 14 #[.agg #[.slice g.a g.n g.c], .int .i64 10] W fun e w' => BegunPost g 11 W e w') := fun W hW =>
    begun_any g W (hg.held hW.size fun k hk => hW.block k (hg.blk_lt hk)) (ht.held hW.size (hW.block 0 ht.1)) hck 10 (by omega) (by omega) 11 (by decide)
  have HR := hid hrun
  clear hg ht hck hrun
  go_enter Tryd.func22, Tryd.ntmps22
  go_wp2_with (go_at_call 14; refine (HB.out _ ?_).mono ?_; exact (by repeat (first | exact Below.refl _ _ | refine Below.alloc ?_ (by first | (simp; done) | (simp; omega)) _)); rintro e w2 ⟨own, mb, g', R, rfl, hm, hbg, hsame, hb, hnew⟩; have HB2 : Hid (Below w.heap.size w w2) := below_via' hb (by repeat (first | exact Below.refl _ _ | refine Below.alloc ?_ (by first | (simp; done) | (simp; omega)) _)); have HRUN := hid (Run_any (HR.out own mb g' R w2 hm hbg hsame)); have HNEW := hid hnew; clear hm hbg hsame hb hnew)
  refine HRUN.out.mono ?_
  rintro e w3 ⟨own3, R3, rfl, hm3, hend3, ht3⟩
  have HM3 := hid hm3
  have HE3 := hid hend3
  have HST : Hid (∀ U, Below w3.heap.size w3 U → Calls Tryd.prog 17 #[.pointer (some ⟨mb, 0, none⟩)] U fun e w' => e = .returned (.agg #[.int .i64 1, .int .i64 (taken R3.obs : Int), .int .i64 (R3.dr.length : Int)]) ∧ Below U.heap.size U w') := by
    intro U hU
    have := Status_any (hm3.same hU.size fun k hk => hU.block k hk) (by rw [hend3.obs]; omega) (by rw [hend3.obs]; omega)
    rw [hend3.st] at this
    exact this
  have HOUT : Hid (∀ U, Below w3.heap.size w3 U → Calls Tryd.prog 19 #[.pointer (some ⟨mb, 0, none⟩)] U fun e w' => ∃ a b c, e = .returned (.slice a out.length c) ∧ NumsIn w' a out b 0 ∧ Below U.heap.size U w') :=
    fun U hU => ended_outs (hm3.same hU.size fun k hk => hU.block k hk) hend3 hn
  have HB3 : Hid (Below w.heap.size w w3) := HB2.out.trans (ht3.below HB2.out.size fun k hk => by
    cases e : own k with
    | none => rfl
    | some t => have := HNEW.out k t e; simp at this; omega)
  clear hm3 hend3 ht3
  go_wp2_with (first | (go_at_call 17; refine (HST.out _ ?_).mono ?_; exact (by repeat (first | exact Below.refl _ _ | refine Below.alloc ?_ (by first | (simp; done) | (simp; omega)) _)); rintro e w5 ⟨rfl, hb5⟩; have HB5 : Hid (Below w3.heap.size w3 w5) := below_via' hb5 (by repeat (first | exact Below.refl _ _ | refine Below.alloc ?_ (by first | (simp; done) | (simp; omega)) _)); clear hb5))
  have j0 : (w5.alloc (Obj.cells #[.int .i64 1, .int .i64 (taken R3.obs : Int), .int .i64 (R3.dr.length : Int)] 45)).cell? ⟨w5.heap.size, 0, none⟩ = some (.int .i64 1) := by go_simp
  have hBV : Below w3.heap.size w3 (w5.alloc (Obj.cells #[.int .i64 1, .int .i64 (taken R3.obs : Int), .int .i64 (R3.dr.length : Int)] 45)) := Below.alloc HB5.out HB5.out.size _
  have hlV : w5.heap.size < (w5.alloc (Obj.cells #[.int .i64 1, .int .i64 (taken R3.obs : Int), .int .i64 (R3.dr.length : Int)] 45)).heap.size := by simp
  generalize (w5.alloc (Obj.cells #[.int .i64 1, .int .i64 (taken R3.obs : Int), .int .i64 (R3.dr.length : Int)] 45)) = V at *
  have HBV := hid hBV
  clear hBV
  go_region_with (first | (go_at_call 19; refine (HOUT.out _ ?_).mono ?_; exact (by repeat (first | exact HBV.out | refine Below.drew ?_)); rintro e w6 ⟨a, b, c, rfl, hcell, hB6⟩; have j6 := (hB6.cell (p := ⟨w5.heap.size, 0, none⟩) hlV).trans j0; have HC := hid hcell; have HB6 : Hid (Below w3.heap.size w3 w6) := below_via' hB6 (by repeat (first | exact HBV.out | refine Below.drew ?_)); clear hcell hB6))
  all_goals
    go_wp2_with fail
    go_ret2
    exact ⟨a, b, c, rfl, HC.out, below_via' HB6.out HB3.out⟩

/-- Lists: the program is made, and run. -/
theorem told_rev (g : PgR) (l : List Int) (w : World) (hl : l.length ≤ 6) (hg : PgIn w.heap.size w g) (ht : Tab w) (hs : SProg g 1 (revL l)) :
    Calls Tryd.prog 22 #[.agg #[.slice g.a g.n g.c]] w fun e w' => ToldL l.reverse w e w' := by
  have hlen : (revL l).length = l.length * 8 + 11 := by
    unfold revL
    rw [List.length_append, revRow_len]
    rfl
  refine told_list g w hg ht (okL_check hs (by omega) (by omega) ?_ (rev_ok l hl)) l.reverse (by simp; omega) (18 * l.length + 4) ?_
  · match l with
    | [] => rfl
    | _ :: _ => rfl
  · intro own mb g' R w' hm hbg hsame
    obtain ⟨lv, hf⟩ := hbg.frs
    have h1 : (g.f 0).l = ((1 : Nat) : Int) := hs.l
    have hR : R.abs = revS := by
      unfold McR.abs revS
      rw [hbg.st, hbg.out, hf, hbg.obs, hbg.dr, h1]
      rfl
    have hrun := rev_run l hl
    rw [← hR] at hrun
    obtain ⟨s, hs1, hs2⟩ := Option.map_eq_some_iff.1 hrun
    have e1 : s.st = 1 := congrArg (·.1) hs2
    have e2 : s.out = l.reverse := congrArg (·.2.1) hs2
    have e3 : s.obs.length = 11 := congrArg (·.2.2) hs2
    refine (run_list (hs.same hsame) (by omega) hm (fun _ => hbg.ov) (18 * l.length + 4) 1000 (by omega) (by omega) hs1 (by rw [e1]; decide)).mono ?_
    rintro e w' ⟨own', R', he, hm', ⟨hR', hq'⟩, ht'⟩
    refine ⟨own', R', he, hm', ⟨?_, ?_, ?_, hq'⟩, ht'⟩
    · rw [← hR'] at e1; exact e1
    · rw [← hR'] at e2; exact e2
    · rw [← hR'] at e3; simpa [McR.abs] using e3

end Go.Proofs.YtiejbnfjdobpcaaDoor
