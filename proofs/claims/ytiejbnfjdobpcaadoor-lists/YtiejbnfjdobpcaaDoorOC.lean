import Derived.Test.YtiejbnfjdobpcaaDoorOB
import Derived.Test.YtiejbnfjdobpcaaDoorNR
namespace Go.Proofs.YtiejbnfjdobpcaaDoor
open Go.RowKit Go.Sort

/-- An object in its slot. -/
theorem MachAt.slot {w : World} {own : Own} {mb : Nat} {g : PgR} {R : McR} {j : Nat} {o : ObR} (h : MachAt w own mb g R) (hj : R.obs[j]? = some o) :
    ∃ hb hc fa fc, R.hv = .slice (some ⟨hb, 0, none⟩) R.obs.length hc ∧ own hb = some .slots ∧ hb < w.heap.size ∧ o.fv = .slice fa o.fl.length fc ∧ w.cell? ⟨hb, j * 2, none⟩ = some (.int .u8 o.kind) ∧ w.cell? ⟨hb, j * 2 + 1, none⟩ = some (.slice fa o.fl.length fc) := by
  have hlt := (List.getElem?_eq_some_iff.1 hj).1
  obtain ⟨hb, hc, e, _, hl⟩ := h.slots.1.form (by omega)
  have hs := h.slots
  rw [e] at hs
  obtain ⟨fa, fc, hfv⟩ := row_form (h.fld j o hj)
  have hcell : ∀ i, i < 2 → w.cell? ⟨hb, j * 2 + i, none⟩ = o.cells[i]? := fun i hi => by
    rw [hs.1.cellAt _ (by omega)]; exact flat_get ObR.cells_len hj hi
  have h1 : w.cell? ⟨hb, j * 2 + 1, none⟩ = some o.fv := hcell 1 (by omega)
  rw [hfv] at h1
  exact ⟨hb, hc, fa, fc, e, hs.2 hb rfl, hl, hfv, hcell 0 (by omega), h1⟩

set_option maxHeartbeats 1000000 in
theorem referred_ok {own : Own} {mb : Nat} {g : PgR} {R : McR} {w : World} (h : MachAt w own mb g R) {j : Nat} {o : ObR} (hj : R.obs[j]? = some o) :
    Calls Tryd.prog 83 #[.pointer (some ⟨mb, 4, none⟩), .agg #[.int .u8 2, .int .i64 (j : Int)]] w fun e w' => e = .returned (.agg #[.int .u8 o.kind, o.fv]) ∧ Below w.heap.size w w' := by
  obtain ⟨hb, hc, fa, fc, e, _, hl, hfv, k0, k1⟩ := h.slot hj
  have c4 := h.c4
  rw [e] at c4
  have hmb : mb < w.heap.size := h.lt mb _ h.me
  have hlt := (List.getElem?_eq_some_iff.1 hj).1
  rw [hfv]
  clear h e hfv hj
  go_enter Tryd.func83, Tryd.ntmps83
  go_wp2_with fail
  go_region
  all_goals
    go_wp2_with fail
    exact bodyPost_ret (v := .agg #[.int .u8 o.kind, .slice fa o.fl.length fc]) (by simp [results, Tryd.results83, go_sem]) rfl ⟨rfl, (by repeat (first | exact Below.refl _ _ | refine Below.drew ?_ | refine Below.drewQ ?_ _ | refine Below.alloc ?_ (by first | (simp; done) | (simp; omega)) _))⟩

def reachD (k kind : Int) (n : Nat) (i1 i2 : Int) : Int := if k = kind ∧ i1 = 1 then (if 0 ≤ i2 ∧ i2 < n then 0 else 3) else 2

set_option maxHeartbeats 1000000 in
theorem reach_ok (k : Int) (fa : Option Addr) (n fc : Nat) (i : Nat) (hi : i < n) (hn : n ≤ 1000) (w : World) :
    Calls Tryd.prog 158 #[.agg #[.int .u8 k, .slice fa n fc], .int .u8 k, .agg #[.int .u8 1, .int .i64 (i : Int)]] w fun e w' => e = .returned (.int .i64 0) ∧ Below w.heap.size w w' := by
  have hin : insideB (i : Int) 0 ((n : Int) - 1) = true := insideB_t (by omega) (by omega)
  go_enter Tryd.func158, Tryd.ntmps158
  go_wp2_with (first | (go_at_call 150; refine (isInt_any _ _ _).mono ?_; rintro e w' ⟨rfl, o4, rfl⟩) | (go_at_call 54; refine (within_any _ _ _ _).mono ?_; rintro e w' ⟨rfl, rfl⟩))
  go_ret
  exact ⟨rfl, (by repeat (first | exact Below.refl _ _ | refine Below.drew ?_ | refine Below.drewQ ?_ _ | refine Below.alloc ?_ (by first | (simp; done) | (simp; omega)) _))⟩

/-- The first value that is popped. -/
theorem AtOp.first {w : World} {own : Own} {mb : Nat} {g : PgR} {R : McR} {fs : List FrR} {f : FrR} {rest more : List Val} {x : Val} {va : Option Addr} {sb : Nat} (h : AtOp w own mb g R fs f rest (x :: more) va sb) :
    va = some ⟨sb, rest.length * 2, none⟩ ∧ sb < w.heap.size ∧ own sb = some (.stk fs.length) ∧ w.cell? ⟨sb, rest.length * 2, none⟩ = some (.int .u8 x.1) ∧ w.cell? ⟨sb, rest.length * 2 + 1, none⟩ = some (.int .i64 x.2) := by
  obtain ⟨h1, h2, h3⟩ := h.hva (by simp)
  obtain ⟨h4, h5⟩ := h3 0 x rfl
  exact ⟨h1, h.m.lt sb _ h2, h2, by simpa using h4, by simpa using h5⟩

set_option maxRecDepth 100000 in
set_option maxHeartbeats 2000000 in
theorem answerEntry_ok {own : Own} {mb : Nat} {g : PgR} {R : McR} {fs : List FrR} {f : FrR} {rest more : List Val} {va : Option Addr} {sb : Nat} {w : World} {j i : Nat} {o : ObR} {y : Val} (h : AtOp w own mb g R fs f rest ((2, (j : Int)) :: more) va sb) (hj : R.obs[j]? = some o) (hi : o.fl[i]? = some y) (hfn : o.fl.length ≤ 1000) (k : Nat) (hk : more.length + 1 = k) (hk3 : k ≤ 3) (vc : Nat) :
    Calls Tryd.prog 151 #[.pointer (some ⟨mb, 0, none⟩), .slice va k vc, .int .u8 o.kind, .agg #[.int .u8 1, .int .i64 (i : Int)]] w fun e w' => TopPost' own mb g R fs f (f.pc + 1) (rest ++ [y]) (.int .i64 0) w e w' := by
  obtain ⟨rfl, hsb, _, s0, s1⟩ := h.first
  simp only at s0 s1
  have hil := (List.getElem?_eq_some_iff.1 hi).1
  obtain ⟨fb, fc, hfv, _, hfb⟩ := (h.m.fld j o hj).1.form (by omega)
  have hrow := (h.m.fld j o hj).1
  rw [hfv] at hrow
  have hcell : ∀ t, t < 2 → w.cell? ⟨fb, i * 2 + t, none⟩ = (vcells y)[t]? := fun t ht => by
    rw [hrow.cellAt _ (by omega)]; exact flat_get vcells_len hi ht
  have y0 : w.cell? ⟨fb, i * 2, none⟩ = some (.int .u8 y.1) := hcell 0 (by omega)
  have y1 : w.cell? ⟨fb, i * 2 + 1, none⟩ = some (.int .i64 y.2) := hcell 1 (by omega)
  have hmb : mb < w.heap.size := h.m.lt mb _ h.m.me
  have HREF : Hid (∀ W, Below w.heap.size w W → Calls Tryd.prog 83 #[.pointer (some ⟨mb, 4, none⟩), .agg #[.int .u8 2, .int .i64 (j : Int)]] W fun e w' => e = .returned (.agg #[.int .u8 o.kind, .slice (some ⟨fb, 0, none⟩) o.fl.length fc]) ∧ Below W.heap.size W w') := by
    intro W hW
    have := referred_ok (h.m.same hW.size fun k hk => hW.block k hk) hj
    rw [hfv] at this
    exact this
  have HH := hid h
  have hne1 : fb ≠ w.heap.size + 1 := by omega
  have hne2 : sb ≠ w.heap.size + 1 := by omega
  have hf1 : fb < w.heap.size + 1 := by omega
  have hf2 : fb < w.heap.size + 1 + 1 := by omega
  clear h hj hi hfv hrow hcell
  go_enter Tryd.func151, Tryd.ntmps151
  go_wp2_with fail
  go_region_with (first | (go_at_call 83; refine (HREF.out _ ?_).mono ?_; exact (by repeat (first | exact Below.refl _ _ | refine Below.drew ?_ | refine Below.drewQ ?_ _ | refine Below.alloc ?_ (by first | (simp; done) | (simp; omega)) _)); rintro e w2 ⟨rfl, hb2⟩; obtain ⟨hcc, hff⟩ := bcell hb2; have hs2 := hb2.size; have hz2 : w.heap.size < w2.heap.size := (by simp at hs2; omega); have hz2b : fb < w2.heap.size := (by omega); have hz2c : sb < w2.heap.size := (by omega); have hz2d : mb < w2.heap.size := (by omega); (try (have hz2e : w.heap.size + 1 < w2.heap.size := (by simp at hs2; omega))); have HB2 : Hid (Below w.heap.size w w2) := below_via' hb2 (by repeat (first | exact Below.refl _ _ | refine Below.drew ?_ | refine Below.drewQ ?_ _ | refine Below.alloc ?_ (by first | (simp; done) | (simp; omega)) _)); clear hb2))
  all_goals
    go_wp2_with (first | (go_at_call 158; refine (reach_ok _ _ _ _ _ hil hfn _).mono ?_; rintro e w3 ⟨rfl, hb3⟩; obtain ⟨hcc3, hff3⟩ := bcell hb3; have hs3 := hb3.size; have hq3 : w2.heap.size ≤ w3.heap.size := (by simp at hs3; omega); (try (have hz3a : w2.heap.size < w3.heap.size := (by simp at hs3; omega))); have hz3 : w.heap.size < w3.heap.size := (by omega); have hz3b : fb < w3.heap.size := (by omega); have hz3c : sb < w3.heap.size := (by omega); have hz3d : mb < w3.heap.size := (by omega); (try (have hz3e : w.heap.size + 1 < w3.heap.size := (by omega))); have HB3 : Hid (Below w.heap.size w w3) := below_via' hb3 (by have hq := HB2.out.size; repeat (first | exact HB2.out | refine Below.drew ?_ | refine Below.setCell ?_ (by first | omega | (simp; done) | (simp; omega)) _ | refine Below.alloc ?_ (by first | omega | (simp; done) | (simp; omega)) _)); clear hb3) | (go_at_call 137; refine (HH.out.answer (by have hq := HB3.out.size; repeat (first | exact HB3.out | refine Below.drew ?_ | refine Below.setCell ?_ (by first | omega | (simp; done) | (simp; omega)) _ | refine Below.alloc ?_ (by first | omega | (simp; done) | (simp; omega)) _)) vc _ [y] (pushed_one HH.out.m (by have hq := HB3.out.size; first | omega | (simp; omega)) (by first | exact blk_new (by simp) | exact blk_new1 (by simp) | exact blk_newN (by simp))) (by simp) k hk).mono ?_; rintro e w' ⟨own', sv', rfl, hm, ht⟩))
    go_ret
    exact ⟨own', sv', rfl, hm, ht⟩

end Go.Proofs.YtiejbnfjdobpcaaDoor
