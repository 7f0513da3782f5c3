import Derived.Test.YtiejbnfjdobpcaaDoorOC
namespace Go.Proofs.YtiejbnfjdobpcaaDoor
open Go.RowKit Go.Sort

set_option maxHeartbeats 1000000 in
theorem doGet_ok {own : Own} {mb : Nat} {g : PgR} {R : McR} {fs : List FrR} {f : FrR} {rest : List Val} {va : Option Addr} {sb : Nat} {w : World} {j i : Nat} {o : ObR} {y : Val} (h : AtOp w own mb g R fs f rest [(2, (j : Int))] va sb) (hj : R.obs[j]? = some o) (hk : o.kind = 1) (hi : o.fl[i]? = some y) (hfn : o.fl.length ≤ 1000) (vc : Nat) :
    Calls Tryd.prog 128 #[.pointer (some ⟨mb, 0, none⟩), .int .i64 (i : Int), .slice va 1 vc] w fun e w' => TopPost' own mb g R fs f (f.pc + 1) (rest ++ [y]) (.int .i64 0) w e w' := by
  have HA : Hid (∀ W, Below w.heap.size w W → Calls Tryd.prog 151 #[.pointer (some ⟨mb, 0, none⟩), .slice va 1 vc, .int .u8 1, .agg #[.int .u8 1, .int .i64 (i : Int)]] W fun e w' => TopPost' own mb g R fs f (f.pc + 1) (rest ++ [y]) (.int .i64 0) W e w') := by
    intro W hW
    have := answerEntry_ok (h.later hW) hj hi hfn 1 rfl (by omega) vc
    rw [hk] at this
    exact this
  clear h hj hi hk hfn
  go_enter Tryd.func128, Tryd.ntmps128
  go_wp2_with (first | (go_at_call 138; refine (number_any _ _).mono ?_; rintro e w' ⟨rfl, o, rfl⟩) | (go_at_call 151; refine (HA.out _ ?_).mono ?_; exact (by repeat (first | exact Below.refl _ _ | refine Below.drew ?_ | refine Below.drewQ ?_ _ | refine Below.alloc ?_ (by first | (simp; done) | (simp; omega)) _)); rintro e w' ⟨own', sv', rfl, hm, ht⟩; have HT : Hid (Touched own w own' w') := (Touched.of_below (by repeat (first | exact Below.refl _ _ | refine Below.drew ?_ | refine Below.drewQ ?_ _ | refine Below.alloc ?_ (by first | (simp; done) | (simp; omega)) _))).trans ht))
  go_ret
  exact ⟨own', sv', rfl, hm, HT.out⟩

/-- A field of an object gets another value. -/
theorem MachAt.setFld {w w' : World} {own : Own} {mb : Nat} {g : PgR} {R : McR} {j : Nat} {o : ObR} {l : List Val} {fb fc : Nat} (h : MachAt w own mb g R) (hj : R.obs[j]? = some o) (hfv : o.fv = .slice (some ⟨fb, 0, none⟩) o.fl.length fc) (hofb : own fb = some (.fld j)) (hsize : w.heap.size = w'.heap.size) (hk : ∀ k, k ≠ fb → w'.heap[k]? = w.heap[k]?) (hlen : l.length = o.fl.length)
    (hrow : w'.ownsRow 0 101 2 (.slice (some ⟨fb, 0, none⟩) o.fl.length fc) o.fl.length (vflat l)) : MachAt w' own mb g { R with obs := R.obs.set j { o with fl := l } } := by
  have hlt := h.lt
  have keep : ∀ t, t ≠ .fld j → ∀ k, own k = some t → w'.heap[k]? = w.heap[k]? ∧ own k = some t := fun t ht k hk' => ⟨hk k (fun e => by rw [e, hofb] at hk'; exact ht (Option.some.inj hk').symm), hk'⟩
  have hmb := (keep .mach (by simp) mb h.me).1
  have hro : ∀ k, own k = none → w'.heap[k]? = w.heap[k]? := fun k hk' => hk k (fun e => by rw [e, hofb] at hk'; cases hk')
  have hjl := (List.getElem?_eq_some_iff.1 hj).1
  have hfl : (R.obs.set j { o with fl := l }).flatMap ObR.cells = R.obs.flatMap ObR.cells := by
    have e := flat_set (c := ObR.cells) ObR.cells_len (l := R.obs) (i := j) (j := 0) (x := o) (y := { o with fl := l }) (u := .int .u8 o.kind) hj (by omega) rfl
    rw [e]
    have hg : (R.obs.flatMap ObR.cells)[j * 2 + 0]? = some (.int .u8 o.kind) := flat_get ObR.cells_len hj (by omega)
    obtain ⟨hl, hg'⟩ := List.getElem?_eq_some_iff.1 hg
    rw [← hg']
    exact List.set_getElem_self hl
  refine ⟨fun k t hk' => by rw [← hsize]; exact hlt k t hk', h.me, ?_, ?_, ?_, ?_, ?_, ?_, h.out.kept (keep _ (by simp)), h.called.kept (keep _ (by simp)), ?_, fun i x hx => (h.loc i x hx).kept (keep _ (by simp)), fun i x hx => (h.stk i x hx).kept (keep _ (by simp)), fun i x hx => ?_, h.pg.held (Nat.le_of_eq hsize) fun k hb => hro k (h.ro k hb), h.ro, h.tab.held (Nat.le_of_eq hsize) (hro 0 h.ro0), h.ro0, ?_, h.draws.kept (keep _ (by simp))⟩
  · rw [World.cell?_of_block (w := w) (a := ⟨mb, 0, none⟩) hmb]; exact h.c0
  · rw [World.cell?_of_block (w := w) (a := ⟨mb, 1, none⟩) hmb]; exact h.c1
  · rw [World.cell?_of_block (w := w) (a := ⟨mb, 2, none⟩) hmb]; exact h.c2
  · rw [World.cell?_of_block (w := w) (a := ⟨mb, 3, none⟩) hmb]; exact h.c3
  · rw [World.cell?_of_block (w := w) (a := ⟨mb, 4, none⟩) hmb]; exact h.c4
  · intro i; rw [World.frozen?_of_block (w := w) (a := ⟨mb, i, none⟩) hmb]; exact h.fz i
  · have := h.slots.kept (own' := own) (w' := w') (keep _ (by simp))
    show Row w' own .slots 94 2 R.hv (R.obs.set j { o with fl := l }).length ((R.obs.set j { o with fl := l }).flatMap ObR.cells)
    rw [hfl, List.length_set]
    exact this
  · by_cases e : i = j
    · subst e
      obtain rfl : { o with fl := l } = x := by rw [List.getElem?_set_self hjl] at hx; exact Option.some.inj hx
      show Row w' own (.fld i) 101 2 o.fv l.length (vflat l)
      rw [hfv, hlen]
      exact ⟨hrow, fun b hb => by obtain rfl : fb = b := by simpa [Value.ownBlock] using hb
                                  exact hofb⟩
    · rw [List.getElem?_set_ne (Ne.symm e)] at hx
      exact (h.fld i x hx).kept (keep _ (by simpa using e))
  · rw [World.cell?_of_block (w := w) (a := ⟨mb, 5, none⟩) hmb]; exact h.c5

theorem put_end {own : Own} {mb : Nat} {g : PgR} {R : McR} {fs : List FrR} {f : FrR} {rest args : List Val} {va : Option Addr} {sb : Nat} {w W : World} (h : AtOp w own mb g R fs f rest args va sb) (hB : Below w.heap.size w W) {j i : Nat} {o : ObR} {x y : Val} (hj : R.obs[j]? = some o) (hi : o.fl[i]? = some x) {fb fc : Nat} (hfv : o.fv = .slice (some ⟨fb, 0, none⟩) o.fl.length fc) (hofb : own fb = some (.fld j)) :
    AtOp ((W.setCell ⟨fb, i * 2, none⟩ (.int .u8 y.1)).setCell ⟨fb, i * 2 + 1, none⟩ (.int .i64 y.2)) own mb g { R with obs := R.obs.set j { o with fl := o.fl.set i y } } fs f rest args va sb ∧
      Touched own w own ((W.setCell ⟨fb, i * 2, none⟩ (.int .u8 y.1)).setCell ⟨fb, i * 2 + 1, none⟩ (.int .i64 y.2)) := by
  have hW := h.later hB
  have hl := hW.m.fld j o hj
  rw [hfv] at hl
  have hr := (World.ownsRow.stored (World.ownsRow.stored hl.1 (i * 2) (.int .u8 y.1)).1 (i * 2 + 1) (.int .i64 y.2)).1
  rw [← vflat_set hi] at hr
  have hblk : ∀ k, k ≠ fb → ((W.setCell ⟨fb, i * 2, none⟩ (.int .u8 y.1)).setCell ⟨fb, i * 2 + 1, none⟩ (.int .i64 y.2)).heap[k]? = W.heap[k]? := fun k hk => by
    rw [heap_setCell_other _ _ _ _ hk, heap_setCell_other _ _ _ _ hk]
  refine ⟨⟨hW.m.setFld hj hfv hofb (by simp) hblk (by simp) hr, h.hf, h.hst, fun h0 => ?_, h.hn, h.hs, h.hpc⟩, ⟨hB.os, hB.tape, hB.output, by have := hB.size; simpa using this, fun k hk hno => ?_, fun _ _ => rfl⟩⟩
  · obtain ⟨q1, q2, q3⟩ := hW.hva h0
    refine ⟨q1, q2, fun t z hz => ?_⟩
    have hsl : sb ≠ fb := fun e => by rw [e, hofb] at q2; cases q2
    rw [World.cell?_of_block (w := W) (a := ⟨sb, _, none⟩) (hblk sb hsl), World.cell?_of_block (w := W) (a := ⟨sb, _, none⟩) (hblk sb hsl)]
    exact q3 t z hz
  · rw [hblk k (fun e => by rw [e, hofb] at hno; cases hno)]
    exact hB.block k hk

def Putted (R : McR) (fs : List FrR) (f : FrR) (rest : List Val) (j i : Nat) (o : ObR) (y : Val) (R' : McR) : Prop := ∃ sv', R' = { R with obs := R.obs.set j { o with fl := o.fl.set i y }, frs := fs ++ [{ f with pc := f.pc + 1, sv := sv', stk := rest }] }

set_option maxRecDepth 100000 in
set_option maxHeartbeats 2000000 in
theorem setEntry_two {own : Own} {mb : Nat} {g : PgR} {R : McR} {fs : List FrR} {f : FrR} {rest : List Val} {va : Option Addr} {sb : Nat} {w : World} {j i : Nat} {o : ObR} {y : Val} (h : AtOp w own mb g R fs f rest [(2, (j : Int)), y] va sb) (hj : R.obs[j]? = some o) (hi : i < o.fl.length) (hfn : o.fl.length ≤ 1000) (vc : Nat) :
    Calls Tryd.prog 152 #[.pointer (some ⟨mb, 0, none⟩), .slice va 2 vc, .int .u8 o.kind, .agg #[.int .u8 1, .int .i64 (i : Int)]] w fun e w' => DoPost own mb g (Putted R fs f rest j i o y) 0 w e w' := by
  obtain ⟨so, rfl, hsb, s0, s1, s2, s3⟩ := h.two
  obtain ⟨y1, y2⟩ := y
  simp only at s0 s1 s2 s3
  obtain ⟨x, hx⟩ : ∃ x, o.fl[i]? = some x := ⟨_, List.getElem?_eq_getElem hi⟩
  obtain ⟨fb, fc, hfv, _, hfb⟩ := (h.m.fld j o hj).1.form (by omega)
  have hofb : own fb = some (.fld j) := (h.m.fld j o hj).2 fb (by rw [hfv]; rfl)
  have hrow := (h.m.fld j o hj).1
  rw [hfv] at hrow
  have hcell : ∀ t, t < 2 → w.cell? ⟨fb, i * 2 + t, none⟩ = (vcells x)[t]? := fun t ht => by
    rw [hrow.cellAt _ (by omega)]; exact flat_get vcells_len hx ht
  have y0 : w.cell? ⟨fb, i * 2, none⟩ = some (.int .u8 x.1) := hcell 0 (by omega)
  have yy : w.cell? ⟨fb, i * 2 + 1, none⟩ = some (.int .i64 x.2) := hcell 1 (by omega)
  have z0 := hrow.frozenAt (i * 2)
  have z1 := hrow.frozenAt (i * 2 + 1)
  have hmb : mb < w.heap.size := h.m.lt mb _ h.m.me
  have HREF : Hid (∀ W, Below w.heap.size w W → Calls Tryd.prog 83 #[.pointer (some ⟨mb, 4, none⟩), .agg #[.int .u8 2, .int .i64 (j : Int)]] W fun e w' => e = .returned (.agg #[.int .u8 o.kind, .slice (some ⟨fb, 0, none⟩) o.fl.length fc]) ∧ Below W.heap.size W w') := by
    intro W hW
    have := referred_ok (h.m.same hW.size fun k hk => hW.block k hk) hj
    rw [hfv] at this
    exact this
  have hsf : sb ≠ fb := fun e => by
    obtain ⟨_, q2, _⟩ := h.hva (by simp)
    rw [e, hofb] at q2; cases q2
  have HH := hid h
  have HJ := hid hj
  have HX := hid hx
  have HFV := hid hfv
  have HOFB := hid hofb
  have hne1 : fb ≠ w.heap.size + 1 := by omega
  have hne2 : sb ≠ w.heap.size + 1 := by omega
  have hf1 : fb < w.heap.size + 1 := by omega
  have hf2 : fb < w.heap.size + 1 + 1 := by omega
  have hs1 : sb < w.heap.size + 1 := by omega
  have hs2' : sb < w.heap.size + 1 + 1 := by omega
  clear h hj hx hfv hrow hcell hofb
  go_enter Tryd.func152, Tryd.ntmps152
  go_wp2_with fail
  go_region_with (first | (go_at_call 83; refine (HREF.out _ ?_).mono ?_; exact (by repeat (first | exact Below.refl _ _ | refine Below.drew ?_ | refine Below.drewQ ?_ _ | refine Below.alloc ?_ (by first | (simp; done) | (simp; omega)) _)); rintro e w2 ⟨rfl, hb2⟩; obtain ⟨hcc, hff⟩ := bcell hb2; have hs2 := hb2.size; have hz2 : w.heap.size < w2.heap.size := (by simp at hs2; omega); have hz2b : fb < w2.heap.size := (by omega); have hz2c : sb < w2.heap.size := (by omega); have hz2d : mb < w2.heap.size := (by omega); (try (have hz2e : w.heap.size + 1 < w2.heap.size := (by simp at hs2; omega))); have HB2 : Hid (Below w.heap.size w w2) := below_via' hb2 (by repeat (first | exact Below.refl _ _ | refine Below.drew ?_ | refine Below.drewQ ?_ _ | refine Below.alloc ?_ (by first | (simp; done) | (simp; omega)) _)); clear hb2))
  all_goals
    go_wp2_with (first | (go_at_call 158; refine (reach_ok _ _ _ _ _ hi hfn _).mono ?_; rintro e w3 ⟨rfl, hb3⟩; obtain ⟨hcc3, hff3⟩ := bcell hb3; have hs3 := hb3.size; have hq3 : w2.heap.size ≤ w3.heap.size := (by simp at hs3; omega); (try (have hz3a : w2.heap.size < w3.heap.size := (by simp at hs3; omega))); have hz3 : w.heap.size < w3.heap.size := (by omega); have hz3b : fb < w3.heap.size := (by omega); have hz3c : sb < w3.heap.size := (by omega); have hz3d : mb < w3.heap.size := (by omega); (try (have hz3e : w.heap.size + 1 < w3.heap.size := (by omega))); have HB3 : Hid (Below w.heap.size w w3) := below_via' hb3 (by have hq := HB2.out.size; repeat (first | exact HB2.out | refine Below.drew ?_ | refine Below.setCell ?_ (by first | omega | (simp; done) | (simp; omega)) _ | refine Below.alloc ?_ (by first | omega | (simp; done) | (simp; omega)) _)); clear hb3))
    have g0 := (HB3.out.frozen (p := ⟨fb, i * 2, none⟩) hfb).trans z0
    have g1 := (HB3.out.frozen (p := ⟨fb, i * 2 + 1, none⟩) hfb).trans z1
    clear hff hff3
    go_region
    all_goals
      obtain ⟨hA, hT⟩ := put_end (y := (y1, y2)) HH.out (Below.drew HB3.out) HJ.out HX.out HFV.out HOFB.out
      have HA := hid hA
      have HT := hid hT
      clear hA hT hcc hcc3 g0 g1
      go_wp2_with (go_at_call 137; refine (HA.out.answer (Below.refl _ _) vc _ [] (pushed_nil _ _) (by simp) 2 rfl).mono ?_; rintro e w' ⟨own', sv', rfl, hm, ht⟩)
      go_ret
      exact ⟨own', _, rfl, hm, ⟨sv', by rw [List.append_nil]⟩, HT.out.trans ht⟩

set_option maxHeartbeats 1000000 in
theorem doPut_ok {own : Own} {mb : Nat} {g : PgR} {R : McR} {fs : List FrR} {f : FrR} {rest : List Val} {va : Option Addr} {sb : Nat} {w : World} {j i : Nat} {o : ObR} {y : Val} (h : AtOp w own mb g R fs f rest [(2, (j : Int)), y] va sb) (hj : R.obs[j]? = some o) (hk : o.kind = 1) (hi : i < o.fl.length) (hfn : o.fl.length ≤ 1000) (vc : Nat) :
    Calls Tryd.prog 129 #[.pointer (some ⟨mb, 0, none⟩), .int .i64 (i : Int), .slice va 2 vc] w fun e w' => DoPost own mb g (Putted R fs f rest j i o y) 0 w e w' := by
  have HA : Hid (∀ W, Below w.heap.size w W → Calls Tryd.prog 152 #[.pointer (some ⟨mb, 0, none⟩), .slice va 2 vc, .int .u8 1, .agg #[.int .u8 1, .int .i64 (i : Int)]] W fun e w' => DoPost own mb g (Putted R fs f rest j i o y) 0 W e w') := by
    intro W hW
    have := setEntry_two (h.later hW) hj hi hfn vc
    rw [hk] at this
    exact this
  clear h hj hi hk hfn
  go_enter Tryd.func129, Tryd.ntmps129
  go_wp2_with (first | (go_at_call 138; refine (number_any _ _).mono ?_; rintro e w' ⟨rfl, o, rfl⟩) | (go_at_call 152; refine (HA.out _ ?_).mono ?_; exact (by repeat (first | exact Below.refl _ _ | refine Below.drew ?_ | refine Below.drewQ ?_ _ | refine Below.alloc ?_ (by first | (simp; done) | (simp; omega)) _)); rintro e w' ⟨own', R', rfl, hm, hp, ht⟩; have HT : Hid (Touched own w own' w') := (Touched.of_below (by repeat (first | exact Below.refl _ _ | refine Below.drew ?_ | refine Below.drewQ ?_ _ | refine Below.alloc ?_ (by first | (simp; done) | (simp; omega)) _))).trans ht))
  go_ret
  exact ⟨own', R', rfl, hm, hp, HT.out⟩

end Go.Proofs.YtiejbnfjdobpcaaDoor
