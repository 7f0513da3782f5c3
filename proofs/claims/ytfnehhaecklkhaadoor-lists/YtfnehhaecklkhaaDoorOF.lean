import Derived.Test.YtfnehhaecklkhaaDoorOE
namespace Go.Proofs.YtfnehhaecklkhaaDoor
open Go.RowKit Go.Sort

theorem obs_set {l : List ObR} {j : Nat} {o p : ObR} (h : l[j]? = some o) : (l.set j p).flatMap ObR.cells = ((l.flatMap ObR.cells).set (j * 2) (.int .u8 p.kind)).set (j * 2 + 1) p.fv := by
  have h1 := flat_set (c := ObR.cells) ObR.cells_len (l := l) (i := j) (j := 0) (x := o) (y := ⟨p.kind, o.fv, o.fl⟩) (u := .int .u8 p.kind) h (by omega) rfl
  have hlt := (List.getElem?_eq_some_iff.1 h).1
  have h2 := flat_set (c := ObR.cells) ObR.cells_len (l := l.set j ⟨p.kind, o.fv, o.fl⟩) (i := j) (j := 1) (x := ⟨p.kind, o.fv, o.fl⟩) (y := p) (u := p.fv) (List.getElem?_set_self hlt) (by omega) rfl
  rw [List.set_set] at h2
  rw [h2, h1, Nat.add_zero]

/-- An object is laid into a slot. -/
theorem MachAt.layOb {w W : World} {own : Own} {mb : Nat} {g : PgR} {R : McR} {j : Nat} {o p : ObR} {hb hc : Nat} (h : MachAt w own mb g R) (hB : Below w.heap.size w W) (hj : R.obs[j]? = some o) (he : R.hv = .slice (some ⟨hb, 0, none⟩) R.obs.length hc) (hnew : ∀ b, p.fv.ownBlock = some b → w.heap.size ≤ b) (hrow : W.ownsRow 0 101 2 p.fv p.fl.length (vflat p.fl)) :
    MachAt ((W.setCell ⟨hb, j * 2, none⟩ (.int .u8 p.kind)).setCell ⟨hb, j * 2 + 1, none⟩ p.fv) (own.upd p.fv.ownBlock (.fld j)) mb g { R with obs := R.obs.set j p } ∧
      Touched own w (own.upd p.fv.ownBlock (.fld j)) ((W.setCell ⟨hb, j * 2, none⟩ (.int .u8 p.kind)).setCell ⟨hb, j * 2 + 1, none⟩ p.fv) ∧
      ∀ k, k < w.heap.size → own k ≠ some .slots → ((W.setCell ⟨hb, j * 2, none⟩ (.int .u8 p.kind)).setCell ⟨hb, j * 2 + 1, none⟩ p.fv).heap[k]? = w.heap[k]? := by
  have hlt := h.lt
  have hohb : own hb = some .slots := h.slots.2 hb (by rw [he]; rfl)
  have hhb : hb < w.heap.size := hlt hb _ hohb
  have hon : OldOrNew w own p.fv (.fld j) := fun b hb => Or.inr (hnew b hb)
  have hblk : ∀ k, k < w.heap.size → k ≠ hb → ((W.setCell ⟨hb, j * 2, none⟩ (.int .u8 p.kind)).setCell ⟨hb, j * 2 + 1, none⟩ p.fv).heap[k]? = w.heap[k]? := fun k hk hn => by
    rw [heap_setCell_other _ _ _ _ hn, heap_setCell_other _ _ _ _ hn]; exact hB.block k hk
  have keep : ∀ t, t ≠ .slots → ∀ k, own k = some t → ((W.setCell ⟨hb, j * 2, none⟩ (.int .u8 p.kind)).setCell ⟨hb, j * 2 + 1, none⟩ p.fv).heap[k]? = w.heap[k]? := fun t ht k hk => hblk k (hlt k t hk) (fun e => by rw [e, hohb] at hk; exact ht (Option.some.inj hk).symm)
  have hmb := keep .mach (by simp) mb h.me
  have hsz : w.heap.size ≤ ((W.setCell ⟨hb, j * 2, none⟩ (.int .u8 p.kind)).setCell ⟨hb, j * 2 + 1, none⟩ p.fv).heap.size := by have := hB.size; simpa using this
  have hnhb : p.fv.ownBlock ≠ some hb := fun e => by have := hnew hb e; omega
  have hrow' : ((W.setCell ⟨hb, j * 2, none⟩ (.int .u8 p.kind)).setCell ⟨hb, j * 2 + 1, none⟩ p.fv).ownsRow 0 101 2 p.fv p.fl.length (vflat p.fl) := ownsRow_setCell_other (ownsRow_setCell_other hrow hnhb _) hnhb _
  have hslots : ((W.setCell ⟨hb, j * 2, none⟩ (.int .u8 p.kind)).setCell ⟨hb, j * 2 + 1, none⟩ p.fv).ownsRow 0 94 2 R.hv R.obs.length ((R.obs.set j p).flatMap ObR.cells) := by
    have hs := h.slots.1
    rw [he] at hs ⊢
    have hsW : W.ownsRow 0 94 2 (.slice (some ⟨hb, 0, none⟩) R.obs.length hc) R.obs.length (R.obs.flatMap ObR.cells) := ownsRow_of_block hs fun b hb' => by
      obtain rfl : hb = b := by simpa [Value.ownBlock] using hb'
      exact hB.block _ hhb
    have := (World.ownsRow.stored (World.ownsRow.stored hsW (j * 2) (.int .u8 p.kind)).1 (j * 2 + 1) p.fv).1
    rwa [← obs_set hj] at this
  have hro : ∀ k, k < w.heap.size → own k = none → ((W.setCell ⟨hb, j * 2, none⟩ (.int .u8 p.kind)).setCell ⟨hb, j * 2 + 1, none⟩ p.fv).heap[k]? = w.heap[k]? := fun k hk hn => hblk k hk (fun e => by rw [e, hohb] at hn; cases hn)
  have hjl := (List.getElem?_eq_some_iff.1 hj).1
  refine ⟨⟨Own.upd_lt hlt hsz hrow', ?_, ?_, ?_, ?_, ?_, ?_, ?_, h.out.upd hlt hon (keep _ (by simp)), h.called.upd hlt hon (keep _ (by simp)), ⟨by simpa using hslots, fun b hb' => ?_⟩, fun i x hx => (h.loc i x hx).upd hlt hon (keep _ (by simp)), fun i x hx => (h.stk i x hx).upd hlt hon (keep _ (by simp)), fun i x hx => ?_, ?_, ?_, ?_, ?_⟩, ?_, fun k hk hn => hblk k hk (fun e => hn (by rw [e]; exact hohb))⟩
  · rw [Own.upd_old hon (hlt mb _ h.me)]; exact h.me
  · rw [World.cell?_of_block (w := w) (a := ⟨mb, 0, none⟩) hmb]; exact h.c0
  · rw [World.cell?_of_block (w := w) (a := ⟨mb, 1, none⟩) hmb]; exact h.c1
  · rw [World.cell?_of_block (w := w) (a := ⟨mb, 2, none⟩) hmb]; exact h.c2
  · rw [World.cell?_of_block (w := w) (a := ⟨mb, 3, none⟩) hmb]; exact h.c3
  · rw [World.cell?_of_block (w := w) (a := ⟨mb, 4, none⟩) hmb]; exact h.c4
  · intro i; rw [World.frozen?_of_block (w := w) (a := ⟨mb, i, none⟩) hmb]; exact h.fz i
  · have := h.slots.2 b hb'
    rw [Own.upd_old hon (hlt b _ this)]; exact this
  · by_cases e : i = j
    · subst e
      obtain rfl : p = x := by
        have : (R.obs.set i p)[i]? = some x := hx
        rw [List.getElem?_set_self hjl] at this; exact Option.some.inj this
      exact ⟨hrow', fun b hb' => by simp [Own.upd, hb']⟩
    · have : (R.obs.set j p)[i]? = some x := hx
      rw [List.getElem?_set_ne (Ne.symm e)] at this
      exact (h.fld i x this).upd hlt hon (keep _ (by simp))
  · exact h.pg.held hsz fun k hb' => hro k (h.pg.blk_lt hb') (h.ro k hb')
  · intro k hb'; rw [Own.upd_old hon (h.pg.blk_lt hb')]; exact h.ro k hb'
  · exact h.tab.held hsz (hro 0 h.tab.1 h.ro0)
  · rw [Own.upd_old hon h.tab.1]; exact h.ro0
  · exact ⟨hB.os, hB.tape, hB.output, hsz, hro, fun k hk => Own.upd_old hon hk⟩

def LayPost (own : Own) (mb : Nat) (g : PgR) (R : McR) (j : Nat) (p : ObR) (w : World) (e : Ending) (w' : World) : Prop :=
  e = .returned (.int .i64 (j : Int)) ∧ MachAt w' (own.upd p.fv.ownBlock (.fld j)) mb g { R with obs := R.obs.set j p } ∧ Touched own w (own.upd p.fv.ownBlock (.fld j)) w' ∧ ∀ k, k < w.heap.size → own k ≠ some .slots → w'.heap[k]? = w.heap[k]?

set_option maxRecDepth 100000 in
set_option maxHeartbeats 2000000 in
theorem lay_any {own : Own} {mb : Nat} {g : PgR} {R : McR} {w W : World} (h : MachAt w own mb g R) (hB : Below w.heap.size w W) (j : Nat) (hj : FirstFree R.obs j) (hn : R.obs.length ≤ 1000) (p : ObR) (nb nc : Nat) (hfv : p.fv = .slice (some ⟨nb, 0, none⟩) p.fl.length nc) (hnew : w.heap.size ≤ nb) (hrow : W.ownsRow 0 101 2 p.fv p.fl.length (vflat p.fl)) :
    Calls Tryd.prog 149 #[.pointer (some ⟨mb, 4, none⟩), .agg #[.int .u8 p.kind, p.fv]] W fun e w' => LayPost own mb g R j p w e w' := by
  obtain ⟨o, ho, hok⟩ := id hj.1
  have hjl := (List.getElem?_eq_some_iff.1 ho).1
  obtain ⟨hb, hc, fa, fc, he, hohb, hlt, _, k0, k1⟩ := h.slot ho
  have hmW := h.same hB.size fun k hk => hB.block k hk
  have c4 := hmW.c4
  rw [he] at c4
  have hmb : mb < W.heap.size := hmW.lt mb _ hmW.me
  have hhb : hb < W.heap.size := hmW.lt hb _ hohb
  have hrs := hmW.slots.1
  rw [he] at hrs
  have z0 := hrs.frozenAt (j * 2)
  have z1 := hrs.frozenAt (j * 2 + 1)
  have HIX : Hid (∀ U, Below W.heap.size W U → Calls Tryd.prog 155 #[.slice (some ⟨hb, 0, none⟩) R.obs.length hc, .func (.func 152) #[] #[]] U fun e w' => e = .returned (.int .i64 (j : Int)) ∧ Below U.heap.size U w') := fun U hU => indexFree_any (hmW.same hU.size fun k hk => hU.block k hk) j hj hn hb hc he
  rw [← hB.cell (p := ⟨hb, _, none⟩) hlt] at k0 k1
  have HL : Hid (∀ U, Below W.heap.size W U → MachAt ((U.setCell ⟨hb, j * 2, none⟩ (.int .u8 p.kind)).setCell ⟨hb, j * 2 + 1, none⟩ p.fv) (own.upd p.fv.ownBlock (.fld j)) mb g { R with obs := R.obs.set j p } ∧ Touched own w (own.upd p.fv.ownBlock (.fld j)) ((U.setCell ⟨hb, j * 2, none⟩ (.int .u8 p.kind)).setCell ⟨hb, j * 2 + 1, none⟩ p.fv) ∧ ∀ k, k < w.heap.size → own k ≠ some .slots → ((U.setCell ⟨hb, j * 2, none⟩ (.int .u8 p.kind)).setCell ⟨hb, j * 2 + 1, none⟩ p.fv).heap[k]? = w.heap[k]?) := by
    intro U hU
    refine h.layOb (hB.trans (hU.mono hB.size)) ho he (fun b hb' => ?_) (ownsRow_of_block hrow fun b hb' => ?_)
    · rw [hfv] at hb'
      obtain rfl : nb = b := by simpa [Value.ownBlock] using hb'
      exact hnew
    · exact hU.block b (hrow.lt b hb').2
  have HFV := hid hfv
  rw [hfv] at HL ⊢
  clear h hmW hj ho hok he hohb hrs hrow hfv
  go_enter Tryd.func149, Tryd.ntmps149
  go_wp2_with (go_at_call 155; refine (HIX.out _ ?_).mono ?_; exact (by repeat (first | exact Below.refl _ _ | refine Below.drew ?_ | refine Below.drewQ ?_ _ | refine Below.alloc ?_ (by first | (simp; done) | (simp; omega)) _)); rintro e w2 ⟨rfl, hb2⟩; obtain ⟨hcc, hff⟩ := bcell hb2; have hs2 := hb2.size; have hz2 : W.heap.size < w2.heap.size := (by simp at hs2; omega); have hz2b : hb < w2.heap.size := (by omega); have hz2d : mb < w2.heap.size := (by omega); have HB2 : Hid (Below W.heap.size W w2) := below_via' hb2 (by repeat (first | exact Below.refl _ _ | refine Below.drew ?_ | refine Below.drewQ ?_ _ | refine Below.alloc ?_ (by first | (simp; done) | (simp; omega)) _)); clear hb2)
  go_region
  all_goals
    have HQ := hid (HL.out w2.drew (Below.drew HB2.out))
    clear hcc hff HL HIX
    go_wp2_with fail
    go_ret
    refine ⟨rfl, ?_⟩
    rw [HFV.out]
    exact HQ.out

set_option maxHeartbeats 400000 in
theorem reference_any (n : Int) (w : World) : Calls Tryd.prog 148 #[.int .i64 n] w fun e w' => e = .returned (.agg #[.int .u8 2, .int .i64 n]) ∧ ∃ o, w' = w.alloc o := by
  go_enter Tryd.func148, Tryd.ntmps148
  go_wp2
  exact bodyPost_ret (v := .agg #[.int .u8 2, .int .i64 n]) (by simp [results, Tryd.results148, go_sem]) rfl ⟨rfl, _, rfl⟩

def NewOb (R : McR) (fs : List FrR) (f : FrR) (rest : List Val) (j : Nat) (p : ObR) (R' : McR) : Prop := ∃ sv', R' = { R with obs := R.obs.set j p, frs := fs ++ [{ f with pc := f.pc + 1, sv := sv', stk := rest ++ [(2, (j : Int))] }] }

theorem AtOp.laid {own own' : Own} {mb : Nat} {g : PgR} {R R1 : McR} {fs : List FrR} {f : FrR} {rest args : List Val} {va : Option Addr} {sb : Nat} {w w' : World} (h : AtOp w own mb g R fs f rest args va sb) (hm : MachAt w' own' mb g R1) (hf : R1.frs = R.frs) (ht : Touched own w own' w') (hk : ∀ k, k < w.heap.size → own k ≠ some .slots → w'.heap[k]? = w.heap[k]?) : AtOp w' own' mb g R1 fs f rest args va sb :=
  ⟨hm, hf.trans h.hf, h.hst, fun h0 => by
    obtain ⟨q1, q2, q3⟩ := h.hva h0
    have hsb := h.m.lt sb _ q2
    have e := hk sb hsb (by rw [q2]; simp)
    refine ⟨q1, (ht.old sb hsb).trans q2, fun i x hx => ?_⟩
    rw [World.cell?_of_block (w := w) (a := ⟨sb, _, none⟩) e, World.cell?_of_block (w := w) (a := ⟨sb, _, none⟩) e]
    exact q3 i x hx, h.hn, h.hs, h.hpc⟩

set_option maxRecDepth 100000 in
set_option maxHeartbeats 2000000 in
theorem answerNew_ok {own : Own} {mb : Nat} {g : PgR} {R : McR} {fs : List FrR} {f : FrR} {rest args : List Val} {va : Option Addr} {sb : Nat} {w W : World} (h : AtOp w own mb g R fs f rest args va sb) (hB : Below w.heap.size w W) (j : Nat) (hj : FirstFree R.obs j) (hnf : taken R.obs ≠ R.obs.length) (hn : R.obs.length ≤ 1000) (p : ObR) (nb nc : Nat) (hfv : p.fv = .slice (some ⟨nb, 0, none⟩) p.fl.length nc) (hnew : w.heap.size ≤ nb) (hrow : W.ownsRow 0 101 2 p.fv p.fl.length (vflat p.fl)) (k : Nat) (hk : args.length = k) (vc : Nat) :
    Calls Tryd.prog 138 #[.pointer (some ⟨mb, 0, none⟩), .slice va k vc, .int .u8 p.kind, .slice (some ⟨nb, 0, none⟩) p.fl.length nc] W fun e w' => DoPost own mb g (NewOb R fs f rest j p) 0 w e w' := by
  have hpos : 0 < R.obs.length := by obtain ⟨⟨o, ho, _⟩, _⟩ := hj; have := (List.getElem?_eq_some_iff.1 ho).1; omega
  have hff : (taken R.obs == R.obs.length) = false := beq_eq_false_iff_ne.2 hnf
  have HFU : Hid (∀ U, Below W.heap.size W U → Calls Tryd.prog 145 #[.pointer (some ⟨mb, 4, none⟩)] U fun e w' => e = .returned (.bool false) ∧ Below U.heap.size U w') := by
    intro U hU
    have hBU := below_via' hU hB
    have := full_any (h.m.same hBU.size fun k hk => hBU.block k hk) hpos hn
    rw [hff] at this
    exact this
  have HLAY : Hid (∀ U, Below W.heap.size W U → Calls Tryd.prog 149 #[.pointer (some ⟨mb, 4, none⟩), .agg #[.int .u8 p.kind, .slice (some ⟨nb, 0, none⟩) p.fl.length nc]] U fun e w' => LayPost own mb g R j p w e w') := by
    intro U hU
    have := lay_any h.m (below_via' hU hB) j hj hn p nb nc hfv hnew (ownsRow_of_block hrow fun b hb => hU.block b (hrow.lt b hb).2)
    rw [hfv] at this
    exact this
  have HH := hid h
  clear h hB hj hnf hfv hrow hff
  go_enter Tryd.func138, Tryd.ntmps138
  go_wp2_with (first | (go_at_call 145; refine (HFU.out _ ?_).mono ?_; exact (by repeat (first | exact Below.refl _ _ | exact HB2.out)); rintro e w2 ⟨rfl, hb2⟩; have HB2 : Hid (Below W.heap.size W w2) := below_via' hb2 (by repeat (first | exact Below.refl _ _ | exact HB2.out)); clear hb2))
  refine (HLAY.out _ HB2.out).mono ?_
  rintro e w3 ⟨rfl, hm3, ht3, hk3⟩
  have HA3 := hid (HH.out.laid hm3 rfl ht3 hk3)
  have HT3 := hid ht3
  clear hm3 ht3 hk3
  go_wp2_with (first | (go_at_call 148; refine (reference_any _ _).mono ?_; rintro e w' ⟨rfl, o4, rfl⟩) | (go_at_call 126; refine (HA3.out.answer (by repeat (first | exact Below.refl _ _ | refine Below.drew ?_ | refine Below.drewQ ?_ _ | refine Below.alloc ?_ (by first | (simp; done) | (simp; omega)) _)) vc _ [(2, (j : Int))] (pushed_one HA3.out.m (by first | omega | (simp; omega)) (blk_new (by simp))) (by simp) k hk).mono ?_; rintro e w' ⟨own', sv', rfl, hm, ht⟩))
  go_ret
  exact ⟨own', _, rfl, hm, ⟨sv', rfl⟩, HT3.out.trans ht⟩

set_option maxRecDepth 100000 in
set_option maxHeartbeats 2000000 in
theorem doRecord_ok {own : Own} {mb : Nat} {g : PgR} {R : McR} {fs : List FrR} {f : FrR} {rest : List Val} {va : Option Addr} {sb : Nat} {w : World} (h : AtOp w own mb g R fs f rest [] va sb) (j : Nat) (hj : FirstFree R.obs j) (hnf : taken R.obs ≠ R.obs.length) (hn : R.obs.length ≤ 1000) (a : Nat) (ha : a ≤ 8) (vc : Nat) :
    Calls Tryd.prog 113 #[.pointer (some ⟨mb, 0, none⟩), .int .i64 (a : Int), .slice va 0 vc] w fun e w' => DoPost own mb g (NewOb R fs f rest j ⟨1, .slice (some ⟨w.heap.size, 0, none⟩) a a, List.replicate a (0, 0)⟩) 0 w e w' := by
  obtain ⟨i101, hi, hz, hsz, hby⟩ := info_parts info101
  have HMK : Hid (∀ W : World, (Instr.makeSlice 92 (.int .i64 (a : Int)) (.int .i64 (a : Int))).run Tryd.prog W = .ok (.slice (some ⟨W.heap.size, 0, none⟩) a a) (W.alloc (.cells (madeCells #[.int .u8 0, .int .i64 0] (a * 2)) 101))) := by
    intro W
    have hr := run_make (P := Tryd.prog) W 92 101 i101 _ Tryd.underlying92 hi hz .i64 .i64 a a (by omega) (Int.le_refl _) (by rw [hby]; omega) (by omega)
    simpa [hsz, Value.cells] using hr
  have hmk := HMK.out
  have hrow : (w.alloc (Obj.cells (madeCells #[.int .u8 0, .int .i64 0] (a * 2)) 101)).ownsRow 0 101 2 (.slice (some ⟨w.heap.size, 0, none⟩) a a) a (vflat (List.replicate a (0, 0))) := by
    have := World.ownsRow_lit (base := 0) (e := 101) (size := 2) w (madeCells #[.int .u8 0, .int .i64 0] (a * 2)) a (Nat.zero_le _) (by unfold maxLen; omega) (by rw [size_madeCells])
    rwa [made_flat] at this
  have HAN : Hid (Calls Tryd.prog 138 #[.pointer (some ⟨mb, 0, none⟩), .slice va 0 vc, .int .u8 1, .slice (some ⟨w.heap.size, 0, none⟩) a a] (w.alloc (Obj.cells (madeCells #[.int .u8 0, .int .i64 0] (a * 2)) 101)) fun e w' => DoPost own mb g (NewOb R fs f rest j ⟨1, .slice (some ⟨w.heap.size, 0, none⟩) a a, List.replicate a (0, 0)⟩) 0 w e w') := by
    have := answerNew_ok h (Below.alloc (Below.refl _ _) (Nat.le_refl _) (Obj.cells (madeCells #[.int .u8 0, .int .i64 0] (a * 2)) 101)) j hj hnf hn ⟨1, .slice (some ⟨w.heap.size, 0, none⟩) a a, List.replicate a (0, 0)⟩ w.heap.size a (by simp) (Nat.le_refl _) (by simpa using hrow) 0 rfl vc
    refine hid ?_
    simpa using this
  clear h hi hz hsz hby HMK hj hnf hrow
  go_enter Tryd.func113, Tryd.ntmps113
  go_wp2_with (go_at_call 138; refine HAN.out.mono ?_; rintro e w' ⟨own', R', rfl, hm, hp, ht⟩)
  go_ret
  exact ⟨own', R', rfl, hm, hp, ht⟩

end Go.Proofs.YtfnehhaecklkhaaDoor
