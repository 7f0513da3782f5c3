import Derived.Test.YtiejbnfjdobpcaaDoorOA
namespace Go.Proofs.YtiejbnfjdobpcaaDoor
open Go.RowKit Go.Sort

/-- The locals of the running frame. -/
theorem MachAt.locals {w : World} {own : Own} {mb : Nat} {g : PgR} {R : McR} {fs : List FrR} {f : FrR} {a : Nat} {x : Val} (h : MachAt w own mb g R) (hf : R.frs = fs ++ [f]) (ha : f.loc[a]? = some x) :
    ∃ lb lc, f.lv = .slice (some ⟨lb, 0, none⟩) f.loc.length lc ∧ own lb = some (.loc fs.length) ∧ lb < w.heap.size ∧ w.cell? ⟨lb, a * 2, none⟩ = some (.int .u8 x.1) ∧ w.cell? ⟨lb, a * 2 + 1, none⟩ = some (.int .i64 x.2) ∧ (∀ j, w.frozen? ⟨lb, j, none⟩ = false) ∧
      w.ownsRow 0 101 2 (.slice (some ⟨lb, 0, none⟩) f.loc.length lc) f.loc.length (vflat f.loc) := by
  have hl := h.loc fs.length f (by rw [hf]; simp)
  have hlt := (List.getElem?_eq_some_iff.1 ha).1
  obtain ⟨lb, lc, hv, _, hb⟩ := hl.1.form (by omega)
  rw [hv] at hl
  have hcell : ∀ i, i < 2 → w.cell? ⟨lb, a * 2 + i, none⟩ = (vcells x)[i]? := fun i hi => by
    rw [hl.1.cellAt _ (by omega)]; exact flat_get vcells_len ha hi
  exact ⟨lb, lc, hv, hl.2 lb rfl, hb, hcell 0 (by omega), hcell 1 (by omega), fun j => hl.1.frozenAt j, hl.1⟩

set_option maxHeartbeats 2000000 in
theorem doLoad_any {own : Own} {mb : Nat} {g : PgR} {R : McR} {fs : List FrR} {f : FrR} {rest : List Val} {va : Option Addr} {sb : Nat} {w : World} (h : AtOp w own mb g R fs f rest [] va sb) (a : Nat) (x : Val) (ha : f.loc[a]? = some x) (vc : Nat) :
    Calls Tryd.prog 107 #[.pointer (some ⟨mb, 0, none⟩), .int .i64 (a : Int), .slice va 0 vc] w fun e w' => TopPost' own mb g R fs f (f.pc + 1) (rest ++ [x]) (.int .i64 0) w e w' := by
  obtain ⟨cb, cc, hv, hocb, hcb, hfz, x0, x1, x2, x3⟩ := h.m.top h.hf
  obtain ⟨lb, lc, hlv, holb, hlb, l0, l1, _, _⟩ := h.m.locals h.hf ha
  have c3 := h.m.c3
  rw [hv] at c3
  rw [hlv] at x2
  have hmb : mb < w.heap.size := h.m.lt mb _ h.m.me
  have hlt : a < f.loc.length := (List.getElem?_eq_some_iff.1 ha).1
  have hn := h.hn
  have HR : Hid (∀ W : World, W.cell? ⟨mb, 3, none⟩ = some (.slice (some ⟨cb, 0, none⟩) (fs.length + 1) cc) → Calls Tryd.prog 70 #[.pointer (some ⟨mb, 3, none⟩)] W fun e w' => e = .returned (.pointer (some ⟨cb, fs.length * 4, none⟩)) ∧ ∃ m, w' = W.drewN m) := fun W hW => running_any mb cb fs.length cc W hn hW
  have HH := hid h
  clear h hv hocb hfz x0 x1 x3 hlv holb ha
  go_enter Tryd.func107, Tryd.ntmps107
  go_wp2_with (go_at_call 70; refine (HR.out _ ?_).mono ?_; exact c3; rintro e w' ⟨rfl, m, rfl⟩)
  refine (HH.out.answer (Below.alloc (Below.drewQ (Below.refl _ _) m) (Nat.le_refl _) _) vc _ [x] (pushed_one HH.out.m (Nat.le_refl _) (blk_new rfl)) (by simp) 0 rfl).mono ?_
  rintro e w' ⟨own', sv', rfl, hm, ht⟩
  go_wp2_with fail
  go_ret
  exact ⟨own', sv', rfl, hm, ht⟩

/-- A local gets another value. -/
theorem MachAt.setLoc {w w' : World} {own : Own} {mb : Nat} {g : PgR} {R : McR} {fs : List FrR} {f : FrR} {l : List Val} {lb lc : Nat} (h : MachAt w own mb g R) (hf : R.frs = fs ++ [f]) (hlv : f.lv = .slice (some ⟨lb, 0, none⟩) f.loc.length lc) (holb : own lb = some (.loc fs.length)) (hsize : w.heap.size = w'.heap.size) (hk : ∀ k, k ≠ lb → w'.heap[k]? = w.heap[k]?) (hlen : l.length = f.loc.length)
    (hrow : w'.ownsRow 0 101 2 (.slice (some ⟨lb, 0, none⟩) f.loc.length lc) f.loc.length (vflat l)) : MachAt w' own mb g { R with frs := fs ++ [{ f with loc := l }] } := by
  have hlt := h.lt
  have keep : ∀ t, t ≠ .loc fs.length → ∀ k, own k = some t → w'.heap[k]? = w.heap[k]? ∧ own k = some t := fun t ht k hk' => ⟨hk k (fun e => by rw [e, holb] at hk'; exact ht (Option.some.inj hk').symm), hk'⟩
  have hmb := (keep .mach (by simp) mb h.me).1
  have hro : ∀ k, own k = none → w'.heap[k]? = w.heap[k]? := fun k hk' => hk k (fun e => by rw [e, holb] at hk'; cases hk')
  have hfl : (fs ++ [{ f with loc := l }]).flatMap FrR.cells = R.frs.flatMap FrR.cells := by rw [hf]; simp [FrR.cells]
  have frz : ∀ i x, (fs ++ [{ f with loc := l }])[i]? = some x → (i = fs.length ∧ x = { f with loc := l }) ∨ (i ≠ fs.length ∧ R.frs[i]? = some x) := fun i x hx => by
    by_cases e : i = fs.length
    · subst e; simp at hx; exact Or.inl ⟨rfl, hx.symm⟩
    · refine Or.inr ⟨e, ?_⟩
      rw [hf]
      rcases Nat.lt_or_ge i fs.length with hl | hl
      · rw [List.getElem?_append_left hl] at hx ⊢; exact hx
      · rw [List.getElem?_append_right hl] at hx
        rw [List.getElem?_eq_none (by simp; omega)] at hx; cases hx
  refine ⟨fun k t hk' => by rw [← hsize]; exact hlt k t hk', h.me, ?_, ?_, ?_, ?_, ?_, ?_, h.out.kept (keep _ (by simp)), ?_, h.slots.kept (keep _ (by simp)), fun i x hx => ?_, fun i x hx => ?_, fun j o ho => (h.fld j o ho).kept (keep _ (by simp)), h.pg.held (Nat.le_of_eq hsize) fun k hb => hro k (h.ro k hb), h.ro, h.tab.held (Nat.le_of_eq hsize) (hro 0 h.ro0), h.ro0, ?_, h.draws.kept (keep _ (by simp))⟩
  · rw [World.cell?_of_block (w := w) (a := ⟨mb, 0, none⟩) hmb]; exact h.c0
  · rw [World.cell?_of_block (w := w) (a := ⟨mb, 1, none⟩) hmb]; exact h.c1
  · rw [World.cell?_of_block (w := w) (a := ⟨mb, 2, none⟩) hmb]; exact h.c2
  · rw [World.cell?_of_block (w := w) (a := ⟨mb, 3, none⟩) hmb]; exact h.c3
  · rw [World.cell?_of_block (w := w) (a := ⟨mb, 4, none⟩) hmb]; exact h.c4
  · intro j; rw [World.frozen?_of_block (w := w) (a := ⟨mb, j, none⟩) hmb]; exact h.fz j
  · have := h.called.kept (own' := own) (w' := w') (keep _ (by simp))
    have hl2 : (fs ++ [{ f with loc := l }]).length = R.frs.length := by rw [hf]; simp
    show Row w' own .called 98 4 R.cv (fs ++ [{ f with loc := l }]).length ((fs ++ [{ f with loc := l }]).flatMap FrR.cells)
    rw [hfl, hl2]
    exact this
  · rcases frz i x hx with ⟨rfl, rfl⟩ | ⟨hne, hx⟩
    · show Row w' own (.loc fs.length) 101 2 f.lv l.length (vflat l)
      rw [hlv, hlen]
      exact ⟨hrow, fun b hb => by obtain rfl : lb = b := by simpa [Value.ownBlock] using hb
                                  exact holb⟩
    · exact (h.loc i x hx).kept (keep _ (by simpa using hne))
  · rcases frz i x hx with ⟨rfl, rfl⟩ | ⟨hne, hx⟩
    · exact (h.stk fs.length f (by rw [hf]; simp)).kept (keep _ (by simp))
    · exact (h.stk i x hx).kept (keep _ (by simp))
  · rw [World.cell?_of_block (w := w) (a := ⟨mb, 5, none⟩) hmb]; exact h.c5

theorem vflat_set {l : List Val} {a : Nat} {x y : Val} (ha : l[a]? = some x) : vflat (l.set a y) = ((vflat l).set (a * 2) (.int .u8 y.1)).set (a * 2 + 1) (.int .i64 y.2) := by
  have h1 := flat_set (c := vcells) vcells_len (l := l) (i := a) (j := 0) (x := x) (y := (y.1, x.2)) (u := .int .u8 y.1) ha (by omega) rfl
  have hlt := (List.getElem?_eq_some_iff.1 ha).1
  have h2 := flat_set (c := vcells) vcells_len (l := l.set a (y.1, x.2)) (i := a) (j := 1) (x := (y.1, x.2)) (y := y) (u := .int .i64 y.2) (List.getElem?_set_self hlt) (by omega) rfl
  rw [List.set_set] at h2
  unfold vflat
  rw [h2, h1, Nat.add_zero]

theorem store_end {own : Own} {mb : Nat} {g : PgR} {R : McR} {fs : List FrR} {f : FrR} {rest args : List Val} {va : Option Addr} {sb : Nat} {w W : World} (h : AtOp w own mb g R fs f rest args va sb) (hB : Below w.heap.size w W) {a : Nat} {x y : Val} (ha : f.loc[a]? = some x) {lb lc : Nat} (hlv : f.lv = .slice (some ⟨lb, 0, none⟩) f.loc.length lc) (holb : own lb = some (.loc fs.length)) :
    AtOp ((W.setCell ⟨lb, a * 2, none⟩ (.int .u8 y.1)).setCell ⟨lb, a * 2 + 1, none⟩ (.int .i64 y.2)) own mb g { R with frs := fs ++ [{ f with loc := f.loc.set a y }] } fs { f with loc := f.loc.set a y } rest args va sb ∧
      Touched own w own ((W.setCell ⟨lb, a * 2, none⟩ (.int .u8 y.1)).setCell ⟨lb, a * 2 + 1, none⟩ (.int .i64 y.2)) := by
  have hW := h.later hB
  have hl := hW.m.loc fs.length f (by rw [h.hf]; simp)
  rw [hlv] at hl
  have hr := (World.ownsRow.stored (World.ownsRow.stored hl.1 (a * 2) (.int .u8 y.1)).1 (a * 2 + 1) (.int .i64 y.2)).1
  rw [← vflat_set ha] at hr
  have hblk : ∀ k, k ≠ lb → ((W.setCell ⟨lb, a * 2, none⟩ (.int .u8 y.1)).setCell ⟨lb, a * 2 + 1, none⟩ (.int .i64 y.2)).heap[k]? = W.heap[k]? := fun k hk => by
    rw [heap_setCell_other _ _ _ _ hk, heap_setCell_other _ _ _ _ hk]
  refine ⟨⟨hW.m.setLoc h.hf hlv holb (by simp) hblk (by simp) hr, rfl, h.hst, fun h0 => ?_, h.hn, h.hs, h.hpc⟩, ⟨hB.os, hB.tape, hB.output, by have := hB.size; simpa using this, fun k hk hno => ?_, fun _ _ => rfl⟩⟩
  · obtain ⟨q1, q2, q3⟩ := hW.hva h0
    refine ⟨q1, q2, fun j z hz => ?_⟩
    have hsl : sb ≠ lb := fun e => by rw [e, holb] at q2; cases q2
    rw [World.cell?_of_block (w := W) (a := ⟨sb, _, none⟩) (hblk sb hsl), World.cell?_of_block (w := W) (a := ⟨sb, _, none⟩) (hblk sb hsl)]
    exact q3 j z hz
  · rw [hblk k (fun e => by rw [e, holb] at hno; cases hno)]
    exact hB.block k hk

def Stored (R : McR) (fs : List FrR) (f : FrR) (rest : List Val) (a : Nat) (y : Val) (R' : McR) : Prop := ∃ sv', R' = { R with frs := fs ++ [{ f with pc := f.pc + 1, sv := sv', loc := f.loc.set a y, stk := rest }] }

set_option maxRecDepth 100000 in
set_option maxHeartbeats 2000000 in
theorem doStore_any {own : Own} {mb : Nat} {g : PgR} {R : McR} {fs : List FrR} {f : FrR} {rest : List Val} {y : Val} {va : Option Addr} {sb : Nat} {w : World} (h : AtOp w own mb g R fs f rest [y] va sb) (a : Nat) (ha : a < f.loc.length) (vc : Nat) :
    Calls Tryd.prog 108 #[.pointer (some ⟨mb, 0, none⟩), .int .i64 (a : Int), .slice va 1 vc] w fun e w' => DoPost own mb g (Stored R fs f rest a y) 0 w e w' := by
  obtain ⟨x, hx⟩ : ∃ x, f.loc[a]? = some x := ⟨_, List.getElem?_eq_getElem ha⟩
  obtain ⟨o, rfl, hsb, s0, s1⟩ := h.one
  obtain ⟨y1, y2⟩ := y
  simp only at s0 s1
  obtain ⟨cb, cc, hv, hocb, hcb, hfz, x0, x1, x2, x3⟩ := h.m.top h.hf
  obtain ⟨lb, lc, hlv, holb, hlb, l0, l1, lz, _⟩ := h.m.locals h.hf hx
  have c3 := h.m.c3
  rw [hv] at c3
  have HLV := hid hlv
  rw [hlv] at x2
  have hmb : mb < w.heap.size := h.m.lt mb _ h.m.me
  have lz0 := lz (a * 2)
  have lz1 := lz (a * 2 + 1)
  have hn := h.hn
  have HR : Hid (∀ W : World, W.cell? ⟨mb, 3, none⟩ = some (.slice (some ⟨cb, 0, none⟩) (fs.length + 1) cc) → Calls Tryd.prog 70 #[.pointer (some ⟨mb, 3, none⟩)] W fun e w' => e = .returned (.pointer (some ⟨cb, fs.length * 4, none⟩)) ∧ ∃ m, w' = W.drewN m) := fun W hW => running_any mb cb fs.length cc W hn hW
  have HOLB := hid holb
  have HX := hid hx
  have HH := hid h
  clear h hv hocb hfz x0 x1 x3 hlv holb hx lz
  go_enter Tryd.func108, Tryd.ntmps108
  go_wp2_with fail
  go_region_with (first | (go_at_call 70; refine (HR.out _ ?_).mono ?_; exact c3; rintro e w' ⟨rfl, m, rfl⟩))
  all_goals
    obtain ⟨hA, hT⟩ := store_end (y := (y1, y2)) HH.out (Below.drewQ (Below.refl _ _) (1 + m)) HX.out HLV.out HOLB.out
    have HA := hid hA
    have HT := hid hT
    clear hA hT c3 x2 l0 l1 lz0 lz1 s0 s1
    go_wp2_with (go_at_call 137; refine (HA.out.answer (Below.refl _ _) vc _ [] (pushed_nil _ _) (by simp) 1 rfl).mono ?_; rintro e w' ⟨own', sv', rfl, hm, ht⟩)
    go_ret
    exact ⟨own', _, rfl, hm, ⟨sv', by rw [List.append_nil]⟩, HT.out.trans ht⟩

end Go.Proofs.YtiejbnfjdobpcaaDoor
