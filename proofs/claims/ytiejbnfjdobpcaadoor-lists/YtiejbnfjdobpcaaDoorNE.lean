import Derived.Test.YtiejbnfjdobpcaaDoorK
import Derived.Deep.AppendLies
import Derived.Deep.Light
import Derived.Deep.QuietTactic
import Derived.BigQuiet
import Derived.Laws.AppendOwnNone
import Derived.OneCell
namespace Go.Proofs.YtiejbnfjdobpcaaDoor
open Go.RowKit

/-! PLAIN: rows of things of a constant number of cells. -/

theorem flat_len {α : Type} {c : α → List Value} {s : Nat} (hc : ∀ x, (c x).length = s) (l : List α) : (l.flatMap c).length = l.length * s := by
  induction l with
  | nil => simp
  | cons a l ih => simp [List.flatMap_cons, hc, ih, Nat.add_mul]; omega

theorem flat_get {α : Type} {c : α → List Value} {s : Nat} (hc : ∀ x, (c x).length = s) {l : List α} {i j : Nat} {x : α} (hi : l[i]? = some x) (hj : j < s) : (l.flatMap c)[i * s + j]? = (c x)[j]? := by
  induction l generalizing i with
  | nil => simp at hi
  | cons a l ih =>
    cases i with
    | zero =>
      simp at hi; subst hi
      rw [List.flatMap_cons, List.getElem?_append_left (by rw [hc]; omega)]; simp
    | succ i =>
      simp at hi
      rw [List.flatMap_cons, List.getElem?_append_right (by rw [hc, Nat.succ_mul]; omega), hc, show (i + 1) * s + j - s = i * s + j by rw [Nat.succ_mul]; omega]
      exact ih hi

theorem flat_take {α : Type} {c : α → List Value} {s : Nat} (hc : ∀ x, (c x).length = s) (l : List α) (k : Nat) : (l.take k).flatMap c = (l.flatMap c).take (k * s) := by
  induction l generalizing k with
  | nil => simp
  | cons a l ih =>
    cases k with
    | zero => simp
    | succ k =>
      have e : List.take ((k + 1) * s) (c a) = c a := List.take_of_length_le (by rw [hc, Nat.succ_mul]; omega)
      rw [List.take_succ_cons, List.flatMap_cons, List.flatMap_cons, List.take_append, ih, hc, show (k + 1) * s - s = k * s by rw [Nat.succ_mul]; omega, e]

theorem flat_set {α : Type} {c : α → List Value} {s : Nat} (hc : ∀ x, (c x).length = s) {l : List α} {i j : Nat} {x y : α} {u : Value} (hi : l[i]? = some x) (hj : j < s) (hy : c y = (c x).set j u) :
    (l.set i y).flatMap c = (l.flatMap c).set (i * s + j) u := by
  induction l generalizing i with
  | nil => simp at hi
  | cons a l ih =>
    cases i with
    | zero =>
      simp at hi; subst hi
      rw [List.set_cons_zero, List.flatMap_cons, List.flatMap_cons, List.set_append_left _ _ (by rw [hc]; omega), hy]; simp
    | succ i =>
      simp at hi
      rw [List.set_cons_succ, List.flatMap_cons, List.flatMap_cons, List.set_append_right _ _ (by rw [hc, Nat.succ_mul]; omega), hc, show (i + 1) * s + j - s = i * s + j by rw [Nat.succ_mul]; omega, ih hi]

/-! A MACHINE IN MEMORY. -/

abbrev Val := Int × Int
def vcells (v : Val) : List Value := [.int .u8 v.1, .int .i64 v.2]
def vflat (l : List Val) : List Value := l.flatMap vcells
theorem vcells_len (v : Val) : (vcells v).length = 2 := rfl

structure FrR where
  fn : Nat
  pc : Nat
  lv : Value
  sv : Value
  loc : List Val
  stk : List Val
def FrR.cells (f : FrR) : List Value := [.int .i64 f.fn, .int .i64 f.pc, f.lv, f.sv]
theorem FrR.cells_len (f : FrR) : f.cells.length = 4 := rfl

structure ObR where
  kind : Int
  fv : Value
  fl : List Val
def ObR.cells (o : ObR) : List Value := [.int .u8 o.kind, o.fv]
theorem ObR.cells_len (o : ObR) : o.cells.length = 2 := rfl

structure McR where
  st : Int
  ov : Value
  out : List Int
  cv : Value
  frs : List FrR
  hv : Value
  obs : List ObR
  dv : Value
  dr : List Int

/-- What a block is to the machine that owns it. -/
inductive Tag where
  | mach | out | called | slots | draws
  | loc (i : Nat) | stk (i : Nat) | fld (j : Nat)

abbrev Own := Nat → Option Tag

def Row (w : World) (own : Own) (t : Tag) (e size : Nat) (v : Value) (n : Nat) (xs : List Value) : Prop :=
  w.ownsRow 0 e size v n xs ∧ ∀ b, v.ownBlock = some b → own b = some t

/-- The blocks that a program lies in. -/
def PgR.blk (g : PgR) (k : Nat) : Prop := (0 < g.n ∧ k = g.b) ∨ ∃ i, i < g.n ∧ 0 < (g.f i).n ∧ k = (g.f i).b

structure MachAt (w : World) (own : Own) (mb : Nat) (g : PgR) (R : McR) : Prop where
  lt : ∀ k t, own k = some t → k < w.heap.size
  me : own mb = some .mach
  c0 : w.cell? ⟨mb, 0, none⟩ = some (.slice g.a g.n g.c)
  c1 : w.cell? ⟨mb, 1, none⟩ = some (.int .i64 R.st)
  c2 : w.cell? ⟨mb, 2, none⟩ = some R.ov
  c3 : w.cell? ⟨mb, 3, none⟩ = some R.cv
  c4 : w.cell? ⟨mb, 4, none⟩ = some R.hv
  fz : ∀ j, w.frozen? ⟨mb, j, none⟩ = false
  out : Row w own .out 3 1 R.ov R.out.length (R.out.map fun n => .int .i64 n)
  called : Row w own .called 98 4 R.cv R.frs.length (R.frs.flatMap FrR.cells)
  slots : Row w own .slots 94 2 R.hv R.obs.length (R.obs.flatMap ObR.cells)
  loc : ∀ i f, R.frs[i]? = some f → Row w own (.loc i) 101 2 f.lv f.loc.length (vflat f.loc)
  stk : ∀ i f, R.frs[i]? = some f → Row w own (.stk i) 101 2 f.sv f.stk.length (vflat f.stk)
  fld : ∀ j o, R.obs[j]? = some o → Row w own (.fld j) 101 2 o.fv o.fl.length (vflat o.fl)
  pg : PgIn w.heap.size w g
  ro : ∀ k, g.blk k → own k = none
  tab : Tab w
  ro0 : own 0 = none
  c5 : w.cell? ⟨mb, 5, none⟩ = some R.dv
  draws : Row w own .draws 3 1 R.dv R.dr.length (R.dr.map fun n => .int .i64 n)

theorem ownsRow_of_block {w w' : World} {base e size : Nat} {v : Value} {n : Nat} {xs : List Value} (h : w.ownsRow base e size v n xs) (hb : ∀ b, v.ownBlock = some b → w'.heap[b]? = w.heap[b]?) : w'.ownsRow base e size v n xs := by
  refine ⟨h.1, h.2.imp id ?_⟩
  rintro ⟨g, cap, cur, rfl, h1, h2, h3⟩
  exact ⟨g, cap, cur, rfl, h1, (hb g rfl).trans h2, h3⟩

theorem Row.kept {w w' : World} {own own' : Own} {t : Tag} {e size : Nat} {v : Value} {n : Nat} {xs : List Value} (h : Row w own t e size v n xs) (hk : ∀ k, own k = some t → w'.heap[k]? = w.heap[k]? ∧ own' k = some t) : Row w' own' t e size v n xs :=
  ⟨ownsRow_of_block h.1 fun b hb => (hk b (h.2 b hb)).1, fun b hb => (hk b (h.2 b hb)).2⟩

/-- A row cut short. -/
theorem Row.cut {w : World} {own : Own} {t : Tag} {e size : Nat} {g n cap : Nat} {xs : List Value} (h : Row w own t e size (.slice (some ⟨g, 0, none⟩) n cap) n xs) {m : Nat} (hm : m ≤ n) : Row w own t e size (.slice (some ⟨g, 0, none⟩) m cap) m (xs.take (m * size)) := by
  refine ⟨⟨?_, ?_⟩, fun b hb => h.2 b hb⟩
  · rw [List.length_take, h.1.1]; exact Nat.min_eq_left (Nat.mul_le_mul_right _ hm)
  · rcases h.1.2 with ⟨h0, _⟩ | ⟨g', cap', cur, hv, h1, h2, h3, h4, h5, h6⟩
    · cases h0
    · cases hv
      refine Or.inr ⟨g, cap, cur, rfl, h1, h2, by omega, h4, h5, ?_⟩
      rw [← h6, List.take_take, Nat.min_eq_left (Nat.mul_le_mul_right _ hm)]

theorem PgIn.held {w w' : World} {g : PgR} (h : PgIn w.heap.size w g) (hs : w.heap.size ≤ w'.heap.size) (hk : ∀ k, g.blk k → w'.heap[k]? = w.heap[k]?) : PgIn w'.heap.size w' g := by
  refine ⟨h.1, fun hn => ?_, fun i hi => ⟨(h.2.2 i hi).1, fun hn => ?_⟩⟩
  · obtain ⟨h1, h2, h3⟩ := h.2.1 hn
    refine ⟨h1, by omega, fun i hi => ?_⟩
    have e := hk g.b (Or.inl ⟨hn, rfl⟩)
    rw [World.cell?_of_block (w := w) (a := ⟨g.b, g.o + i * 3, none⟩) e, World.cell?_of_block (w := w) (a := ⟨g.b, g.o + i * 3 + 1, none⟩) e, World.cell?_of_block (w := w) (a := ⟨g.b, g.o + i * 3 + 2, none⟩) e]
    exact h3 i hi
  · obtain ⟨h1, h2, h3⟩ := (h.2.2 i hi).2 hn
    refine ⟨h1, by omega, fun j hj => ?_⟩
    have e := hk (g.f i).b (Or.inr ⟨i, hi, hn, rfl⟩)
    rw [World.cell?_of_block (w := w) (a := ⟨(g.f i).b, (g.f i).o + j * 2, none⟩) e, World.cell?_of_block (w := w) (a := ⟨(g.f i).b, (g.f i).o + j * 2 + 1, none⟩) e]
    exact h3 j hj

theorem PgIn.blk_lt {w : World} {g : PgR} (h : PgIn w.heap.size w g) {k : Nat} (hk : g.blk k) : k < w.heap.size := by
  rcases hk with ⟨hn, rfl⟩ | ⟨i, hi, hn, rfl⟩
  · exact (h.2.1 hn).2.1
  · exact ((h.2.2 i hi).2 hn).2.1

theorem Tab.held {w w' : World} (h : Tab w) (hs : w.heap.size ≤ w'.heap.size) (hk : w'.heap[0]? = w.heap[0]?) : Tab w' :=
  ⟨Nat.lt_of_lt_of_le h.1 hs, fun k hk' => by
    rw [World.cell?_of_block (w := w) (a := ⟨0, k * 5, none⟩) hk, World.cell?_of_block (w := w) (a := ⟨0, k * 5 + 1, none⟩) hk, World.cell?_of_block (w := w) (a := ⟨0, k * 5 + 2, none⟩) hk,
      World.cell?_of_block (w := w) (a := ⟨0, k * 5 + 3, none⟩) hk, World.cell?_of_block (w := w) (a := ⟨0, k * 5 + 4, none⟩) hk]
    exact h.2 k hk'⟩

/-- What a call on a machine may touch: its own blocks, and new ones; and what it owns afterwards. -/
structure Touched (own : Own) (w : World) (own' : Own) (w' : World) : Prop where
  os : w'.os = w.os
  tape : w'.tape = w.tape
  output : w'.output = w.output
  size : w.heap.size ≤ w'.heap.size
  block : ∀ k, k < w.heap.size → own k = none → w'.heap[k]? = w.heap[k]?
  old : ∀ k, k < w.heap.size → own' k = own k

theorem Touched.refl (own : Own) (w : World) : Touched own w own w := ⟨rfl, rfl, rfl, Nat.le_refl _, fun _ _ _ => rfl, fun _ _ => rfl⟩
theorem Touched.trans {own own' own'' : Own} {w w' w'' : World} (h : Touched own w own' w') (k : Touched own' w' own'' w'') : Touched own w own'' w'' :=
  ⟨k.os.trans h.os, k.tape.trans h.tape, k.output.trans h.output, Nat.le_trans h.size k.size,
   fun i hi hn => (k.block i (Nat.lt_of_lt_of_le hi h.size) (by rw [h.old i hi]; exact hn)).trans (h.block i hi hn),
   fun i hi => (k.old i (Nat.lt_of_lt_of_le hi h.size)).trans (h.old i hi)⟩

end Go.Proofs.YtiejbnfjdobpcaaDoor
namespace Go.Proofs.YtiejbnfjdobpcaaDoor
open Go.RowKit

def Own.upd (own : Own) (b : Option Nat) (t : Tag) : Own := fun k => if b = some k then some t else own k

theorem Own.upd_none (own : Own) (t : Tag) : own.upd none t = own := by funext k; simp [Own.upd]
theorem Own.upd_same {own : Own} {b : Nat} {t : Tag} (h : own b = some t) : own.upd (some b) t = own := by
  funext k; unfold Own.upd; split
  · rename_i e; cases e; exact h.symm
  · rfl

/-- The block of a row that is the machine's own already, or is new. -/
def OldOrNew (w : World) (own : Own) (v : Value) (t : Tag) : Prop := ∀ b, v.ownBlock = some b → own b = some t ∨ w.heap.size ≤ b

theorem Own.upd_old {w : World} {own : Own} {v : Value} {t : Tag} (h : OldOrNew w own v t) {k : Nat} (hk : k < w.heap.size) : own.upd v.ownBlock t k = own k := by
  unfold Own.upd; split
  · rename_i e
    rcases h k e with h1 | h1
    · exact h1.symm
    · omega
  · rfl

theorem Own.upd_lt {w w' : World} {own : Own} {v : Value} {t : Tag} {base e size n : Nat} {xs : List Value} (hlt : ∀ k t, own k = some t → k < w.heap.size) (hs : w.heap.size ≤ w'.heap.size) (hv : w'.ownsRow base e size v n xs) :
    ∀ k u, own.upd v.ownBlock t k = some u → k < w'.heap.size := by
  intro k u h
  unfold Own.upd at h; split at h
  · rename_i e; exact (hv.lt k e).2
  · exact Nat.lt_of_lt_of_le (hlt k u h) hs

theorem Row.upd {w w' : World} {own : Own} {v : Value} {t s : Tag} {e size n : Nat} {xs : List Value} {v' : Value} (hlt : ∀ k t, own k = some t → k < w.heap.size) (hon : OldOrNew w own v' t) (h : Row w own s e size v n xs) (hk : ∀ k, own k = some s → w'.heap[k]? = w.heap[k]?) :
    Row w' (own.upd v'.ownBlock t) s e size v n xs :=
  h.kept fun k hs => ⟨hk k hs, by rw [Own.upd_old hon (hlt k s hs)]; exact hs⟩

/-- The running frame. -/
theorem MachAt.top {w : World} {own : Own} {mb : Nat} {g : PgR} {R : McR} {fs : List FrR} {f : FrR} (h : MachAt w own mb g R) (hf : R.frs = fs ++ [f]) :
    ∃ cb cc, R.cv = .slice (some ⟨cb, 0, none⟩) (fs.length + 1) cc ∧ own cb = some .called ∧ cb < w.heap.size ∧ (∀ j, w.frozen? ⟨cb, j, none⟩ = false) ∧
      w.cell? ⟨cb, fs.length * 4, none⟩ = some (.int .i64 f.fn) ∧ w.cell? ⟨cb, fs.length * 4 + 1, none⟩ = some (.int .i64 f.pc) ∧ w.cell? ⟨cb, fs.length * 4 + 2, none⟩ = some f.lv ∧ w.cell? ⟨cb, fs.length * 4 + 3, none⟩ = some f.sv := by
  have hc := h.called
  rw [hf] at hc
  obtain ⟨cb, cc, hv, _, hlt⟩ := hc.1.form (by simp)
  have hl : (fs ++ [f]).length = fs.length + 1 := by simp
  rw [hl] at hc hv
  rw [hv] at hc
  have hg : (fs ++ [f])[fs.length]? = some f := by simp
  have hcell : ∀ j, j < 4 → w.cell? ⟨cb, fs.length * 4 + j, none⟩ = f.cells[j]? := fun j hj => by
    rw [hc.1.cellAt _ (by omega)]; exact flat_get FrR.cells_len hg hj
  exact ⟨cb, cc, hv, hc.2 cb rfl, hlt, fun j => hc.1.frozenAt j, hcell 0 (by omega), hcell 1 (by omega), hcell 2 (by omega), hcell 3 (by omega)⟩

theorem MachAt.setTop {w w' : World} {own : Own} {mb : Nat} {g : PgR} {R : McR} {fs : List FrR} {f f' : FrR} (h : MachAt w own mb g R) (hf : R.frs = fs ++ [f]) (hlv : f'.lv = f.lv) (hloc : f'.loc = f.loc) (hsize : w.heap.size ≤ w'.heap.size)
    (hk : ∀ k, k < w.heap.size → own k ≠ some .called → own k ≠ some (.stk fs.length) → w'.heap[k]? = w.heap[k]?)
    (hcalled : w'.ownsRow 0 98 4 R.cv (fs.length + 1) ((fs ++ [f']).flatMap FrR.cells)) (hst : w'.ownsRow 0 101 2 f'.sv f'.stk.length (vflat f'.stk)) (hon : OldOrNew w own f'.sv (.stk fs.length)) :
    MachAt w' (own.upd f'.sv.ownBlock (.stk fs.length)) mb g { R with frs := fs ++ [f'] } := by
  have hlt := h.lt
  have keep : ∀ t, t ≠ .called → t ≠ .stk fs.length → ∀ k, own k = some t → w'.heap[k]? = w.heap[k]? := fun t h1 h2 k hk' =>
    hk k (hlt k t hk') (by rw [hk']; exact fun e => h1 (Option.some.inj e)) (by rw [hk']; exact fun e => h2 (Option.some.inj e))
  have hmb := keep .mach (by simp) (by simp) mb h.me
  have frz : ∀ i x, (fs ++ [f'])[i]? = some x → (i = fs.length ∧ x = f') ∨ (i ≠ fs.length ∧ R.frs[i]? = some x) := fun i x hx => by
    by_cases e : i = fs.length
    · subst e; simp at hx; exact Or.inl ⟨rfl, hx.symm⟩
    · refine Or.inr ⟨e, ?_⟩
      rw [hf]
      rcases Nat.lt_or_ge i fs.length with hl | hl
      · rw [List.getElem?_append_left hl] at hx ⊢; exact hx
      · rw [List.getElem?_append_right hl] at hx
        rw [List.getElem?_eq_none (by simp; omega)] at hx; cases hx
  refine ⟨Own.upd_lt hlt hsize hst, ?_, ?_, ?_, ?_, ?_, ?_, ?_, ?_, ?_, ?_, ?_, ?_, ?_, ?_, ?_, ?_, ?_, ?_, ?_⟩
  · rw [Own.upd_old hon (hlt mb _ h.me)]; exact h.me
  · rw [World.cell?_of_block (w := w) (a := ⟨mb, 0, none⟩) hmb]; exact h.c0
  · rw [World.cell?_of_block (w := w) (a := ⟨mb, 1, none⟩) hmb]; exact h.c1
  · rw [World.cell?_of_block (w := w) (a := ⟨mb, 2, none⟩) hmb]; exact h.c2
  · rw [World.cell?_of_block (w := w) (a := ⟨mb, 3, none⟩) hmb]; exact h.c3
  · rw [World.cell?_of_block (w := w) (a := ⟨mb, 4, none⟩) hmb]; exact h.c4
  · intro j; rw [World.frozen?_of_block (w := w) (a := ⟨mb, j, none⟩) hmb]; exact h.fz j
  · exact h.out.upd hlt hon (keep _ (by simp) (by simp))
  · refine ⟨by simpa using hcalled, fun b hb => ?_⟩
    have := h.called.2 b hb
    rw [Own.upd_old hon (hlt b _ this)]; exact this
  · exact h.slots.upd hlt hon (keep _ (by simp) (by simp))
  · intro i x hx
    rcases frz i x hx with ⟨rfl, rfl⟩ | ⟨_, hx⟩
    · rw [hlv, hloc]
      exact (h.loc fs.length f (by rw [hf]; simp)).upd hlt hon (keep _ (by simp) (by simp))
    · exact (h.loc i x hx).upd hlt hon (keep _ (by simp) (by simp))
  · intro i x hx
    rcases frz i x hx with ⟨rfl, rfl⟩ | ⟨hne, hx⟩
    · refine ⟨hst, fun b hb => ?_⟩
      simp [Own.upd, hb]
    · exact (h.stk i x hx).upd hlt hon (keep _ (by simp) (by simpa using hne))
  · intro j o ho
    exact (h.fld j o ho).upd hlt hon (keep _ (by simp) (by simp))
  · exact h.pg.held hsize fun k hb => hk k (h.pg.blk_lt hb) (by rw [h.ro k hb]; simp) (by rw [h.ro k hb]; simp)
  · intro k hb; rw [Own.upd_old hon (h.pg.blk_lt hb)]; exact h.ro k hb
  · exact h.tab.held hsize (hk 0 h.tab.1 (by rw [h.ro0]; simp) (by rw [h.ro0]; simp))
  · rw [Own.upd_old hon h.tab.1]; exact h.ro0
  · rw [World.cell?_of_block (w := w) (a := ⟨mb, 5, none⟩) hmb]; exact h.c5
  · exact h.draws.upd hlt hon (keep _ (by simp) (by simp))

set_option maxHeartbeats 400000 in
theorem running_any (mb cb n cc : Nat) (w : World) (hn : n ≤ 1000) (hc : w.cell? ⟨mb, 3, none⟩ = some (.slice (some ⟨cb, 0, none⟩) (n + 1) cc)) :
    Calls Tryd.prog 70 #[.pointer (some ⟨mb, 3, none⟩)] w fun e w' => e = .returned (.pointer (some ⟨cb, n * 4, none⟩)) ∧ ∃ m, w' = w.drewN m := by
  go_enter Tryd.func70, Tryd.ntmps70
  go_wp2
  go_quiet (fail)
  go_wp2
  go_ret
  exact ⟨rfl, _, rfl⟩

/-- The values at the top of a stack, as they are looked at. -/
def TopPost (sb s k : Nat) (w : World) (e : Ending) (w' : World) : Prop := ∃ va vc, e = .returned (.slice va k vc) ∧ (0 < k → va = some ⟨sb, (s - k) * 2, none⟩) ∧ ∃ m, w' = w.drewN m
theorem topPost {sb s k : Nat} {w : World} {e : Ending} {w' : World} {va : Option Addr} {n vc m : Nat} (hs : k ≤ s) (hn : n = s - (s - k)) (he : e = .returned (.slice va n vc)) (h : 0 < k → va = some ⟨sb, (s - k) * 2, none⟩) (hw : w' = w.drewN m) : TopPost sb s k w e w' :=
  ⟨va, vc, by rw [he, hn, show s - (s - k) = k by omega], h, m, hw⟩

set_option maxHeartbeats 400000 in
theorem top_own (mb cb n cc sb s sc k : Nat) (w : World) (hn : n ≤ 1000) (hs : s ≤ 1000) (hsc : s ≤ sc) (hk : k ≤ s) (hc : w.cell? ⟨mb, 3, none⟩ = some (.slice (some ⟨cb, 0, none⟩) (n + 1) cc))
    (hst : w.cell? ⟨cb, n * 4 + 3, none⟩ = some (.slice (some ⟨sb, 0, none⟩) s sc)) :
    Calls Tryd.prog 71 #[.pointer (some ⟨mb, 3, none⟩), .int .i64 (k : Int)] w fun e w' => TopPost sb s k w e w' := by
  go_enter Tryd.func71, Tryd.ntmps71
  go_wp2_with (go_at_call 70; refine (running_any mb cb n cc _ hn hc).mono ?_; rintro e w' ⟨rfl, m, rfl⟩)
  all_goals go_ret
  · exact topPost hk rfl rfl (fun h => by omega) rfl
  · exact topPost hk rfl rfl (fun _ => rfl) rfl

set_option maxHeartbeats 400000 in
theorem top_nil (mb cb n cc : Nat) (w : World) (hn : n ≤ 1000) (hc : w.cell? ⟨mb, 3, none⟩ = some (.slice (some ⟨cb, 0, none⟩) (n + 1) cc))
    (hst : w.cell? ⟨cb, n * 4 + 3, none⟩ = some (.slice none 0 0)) :
    Calls Tryd.prog 71 #[.pointer (some ⟨mb, 3, none⟩), .int .i64 0] w fun e w' => e = .returned (.slice none 0 0) ∧ ∃ m, w' = w.drewN m := by
  go_enter Tryd.func71, Tryd.ntmps71
  go_wp2_with (go_at_call 70; refine (running_any mb cb n cc _ hn hc).mono ?_; rintro e w' ⟨rfl, m, rfl⟩)
  all_goals go_ret
  exact ⟨rfl, _, rfl⟩

set_option maxHeartbeats 400000 in
theorem drop_own (mb cb n cc sb s sc k : Nat) (w : World) (hn : n ≤ 1000) (hs : s ≤ 1000) (hsc : s ≤ sc) (hk : k ≤ s) (hc : w.cell? ⟨mb, 3, none⟩ = some (.slice (some ⟨cb, 0, none⟩) (n + 1) cc))
    (hst : w.cell? ⟨cb, n * 4 + 3, none⟩ = some (.slice (some ⟨sb, 0, none⟩) s sc)) (hfz : w.frozen? ⟨cb, n * 4 + 3, none⟩ = false) :
    Calls Tryd.prog 147 #[.pointer (some ⟨mb, 3, none⟩), .int .i64 (k : Int)] w fun e w' => e = .returned (.tuple #[]) ∧ ∃ m, w' = (w.drewN m).setCell ⟨cb, n * 4 + 3, none⟩ (.slice (some ⟨sb, 0, none⟩) (s - k) sc) := by
  go_enter Tryd.func147, Tryd.ntmps147
  go_wp2_with (go_at_call 70; refine (running_any mb cb n cc _ hn hc).mono ?_; rintro e w' ⟨rfl, m, rfl⟩)
  go_region
  all_goals go_wp2
  all_goals go_end0
  all_goals exact ⟨rfl, _, rfl⟩

set_option maxHeartbeats 400000 in
theorem drop_nil (mb cb n cc : Nat) (w : World) (hn : n ≤ 1000) (hc : w.cell? ⟨mb, 3, none⟩ = some (.slice (some ⟨cb, 0, none⟩) (n + 1) cc))
    (hst : w.cell? ⟨cb, n * 4 + 3, none⟩ = some (.slice none 0 0)) (hfz : w.frozen? ⟨cb, n * 4 + 3, none⟩ = false) :
    Calls Tryd.prog 147 #[.pointer (some ⟨mb, 3, none⟩), .int .i64 0] w fun e w' => e = .returned (.tuple #[]) ∧ ∃ m, w' = (w.drewN m).setCell ⟨cb, n * 4 + 3, none⟩ (.slice none 0 0) := by
  go_enter Tryd.func147, Tryd.ntmps147
  go_wp2_with (go_at_call 70; refine (running_any mb cb n cc _ hn hc).mono ?_; rintro e w' ⟨rfl, m, rfl⟩)
  go_region
  all_goals go_wp2
  all_goals go_end0
  all_goals exact ⟨rfl, _, rfl⟩

end Go.Proofs.YtiejbnfjdobpcaaDoor
namespace Go.Proofs.YtiejbnfjdobpcaaDoor
open Go.RowKit

def DropPost (cb n : Nat) (sv : Value) (s k : Nat) (xs : List Value) (w : World) (e : Ending) (w' : World) : Prop :=
  ∃ m sv1, e = .returned (.tuple #[]) ∧ w' = (w.drewN m).setCell ⟨cb, n * 4 + 3, none⟩ sv1 ∧ sv1.ownBlock = sv.ownBlock ∧ w.ownsRow 0 101 2 sv1 (s - k) (xs.take ((s - k) * 2))

theorem owns_cut {w : World} {e size g n cap : Nat} {xs : List Value} (h : w.ownsRow 0 e size (.slice (some ⟨g, 0, none⟩) n cap) n xs) {m : Nat} (hm : m ≤ n) : w.ownsRow 0 e size (.slice (some ⟨g, 0, none⟩) m cap) m (xs.take (m * size)) :=
  (Row.cut (own := fun _ => some .mach) (t := .mach) ⟨h, fun _ _ => rfl⟩ hm).1

theorem owns_cap {w : World} {base e size g n cap : Nat} {xs : List Value} (h : w.ownsRow base e size (.slice (some ⟨g, 0, none⟩) n cap) n xs) : n ≤ cap ∧ g < w.heap.size := by
  rcases h.2 with ⟨h0, _⟩ | ⟨g', cap', cur, hv, _, hg, h3, _⟩
  · cases h0
  · cases hv
    exact ⟨h3, (Array.getElem?_eq_some_iff.1 hg).1⟩

theorem own_dr {w : World} {B e size n : Nat} {v : Value} {xs : List Value} (h : w.ownsRow B e size v n xs) (q : Nat) : (w.drewN q).ownsRow B e size v n xs := h

theorem drop_any (mb cb n cc : Nat) (sv : Value) (s k : Nat) (xs : List Value) (w : World) (hn : n ≤ 1000) (hs : s ≤ 1000) (hk : k ≤ s) (hc : w.cell? ⟨mb, 3, none⟩ = some (.slice (some ⟨cb, 0, none⟩) (n + 1) cc))
    (hst : w.cell? ⟨cb, n * 4 + 3, none⟩ = some sv) (hfz : w.frozen? ⟨cb, n * 4 + 3, none⟩ = false) (hown : w.ownsRow 0 101 2 sv s xs) :
    Calls Tryd.prog 147 #[.pointer (some ⟨mb, 3, none⟩), .int .i64 (k : Int)] w fun e w' => DropPost cb n sv s k xs w e w' := by
  rcases id hown.2 with ⟨rfl, rfl⟩ | ⟨sb, sc, cur, rfl, _, hg, hsc, _⟩
  · obtain rfl : k = 0 := by omega
    refine (drop_nil mb cb n cc w hn hc hst hfz).mono ?_
    rintro e w' ⟨rfl, m, rfl⟩
    have : xs = [] := List.length_eq_zero_iff.1 (by simpa using hown.1)
    subst this
    exact ⟨m, _, rfl, rfl, rfl, World.ownsRow_nil _ _ _ _⟩
  · refine (drop_own mb cb n cc sb s sc k w hn hs hsc hk hc hst hfz).mono ?_
    rintro e w' ⟨rfl, m, rfl⟩
    exact ⟨m, _, rfl, rfl, rfl, owns_cut hown (by omega)⟩

theorem info101 : (Tryd.prog.info? 101).map (fun i => (i.zero, i.size, i.bytes)) = some (some (.agg #[.int .u8 0, .int .i64 0]), 2, 16) := by kernel_rfl

theorem vflat_one (l : List Val) : ∀ u ∈ vflat l, u.oneCell' = true := by
  intro u hu
  simp only [vflat, vcells, List.mem_flatMap, List.mem_cons, List.not_mem_nil, or_false] at hu
  obtain ⟨v, _, rfl | rfl⟩ := hu <;> rfl
theorem vflat_append (a b : List Val) : vflat (a ++ b) = vflat a ++ vflat b := List.flatMap_append
theorem vflat_len (l : List Val) : (vflat l).length = l.length * 2 := flat_len vcells_len l

/-- What is pushed: nothing, or a new list. -/
def Pushed (w : World) (own : Own) (pv : Value) (ps : List Val) : Prop :=
  (pv = .slice none 0 0 ∧ ps = []) ∨ (0 < ps.length ∧ ∃ pb c, pv = .slice (some ⟨pb, 0, none⟩) ps.length c ∧ own pb = none ∧ pb < w.heap.size ∧ ∀ j u, (vflat ps)[j]? = some u → w.cell? ⟨pb, j, none⟩ = some u)

/-- The running frame has gone on. -/
def TopPost' (own : Own) (mb : Nat) (g : PgR) (R : McR) (fs : List FrR) (f : FrR) (pc : Nat) (l : List Val) (r : Value) (w : World) (e : Ending) (w' : World) : Prop :=
  ∃ own' sv', e = .returned r ∧ MachAt w' own' mb g { R with frs := fs ++ [{ f with pc := pc, sv := sv', stk := l }] } ∧ Touched own w own' w'

theorem frame_set {fs : List FrR} {f : FrR} (pc : Nat) (v v1 : Value) (l : List Val) :
    (fs ++ [{ f with pc := pc, sv := v, stk := l }]).flatMap FrR.cells = ((((fs ++ [f]).flatMap FrR.cells).set (fs.length * 4 + 3) v1).set (fs.length * 4 + 3) v).set (fs.length * 4 + 1) (.int .i64 pc) := by
  rw [List.set_set]
  have h1 : ((fs ++ [f]).flatMap FrR.cells).set (fs.length * 4 + 3) v = ((fs ++ [f]).set fs.length { f with sv := v }).flatMap FrR.cells := (flat_set FrR.cells_len (x := f) (by simp) (by omega) rfl).symm
  rw [h1]
  rw [← flat_set FrR.cells_len (x := { f with sv := v }) (y := { f with pc := pc, sv := v, stk := l }) (by simp) (by omega) rfl]
  simp

/-- What the machine's running frame gives a walk. -/
theorem MachAt.topRow {w : World} {own : Own} {mb : Nat} {g : PgR} {R : McR} {fs : List FrR} {f : FrR} {cb cc : Nat} (h : MachAt w own mb g R) (hf : R.frs = fs ++ [f]) (hv : R.cv = .slice (some ⟨cb, 0, none⟩) (fs.length + 1) cc) :
    w.ownsRow 0 98 4 (.slice (some ⟨cb, 0, none⟩) (fs.length + 1) cc) (fs.length + 1) ((fs ++ [f]).flatMap FrR.cells) := by
  have := h.called.1
  rw [hf, hv] at this
  simpa using this

theorem addr_add (b j : Nat) : (⟨b, 0, none⟩ : Addr).add j = ⟨b, j, none⟩ := by unfold Addr.add; split <;> simp_all

/-- Behind an append: the frame's two cells are stored. -/
theorem goOn_end {own : Own} {mb : Nat} {g : PgR} {R : McR} {fs : List FrR} {f : FrR} {w w1 w5 : World} {cb cc : Nat} {v' sv1 : Value} {n' : Nat} {l : List Val} {pc : Nat} (h : MachAt w own mb g R) (hf : R.frs = fs ++ [f]) (hv : R.cv = .slice (some ⟨cb, 0, none⟩) (fs.length + 1) cc)
    (hocb : own cb = some .called) (hsb : ∀ b, f.sv.ownBlock = some b → b ≠ cb ∧ b ≠ mb ∧ own b = some (.stk fs.length)) (hb1 : sv1.ownBlock = f.sv.ownBlock) (hs1 : w1.heap.size = w.heap.size) (hk1 : ∀ b, b ≠ cb → w1.heap[b]? = w.heap[b]?)
    (he1 : w1.os = w.os ∧ w1.tape = w.tape ∧ w1.output = w.output) (hr1 : w1.ownsRow 0 98 4 (.slice (some ⟨cb, 0, none⟩) (fs.length + 1) cc) (fs.length + 1) (((fs ++ [f]).flatMap FrR.cells).set (fs.length * 4 + 3) sv1))
    (hgrow : w1.grownBy w5 sv1.ownBlock) (hown : w5.ownsRow 0 101 2 v' n' (vflat l)) (hl : l.length = n') (hat : ∀ b, v'.ownBlock = some b → sv1.ownBlock = some b ∨ w1.heap.size ≤ b) (r : Value) :
    TopPost' own mb g R fs f pc l r w (.returned r) ((w5.setCell ⟨cb, fs.length * 4 + 3, none⟩ v').setCell ⟨cb, fs.length * 4 + 1, none⟩ (.int .i64 (pc : Int))) := by
  subst hl
  have hcb : cb < w.heap.size := h.lt cb _ hocb
  have hne1 : sv1.ownBlock ≠ some cb := fun e => (hsb cb (hb1 ▸ e)).1 rfl
  have hon : OldOrNew w own v' (.stk fs.length) := fun b hb => by
    rcases hat b hb with hb' | hb'
    · exact Or.inl (hsb b (hb1 ▸ hb')).2.2
    · exact Or.inr (by omega)
  have hvcb : v'.ownBlock ≠ some cb := fun e => by
    rcases hat cb e with hb' | hb'
    · exact hne1 hb'
    · omega
  have hk5 : ∀ k, k < w.heap.size → own k ≠ some .called → own k ≠ some (.stk fs.length) → w5.heap[k]? = w.heap[k]? := fun k hk h1 h2 => by
    have hkc : k ≠ cb := fun e => h1 (by rw [e]; exact hocb)
    rw [hgrow.block k (by omega) (fun e => h2 (hsb k (by rw [← hb1]; exact e.symm)).2.2), hk1 k hkc]
  have hsz : w.heap.size ≤ w5.heap.size := by have := hgrow.size; omega
  have hr5 : w5.ownsRow 0 98 4 (.slice (some ⟨cb, 0, none⟩) (fs.length + 1) cc) (fs.length + 1) (((fs ++ [f]).flatMap FrR.cells).set (fs.length * 4 + 3) sv1) := hr1.kept hgrow (Or.inr (by simpa [Value.ownBlock] using Ne.symm hne1))
  have hr6 := (World.ownsRow.stored hr5 (fs.length * 4 + 3) v').1
  have hr7 := (World.ownsRow.stored hr6 (fs.length * 4 + 1) (.int .i64 (pc : Int))).1
  rw [← frame_set pc v' sv1 l] at hr7
  refine ⟨_, v', rfl, MachAt.setTop (f' := { f with pc := pc, sv := v', stk := l }) h hf rfl rfl (by simpa using hsz) (fun k hk h1 h2 => ?_) (by rw [hv]; exact hr7) (ownsRow_setCell_other (ownsRow_setCell_other hown hvcb _) hvcb _) hon, ?_⟩
  · have hkc : k ≠ cb := fun e => h1 (by rw [e]; exact hocb)
    rw [heap_setCell_other _ _ _ _ hkc, heap_setCell_other _ _ _ _ hkc]
    exact hk5 k hk h1 h2
  · refine ⟨hgrow.os.trans he1.1, hgrow.tape.trans he1.2.1, hgrow.output.trans he1.2.2, by simpa using hsz, fun k hk hno => ?_, fun k hk => Own.upd_old hon hk⟩
    have hkc : k ≠ cb := fun e => by rw [e, hocb] at hno; cases hno
    rw [heap_setCell_other _ _ _ _ hkc, heap_setCell_other _ _ _ _ hkc]
    exact hk5 k hk (by rw [hno]; simp) (by rw [hno]; simp)

set_option maxHeartbeats 1000000 in
theorem goOn_any {own : Own} {mb : Nat} {g : PgR} {R : McR} {fs : List FrR} {f : FrR} {w : World} (h : MachAt w own mb g R) (hf : R.frs = fs ++ [f]) (k : Nat) (hk : k ≤ f.stk.length) (pv : Value) (ps : List Val) (hp : Pushed w own pv ps)
    (hn : fs.length ≤ 1000) (hs : f.stk.length ≤ 1000) (hpl : ps.length ≤ 100) (hpc : f.pc ≤ 1000) :
    Calls Tryd.prog 154 #[.pointer (some ⟨mb, 3, none⟩), .int .i64 (k : Int), pv] w fun e w' => TopPost' own mb g R fs f (f.pc + 1) (f.stk.take (f.stk.length - k) ++ ps) (.tuple #[]) w e w' := by
  obtain ⟨cb, cc, hv, hocb, hcb, hfz, x0, x1, x2, x3⟩ := h.top hf
  have hc := h.c3
  rw [hv] at hc
  have hrow := h.topRow hf hv
  have hmb : mb < w.heap.size := h.lt mb _ h.me
  have hmc : mb ≠ cb := fun e => by have := h.me; rw [e, hocb] at this; cases this
  have hstk := h.stk fs.length f (by rw [hf]; simp)
  have hsb : ∀ b, f.sv.ownBlock = some b → b ≠ cb ∧ b ≠ mb ∧ own b = some (.stk fs.length) := fun b hb => by
    have hb' := hstk.2 b hb
    exact ⟨fun e => (by rw [e, hocb] at hb'; cases hb'), fun e => (by rw [e, h.me] at hb'; cases hb'), hb'⟩
  obtain ⟨i101, hi, hz, hsz, hby⟩ := info_parts info101
  have hfz3 := hfz (fs.length * 4 + 3)
  have hfz1 := hfz (fs.length * 4 + 1)
  go_enter Tryd.func154, Tryd.ntmps154
  go_wp2_with fail
  refine (drop_any mb cb fs.length cc f.sv f.stk.length k _ w hn hs hk hc x3 hfz3 hstk.1).mono ?_
  rintro e w1 ⟨m1, sv1, rfl, hw1, hb1, hown1⟩
  have hne1 : sv1.ownBlock ≠ some cb := fun e => (hsb cb (hb1 ▸ e)).1 rfl
  have d0 : w1.cell? ⟨mb, 3, none⟩ = some (.slice (some ⟨cb, 0, none⟩) (fs.length + 1) cc) := by rw [hw1]; go_simp
  have d1 : w1.cell? ⟨cb, fs.length * 4 + 1, none⟩ = some (.int .i64 (f.pc : Int)) := by rw [hw1]; go_simp
  have d3 : w1.cell? ⟨cb, fs.length * 4 + 3, none⟩ = some sv1 := by rw [hw1]; go_simp
  have z1 : ∀ j, w1.frozen? ⟨cb, j, none⟩ = false := fun j => by have := hfz j; rw [hw1]; go_simp
  have o1 : w1.ownsRow 0 101 2 sv1 (f.stk.length - k) (vflat (f.stk.take (f.stk.length - k))) := by
    rw [hw1, vflat, flat_take vcells_len]
    exact ownsRow_setCell_other (own_dr hown1 m1) hne1 _
  have r1 : w1.ownsRow 0 98 4 (.slice (some ⟨cb, 0, none⟩) (fs.length + 1) cc) (fs.length + 1) (((fs ++ [f]).flatMap FrR.cells).set (fs.length * 4 + 3) sv1) := by
    rw [hw1]; exact (World.ownsRow.stored (own_dr hrow m1) _ sv1).1
  have s1 : w1.heap.size = w.heap.size := by rw [hw1]; simp
  have k1 : ∀ b, b ≠ cb → w1.heap[b]? = w.heap[b]? := fun b hb => by rw [hw1]; exact heap_setCell_other _ _ _ _ hb
  have e1 : w1.os = w.os ∧ w1.tape = w.tape ∧ w1.output = w.output := by rw [hw1]; exact ⟨rfl, rfl, rfl⟩
  have hp1 : Pushed w1 own pv ps := by
    rcases hp with hp | ⟨h0, pb, c, h1, h2, h3, h4⟩
    · exact Or.inl hp
    · refine Or.inr ⟨h0, pb, c, h1, h2, by omega, fun j u hj => ?_⟩
      rw [World.cell?_of_block (w := w) (a := ⟨pb, j, none⟩) (k1 pb (fun e => by rw [e, hocb] at h2; cases h2))]
      exact h4 j u hj
  have z3 := z1 (fs.length * 4 + 3)
  have z4 := z1 (fs.length * 4 + 1)
  have hlt1 : cb < w1.heap.size := by omega
  have hlt2 : mb < w1.heap.size := by omega
  have H := (show Hid _ from h); clear h
  have HF := (show Hid _ from hf); clear hf
  have HV := (show Hid _ from hv); clear hv
  have HSB := (show Hid _ from hsb); clear hsb
  have HB1 := (show Hid _ from hb1); clear hb1
  have HNE := (show Hid _ from hne1); clear hne1
  have HP := (show Hid _ from hp1); clear hp1 hp
  have HS1 := (show Hid _ from s1); clear s1
  have HK1 := (show Hid _ from k1); clear k1
  have HE1 := (show Hid _ from e1); clear e1
  have HO1 := (show Hid _ from o1); clear o1
  have HR1 := (show Hid _ from r1); clear r1
  have HOCB := (show Hid _ from hocb); clear hocb
  clear hw1 x0 x1 x2 x3 hc hfz3 hfz1 hfz z1 hrow hstk hown1
  rcases HP.out with ⟨rfl, rfl⟩ | ⟨hp0, pb, c, rfl, hpo, hplt, hnews⟩
  · clear HP
    have hform : sv1 = .slice none 0 0 ∨ ∃ gb cap, sv1 = .slice (some ⟨gb, 0, none⟩) (f.stk.length - k) cap := by
      rcases HO1.out.2 with ⟨e, _⟩ | ⟨gb, cap, _, e, _⟩
      · exact Or.inl e
      · exact Or.inr ⟨gb, cap, e⟩
    rcases hform with e | ⟨gb, cap, e⟩
    all_goals
      rw [e] at d3
      go_wp2_with (first | (go_at_call 70; refine (running_any mb cb fs.length cc _ hn d0).mono ?_; rintro e w2 ⟨rfl, m2, rfl⟩) | (at_builtin; go_must (refine wpList_append_own_none rfl (.tmp 16) (.tmp 17) 92 rfl 0 101 i101 2 Tryd.underlying92 hi _ (f.stk.length - k) (vflat (f.stk.take (f.stk.length - k))) rfl (e ▸ own_dr HO1.out _) rfl ?_)))
      go_end0
      have := goOn_end (pc := f.pc + 1) (w5 := w1.drewN m2) (l := f.stk.take (f.stk.length - k)) (v' := sv1) H.out HF.out HV.out HOCB.out HSB.out HB1.out HS1.out HK1.out HE1.out HR1.out ⟨rfl, rfl, rfl, Nat.le_refl _, fun _ _ _ => rfl⟩ (own_dr HO1.out m2) (by simp) (fun b hb => Or.inl hb) (.tuple #[])
      rw [e] at this
      simpa using this
  · have HPO := (show Hid _ from hpo); clear hpo
    have HNEWS := (show Hid _ from hnews); clear hnews
    go_wp2_with (first | (go_at_call 70; refine (running_any mb cb fs.length cc _ hn d0).mono ?_; rintro e w2 ⟨rfl, m2, rfl⟩) | (at_builtin; go_must (refine wpList_append_lies _ rfl (.tmp 16) (.tmp 17) 92 rfl 0 101 i101 _ 2 16 Tryd.underlying92 hi hz hsz hby rfl (by decide) sv1 (f.stk.length - k) (vflat (f.stk.take (f.stk.length - k))) rfl (own_dr HO1.out _) ⟨pb, 0, none⟩ ps.length c (vflat ps) rfl (vflat_len ps) (fun j u hj => by rw [addr_add]; exact HNEWS.out j u hj) (vflat_one ps) hp0 (by unfold maxLen; omega) (by omega) (Nat.zero_le _) _ rfl ?_)))
    intro gb cap w5 hown5 hgrow5 hat5 hlt5
    have q1 : w5.cell? ⟨cb, fs.length * 4 + 1, none⟩ = some (.int .i64 (f.pc : Int)) := hgrow5.cell d1 (Ne.symm HNE.out)
    have q3 : w5.cell? ⟨cb, fs.length * 4 + 3, none⟩ = some sv1 := hgrow5.cell d3 (Ne.symm HNE.out)
    have y1 : w5.frozen? ⟨cb, fs.length * 4 + 1, none⟩ = false := by rw [hgrow5.frozen_far _ hlt1 (Ne.symm HNE.out)]; exact z4
    have y3 : w5.frozen? ⟨cb, fs.length * 4 + 3, none⟩ = false := by rw [hgrow5.frozen_far _ hlt1 (Ne.symm HNE.out)]; exact z3
    have HG5 := (show Hid _ from hgrow5); clear hgrow5
    have HO5 := (show Hid _ from hown5); clear hown5
    have HA5 := (show Hid _ from hat5); clear hat5
    go_wp2_with fail
    go_end0
    have := goOn_end (pc := f.pc + 1) (w5 := w5) (l := f.stk.take (f.stk.length - k) ++ ps) H.out HF.out HV.out HOCB.out HSB.out HB1.out HS1.out HK1.out HE1.out HR1.out ⟨HG5.out.os, HG5.out.tape, HG5.out.output, HG5.out.size, HG5.out.block⟩ (by rw [vflat_append]; exact HO5.out) (by simp) (fun b hb => by
      obtain rfl : gb = b := by simpa [Value.ownBlock] using hb
      rcases HA5.out with e | e
      · exact Or.inl e
      · exact Or.inr (by rw [e]; exact Nat.le_refl _)) (.tuple #[])
    simpa using this

end Go.Proofs.YtiejbnfjdobpcaaDoor
namespace Go.Proofs.YtiejbnfjdobpcaaDoor
open Go.RowKit

theorem hid {p : Prop} (h : p) : Hid p := h

set_option maxHeartbeats 400000 in
theorem number_any (n : Int) (w : World) : Calls Tryd.prog 138 #[.int .i64 n] w fun e w' => e = .returned (.agg #[.int .u8 1, .int .i64 n]) ∧ ∃ o, w' = w.alloc o := by
  go_enter Tryd.func138, Tryd.ntmps138
  go_wp2
  exact bodyPost_ret (v := .agg #[.int .u8 1, .int .i64 n]) (by simp [results, Tryd.results138, go_sem]) rfl ⟨rfl, _, rfl⟩

set_option maxHeartbeats 400000 in
theorem isInt_any (k n : Int) (w : World) : Calls Tryd.prog 150 #[.agg #[.int .u8 k, .int .i64 n]] w fun e w' => e = .returned (.bool (k == 1)) ∧ ∃ o, w' = w.alloc o := by
  go_enter Tryd.func150, Tryd.ntmps150
  go_wp2
  go_ret
  exact ⟨rfl, _, rfl⟩

set_option maxHeartbeats 400000 in
theorem isRef_any (k n : Int) (w : World) : Calls Tryd.prog 146 #[.agg #[.int .u8 k, .int .i64 n]] w fun e w' => e = .returned (.bool (k == 2)) ∧ ∃ o, w' = w.alloc o := by
  go_enter Tryd.func146, Tryd.ntmps146
  go_wp2
  go_ret
  exact ⟨rfl, _, rfl⟩

def truthI (b : Bool) : Int := if b then 1 else 0

set_option maxHeartbeats 400000 in
theorem truth_any (b : Bool) (w : World) : Calls Tryd.prog 144 #[.bool b] w fun e w' => e = .returned (.agg #[.int .u8 1, .int .i64 (truthI b)]) ∧ ∃ o o', w' = (w.alloc o).alloc o' := by
  cases b
  all_goals
    go_enter Tryd.func144, Tryd.ntmps144
    go_wp2_with (go_at_call 138; refine (number_any _ _).mono ?_; rintro e w' ⟨rfl, o, rfl⟩)
    exact bodyPost_ret (v := .agg #[.int .u8 1, .int .i64 (truthI _)]) (by simp [results, Tryd.results144, go_sem, truthI]) rfl ⟨rfl, _, _, rfl⟩

set_option maxHeartbeats 1000000 in
theorem answer_any {own : Own} {mb : Nat} {g : PgR} {R : McR} {fs : List FrR} {f : FrR} {w : World} (h : MachAt w own mb g R) (hf : R.frs = fs ++ [f]) (va : Option Addr) (k vc : Nat) (hk : k ≤ f.stk.length) (pv : Value) (ps : List Val) (hp : Pushed w own pv ps)
    (hn : fs.length ≤ 1000) (hs : f.stk.length ≤ 1000) (hpl : ps.length ≤ 100) (hpc : f.pc ≤ 1000) :
    Calls Tryd.prog 137 #[.pointer (some ⟨mb, 0, none⟩), .slice va k vc, pv] w fun e w' => TopPost' own mb g R fs f (f.pc + 1) (f.stk.take (f.stk.length - k) ++ ps) (.int .i64 0) w e w' := by
  have HG := hid (goOn_any h hf k hk pv ps hp hn hs hpl hpc)
  clear h hf hp
  go_enter Tryd.func137, Tryd.ntmps137
  go_wp2_with (go_at_call 154; refine HG.out.mono ?_; rintro e w' ⟨own', sv', rfl, hm, ht⟩)
  go_ret
  exact ⟨own', sv', rfl, hm, ht⟩

end Go.Proofs.YtiejbnfjdobpcaaDoor
namespace Go.Proofs.YtiejbnfjdobpcaaDoor
open Go.RowKit

/-- An operation is about to be done: the values that it pops are on the stack still. -/
structure AtOp (w : World) (own : Own) (mb : Nat) (g : PgR) (R : McR) (fs : List FrR) (f : FrR) (rest args : List Val) (va : Option Addr) (sb : Nat) : Prop where
  m : MachAt w own mb g R
  hf : R.frs = fs ++ [f]
  hst : f.stk = rest ++ args
  hva : 0 < args.length → va = some ⟨sb, rest.length * 2, none⟩ ∧ own sb = some (.stk fs.length) ∧ ∀ j x, args[j]? = some x → w.cell? ⟨sb, rest.length * 2 + j * 2, none⟩ = some (.int .u8 x.1) ∧ w.cell? ⟨sb, rest.length * 2 + j * 2 + 1, none⟩ = some (.int .i64 x.2)
  hn : fs.length ≤ 1000
  hs : f.stk.length ≤ 1000
  hpc : f.pc ≤ 1000

/-- The machine is as it was, where only what is not its own has changed. -/
theorem MachAt.same {w w' : World} {own : Own} {mb : Nat} {g : PgR} {R : McR} (h : MachAt w own mb g R) (hs : w.heap.size ≤ w'.heap.size) (hb : ∀ k, k < w.heap.size → w'.heap[k]? = w.heap[k]?) : MachAt w' own mb g R := by
  have hmb := hb mb (h.lt mb _ h.me)
  have keep : ∀ t k, own k = some t → w'.heap[k]? = w.heap[k]? ∧ own k = some t := fun t k hk => ⟨hb k (h.lt k t hk), hk⟩
  refine ⟨fun k t hk => Nat.lt_of_lt_of_le (h.lt k t hk) hs, h.me, ?_, ?_, ?_, ?_, ?_, ?_, h.out.kept (keep _), h.called.kept (keep _), h.slots.kept (keep _), fun i f hf => (h.loc i f hf).kept (keep _), fun i f hf => (h.stk i f hf).kept (keep _),
    fun j o ho => (h.fld j o ho).kept (keep _), h.pg.held hs fun k hk => hb k (h.pg.blk_lt hk), h.ro, h.tab.held hs (hb 0 h.tab.1), h.ro0, ?_, h.draws.kept (keep _)⟩
  · rw [World.cell?_of_block (w := w) (a := ⟨mb, 0, none⟩) hmb]; exact h.c0
  · rw [World.cell?_of_block (w := w) (a := ⟨mb, 1, none⟩) hmb]; exact h.c1
  · rw [World.cell?_of_block (w := w) (a := ⟨mb, 2, none⟩) hmb]; exact h.c2
  · rw [World.cell?_of_block (w := w) (a := ⟨mb, 3, none⟩) hmb]; exact h.c3
  · rw [World.cell?_of_block (w := w) (a := ⟨mb, 4, none⟩) hmb]; exact h.c4
  · intro j; rw [World.frozen?_of_block (w := w) (a := ⟨mb, j, none⟩) hmb]; exact h.fz j
  · rw [World.cell?_of_block (w := w) (a := ⟨mb, 5, none⟩) hmb]; exact h.c5

theorem MachAt.new {w : World} {own : Own} {mb : Nat} {g : PgR} {R : McR} (h : MachAt w own mb g R) {k : Nat} (hk : w.heap.size ≤ k) : own k = none := by
  cases e : own k with
  | none => rfl
  | some t => have := h.lt k t e; omega

theorem Touched.of_below {own : Own} {w W : World} (h : Below w.heap.size w W) : Touched own w own W := ⟨h.os, h.tape, h.output, h.size, fun k hk _ => h.block k hk, fun _ _ => rfl⟩

theorem AtOp.answer {w W : World} {own : Own} {mb : Nat} {g : PgR} {R : McR} {fs : List FrR} {f : FrR} {rest args : List Val} {va : Option Addr} {sb : Nat} (h : AtOp w own mb g R fs f rest args va sb) (hB : Below w.heap.size w W) (vc : Nat) (pv : Value) (ps : List Val) (hp : Pushed W own pv ps) (hpl : ps.length ≤ 100) (k : Nat) (hk : args.length = k) :
    Calls Tryd.prog 137 #[.pointer (some ⟨mb, 0, none⟩), .slice va k vc, pv] W fun e w' => TopPost' own mb g R fs f (f.pc + 1) (rest ++ ps) (.int .i64 0) w e w' := by
  subst hk
  have hm := h.m.same hB.size fun k hk => hB.block k hk
  have hl : args.length ≤ f.stk.length := by rw [h.hst]; simp
  refine (answer_any hm h.hf va args.length vc hl pv ps hp h.hn h.hs hpl h.hpc).mono ?_
  rintro e w' ⟨own', sv', rfl, hm', ht⟩
  have he : f.stk.take (f.stk.length - args.length) = rest := by rw [h.hst]; simp
  rw [he] at hm'
  exact ⟨own', sv', rfl, hm', (Touched.of_below hB).trans ht⟩

theorem blk_new {w : World} {o : Obj} {n : Nat} (h : w.heap.size = n) : (w.alloc o).heap[n]? = some o := by subst h; exact Go.Deep.blk_alloc_new w o
theorem blk_new1 {w : World} {o : Obj} {n : Nat} (h : w.heap.size = n) : (w.alloc o).drew.heap[n]? = some o := blk_new h
theorem blk_newN {w : World} {o : Obj} {n q : Nat} (h : w.heap.size = n) : ((w.alloc o).drewN q).heap[n]? = some o := blk_new h
theorem Below.drewQ {B : Nat} {w w' : World} (h : Below B w w') (q : Nat) : Below B w (w'.drewN q) := ⟨h.os, h.tape, h.output, h.size, h.block⟩
theorem pushed_nil (W : World) (own : Own) : Pushed W own (.slice none 0 0) [] := Or.inl ⟨rfl, rfl⟩
theorem pushed_one {w W : World} {own : Own} {mb : Nat} {g : PgR} {R : McR} (h : MachAt w own mb g R) {pb : Nat} {a b : Int} {c : Nat} (hp : w.heap.size ≤ pb) (hW : W.heap[pb]? = some (.cells #[.int .u8 a, .int .i64 b] 101)) : Pushed W own (.slice (some ⟨pb, 0, none⟩) 1 c) [(a, b)] := by
  refine Or.inr ⟨by simp, pb, c, rfl, h.new hp, (Array.getElem?_eq_some_iff.1 hW).1, fun j u hj => ?_⟩
  have := World.news_of_block hW j u
  rw [addr_add] at this
  exact this (by simpa [vflat, vcells] using hj)
theorem pushed_two {w W : World} {own : Own} {mb : Nat} {g : PgR} {R : McR} (h : MachAt w own mb g R) {pb : Nat} {a b a' b' : Int} {c : Nat} (hp : w.heap.size ≤ pb) (hW : W.heap[pb]? = some (.cells #[.int .u8 a, .int .i64 b, .int .u8 a', .int .i64 b'] 101)) : Pushed W own (.slice (some ⟨pb, 0, none⟩) 2 c) [(a, b), (a', b')] := by
  refine Or.inr ⟨by simp, pb, c, rfl, h.new hp, (Array.getElem?_eq_some_iff.1 hW).1, fun j u hj => ?_⟩
  have := World.news_of_block hW j u
  rw [addr_add] at this
  exact this (by simpa [vflat, vcells] using hj)

theorem AtOp.one {w : World} {own : Own} {mb : Nat} {g : PgR} {R : McR} {fs : List FrR} {f : FrR} {rest : List Val} {x : Val} {va : Option Addr} {sb : Nat} (h : AtOp w own mb g R fs f rest [x] va sb) :
    ∃ o, va = some ⟨sb, o, none⟩ ∧ sb < w.heap.size ∧ w.cell? ⟨sb, o, none⟩ = some (.int .u8 x.1) ∧ w.cell? ⟨sb, o + 1, none⟩ = some (.int .i64 x.2) := by
  obtain ⟨h1, h2, h3⟩ := h.hva (by simp)
  obtain ⟨h4, h5⟩ := h3 0 x rfl
  exact ⟨_, h1, h.m.lt sb _ h2, by simpa using h4, by simpa using h5⟩
theorem AtOp.two {w : World} {own : Own} {mb : Nat} {g : PgR} {R : McR} {fs : List FrR} {f : FrR} {rest : List Val} {x y : Val} {va : Option Addr} {sb : Nat} (h : AtOp w own mb g R fs f rest [x, y] va sb) :
    ∃ o, va = some ⟨sb, o, none⟩ ∧ sb < w.heap.size ∧ w.cell? ⟨sb, o, none⟩ = some (.int .u8 x.1) ∧ w.cell? ⟨sb, o + 1, none⟩ = some (.int .i64 x.2) ∧ w.cell? ⟨sb, o + 2, none⟩ = some (.int .u8 y.1) ∧ w.cell? ⟨sb, o + 3, none⟩ = some (.int .i64 y.2) := by
  obtain ⟨h1, h2, h3⟩ := h.hva (by simp)
  obtain ⟨h4, h5⟩ := h3 0 x rfl
  obtain ⟨h6, h7⟩ := h3 1 y rfl
  exact ⟨_, h1, h.m.lt sb _ h2, by simpa using h4, by simpa using h5, by simpa using h6, by simpa using h7⟩

set_option maxHeartbeats 1000000 in
theorem doInt_any {own : Own} {mb : Nat} {g : PgR} {R : McR} {fs : List FrR} {f : FrR} {rest : List Val} {va : Option Addr} {sb : Nat} {w : World} (h : AtOp w own mb g R fs f rest [] va sb) (a : Int) (vc : Nat) :
    Calls Tryd.prog 103 #[.pointer (some ⟨mb, 0, none⟩), .int .i64 a, .slice va 0 vc] w fun e w' => TopPost' own mb g R fs f (f.pc + 1) (rest ++ [(1, a)]) (.int .i64 0) w e w' := by
  have HH := hid h
  clear h
  go_enter Tryd.func103, Tryd.ntmps103
  go_wp2_with (go_at_call 138; refine (number_any _ _).mono ?_; rintro e w' ⟨rfl, o, rfl⟩)
  refine (HH.out.answer (by repeat (first | exact Below.refl _ _ | refine Below.drew ?_ | refine Below.alloc ?_ (by first | (simp; done) | (simp; omega)) _)) vc _ [(1, a)] (pushed_one HH.out.m (by omega) (blk_new (by simp))) (by simp) 0 rfl).mono ?_
  rintro e w' ⟨own', sv', rfl, hm, ht⟩
  go_wp2_with fail
  go_ret
  exact ⟨own', sv', rfl, hm, ht⟩

end Go.Proofs.YtiejbnfjdobpcaaDoor
