import Derived.Test.YtbkmgoffiigdbaaDoorNN
import Derived.Deep.RegionLaw
namespace Go.Proofs.YtbkmgoffiigdbaaDoor
open Go.RowKit Go.Sort

theorem oldOrNew_upd {w : World} {own : Own} {v v' : Value} {t t' : Tag} (h : OldOrNew w own v t) (hn : ∀ b, v'.ownBlock = some b → w.heap.size ≤ b) : OldOrNew w (own.upd v'.ownBlock t') v t := fun b hb => by
  rcases h b hb with h1 | h1
  · rcases Nat.lt_or_ge b w.heap.size with hl | hl
    · refine Or.inl ?_
      unfold Own.upd; rw [if_neg (fun e => by have := hn b e; omega)]; exact h1
    · exact Or.inr hl
  · exact Or.inr h1

/-- A frame more. -/
theorem MachAt.addFrame {w w' : World} {own : Own} {mb : Nat} {g : PgR} {R : McR} {fr : FrR} {cv : Value} (h : MachAt w own mb g R) (hsize : w.heap.size ≤ w'.heap.size)
    (hk : ∀ k, k < w.heap.size → k ≠ mb → own k ≠ some .called → w'.heap[k]? = w.heap[k]?)
    (hc : ∀ j, j ≠ 3 → w'.cell? ⟨mb, j, none⟩ = w.cell? ⟨mb, j, none⟩) (hc3 : w'.cell? ⟨mb, 3, none⟩ = some cv) (hfz : ∀ j, w'.frozen? ⟨mb, j, none⟩ = false)
    (hrow : w'.ownsRow 0 103 4 cv (R.frs.length + 1) ((R.frs ++ [fr]).flatMap FrR.cells)) (hon : OldOrNew w own cv .called)
    (hloc : w'.ownsRow 0 106 2 fr.lv fr.loc.length (vflat fr.loc)) (hlnew : ∀ b, fr.lv.ownBlock = some b → w.heap.size ≤ b) (hne : ∀ b, fr.lv.ownBlock = some b → cv.ownBlock ≠ some b) (hs : fr.sv = .slice none 0 0 ∧ fr.stk = []) :
    MachAt w' ((own.upd fr.lv.ownBlock (.loc R.frs.length)).upd cv.ownBlock .called) mb g { R with cv := cv, frs := R.frs ++ [fr] } := by
  have hlt := h.lt
  have hon2 : OldOrNew w (own.upd fr.lv.ownBlock (.loc R.frs.length)) cv .called := oldOrNew_upd hon hlnew
  have hon1 : OldOrNew w own fr.lv (.loc R.frs.length) := fun b hb => Or.inr (hlnew b hb)
  have hold : ∀ k, k < w.heap.size → ((own.upd fr.lv.ownBlock (.loc R.frs.length)).upd cv.ownBlock .called) k = own k := fun k hk' => by
    rw [Own.upd_old hon2 hk', Own.upd_old hon1 hk']
  have keep : ∀ t, t ≠ .mach → t ≠ .called → ∀ k, own k = some t → w'.heap[k]? = w.heap[k]? ∧ ((own.upd fr.lv.ownBlock (.loc R.frs.length)).upd cv.ownBlock .called) k = some t := fun t h1 h2 k hk' =>
    ⟨hk k (hlt k t hk') (fun e => by rw [e, h.me] at hk'; exact h1 (Option.some.inj hk').symm) (by rw [hk']; exact fun e => h2 (Option.some.inj e)), by rw [hold k (hlt k t hk')]; exact hk'⟩
  have hro : ∀ k, k < w.heap.size → own k = none → w'.heap[k]? = w.heap[k]? := fun k hk1 hk2 => hk k hk1 (fun e => by rw [e, h.me] at hk2; cases hk2) (by rw [hk2]; simp)
  have frz : ∀ i x, (R.frs ++ [fr])[i]? = some x → (i = R.frs.length ∧ x = fr) ∨ R.frs[i]? = some x := fun i x hx => by
    rcases Nat.lt_or_ge i R.frs.length with hl | hl
    · rw [List.getElem?_append_left hl] at hx; exact Or.inr hx
    · rw [List.getElem?_append_right hl] at hx
      have : i - R.frs.length = 0 := by
        have := (List.getElem?_eq_some_iff.1 hx).1; simp at this; omega
      rw [this] at hx
      exact Or.inl ⟨by omega, by simpa using hx.symm⟩
  refine ⟨fun k t hk' => ?_, ?_, ?_, ?_, ?_, hc3, ?_, hfz, h.out.kept (keep _ (by simp) (by simp)), ⟨by simpa using hrow, fun b hb => by simp [Own.upd, hb]⟩, h.slots.kept (keep _ (by simp) (by simp)),
    fun i x hx => ?_, fun i x hx => ?_, fun j o ho => (h.fld j o ho).kept (keep _ (by simp) (by simp)), ?_, ?_, ?_, ?_, ?_, h.draws.kept (keep _ (by simp) (by simp))⟩
  · unfold Own.upd at hk'
    split at hk'
    · rename_i e; exact (hrow.lt k e).2
    · split at hk'
      · rename_i e; exact (hloc.lt k e).2
      · exact Nat.lt_of_lt_of_le (hlt k t hk') hsize
  · rw [hold mb (hlt mb _ h.me)]; exact h.me
  · rw [hc 0 (by omega)]; exact h.c0
  · rw [hc 1 (by omega)]; exact h.c1
  · rw [hc 2 (by omega)]; exact h.c2
  · rw [hc 4 (by omega)]; exact h.c4
  · rcases frz i x hx with ⟨rfl, rfl⟩ | hx
    · refine ⟨hloc, fun b hb => ?_⟩
      unfold Own.upd
      rw [if_neg (hne b hb), if_pos hb]
    · exact (h.loc i x hx).kept (keep _ (by simp) (by simp))
  · rcases frz i x hx with ⟨rfl, rfl⟩ | hx
    · rw [hs.1, hs.2]
      exact ⟨World.ownsRow_nil _ _ _ _, fun b hb => by cases hb⟩
    · exact (h.stk i x hx).kept (keep _ (by simp) (by simp))
  · exact h.pg.held hsize fun k hb => hro k (h.pg.blk_lt hb) (h.ro k hb)
  · intro k hb; rw [hold k (h.pg.blk_lt hb)]; exact h.ro k hb
  · exact h.tab.held hsize (hro 0 h.tab.1 h.ro0)
  · rw [hold 0 h.tab.1]; exact h.ro0
  · rw [hc 5 (by omega)]; exact h.c5

def AddPost (own : Own) (mb : Nat) (g : PgR) (R : McR) (fn : Nat) (loc : List Val) (w : World) (e : Ending) (w' : World) : Prop :=
  ∃ own' cv lv, e = .returned (.tuple #[]) ∧ MachAt w' own' mb g { R with cv := cv, frs := R.frs ++ [⟨fn, 0, lv, .slice none 0 0, loc, []⟩] } ∧ Touched own w own' w'

theorem info98 : (Tryd.prog.info? 103).map (fun i => (i.zero, i.size, i.bytes)) = some (some (.agg #[.int .i64 0, .int .i64 0, .slice none 0 0, .slice none 0 0]), 4, 64) := by kernel_rfl

theorem made2 (a b : Value) (n : Nat) : (madeCells #[a, b] (n * 2)).toList = (List.replicate n [a, b]).flatten := by
  induction n with
  | zero => simp [madeCells]
  | succ n ih =>
    have e : madeCells #[a, b] ((n + 1) * 2) = madeCells #[a, b] (n * 2) ++ #[a, b] := by
      apply Array.ext_getElem?
      intro j
      by_cases h1 : j < n * 2
      · rw [Array.getElem?_append_left (by rw [size_madeCells]; exact h1)]
        simp only [madeCells, Array.getElem?_map, Array.getElem?_range]
        rw [if_pos (by omega), if_pos h1]
      · rw [Array.getElem?_append_right (by rw [size_madeCells]; omega), size_madeCells]
        by_cases h2 : j < (n + 1) * 2
        · have : j = n * 2 ∨ j = n * 2 + 1 := by omega
          rcases this with rfl | rfl
          · simp only [madeCells, Array.getElem?_map, Array.getElem?_range]
            rw [if_pos h2]
            simp
          · simp only [madeCells, Array.getElem?_map, Array.getElem?_range]
            rw [if_pos h2]
            simp [Nat.add_mod]
        · rw [Array.getElem?_eq_none (by rw [size_madeCells]; omega), Array.getElem?_eq_none (by simp; omega)]
    rw [e, Array.toList_append, ih, List.replicate_succ', List.flatten_append]
    simp

theorem made_flat (n : Nat) : (madeCells #[.int .u8 0, .int .i64 0] (n * 2)).toList = vflat (List.replicate n (0, 0)) := by
  rw [made2]; induction n with
  | zero => rfl
  | succ n ih => rw [List.replicate_succ, List.replicate_succ, List.flatten_cons, ih]; rfl

end Go.Proofs.YtbkmgoffiigdbaaDoor
