import Derived.Test.YtbkmgoffiigdbaaDoorNO
namespace Go.Proofs.YtbkmgoffiigdbaaDoor
open Go.RowKit Go.Sort

theorem enter_end {own : Own} {mb : Nat} {g : PgR} {R : McR} {w W w5 : World} {fr : FrR} {gb cap lb lc : Nat} (h : MachAt w own mb g R) (hB : Below w.heap.size w W) (hgrow : W.grownBy w5 R.cv.ownBlock)
    (hown : w5.ownsRow 0 103 4 (.slice (some ⟨gb, 0, none⟩) (R.frs.length + 1) cap) (R.frs.length + 1) (R.frs.flatMap FrR.cells ++ fr.cells)) (hat : R.cv.ownBlock = some gb ∨ gb = W.heap.size)
    (hlv : fr.lv = .slice (some ⟨lb, 0, none⟩) fr.loc.length lc) (hlb : w.heap.size ≤ lb) (hlW : lb < W.heap.size) (hlr : W.ownsRow 0 106 2 fr.lv fr.loc.length (vflat fr.loc)) (hs : fr.sv = .slice none 0 0 ∧ fr.stk = []) :
    w5.frozen? ⟨mb, 3, none⟩ = false ∧ w5.cell? ⟨mb, 3, none⟩ = some R.cv ∧ mb < w5.heap.size ∧ ∃ own', MachAt (w5.setCell ⟨mb, 3, none⟩ (.slice (some ⟨gb, 0, none⟩) (R.frs.length + 1) cap)) own' mb g { R with cv := .slice (some ⟨gb, 0, none⟩) (R.frs.length + 1) cap, frs := R.frs ++ [fr] } ∧
      Touched own w own' (w5.setCell ⟨mb, 3, none⟩ (.slice (some ⟨gb, 0, none⟩) (R.frs.length + 1) cap)) := by
  have hmb : mb < w.heap.size := h.lt mb _ h.me
  have hob : ∀ b, R.cv.ownBlock = some b → own b = some .called := h.called.2
  have hnm : R.cv.ownBlock ≠ some mb := fun e => by have := hob mb e; rw [h.me] at this; cases this
  have hgm : gb ≠ mb := fun e => by
    rcases hat with h1 | h1
    · exact hnm (e ▸ h1)
    · have := hB.size; omega
  have hsz : w.heap.size ≤ w5.heap.size := Nat.le_trans hB.size hgrow.size
  have hon : OldOrNew w own (.slice (some ⟨gb, 0, none⟩) (R.frs.length + 1) cap) .called := fun b hb => by
    obtain rfl : gb = b := by simpa [Value.ownBlock] using hb
    rcases hat with h1 | h1
    · exact Or.inl (hob gb h1)
    · exact Or.inr (by have := hB.size; omega)
  have hlg : lb ≠ gb := fun e => by
    rcases hat with h1 | h1
    · have := h.lt gb _ (hob gb h1); omega
    · omega
  have hblk : ∀ k, k < w.heap.size → own k ≠ some .called → w5.heap[k]? = w.heap[k]? := fun k hk ho => by
    rw [hgrow.block k (Nat.lt_of_lt_of_le hk hB.size) (fun e => ho (hob k e.symm)), hB.block k hk]
  have hmblk := hblk mb hmb (by rw [h.me]; simp)
  have hfz : ∀ j, w5.frozen? ⟨mb, j, none⟩ = false := fun j => by rw [World.frozen?_of_block (w := w) (a := ⟨mb, j, none⟩) hmblk]; exact h.fz j
  have hc3 : w5.cell? ⟨mb, 3, none⟩ = some R.cv := by rw [World.cell?_of_block (w := w) (a := ⟨mb, 3, none⟩) hmblk]; exact h.c3
  have hlr5 : w5.ownsRow 0 106 2 fr.lv fr.loc.length (vflat fr.loc) := ownsRow_of_block hlr fun b hb => by
    rw [hlv] at hb
    obtain rfl : lb = b := by simpa [Value.ownBlock] using hb
    refine hgrow.block lb hlW (fun e => ?_)
    have := h.lt lb _ (hob lb e.symm); omega
  refine ⟨hfz 3, hc3, by omega, _, MachAt.addFrame (cv := .slice (some ⟨gb, 0, none⟩) (R.frs.length + 1) cap) (fr := fr) h (by simpa using hsz) (fun k hk h1 h2 => ?_) (fun j hj => ?_) ?_ (fun j => ?_) ?_ hon ?_ (fun b hb => ?_) (fun b hb => ?_) hs, ?_⟩
  · rw [heap_setCell_other _ _ _ _ h1]; exact hblk k hk h2
  · rw [← World.cell?_of_block (w := w) (w' := w5) (a := ⟨mb, j, none⟩) hmblk]
    go_simp
  · go_simp
  · have := hfz j
    go_simp
  · have := ownsRow_setCell_other hown (a := ⟨mb, 3, none⟩) (by simpa [Value.ownBlock] using hgm) (.slice (some ⟨gb, 0, none⟩) (R.frs.length + 1) cap)
    simpa using this
  · exact ownsRow_setCell_other hlr5 (by rw [hlv]; simp only [Value.ownBlock, ne_eq, Option.some.injEq]; omega) _
  · rw [hlv] at hb
    obtain rfl : lb = b := by simpa [Value.ownBlock] using hb
    exact hlb
  · rw [hlv] at hb
    obtain rfl : lb = b := by simpa [Value.ownBlock] using hb
    simp only [Value.ownBlock, ne_eq, Option.some.injEq]; omega
  · refine ⟨hgrow.os.trans hB.os, hgrow.tape.trans hB.tape, hgrow.output.trans hB.output, by simpa using hsz, fun k hk hno => ?_, fun k hk => ?_⟩
    · rw [heap_setCell_other _ _ _ _ (fun e => by rw [e, h.me] at hno; cases hno)]
      exact hblk k hk (by rw [hno]; simp)
    · have hln : ∀ b, fr.lv.ownBlock = some b → w.heap.size ≤ b := fun b hb => by
        rw [hlv] at hb
        obtain rfl : lb = b := by simpa [Value.ownBlock] using hb
        exact hlb
      rw [Own.upd_old (oldOrNew_upd hon hln) hk, Own.upd_old (fun b hb => Or.inr (hln b hb)) hk]

set_option maxRecDepth 100000 in
set_option maxHeartbeats 2000000 in
theorem enter_nil {own : Own} {mb : Nat} {g : PgR} {R : McR} {w : World} (h : MachAt w own mb g R) (fn l : Nat) (p : Int) (ca : Option Addr) (cn cc : Nat) (hl : l ≤ 8) (hn : R.frs.length ≤ 1000) :
    Calls Tryd.prog 74 #[.pointer (some ⟨mb, 3, none⟩), .int .i64 (fn : Int), .agg #[.int .i64 p, .int .i64 (l : Int), .slice ca cn cc], .slice none 0 0] w fun e w' => AddPost own mb g R fn (List.replicate l (0, 0)) w e w' := by
  have c3 := h.c3
  have hfz := h.fz 3
  have hmb : mb < w.heap.size := h.lt mb _ h.me
  obtain ⟨i101, hi, hz, hsz, hby⟩ := info_parts info101
  have HMK : Hid (∀ W : World, (Instr.makeSlice 97 (.int .i64 (l : Int)) (.int .i64 (l : Int))).run Tryd.prog W = .ok (.slice (some ⟨W.heap.size, 0, none⟩) l l) (W.alloc (.cells (madeCells #[.int .u8 0, .int .i64 0] (l * 2)) 106))) := by
    intro W
    have hr := run_make (P := Tryd.prog) W 97 106 i101 _ Tryd.underlying97 hi hz .i64 .i64 l l (by omega) (Int.le_refl _) (by rw [hby]; omega) (by omega)
    simpa [hsz, Value.cells] using hr
  have hmk := HMK.out
  have hcp : ∀ (W : World) (b : Nat), (Builtin.copy_ #[97, 97] 3 #[.slice (some ⟨b, 0, none⟩) l l, .slice none 0 0]).run Tryd.prog W = .ok (goInt 0) W := fun W b => run_copy_nil (P := Tryd.prog) W 97 97 3 106 ⟨b, 0, none⟩ l l Tryd.underlying97 (by rw [hi]; rfl)
  have HH := hid h
  clear h hi hz hsz hby HMK
  go_enter Tryd.func74, Tryd.ntmps74
  obtain ⟨i98, ji, jz, jsz, jby⟩ := info_parts info98
  have JI := hid ji
  have JZ := hid jz
  have JSZ := hid jsz
  have JBY := hid jby
  have HO := hid HH.out.called.1
  clear ji jz jsz jby
  go_wp2_with (at_builtin; go_must (refine wpList_append_lies _ rfl (.tmp 19) (.tmp 23) 49 rfl 0 103 i98 _ 4 64 Tryd.underlying49 JI.out JZ.out JSZ.out JBY.out rfl (by decide) R.cv R.frs.length (R.frs.flatMap FrR.cells) rfl (((HO.out.alloc _).alloc _).alloc _) ⟨w.heap.size + 1 + 1, 0, none⟩ 1 1 (FrR.cells ⟨fn, 0, .slice (some ⟨w.heap.size + 1, 0, none⟩) l l, .slice none 0 0, List.replicate l (0, 0), []⟩) rfl rfl (World.news_of_block (cs := #[.int .i64 (fn : Int), .int .i64 0, .slice (some ⟨w.heap.size + 1, 0, none⟩) l l, .slice none 0 0]) (t := 103) (fr := (0, 0)) (blk_new (by simp))) (by intro u hu; simp only [FrR.cells, List.mem_cons, List.not_mem_nil, or_false] at hu; rcases hu with rfl | rfl | rfl | rfl <;> rfl) (by omega) (by unfold maxLen; omega) (by omega) (Nat.zero_le _) _ rfl ?_))
  intro gb cap w5 hown hgrow hat hlt
  obtain ⟨y0, y1, y2, own', hM, hT⟩ := enter_end (lb := w.heap.size + 1) (lc := l) HH.out (by repeat (first | exact Below.refl _ _ | refine Below.alloc ?_ (by first | (simp; done) | (simp; omega)) _)) hgrow hown (hat.imp id fun e => e.trans (by simp)) (by simp) (by omega) (by simp) (by
    refine World.ownsRow.alloc ?_ _
    have := World.ownsRow_lit (base := 0) (e := 106) (size := 2) (w.alloc (Obj.cells #[.int .i64 p, .int .i64 (l : Int), .slice ca cn cc] 35)) (madeCells #[.int .u8 0, .int .i64 0] (l * 2)) l (Nat.zero_le _) (by unfold maxLen; omega) (by rw [size_madeCells])
    rw [made_flat] at this
    simpa using this) ⟨rfl, rfl⟩
  have HM := hid hM
  have HT := hid hT
  clear hM hT hown hgrow hat hlt hmk hcp
  go_wp2_with fail
  go_end0
  exact ⟨own', _, _, rfl, HM.out, HT.out⟩

end Go.Proofs.YtbkmgoffiigdbaaDoor
