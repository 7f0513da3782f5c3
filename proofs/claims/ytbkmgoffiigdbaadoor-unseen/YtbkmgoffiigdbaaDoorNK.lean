import Derived.Test.YtbkmgoffiigdbaaDoorNJ
import Derived.Deep.RegionHeld3
namespace Go.Proofs.YtbkmgoffiigdbaaDoor
open Go.RowKit Go.Sort

theorem cell_other {w : World} {a p : Addr} {v u : Value} (h : w.cell? a = some v) (hn : a.block ≠ p.block) : (w.setCell p u).cell? a = some v := by
  rw [World.cell?_of_block (w := w) (heap_setCell_other _ _ _ _ hn)]; exact h
theorem cell_off {w : World} {b : Nat} {v u : Value} (h : w.cell? ⟨b, 0, none⟩ = some v) : (w.setCell ⟨b, 1, none⟩ u).cell? ⟨b, 0, none⟩ = some v := by go_simp

set_option maxRecDepth 100000 in
set_option maxHeartbeats 4000000 in
theorem step_any {own : Own} {mb : Nat} {g : PgR} {R : McR} {fs : List FrR} {f : FrR} {w : World} (h : MachAt w own mb g R) (hf : R.frs = fs ++ [f]) (k : Nat) (a : Int) (rest args : List Val) (hst : f.stk = rest ++ args) (hx : Next g f k a args.length) (hn : fs.length ≤ 1000) (hs : f.stk.length ≤ 1000) (hpc : f.pc ≤ 1000) (hgn : g.n ≤ 1000) (hcn : (g.f f.fn).n ≤ 1000)
    (P : McR → Prop) (st : Int) (HD : Hid (∀ W va vc sb, Below w.heap.size w W → AtOp W own mb g R fs f rest args va sb → Calls Tryd.prog (doT k) #[.pointer (some ⟨mb, 0, none⟩), .int .i64 a, .slice va args.length vc] W fun e w' => DoPost own mb g P st W e w')) :
    Calls Tryd.prog 59 #[.pointer (some ⟨mb, 0, none⟩)] w fun e w' => StepPost own mb g (fun R' => ∃ Q, P Q ∧ R' = { Q with st := st }) w e w' := by
  obtain ⟨cb, cc, hv, hocb, hcb, hfz, x0, x1, x2, x3⟩ := h.top hf
  have c3 := h.c3
  rw [hv] at c3
  have hmb : mb < w.heap.size := h.lt mb _ h.me
  have c0 := h.c0
  obtain ⟨ga, hgb, hfun⟩ := h.pg.2.1 (by have := hx.fn; omega)
  obtain ⟨q0, q1, q2⟩ := hfun f.fn hx.fn
  obtain ⟨fa, hfb, hcode⟩ := (h.pg.2.2 f.fn hx.fn).2 (by have := hx.pc; omega)
  obtain ⟨i0, i1⟩ := hcode f.pc hx.pc
  rw [ga] at c0
  rw [fa] at q2
  rw [hx.op] at i0
  rw [hx.ar] at i1
  have hfn := hx.fn
  have hpcl := hx.pc
  have hk28 := hx.k28
  obtain ⟨t0, t1, t2, t3, t4⟩ := h.tab.2 k hk28
  have ht0 := h.tab.1
  clear q0 q1 t0 t1 t2 t3 x2 x3 hcode hfun
  have HH := hid h
  have HF := hid hf
  have HV := hid hv
  have HX := hid hx
  have HFZ := hid hfz
  have HGA := hid ga
  clear h hf hv hx hfz ga fa
  go_enter Tryd.func59, Tryd.ntmps59
  go_wp2_with fail
  refine (running_any mb cb fs.length cc _ hn c3).mono ?_
  rintro e W ⟨rfl, m1, hW⟩
  have hBW : Below w.heap.size w W := by rw [hW]; exact Below.drewQ (Below.refl _ _) _
  have hcell : ∀ ad, W.cell? ad = w.cell? ad := fun ad => by rw [hW]; rfl
  have hsz : W.heap.size = w.heap.size := by rw [hW]; rfl
  rw [← hcell] at c3 x0 x1 c0 q2 i0 i1 t4
  rw [← hsz] at hmb hcb hgb hfb ht0
  have HW := hid hBW
  have HSZ := hid hsz
  clear hW hcell hBW hsz
  have HPOPS : Hid (∀ V, Below w.heap.size w V → Calls Tryd.prog 77 #[.agg #[.slice (some ⟨g.b, g.o, none⟩) g.n g.c], .agg #[.int .i64 (k : Int), .int .i64 a]] V fun e w' => e = .returned (.int .i64 (args.length : Int)) ∧ Below V.heap.size V w') := by
    intro V hV
    have hm := HH.out.same hV.size fun k hk => hV.block k hk
    have := popsOf_any V.heap.size g k a V (Nat.le_refl _) hm.pg hm.tab hk28 HX.out.call
    rw [HGA.out, HX.out.pops] at this
    exact this
  have HTOP : Hid (∀ V, Below w.heap.size w V → Calls Tryd.prog 76 #[.pointer (some ⟨mb, 3, none⟩), .int .i64 (args.length : Int)] V fun e w' => TopRes V own mb g R fs f rest args e w') := by
    intro V hV
    exact top_any (HH.out.same hV.size fun k hk => hV.block k hk) HF.out rest args hst hn hs hpc
  have HST := hid hst
  clear hst
  go_wp2_with fail
  go_region
  clear x0 x1 q2 i0 i1
  have j0 : (W.alloc (Obj.cells #[.int .i64 (k : Int), .int .i64 a] 37)).drew.cell? ⟨W.heap.size, 0, none⟩ = some (.int .i64 (k : Int)) := by go_simp
  have j1 : (W.alloc (Obj.cells #[.int .i64 (k : Int), .int .i64 a] 37)).drew.cell? ⟨W.heap.size, 1, none⟩ = some (.int .i64 a) := by go_simp
  have hB2 : Below W.heap.size W (W.alloc (Obj.cells #[.int .i64 (k : Int), .int .i64 a] 37)).drew := Below.drew (Below.alloc (Below.refl _ _) (Nat.le_refl _) _)
  have hs2 : (W.alloc (Obj.cells #[.int .i64 (k : Int), .int .i64 a] 37)).drew.heap.size = W.heap.size + 1 := by simp
  generalize (W.alloc (Obj.cells #[.int .i64 (k : Int), .int .i64 a] 37)).drew = V at *
  rw [← hB2.cell (p := ⟨mb, _, none⟩) hmb] at c0 c3
  rw [← hB2.cell (p := ⟨0, _, none⟩) ht0] at t4
  have hB3 : Below w.heap.size w V := HW.out.trans (hB2.mono (by have := HSZ.out; omega))
  have HB3 := hid hB3
  have l1 : mb < V.heap.size := by omega
  have l2 : 0 < V.heap.size := by omega
  have l3 : W.heap.size < V.heap.size := by omega
  have hcall := doT_calls hk28
  clear hB2 hB3 hs2 hmb ht0 hcb hgb hfb
  go_wp2_with fail
  have hk0 : (0 : Int) ≤ k := by omega
  have hk1 : (k : Int) < 28 := by omega
  have n1 : Hid ((0 : Nat) ≠ mb) := fun e => by have := HH.out.me; rw [← e, HH.out.ro0] at this; cases this
  have n2 : Hid (W.heap.size ≠ mb) := fun e => by have := HH.out.lt mb _ HH.out.me; have := HSZ.out; omega
  have HW0 : Hid (own W.heap.size = none) := HH.out.new (by have := HSZ.out; omega)
  go_region_held3 (fun u => u.cell? ⟨0, k * 5 + 4, none⟩ = some (.func (.func (doT k)) #[] #[]) ∧ u.cell? ⟨W.heap.size, 0, none⟩ = some (.int .i64 (k : Int)) ∧ u.cell? ⟨W.heap.size, 1, none⟩ = some (.int .i64 a) ∧ u.cell? ⟨mb, 0, none⟩ = some (.slice (some ⟨g.b, g.o, none⟩) g.n g.c)) (first | go_keep | exact ⟨cell_other z1 n1.out, cell_other z2 n2.out, cell_other z3 n2.out, cell_off z4⟩) (first | (go_at_call 77; refine (HPOPS.out _ ?_).mono ?_; exact (by repeat (first | exact HB3.out | refine Below.drew ?_)); rintro e w2 ⟨rfl, hb2⟩; have s1 := (hb2.cell (p := ⟨0, k * 5 + 4, none⟩) l2).trans t4; have s2 := (hb2.cell (p := ⟨W.heap.size, 0, none⟩) l3).trans j0; have s3 := (hb2.cell (p := ⟨W.heap.size, 1, none⟩) l3).trans j1; have s4 := (hb2.cell (p := ⟨mb, 0, none⟩) l1).trans c0; have HE1 := hid (Nat.lt_of_lt_of_le l1 hb2.size); have HE2 := hid (Nat.lt_of_lt_of_le l2 hb2.size); have HE3 := hid (Nat.lt_of_lt_of_le l3 hb2.size); have HBW2 : Hid (Below w.heap.size w w2) := below_via' hb2 (by repeat (first | exact HB3.out | refine Below.drew ?_)); clear hb2) | (go_at_call 76; refine (HTOP.out _ HBW2.out).mono ?_; rintro e w3 ⟨va, vc, sb, rfl, hat, hb3⟩; have r1 := (hb3.cell (p := ⟨0, k * 5 + 4, none⟩) HE2.out).trans s1; have r2 := (hb3.cell (p := ⟨W.heap.size, 0, none⟩) HE3.out).trans s2; have r3 := (hb3.cell (p := ⟨W.heap.size, 1, none⟩) HE3.out).trans s3; have r4 := (hb3.cell (p := ⟨mb, 0, none⟩) HE1.out).trans s4; have HBW3 : Hid (Below w.heap.size w w3) := below_via' hb3 HBW2.out; have HF3 : Hid (W.heap.size < w3.heap.size) := Nat.lt_of_lt_of_le HE3.out hb3.size; have HF2 : Hid (0 < w3.heap.size) := Nat.lt_of_lt_of_le HE2.out hb3.size; have HAT := hid hat; clear hat hb3) | (refine (HD.out _ va vc sb HBW3.out HAT.out).mono ?_; rintro e w5 ⟨own', R', rfl, hm5, hp5, ht5⟩; have z1 := (World.cell?_of_block (w := w3) (w' := w5) (a := ⟨0, k * 5 + 4, none⟩) (ht5.block 0 HF2.out HH.out.ro0)).trans r1; have z2 := (World.cell?_of_block (w := w3) (w' := w5) (a := ⟨W.heap.size, 0, none⟩) (ht5.block _ HF3.out HW0.out)).trans r2; have z3 := (World.cell?_of_block (w := w3) (w' := w5) (a := ⟨W.heap.size, 1, none⟩) (ht5.block _ HF3.out HW0.out)).trans r3; have z4 := hm5.c0; rw [HGA.out] at z4; have y1 := hm5.c1; have y2 := hm5.fz 1; have y3 := hm5.lt mb _ hm5.me; have HM5 := hid hm5; have HP5 := hid hp5; have HT5 := hid ht5; clear hm5 hp5 ht5))
  all_goals
    clear z1 z2 z3 z4 y1 y2 y3 r1 r2 r3 r4 s1 s2 s3 s4 t4 j0 j1 c0 c3
    go_wp2_with fail
    go_end0
    exact ⟨own', { R' with st := st }, rfl, HM5.out.setCell 1 _ (Or.inl ⟨rfl, rfl, rfl⟩), ⟨R', HP5.out, rfl⟩, ((Touched.of_below HBW3.out).trans HT5.out).trans (Touched.setMb HM5.out.me _ _)⟩

end Go.Proofs.YtbkmgoffiigdbaaDoor
