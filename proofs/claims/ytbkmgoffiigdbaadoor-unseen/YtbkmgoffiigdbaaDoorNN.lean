import Derived.Test.YtbkmgoffiigdbaaDoorNM
import Derived.Test.YtbkmgoffiigdbaaDoorS
import Derived.Handy
namespace Go.Proofs.YtbkmgoffiigdbaaDoor
open Go.RowKit Go.Sort

abbrev FnC := Int × Int × Value
def fcells (x : FnC) : List Value := [.int .i64 x.1, .int .i64 x.2.1, x.2.2]
theorem fcells_len (x : FnC) : (fcells x).length = 3 := rfl

/-- A program's copy, of which the first functions' code is copied. -/
structure CopyP (g : PgR) (w : World) (fb fc i : Nat) (wr : World) (L : List FnC) (Bk C : Nat → Nat) : Prop where
  len : L.length = g.n
  row : wr.ownsRow w.heap.size 35 3 (.slice (some ⟨fb, 0, none⟩) g.n fc) g.n (L.flatMap fcells)
  done : ∀ j, j < i → L[j]? = some ((g.f j).p, (g.f j).l, .slice (some ⟨Bk j, 0, none⟩) (g.f j).n (C j)) ∧ Bk j ≠ fb ∧ wr.ownsRow w.heap.size 37 2 (.slice (some ⟨Bk j, 0, none⟩) (g.f j).n (C j)) (g.f j).n (insCells (g.f j))
  todo : ∀ j, i ≤ j → j < g.n → L[j]? = some ((g.f j).p, (g.f j).l, .slice (g.f j).a (g.f j).n (g.f j).c)
  below : Below w.heap.size w wr

def CopyAtP (g : PgR) (w : World) (fb fc i : Nat) (wr : World) : Prop := ∃ L Bk C, CopyP g w fb fc i wr L Bk C

/-- A program of its own. -/
def ProgCopied (g : PgR) (w : World) (e : Ending) (w' : World) : Prop :=
  ∃ g' : PgR, e = .returned (.agg #[.slice g'.a g'.n g'.c]) ∧ PgIn w'.heap.size w' g' ∧ (∀ k, g'.blk k → w.heap.size ≤ k) ∧ Below w.heap.size w w' ∧
    g'.n = g.n ∧ ∀ j, j < g.n → (g'.f j).p = (g.f j).p ∧ (g'.f j).l = (g.f j).l ∧ (g'.f j).n = (g.f j).n ∧ (g'.f j).op = (g.f j).op ∧ (g'.f j).ar = (g.f j).ar

theorem CopyP.end {g : PgR} {w V wr : World} {fb fc rb : Nat} {L : List FnC} {Bk C : Nat → Nat} (h : CopyP g V fb fc g.n wr L Bk C) (hV : Below w.heap.size w V) (hr1 : w.heap.size ≤ rb) (hr2 : rb < V.heap.size) (hn : g.n ≤ 1000) (hc : ∀ j, j < g.n → (g.f j).n ≤ 1000) (e : Ending) (v : Value) (he : e = .returned (.agg #[.slice (some ⟨fb, 0, none⟩) g.n fc])) :
    ProgCopied g w e (wr.setCell ⟨rb, 0, none⟩ v) := by
  have own_lt : ∀ {ty size b n c : Nat} {xs : List Value}, wr.ownsRow V.heap.size ty size (.slice (some ⟨b, 0, none⟩) n c) n xs → V.heap.size ≤ b := by
    intro ty size b n c xs hx
    rcases hx.2 with ⟨h0, _⟩ | ⟨g', cap', cur, hv, h1, _⟩
    · cases h0
    · cases hv; exact h1
  have hB : Below w.heap.size w (wr.setCell ⟨rb, 0, none⟩ v) := Below.setCell (hV.trans (h.below.mono hV.size)) hr1 _
  have hsz : wr.heap.size = (wr.setCell ⟨rb, 0, none⟩ v).heap.size := by simp
  refine ⟨⟨some ⟨fb, 0, none⟩, g.n, fc, fb, 0, fun j => { g.f j with a := some ⟨Bk j, 0, none⟩, c := C j, b := Bk j, o := 0 }⟩, he, ⟨by show g.n ≤ _; omega, fun _ => ?_, fun i hi => ⟨by show (g.f i).n ≤ _; have := hc i hi; omega, fun _ => ?_⟩⟩, ?_, hB, rfl, fun j hj => ⟨rfl, rfl, rfl, rfl, rfl⟩⟩
  · refine ⟨rfl, Nat.lt_of_lt_of_le (owns_cap h.row).2 (Nat.le_of_eq hsz), fun i hi => ?_⟩
    obtain ⟨h1, _, _⟩ := h.done i hi
    have hrow := ownsRow_setCell_other h.row (a := ⟨rb, 0, none⟩) (by have := own_lt h.row; simp only [Value.ownBlock, ne_eq, Option.some.injEq]; omega) v
    have e : ∀ j, j < 3 → (wr.setCell ⟨rb, 0, none⟩ v).cell? ⟨fb, i * 3 + j, none⟩ = (fcells ((g.f i).p, (g.f i).l, .slice (some ⟨Bk i, 0, none⟩) (g.f i).n (C i)))[j]? := fun j hj => by
      rw [hrow.cellAt _ (by have : i < g.n := hi; omega)]; exact flat_get fcells_len h1 hj
    have e0 := e 0 (by omega)
    have e1 := e 1 (by omega)
    have e2 := e 2 (by omega)
    simp only [Nat.zero_add]
    exact ⟨e0, e1, e2⟩
  · obtain ⟨_, _, h3⟩ := h.done i hi
    refine ⟨rfl, Nat.lt_of_lt_of_le (owns_cap h3).2 (Nat.le_of_eq hsz), fun j hj => ?_⟩
    have hrow := ownsRow_setCell_other h3 (a := ⟨rb, 0, none⟩) (by have := own_lt h3; simp only [Value.ownBlock, ne_eq, Option.some.injEq]; omega) v
    have hj' : j < (g.f i).n := hj
    obtain ⟨q1, q2⟩ := flat2_get (a := fun j => Value.int .i64 ((g.f i).op j)) (b := fun j => Value.int .i64 ((g.f i).ar j)) hj'
    have e0 := hrow.cellAt (j * 2) (by omega)
    have e1 := hrow.cellAt (j * 2 + 1) (by omega)
    simp only [Nat.zero_add]
    exact ⟨e0.trans q1, e1.trans q2⟩
  · have := hV.size
    rintro k (⟨_, rfl⟩ | ⟨i, hi, _, rfl⟩)
    · exact Nat.le_trans this (own_lt h.row)
    · exact Nat.le_trans this (own_lt (h.done i hi).2.2)

theorem CopyP.step {g : PgR} {V wr w2 : World} {fb fc i nb nc : Nat} {L : List FnC} {Bk C : Nat → Nat} (h : CopyP g V fb fc i wr L Bk C) (hi : i < g.n) (hb : Below wr.heap.size wr w2) (hnew : w2.ownsRow wr.heap.size 37 2 (.slice (some ⟨nb, 0, none⟩) (g.f i).n nc) (g.f i).n (insCells (g.f i))) :
    CopyAtP g V fb fc (i + 1) (w2.setCell ⟨fb, i * 3 + 2, none⟩ (.slice (some ⟨nb, 0, none⟩) (g.f i).n nc)) := by
  have hfb : V.heap.size ≤ fb ∧ fb < wr.heap.size := by
    rcases h.row.2 with ⟨h0, _⟩ | ⟨g', cap', cur, hv, h1, hg, _⟩
    · cases h0
    · cases hv; exact ⟨h1, (Array.getElem?_eq_some_iff.1 hg).1⟩
  have hnb : wr.heap.size ≤ nb := by
    rcases hnew.2 with ⟨h0, _⟩ | ⟨g', cap', cur, hv, h1, hg, _⟩
    · cases h0
    · cases hv; exact h1
  have hrow2 : w2.ownsRow V.heap.size 35 3 (.slice (some ⟨fb, 0, none⟩) g.n fc) g.n (L.flatMap fcells) := ownsRow_of_block h.row fun b hb' => by
    obtain rfl : fb = b := by simpa [Value.ownBlock] using hb'
    exact hb.block _ hfb.2
  have hst := (World.ownsRow.stored hrow2 (i * 3 + 2) (.slice (some ⟨nb, 0, none⟩) (g.f i).n nc)).1
  have hL := h.todo i (Nat.le_refl _) hi
  rw [← flat_set fcells_len (y := ((g.f i).p, (g.f i).l, .slice (some ⟨nb, 0, none⟩) (g.f i).n nc)) hL (by omega) rfl] at hst
  refine ⟨L.set i ((g.f i).p, (g.f i).l, .slice (some ⟨nb, 0, none⟩) (g.f i).n nc), fun j => if j = i then nb else Bk j, fun j => if j = i then nc else C j, by simpa using h.len, hst, fun j hj => ?_, fun j hj1 hj2 => ?_, ?_⟩
  · by_cases e : j = i
    · subst e
      simp only [if_pos]
      refine ⟨by rw [List.getElem?_set_self (by rw [h.len]; exact hi)], by omega, ?_⟩
      exact ownsRow_setCell_other (owns_base hnew (Nat.le_trans hfb.1 (Nat.le_of_lt hfb.2))) (by simp only [Value.ownBlock, ne_eq, Option.some.injEq]; omega) _
    · simp only [if_neg e]
      obtain ⟨q1, q2, q3⟩ := h.done j (by omega)
      refine ⟨by rw [List.getElem?_set_ne (Ne.symm e)]; exact q1, q2, ?_⟩
      refine ownsRow_setCell_other (ownsRow_of_block q3 fun b hb' => ?_) (by simpa [Value.ownBlock] using q2) _
      obtain rfl : Bk j = b := by simpa [Value.ownBlock] using hb'
      exact hb.block _ (owns_cap q3).2
  · rw [List.getElem?_set_ne (by omega)]
    exact h.todo j (by omega) hj2
  · exact Below.setCell (h.below.trans (hb.mono h.below.size)) hfb.1 _

set_option maxRecDepth 100000 in
set_option maxHeartbeats 2000000 in
theorem copyProgram_any (g : PgR) (w : World) (hg : PgIn w.heap.size w g) (h1 : 1 ≤ g.n) (h8 : g.n ≤ 8) (hc : ∀ j, j < g.n → 1 ≤ (g.f j).n ∧ (g.f j).n ≤ 60) :
    Calls Tryd.prog 72 #[.agg #[.slice g.a g.n g.c]] w fun e w' => ProgCopied g w e w' := by
  obtain ⟨ha, hb, hcell⟩ := hg.2.1 (by omega)
  rw [ha]
  have HG := hid hg
  have HC := hid hc
  have HA := hid ha
  have HCL : Hid (∀ W, Below w.heap.size w W → Calls Tryd.prog 91 #[.slice (some ⟨g.b, g.o, none⟩) g.n g.c] W fun e w' => ClonePost 35 3 g.n (((List.range g.n).map fun j => (((g.f j).p, (g.f j).l, .slice (g.f j).a (g.f j).n (g.f j).c) : FnC)).flatMap fcells) W e w') := by
    intro W hW
    refine clone_func g.b g.o g.n g.c _ W (by omega) (by omega) (by rw [flat_len fcells_len]; simp) (fun j u hj => ?_) (fun u hu => ?_) (Nat.lt_of_lt_of_le hb hW.size)
    · have hlt : j < g.n * 3 := by
        have := (List.getElem?_eq_some_iff.1 hj).1
        rw [flat_len fcells_len] at this; simpa using this
      have hi : j / 3 < g.n := by omega
      have hgt := flat_get (c := fcells) fcells_len (l := (List.range g.n).map fun j => (((g.f j).p, (g.f j).l, .slice (g.f j).a (g.f j).n (g.f j).c) : FnC)) (i := j / 3) (j := j % 3) (x := ((g.f (j / 3)).p, (g.f (j / 3)).l, .slice (g.f (j / 3)).a (g.f (j / 3)).n (g.f (j / 3)).c)) (by simp [hi]) (by omega)
      rw [show j / 3 * 3 + j % 3 = j by omega, hj] at hgt
      obtain ⟨q0, q1, q2⟩ := hcell (j / 3) hi
      rw [hW.cell (p := ⟨g.b, _, none⟩) hb]
      have hj3 : j % 3 = 0 ∨ j % 3 = 1 ∨ j % 3 = 2 := by omega
      rcases hj3 with e | e | e
      · rw [e] at hgt
        rw [show g.o + j = g.o + j / 3 * 3 by omega, q0]; exact hgt.symm
      · rw [e] at hgt
        rw [show g.o + j = g.o + j / 3 * 3 + 1 by omega, q1]; exact hgt.symm
      · rw [e] at hgt
        rw [show g.o + j = g.o + j / 3 * 3 + 2 by omega, q2]; exact hgt.symm
    · simp only [List.mem_flatMap, List.mem_map, fcells, List.mem_cons, List.not_mem_nil, or_false] at hu
      obtain ⟨x, ⟨i, _, rfl⟩, rfl | rfl | rfl⟩ := hu <;> rfl
  clear hg hc ha hcell
  go_enter Tryd.func72, Tryd.ntmps72
  go_wp2_with (go_at_call 91; refine (HCL.out _ ?_).mono ?_; exact (by repeat (first | exact Below.refl _ _ | refine Below.alloc ?_ (by first | (simp; done) | (simp; omega)) _)); rintro e w2 ⟨fb, fc, rfl, hown, hbel⟩)
  have hVB : Below w.heap.size w ((w.alloc (Obj.cells #[Value.slice (some ⟨g.b, g.o, none⟩) g.n g.c] 24)).alloc (Obj.cells #[Value.slice none 0 0] 24)) := by repeat (first | exact Below.refl _ _ | refine Below.alloc ?_ (by first | (simp; done) | (simp; omega)) _)
  have hVs : ((w.alloc (Obj.cells #[Value.slice (some ⟨g.b, g.o, none⟩) g.n g.c] 24)).alloc (Obj.cells #[Value.slice none 0 0] 24)).heap.size = w.heap.size + 2 := by simp
  have hVc : ((w.alloc (Obj.cells #[Value.slice (some ⟨g.b, g.o, none⟩) g.n g.c] 24)).alloc (Obj.cells #[Value.slice none 0 0] 24)).cell? ⟨w.heap.size + 1, 0, none⟩ = some (.slice none 0 0) := by go_simp
  have hVf : ((w.alloc (Obj.cells #[Value.slice (some ⟨g.b, g.o, none⟩) g.n g.c] 24)).alloc (Obj.cells #[Value.slice none 0 0] 24)).frozen? ⟨w.heap.size + 1, 0, none⟩ = false := by go_simp
  generalize ((w.alloc (Obj.cells #[Value.slice (some ⟨g.b, g.o, none⟩) g.n g.c] 24)).alloc (Obj.cells #[Value.slice none 0 0] 24)) = V at *
  have HCP : Hid (CopyAtP g V fb fc 0 w2) := ⟨_, fun _ => 0, fun _ => 0, by simp, hown, fun j hj => by omega, fun j _ hj => by simp [hj], hbel⟩
  have HVB := hid hVB
  have HVS := hid hVs
  have HVC := hid hVc
  have HVF := hid hVf
  clear hown hbel hVB hVs hVc hVf HCL
  go_loopw [10] (fun v wr => ∃ i : Nat, i ≤ g.n ∧ v = .int .i64 i ∧ CopyAtP g V fb fc i wr) (fun v _ => g.n - (intOf v).toNat)
  case atStart => exact ⟨0, Nat.zero_le _, rfl, HCP.out⟩
  case round =>
    obtain ⟨i, hi, rfl, L, Bk, C, hcp⟩ := hrel
    have hfb := owns_cap hcp.row
    have hzf := hcp.row.frozenAt (i * 3 + 2)
    have HP := hid hcp
    by_cases hlt : i < g.n
    · have hL := hcp.todo i (Nat.le_refl _) hlt
      have hcell : wr.cell? ⟨fb, i * 3 + 2, none⟩ = some (.slice (g.f i).a (g.f i).n (g.f i).c) := by
        rw [hcp.row.cellAt _ (by omega)]; exact flat_get fcells_len hL (by omega)
      obtain ⟨hn1, hn2⟩ := HC.out i hlt
      obtain ⟨fa, hfbl, hcode⟩ := (HG.out.2.2 i hlt).2 hn1
      rw [fa] at hcell
      have HCI : Hid (∀ U, Below wr.heap.size wr U → Calls Tryd.prog 92 #[.slice (some ⟨(g.f i).b, (g.f i).o, none⟩) (g.f i).n (g.f i).c] U fun e w' => ClonePost 37 2 (g.f i).n (insCells (g.f i)) U e w') := by
        intro U hU
        have hBU : Below w.heap.size w U := (HVB.out.trans (hcp.below.mono HVB.out.size)).trans (hU.mono (Nat.le_trans HVB.out.size hcp.below.size))
        refine clone_instr _ _ _ _ _ U hn1 (by omega) (flat2_length _ _ _) (fun j u hj => ?_) flat2_one (Nat.lt_of_lt_of_le hfbl hBU.size)
        have hjl : j < (g.f i).n * 2 := by
          have := (List.getElem?_eq_some_iff.1 hj).1
          rwa [insCells, flat2_length] at this
        obtain ⟨q1, q2⟩ := flat2_get (a := fun j => Value.int .i64 ((g.f i).op j)) (b := fun j => Value.int .i64 ((g.f i).ar j)) (show j / 2 < (g.f i).n by omega)
        obtain ⟨p1, p2⟩ := hcode (j / 2) (by omega)
        rw [hBU.cell (p := ⟨(g.f i).b, _, none⟩) hfbl]
        have hj2 : j % 2 = 0 ∨ j % 2 = 1 := by omega
        rcases hj2 with e | e
        · rw [show (g.f i).o + j = (g.f i).o + j / 2 * 2 by omega, p1, ← q1, show j / 2 * 2 = j by omega]; exact hj
        · rw [show (g.f i).o + j = (g.f i).o + j / 2 * 2 + 1 by omega, p2, ← q2, show j / 2 * 2 + 1 = j by omega]; exact hj
      have hwfb := hfb.2
      clear fa hcode hL hcp hfb
      go_wp2_with (go_at_call 92; refine (HCI.out _ (Below.refl _ _)).mono ?_; rintro e w3 ⟨nb, nc, rfl, hnew, hb3⟩; have cc3 := (hb3.cell (p := ⟨fb, i * 3 + 2, none⟩) hwfb).trans hcell; have zz3 := (hb3.frozen (p := ⟨fb, i * 3 + 2, none⟩) hwfb).trans hzf; have HNEW := hid hnew; have HB3 := hid hb3; clear hnew hb3)
      go_roundw
      case rel => exact ⟨i + 1, by omega, by go_num, HP.out.step hlt HB3.out HNEW.out⟩
      case measure => simp [intOf]; omega
    · obtain rfl : i = g.n := by omega
      have hrb : w.heap.size + 1 < V.heap.size := by have := HVS.out; omega
      have rc := (hcp.below.cell (p := ⟨w.heap.size + 1, 0, none⟩) hrb).trans HVC.out
      have rf := (hcp.below.frozen (p := ⟨w.heap.size + 1, 0, none⟩) hrb).trans HVF.out
      have hrb' : w.heap.size + 1 < wr.heap.size := Nat.lt_of_lt_of_le hrb hcp.below.size
      clear hcp hfb hzf
      have rr : (wr.setCell ⟨w.heap.size + 1, 0, none⟩ (.slice (some ⟨fb, 0, none⟩) g.n fc)).cell? ⟨w.heap.size + 1, 0, none⟩ = some (.slice (some ⟨fb, 0, none⟩) g.n fc) := by go_simp
      go_wp2_with fail
      exact bodyPost_ret (v := .agg #[.slice (some ⟨fb, 0, none⟩) g.n fc]) (by simp [results, Tryd.results72, go_sem, rr]) rfl (HP.out.end HVB.out (by omega) hrb (by omega) (fun j hj => by have := HC.out j hj; omega) _ _ rfl)

end Go.Proofs.YtbkmgoffiigdbaaDoor
