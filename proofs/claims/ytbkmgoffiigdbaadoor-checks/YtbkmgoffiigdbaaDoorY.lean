import Derived.Test.YtbkmgoffiigdbaaDoorS
import Derived.ProofKit
import Derived.Deep.SlicePairs
import Derived.Deep.Strs
namespace Go.Proofs.YtbkmgoffiigdbaaDoor
open Go.ChangeShapes Go.WideShapes Go.ChangeAt Go.RowKit

theorem cells3 : Tryd.prog.cellsOf 3 = 1 := by kernel_rfl
theorem cells22 : Tryd.prog.cellsOf 22 = 1 := by kernel_rfl
theorem cells24 : Tryd.prog.cellsOf 24 = 1 := by kernel_rfl
theorem cells33 : Tryd.prog.cellsOf 33 = 1 := by kernel_rfl
theorem cells35 : Tryd.prog.cellsOf 35 = 3 := by kernel_rfl
theorem cells37 : Tryd.prog.cellsOf 37 = 2 := by kernel_rfl
theorem bytes35 : Tryd.prog.bytesOf 35 = 40 := by kernel_rfl
theorem bytes37 : Tryd.prog.bytesOf 37 = 16 := by kernel_rfl

theorem all_mem {l : List Nat} {b : Nat} (h : l.all (· ≤ b) = true) {x : Nat} (hx : x ∈ l) : x ≤ b := by
  have := List.all_eq_true.1 h x hx
  simpa using this

set_option maxRecDepth 100000 in
theorem open_fn {H : Type} {enc : TypeId × Value → H} {W : World} {fuel : Nat} {cs : List Value} {x : DataW H × List MemPlace} (h : DataW.trod enc Tryd.prog W 0 (fun _ => true) true fuel 35 cs = some x) (hw : ∀ y ∈ x.1.weights Tryd.prog 35, y ≤ 140737488351232) :
    ∃ f : FnR, cs = [.int .i64 f.p, .int .i64 f.l, .slice f.a f.n f.c] ∧ CodeIn W.heap.size W f ∧ f.n * 16 ≤ 140737488351232 ∧ (f.a = none → f.n = 0 ∧ f.c = 0) := by
  obtain ⟨y0, y1, y2, n, hx, hl, h0, h1, h2⟩ := Go.Deep.trod_struct3 Tryd.underlying35 h
  rw [cells35] at hl
  match cs, hl with
  | [u0, u1, u2], _ =>
    simp only [List.drop, cells3, cells33, List.take] at h0 h1 h2
    obtain ⟨p, e0, _, _⟩ := DataW.trod_int Tryd.underlying3 h0
    obtain ⟨l, e1, _, _⟩ := DataW.trod_int Tryd.underlying3 h1
    simp only [List.cons.injEq, and_true] at e0 e1
    subst e0 e1
    rcases Go.Deep.open_slice_pairs Tryd.underlying33 Tryd.underlying37 cells37 rfl rfl cells3 cells3 h2 with ⟨hcs, _⟩ | ⟨a, len, cap, m, n', V0, V1, D0, D1, P0, P1, hcs, _, hlc, hm, hmm, hx2, hcell⟩
    · simp only [List.cons.injEq, and_true] at hcs
      subst hcs
      exact ⟨⟨p, l, none, 0, 0, 0, 0, fun _ => 0, fun _ => 0⟩, rfl, ⟨by show 0 ≤ _; omega, fun hn => absurd hn (by show ¬ 0 < 0; omega)⟩, by show 0 * 16 ≤ _; omega, fun _ => ⟨rfl, rfl⟩⟩
    · simp only [List.cons.injEq, and_true] at hcs
      subst hcs
      simp only [if_true] at hmm
      subst hmm
      obtain ⟨op, hop⟩ := Go.Deep.choose_lt (α := Int) (n := m) (p := fun i v => V0 i = .int .i64 v) (fun i hi => by
        obtain ⟨v, e, _, _⟩ := DataW.trod_int Tryd.underlying3 (hcell i hi).2.2.1
        exact ⟨v, by simpa using e⟩)
      obtain ⟨ar, har⟩ := Go.Deep.choose_lt (α := Int) (n := m) (p := fun i v => V1 i = .int .i64 v) (fun i hi => by
        obtain ⟨v, e, _, _⟩ := DataW.trod_int Tryd.underlying3 (hcell i hi).2.2.2
        exact ⟨v, by simpa using e⟩)
      have hlen16 : len * 16 ≤ 140737488351232 := by
        have hx1 : x.1 = .agg [y0.1, y1.1, y2.1] := by rw [hx]
        have : (len + (m - len)) * 16 ∈ x.1.weights Tryd.prog 35 := by
          rw [hx1, hx2]
          simp [DataW.weights, DataW.weightsEach, Tryd.underlying35, Tryd.underlying33, bytes37]
        have := hw _ this
        omega
      refine ⟨⟨p, l, some a, len, m, a.block, a.off, op, ar⟩, rfl, ⟨?_, fun hn => ?_⟩, hlen16, fun h => by cases h⟩
      · show len ≤ _; omega
      · have hn' : 0 < len := hn
        have c0 := (hcell 0 (by omega)).1
        have hadd : a.add (0 * 2) = a := by simp [Addr.add]
        rw [hadd] at c0
        obtain ⟨b, o, spot⟩ := a
        have hspot : spot = none := World.cell?_spot c0
        subst hspot
        refine ⟨rfl, World.block_lt_of_cell? _ _ c0, fun j hj => ?_⟩
        have hj' : j < len := hj
        obtain ⟨q0, q1, _, _⟩ := hcell j (by omega)
        rw [add_plain, hop j (by omega)] at q0
        rw [add_plain, har j (by omega)] at q1
        exact ⟨q0, q1⟩

theorem weightsAll_mem {H : Type} {e : TypeId} {l : List (DataW H)} {d : DataW H} (hd : d ∈ l) {y : Nat} (hy : y ∈ d.weights Tryd.prog e) : y ∈ DataW.weightsAll Tryd.prog e l := by
  induction l with
  | nil => cases hd
  | cons a r ih =>
    rw [DataW.weightsAll, List.mem_append]
    rcases List.mem_cons.1 hd with rfl | hd
    · exact Or.inl hy
    · exact Or.inr (ih hd)

set_option maxRecDepth 100000 in
theorem open_prog {H : Type} {enc : TypeId × Value → H} {W : World} {fuel : Nat} {cs : List Value} {x : DataW H × List MemPlace} (h : DataW.trod enc Tryd.prog W 0 (fun _ => true) true fuel 22 cs = some x) (hw : ∀ y ∈ x.1.weights Tryd.prog 22, y ≤ 140737488351232) :
    ∃ g : PgR, cs = [.slice g.a g.n g.c] ∧ PgIn W.heap.size W g ∧ Reach g := by
  rcases Go.Deep.open_slice Tryd.underlying22 h with ⟨hcs, _⟩ | ⟨a, len, cap, m, n, D, Pl, hcs, _, hlc, hm, hmm, hx, hcell⟩
  · subst hcs
    exact ⟨⟨none, 0, 0, 0, 0, fun _ => ⟨0, 0, none, 0, 0, 0, 0, fun _ => 0, fun _ => 0⟩⟩, rfl, ⟨by show 0 ≤ _; omega, fun hn => absurd hn (by show ¬ 0 < 0; omega), fun i hi => absurd hi (by show ¬ i < 0; omega)⟩, by show 0 * 40 ≤ _; omega, fun i hi => absurd hi (by show ¬ i < 0; omega)⟩
  · subst hcs
    simp only [if_true] at hmm
    subst hmm
    rw [cells35] at hcell
    have hx1 : x.1 = .slice ((List.range len).map D) ((List.range (m - len)).map fun j => D (len + j)) := by rw [hx]
    have hwl : (len + (m - len)) * 40 ≤ 140737488351232 := hw _ (by rw [hx1]; simp [DataW.weights, Tryd.underlying22, bytes35])
    have hwi : ∀ i, i < len → ∀ y ∈ (D i).weights Tryd.prog 35, y ≤ 140737488351232 := fun i hi y hy => hw y (by
      rw [hx1]
      simp only [DataW.weights, Tryd.underlying22, List.mem_cons, List.mem_append]
      exact Or.inr (Or.inl (weightsAll_mem (List.mem_map.2 ⟨i, List.mem_range.2 hi, rfl⟩) hy)))
    haveI : Inhabited FnR := ⟨⟨0, 0, none, 0, 0, 0, 0, fun _ => 0, fun _ => 0⟩⟩
    obtain ⟨f, hf⟩ := Go.Deep.choose_lt (α := FnR) (n := len) (p := fun i f => W.cells? 0 (a.add (i * 3)) 3 = some [.int .i64 f.p, .int .i64 f.l, .slice f.a f.n f.c] ∧ CodeIn W.heap.size W f ∧ f.n * 16 ≤ 140737488351232 ∧ (f.a = none → f.n = 0 ∧ f.c = 0)) (fun i hi => by
      obtain ⟨cs', hc1, hc2⟩ := hcell i (by omega)
      obtain ⟨f, rfl, q1, q2, q3⟩ := open_fn hc2 (hwi i hi)
      exact ⟨f, hc1, q1, q2, q3⟩)
    refine ⟨⟨some a, len, m, a.block, a.off, f⟩, rfl, ⟨by show len ≤ _; omega, fun hn => ?_, fun i hi => (hf i hi).2.1⟩, by show len * 40 ≤ _; omega, fun i hi => (hf i hi).2.2⟩
    have hn' : 0 < len := hn
    have c0 := (World.cells?_some (hf 0 hn').1).2.2 0 (by omega)
    have hadd : (a.add (0 * 3)).add 0 = a := by simp [Addr.add]
    rw [hadd] at c0
    have c0' : W.cell? a = some (.int .i64 (f 0).p) := c0
    obtain ⟨b, o, spot⟩ := a
    have hspot : spot = none := World.cell?_spot c0'
    subst hspot
    refine ⟨rfl, World.block_lt_of_cell? _ _ c0', fun i hi => ?_⟩
    have hi' : i < len := hi
    have hc := (World.cells?_some (hf i hi').1).2.2
    have q0 := hc 0 (by omega)
    have q1 := hc 1 (by omega)
    have q2 := hc 2 (by omega)
    rw [add_plain, add_plain] at q0 q1 q2
    exact ⟨q0, q1, q2⟩

end Go.Proofs.YtbkmgoffiigdbaaDoor
