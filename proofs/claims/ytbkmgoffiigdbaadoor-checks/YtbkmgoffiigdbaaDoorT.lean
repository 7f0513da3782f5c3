import Derived.Test.YtbkmgoffiigdbaaDoorU
import Derived.Deep.DeepMust
import Derived.Deep.Heap
import Derived.Deep.RegionLaw
import Derived.Deep.Light
namespace Go.Proofs.YtbkmgoffiigdbaaDoor
open Go.RowKit

/-- What the copying has come to behind i functions. -/
def LentAt (g : PgR) (q : Nat) (W1 wr : World) (i : Nat) : Prop :=
  ∃ (Bk C : Nat → Nat) (cv : Value), wr.cell? ⟨q, 0, none⟩ = some cv ∧ wr.frozen? ⟨q, 0, none⟩ = false ∧ wr.ownsRow (q + 1) 35 3 cv i (funCells g Bk C i) ∧
    (∀ j, j < i → CopyAt (q + 1) wr (g.f j) (Bk j) (C j)) ∧ (∀ j j', j < i → j' < i → Bk j = Bk j' → j = j') ∧ Below q W1 wr ∧ q + 1 ≤ wr.heap.size

theorem farTail_one : ∀ u ∈ farTail, u.oneCell' = true := by
  intro u hu
  simp only [farTail, List.mem_cons, List.not_mem_nil, or_false] at hu
  rcases hu with rfl | rfl | rfl | rfl <;> rfl

theorem funRow_one (p l : Int) (lb n lc : Nat) : ∀ u ∈ [Value.int .i64 p, .int .i64 l, .slice (some ⟨lb, 0, none⟩) n lc], u.oneCell' = true := by
  intro u hu
  simp only [List.mem_cons, List.not_mem_nil, or_false] at hu
  rcases hu with rfl | rfl | rfl <;> rfl

theorem sentinel_one : ∀ u ∈ [Value.int .i64 (-7070), .int .i64 0, .slice none 0 0], u.oneCell' = true := by
  intro u hu
  simp only [List.mem_cons, List.not_mem_nil, or_false] at hu
  rcases hu with rfl | rfl | rfl <;> rfl

theorem insCells_src {B : Nat} {w : World} {f : FnR} (hf : CodeIn B w f) : ∀ ad, f.a = some ad → ∀ j u, (insCells f)[j]? = some u → w.cell? (ad.add j) = some u := by
  intro ad had j u hu
  have hj : j < f.n * 2 := by
    have := (List.getElem?_eq_some_iff.1 hu).1
    rwa [show (insCells f).length = f.n * 2 from flat2_length _ _ _] at this
  obtain ⟨h1, _, h3⟩ := hf.2 (by omega)
  rw [had] at h1
  obtain rfl := Option.some.inj h1
  rw [Go.WideShapes.add_plain]
  have h2 := h3 (j / 2) (by omega)
  have hg := flat2_get (a := fun j => .int .i64 (f.op j)) (b := fun j => .int .i64 (f.ar j)) (show j / 2 < f.n by omega)
  rcases Nat.mod_two_eq_zero_or_one j with hm | hm
  · have e : j / 2 * 2 = j := by omega
    rw [e] at h2 hg
    unfold insCells at hu
    rw [hg.1] at hu
    rw [← Option.some.inj hu]
    exact h2.1
  · have e : j / 2 * 2 + 1 = j := by omega
    have e' : f.o + j / 2 * 2 + 1 = f.o + j := by omega
    rw [e'] at h2
    rw [e] at hg
    unfold insCells at hu
    rw [hg.2] at hu
    rw [← Option.some.inj hu]
    exact h2.2

theorem lent_step {g : PgR} {q : Nat} {W1 wr w2 w5 : World} {i : Nat} {Bk C : Nat → Nat} {cv : Value} {lb lc cb cc : Nat} (o : Obj) (hown : wr.ownsRow (q + 1) 35 3 cv i (funCells g Bk C i))
    (hcopy : ∀ j, j < i → CopyAt (q + 1) wr (g.f j) (Bk j) (C j)) (hinj : ∀ j j', j < i → j' < i → Bk j = Bk j' → j = j') (hbel : Below q W1 wr) (hsz : q + 1 ≤ wr.heap.size) (hB2w : Below wr.heap.size wr w2)
    (hcopyN : CopyAt (wr.heap.size + 1) w2 (g.f i) lb lc) (hgrow : (w2.alloc o).grownBy w5 cv.ownBlock)
    (hown5 : w5.ownsRow (q + 1) 35 3 (.slice (some ⟨cb, 0, none⟩) (i + 1) cc) (i + 1) (funCells g Bk C i ++ [.int .i64 (g.f i).p, .int .i64 (g.f i).l, .slice (some ⟨lb, 0, none⟩) (g.f i).n lc]))
    (hq : w5.cell? ⟨q, 0, none⟩ = some cv) (hqf : w5.frozen? ⟨q, 0, none⟩ = false) :
    LentAt g q W1 (w5.setCell ⟨q, 0, none⟩ (.slice (some ⟨cb, 0, none⟩) (i + 1) cc)) (i + 1) := by
  have hcvb := hown.lt
  have hs2 := hB2w.size
  obtain ⟨hlb1, hlb2, _, _, _⟩ := owns_at hcopyN
  have hs5 : w2.heap.size + 1 ≤ w5.heap.size := by have := hgrow.size; simpa using this
  have far : ∀ b, b < w2.heap.size → cv.ownBlock ≠ some b → b ≠ q → (w5.setCell ⟨q, 0, none⟩ (.slice (some ⟨cb, 0, none⟩) (i + 1) cc)).heap[b]? = w2.heap[b]? := fun b hb hne hbq => by
    rw [Below.heap_setCell _ _ _ _ hbq, hgrow.block b (by simp; omega) (fun e => hne e.symm)]
    exact Below.heap_alloc _ _ _ hb
  refine ⟨fun j => if j = i then lb else Bk j, fun j => if j = i then lc else C j, .slice (some ⟨cb, 0, none⟩) (i + 1) cc, by go_simp, by go_simp, ?_, fun j hj => ?_, fun j j' hj hj' he => ?_, ?_, by simp; omega⟩
  · have h1 := ownsRow_setCell_below hown5 (a := ⟨q, 0, none⟩) (by simp) (.slice (some ⟨cb, 0, none⟩) (i + 1) cc)
    have h2 : funCells g (fun j => if j = i then lb else Bk j) (fun j => if j = i then lc else C j) (i + 1) = funCells g Bk C i ++ [.int .i64 (g.f i).p, .int .i64 (g.f i).l, .slice (some ⟨lb, 0, none⟩) (g.f i).n lc] := by
      unfold funCells
      rw [flat3_succ, flat3_congr (c' := fun j => .slice (some ⟨Bk j, 0, none⟩) (g.f j).n (C j)) (fun j hj => by simp only [if_neg (show ¬ j = i by omega)])]
      simp
    rw [h2]
    exact h1
  · by_cases e : j = i
    · subst e
      simp only [if_pos]
      refine owns_base (owns_block hcopyN (far lb hlb2 (fun h => ?_) (by omega))) (by omega)
      have := (hcvb lb h).2; omega
    · simp only [if_neg e]
      have hc := hcopy j (by omega)
      obtain ⟨h1, h2, _, _, cur, hcur⟩ := owns_at hc
      refine owns_block hc ((far (Bk j) (by omega) (fun h => ?_) (by omega)).trans (hB2w.block _ h2))
      rcases hown.2 with ⟨h0, _⟩ | ⟨gb, cap, cur', hv, _, hh, _⟩
      · rw [h0] at h; cases h
      · rw [hv] at h
        have : gb = Bk j := by simpa [Value.ownBlock] using h
        rw [this, hcur] at hh
        have := Option.some.inj hh
        simp at this
  · have lt : ∀ j, j < i → Bk j < lb := fun j hj => by have := (owns_at (hcopy j hj)).2.1; omega
    by_cases e : j = i
    · by_cases e' : j' = i
      · omega
      · have := lt j' (by omega); simp only [if_pos e, if_neg e'] at he; omega
    · by_cases e' : j' = i
      · have := lt j (by omega); simp only [if_neg e, if_pos e'] at he; omega
      · simp only [if_neg e, if_neg e'] at he; exact hinj j j' (by omega) (by omega) he
  · refine Below.setCell (p := ⟨q, 0, none⟩) ?_ (Nat.le_refl _) _
    have h2 : Below q W1 w2 := hbel.trans (hB2w.mono (by omega))
    exact (h2.alloc (by omega) o).grown hgrow (by simp; omega) (fun k hk => by have := (hcvb k hk).1; omega)

theorem lent_append {g : PgR} {q : Nat} {W1 wr w2 w5 : World} {i : Nat} {Bk C : Nat → Nat} {cv : Value} {lb lc cb cc : Nat} {o : Obj} (hown : wr.ownsRow (q + 1) 35 3 cv i (funCells g Bk C i))
    (hcopy : ∀ j, j < i → CopyAt (q + 1) wr (g.f j) (Bk j) (C j)) (hinj : ∀ j j', j < i → j' < i → Bk j = Bk j' → j = j') (hbel : Below q W1 wr) (hsz : q + 1 ≤ wr.heap.size) (hB2w : Below wr.heap.size wr w2)
    (hcopyN : CopyAt (wr.heap.size + 1) w2 (g.f i) lb lc) (hq2 : w2.cell? ⟨q, 0, none⟩ = some cv) (hf2 : w2.frozen? ⟨q, 0, none⟩ = false) (hgrow : (w2.alloc o).grownBy w5 cv.ownBlock)
    (hown5 : w5.ownsRow (q + 1) 35 3 (.slice (some ⟨cb, 0, none⟩) (i + 1) cc) (i + 1) (funCells g Bk C i ++ [.int .i64 (g.f i).p, .int .i64 (g.f i).l, .slice (some ⟨lb, 0, none⟩) (g.f i).n lc])) :
    w5.cell? ⟨q, 0, none⟩ = some cv ∧ w5.frozen? ⟨q, 0, none⟩ = false ∧ LentAt g q W1 (w5.setCell ⟨q, 0, none⟩ (.slice (some ⟨cb, 0, none⟩) (i + 1) cc)) (i + 1) := by
  have hs2 := hB2w.size
  have hne : some q ≠ cv.ownBlock := fun e => by have := (hown.lt q e.symm).1; omega
  have hq5 : w5.cell? ⟨q, 0, none⟩ = some cv := by
    rw [hgrow.cell_far ⟨q, 0, none⟩ (by simp; omega) hne, ← hq2]; exact World.cell?_of_block (Below.heap_alloc _ _ _ (by show q < _; omega))
  have hf5 : w5.frozen? ⟨q, 0, none⟩ = false := by
    rw [hgrow.frozen_far ⟨q, 0, none⟩ (by simp; omega) hne, ← hf2]; exact World.frozen?_of_block (Below.heap_alloc _ _ _ (by show q < _; omega))
  exact ⟨hq5, hf5, lent_step o hown hcopy hinj hbel hsz hB2w hcopyN hgrow hown5 hq5 hf5⟩

set_option maxRecDepth 100000 in
set_option maxHeartbeats 4000000 in
theorem lent_any (g : PgR) (w : World) (hg : PgIn w.heap.size w g) (hr : Reach g) :
    Calls Tryd.prog 10 #[.agg #[.slice g.a g.n g.c]] w fun e w' => LentPost g w e w' := by
  have hn := hg.1
  have hn40 := hr.1
  obtain ⟨i35, hi35, hz35, hs35, hb35⟩ := info_parts info35
  obtain ⟨i37, hi37, hz37, hs37, hb37⟩ := info_parts info37
  have p0 : (((w.alloc (Obj.cells #[Value.slice g.a g.n g.c] 24)).alloc (Obj.cells #[Value.slice none 0 0] 24)).alloc (Obj.cells #[Value.slice none 0 0] 24)).cell? ⟨w.heap.size, 0, none⟩ = some (.slice g.a g.n g.c) := by go_simp
  have r0 : (((w.alloc (Obj.cells #[Value.slice g.a g.n g.c] 24)).alloc (Obj.cells #[Value.slice none 0 0] 24)).alloc (Obj.cells #[Value.slice none 0 0] 24)).cell? ⟨w.heap.size + 1, 0, none⟩ = some (.slice none 0 0) := by go_simp
  have rf : (((w.alloc (Obj.cells #[Value.slice g.a g.n g.c] 24)).alloc (Obj.cells #[Value.slice none 0 0] 24)).alloc (Obj.cells #[Value.slice none 0 0] 24)).frozen? ⟨w.heap.size + 1, 0, none⟩ = false := by go_simp
  have q0 : (((w.alloc (Obj.cells #[Value.slice g.a g.n g.c] 24)).alloc (Obj.cells #[Value.slice none 0 0] 24)).alloc (Obj.cells #[Value.slice none 0 0] 24)).cell? ⟨w.heap.size + 1 + 1, 0, none⟩ = some (.slice none 0 0) := by go_simp
  have qf : (((w.alloc (Obj.cells #[Value.slice g.a g.n g.c] 24)).alloc (Obj.cells #[Value.slice none 0 0] 24)).alloc (Obj.cells #[Value.slice none 0 0] 24)).frozen? ⟨w.heap.size + 1 + 1, 0, none⟩ = false := by go_simp
  have hbel0 : Below w.heap.size w (((w.alloc (Obj.cells #[Value.slice g.a g.n g.c] 24)).alloc (Obj.cells #[Value.slice none 0 0] 24)).alloc (Obj.cells #[Value.slice none 0 0] 24)) := by repeat (first | exact Below.refl _ _ | refine Below.alloc ?_ (by first | omega | (simp; done) | (simp; omega)) _)
  have hs0 : (((w.alloc (Obj.cells #[Value.slice g.a g.n g.c] 24)).alloc (Obj.cells #[Value.slice none 0 0] 24)).alloc (Obj.cells #[Value.slice none 0 0] 24)).heap.size = w.heap.size + 1 + 1 + 1 := by simp
  go_enter Tryd.func10, Tryd.ntmps10
  go_wp2
  generalize (((w.alloc (Obj.cells #[Value.slice g.a g.n g.c] 24)).alloc (Obj.cells #[Value.slice none 0 0] 24)).alloc (Obj.cells #[Value.slice none 0 0] 24)) = W1 at *
  obtain ⟨q, hq⟩ : ∃ q, q = w.heap.size + 1 + 1 := ⟨_, rfl⟩
  rw [← hq] at q0 qf hs0 ⊢
  have hq1 : w.heap.size + 1 < q := by omega
  have hq2 : w.heap.size < q := by omega
  clear hq
  go_loopw [4] (fun v wr => ∃ i : Nat, i ≤ g.n ∧ v = .int .i64 i ∧ LentAt g q W1 wr i) (fun v _ => g.n - (intOf v).toNat)
  case atStart => exact ⟨0, Nat.zero_le _, rfl, fun _ => 0, fun _ => 0, .slice none 0 0, q0, qf, World.ownsRow_nil _ _ _ _, fun j hj => by omega, fun j j' hj => by omega, Below.refl _ _, by omega⟩
  case round =>
    obtain ⟨i, hi, rfl, Bk, C, cv, hcv, hcf, hown, hcopy, hinj, hbel, hsz⟩ := hrel
    have hbelw : Below w.heap.size w wr := hbel0.trans (hbel.mono (by omega))
    have k0 : wr.cell? ⟨w.heap.size, 0, none⟩ = some (.slice g.a g.n g.c) := by rw [hbel.cell (by show w.heap.size < q; omega)]; exact p0
    have hwz : w.heap.size < wr.heap.size := by omega
    have hqz : q < wr.heap.size := by omega
    have HCOPY := (show Hid _ from hcopy); clear hcopy
    have HINJ := (show Hid _ from hinj); clear hinj
    by_cases hlt : i < g.n
    · obtain ⟨ha, hb, hc⟩ := hg.2.1 (by omega)
      obtain ⟨c0, c1, c2⟩ := hc i hlt
      rw [← hbelw.cell (p := ⟨g.b, _, none⟩) hb] at c0 c1 c2
      clear hc
      have hbw : g.b < wr.heap.size := by omega
      rw [ha] at k0
      have HA := (show Hid _ from ha); clear ha
      have hfin : CodeIn w.heap.size wr (g.f i) := (hg.2.2 i hlt).below hbelw
      obtain ⟨hf16, hfnil⟩ := hr.2 i hlt
      have hfinF : CodeIn w.heap.size (wr.alloc (Obj.cells #[.int .i64 (g.f i).p, .int .i64 (g.f i).l, .slice (g.f i).a (g.f i).n (g.f i).c] 35)) (g.f i) := hfin.below ((Below.refl _ _).alloc (by omega) _)
      have HNIL := (show Hid _ from hfnil); clear hfnil
      go_wp2_with (at_builtin; refine wpList_append_nil _ rfl (.tmp 19) (.tmp 21) 33 rfl (wr.heap.size + 1) 37 i37 _ 2 16 Tryd.underlying33 hi37 hz37 hs37 hb37 rfl (by decide) rfl (g.f i).a (g.f i).n (g.f i).c (insCells (g.f i)) rfl (flat2_length _ _ _) HNIL.out (insCells_src hfinF) flat2_one (by unfold maxLen; omega) (by omega) (by simp) ?_)
      intro lv w1 hown1 hgrow1
      have hsF : (wr.alloc (Obj.cells #[.int .i64 (g.f i).p, .int .i64 (g.f i).l, .slice (g.f i).a (g.f i).n (g.f i).c] 35)).heap.size = wr.heap.size + 1 := by simp
      have hB1 : Below (wr.alloc (Obj.cells #[.int .i64 (g.f i).p, .int .i64 (g.f i).l, .slice (g.f i).a (g.f i).n (g.f i).c] 35)).heap.size (wr.alloc (Obj.cells #[.int .i64 (g.f i).p, .int .i64 (g.f i).l, .slice (g.f i).a (g.f i).n (g.f i).c] 35)) w1 := ⟨hgrow1.os, hgrow1.tape, hgrow1.output, hgrow1.size, fun k hk => hgrow1.block k hk (by simp)⟩
      have hsz1 : (wr.alloc (Obj.cells #[.int .i64 (g.f i).p, .int .i64 (g.f i).l, .slice (g.f i).a (g.f i).n (g.f i).c] 35)).heap.size ≤ w1.heap.size := hgrow1.size
      have hlvb := hown1.lt
      have HLVB := (show Hid _ from hlvb); clear hlvb hgrow1
      go_wp2_with (at_builtin; go_must (refine wpList_append_lies _ rfl (.tmp 23) (.tmp 26) 33 rfl (wr.heap.size + 1) 37 i37 _ 2 16 Tryd.underlying33 hi37 hz37 hs37 hb37 rfl (by decide) lv (g.f i).n (insCells (g.f i)) rfl (hown1.alloc _) ⟨w1.heap.size, 0, none⟩ 2 2 farTail rfl rfl (World.news_of_block (cs := #[.int .i64 (-7070), .int .i64 0, .int .i64 (-7070), .int .i64 0]) (t := 37) (fr := (0, 0)) (Go.Deep.blk_alloc_new _ _)) farTail_one (by omega) (by unfold maxLen; omega) (by omega) (by simp; omega) (w1.heap.size + 1) (by simp) ?_))
      intro lb lc w2 hown2 hgrow2 hat2 hlt2
      have hB2 : Below (wr.alloc (Obj.cells #[.int .i64 (g.f i).p, .int .i64 (g.f i).l, .slice (g.f i).a (g.f i).n (g.f i).c] 35)).heap.size (wr.alloc (Obj.cells #[.int .i64 (g.f i).p, .int .i64 (g.f i).l, .slice (g.f i).a (g.f i).n (g.f i).c] 35)) w2 := hB1.trans ⟨hgrow2.os, hgrow2.tape, hgrow2.output, Nat.le_trans (by simp) hgrow2.size, fun k hk => by
        rw [hgrow2.block k (by simp; omega) (fun e => by have := (HLVB.out k e.symm).1; omega)]
        exact Below.heap_alloc _ _ _ (by omega)⟩
      have hcopyN : CopyAt (wr.heap.size + 1) w2 (g.f i) lb lc := hown2
      obtain ⟨hlb1, hlb2, hlc1, hlc2, _⟩ := owns_at hown2
      have hownC : w2.ownsRow (q + 1) 35 3 cv i (funCells g Bk C i) := by
        refine (hown.alloc _).kept (row := none) ⟨hB2.os, hB2.tape, hB2.output, hB2.size, fun k hk _ => hB2.block k hk⟩ ?_
        cases hv : cv.ownBlock with
        | none => exact Or.inl rfl
        | some k => exact Or.inr (by simp)
      have x0 : w2.cell? ⟨wr.heap.size, 0, none⟩ = some (.int .i64 (g.f i).p) := by rw [hB2.cell (by simp)]; go_simp
      have x1 : w2.cell? ⟨wr.heap.size, 1, none⟩ = some (.int .i64 (g.f i).l) := by rw [hB2.cell (by simp)]; go_simp
      have x2 : w2.cell? ⟨wr.heap.size, 2, none⟩ = some (.slice (g.f i).a (g.f i).n (g.f i).c) := by rw [hB2.cell (by simp)]; go_simp
      have xq : w2.cell? ⟨q, 0, none⟩ = some cv := by rw [hB2.cell (by simp; omega)]; go_simp
      have xf : w2.frozen? ⟨q, 0, none⟩ = false := by rw [hB2.frozen (by simp; omega)]; go_simp
      have hB2w : Below wr.heap.size wr w2 := ((Below.refl _ _).alloc (Nat.le_refl _) _).trans (hB2.mono (by simp))
      have hsz2 : wr.heap.size + 1 ≤ w2.heap.size := by rw [← hsF]; exact hB2.size
      have hlcI : ((g.f i).n : Int) ≤ (lc : Int) := by omega
      have hlb0 : wr.heap.size + 1 ≤ lb := hlb1
      clear hgrow2 hown1 hB1 HLVB hsz1 hat2 hB2 c0 c1 c2 k0 hcv hcf hown2 hfinF hsF hlb1
      obtain ⟨fb, hfb⟩ : ∃ fb, fb = wr.heap.size := ⟨_, rfl⟩
      rw [← hfb] at x0 x1 x2 ⊢
      have hfb1 : fb < w2.heap.size := by omega
      have hq2z : q < w2.heap.size := by omega
      have hfbq : q < fb := by omega
      have hcvb : ∀ k, cv.ownBlock = some k → q + 1 ≤ k ∧ k < wr.heap.size := hown.lt
      have HCVB := (show Hid _ from hcvb); clear hcvb
      have HFB := (show Hid _ from hfb); clear hfb
      go_wp2_with fail
      go_region_law ((refine step_append_lies _ rfl (.tmp 29) (.tmp 40) 22 rfl (q + 1) 35 i35 _ 3 40 Tryd.underlying22 hi35 hz35 hs35 hb35 rfl (by decide) cv i (funCells g Bk C i) (by first | rfl | simp [Act.eval, Act.put]) (by exact hownC.alloc _) ⟨w2.heap.size, 0, none⟩ 1 1 [.int .i64 (g.f i).p, .int .i64 (g.f i).l, .slice (some ⟨lb, 0, none⟩) (g.f i).n lc] (by first | rfl | simp [Act.eval, Act.put]) rfl (World.news_of_block (cs := #[.int .i64 (g.f i).p, .int .i64 (g.f i).l, .slice (some ⟨lb, 0, none⟩) (g.f i).n lc]) (t := 35) (fr := (0, 0)) (by exact Go.Deep.blk_alloc_new _ _)) (funRow_one _ _ _ _ _) (by omega) (by unfold maxLen; omega) (by omega) (by simp; omega) (w2.heap.size + 1) (by simp) ?_; intro cb cc w5 hown5 hgrow5 hat5 hlt5; obtain ⟨yq, yf, hLN⟩ := lent_append hown HCOPY.out HINJ.out hbel hsz hB2w hcopyN xq xf ⟨hgrow5.os, hgrow5.tape, hgrow5.output, hgrow5.size, hgrow5.block⟩ hown5; clear hown5 hgrow5 hat5 hlt5))
      all_goals
        go_wp2_with fail
        go_roundw
        case rel => exact ⟨i + 1, by omega, by go_num, hLN⟩
        case measure => simp [intOf]; omega
    · have hin : i = g.n := by omega
      subst hin
      clear k0
      have hwz1 : w.heap.size + 1 < wr.heap.size := by omega
      have k0 : wr.cell? ⟨w.heap.size, 0, none⟩ = some (.slice g.a g.n g.c) := by rw [hbel.cell (by show w.heap.size < q; omega)]; exact p0
      have m0 : wr.cell? ⟨w.heap.size + 1, 0, none⟩ = some (.slice none 0 0) := by rw [hbel.cell (by show w.heap.size + 1 < q; omega)]; exact r0
      have mf : wr.frozen? ⟨w.heap.size + 1, 0, none⟩ = false := by rw [hbel.frozen (by show w.heap.size + 1 < q; omega)]; exact rf
      go_wp2_with (at_builtin; go_must (refine wpList_append_lies _ rfl (.tmp 44) (.tmp 46) 22 rfl (q + 1) 35 i35 _ 3 40 Tryd.underlying22 hi35 hz35 hs35 hb35 rfl (by decide) cv g.n (funCells g Bk C g.n) rfl (hown.alloc _) ⟨wr.heap.size, 0, none⟩ 1 1 [.int .i64 (-7070), .int .i64 0, .slice none 0 0] rfl rfl (World.news_of_block (cs := #[.int .i64 (-7070), .int .i64 0, .slice none 0 0]) (t := 35) (fr := (0, 0)) (Go.Deep.blk_alloc_new _ _)) sentinel_one (by omega) (by unfold maxLen; omega) (by omega) (by simp; omega) (wr.heap.size + 1) (by simp) ?_))
      intro cb cc w5 hown5 hgrow5 hat5 hlt5
      have hcvb := hown.lt
      have hne : ∀ b, b < q + 1 → some b ≠ cv.ownBlock := fun b hb e => by have := (hcvb b e.symm).1; omega
      have hs5 : wr.heap.size + 1 ≤ w5.heap.size := by have := hgrow5.size; simpa using this
      have z0 : w5.cell? ⟨w.heap.size, 0, none⟩ = some (.slice g.a g.n g.c) := by rw [hgrow5.cell_far _ (by simp; omega) (hne _ (by show w.heap.size < q + 1; omega))]; go_simp
      have z1 : w5.cell? ⟨w.heap.size + 1, 0, none⟩ = some (.slice none 0 0) := by rw [hgrow5.cell_far _ (by simp; omega) (hne _ (by show w.heap.size + 1 < q + 1; omega))]; go_simp
      have z2 : w5.frozen? ⟨w.heap.size + 1, 0, none⟩ = false := by rw [hgrow5.frozen_far _ (by simp; omega) (hne _ (by show w.heap.size + 1 < q + 1; omega))]; go_simp
      have zq : w5.cell? ⟨q, 0, none⟩ = some cv := by rw [hgrow5.cell_far _ (by simp; omega) (hne _ (by show q < q + 1; omega))]; go_simp
      have zf : w5.frozen? ⟨q, 0, none⟩ = false := by rw [hgrow5.frozen_far _ (by simp; omega) (hne _ (by show q < q + 1; omega))]; go_simp
      obtain ⟨hcb1, hcb2, hcc1, hcc2, _⟩ := owns_at hown5
      have hbel5 : Below q W1 w5 := (hbel.alloc (by omega) _).grown hgrow5 (by simp; omega) (fun k hk => by have := (hcvb k hk).1; omega)
      have hcopy5 : ∀ j, j < g.n → CopyAt (q + 1) w5 (g.f j) (Bk j) (C j) := fun j hj => by
        have hc := HCOPY.out j hj
        obtain ⟨h1, h2, _, _, cur, hcur⟩ := owns_at hc
        refine owns_block hc ?_
        rw [hgrow5.block (Bk j) (by simp; omega) (fun h => ?_)]
        · exact Below.heap_alloc _ _ _ h2
        · rcases hown.2 with ⟨h0, _⟩ | ⟨gb, cap, cur', hv, _, hh, _⟩
          · rw [h0] at h; cases h
          · rw [hv] at h
            have : Bk j = gb := by simpa [Value.ownBlock] using h
            rw [← this, hcur] at hh
            have := Option.some.inj hh
            simp at this
      have HC5 := (show Hid _ from hcopy5); clear hcopy5
      have hccI : (g.n : Int) ≤ (cc : Int) := by omega
      have hwz5 : w.heap.size < w5.heap.size := by omega
      have hwz51 : w.heap.size + 1 < w5.heap.size := by omega
      have hqz5 : q < w5.heap.size := by omega
      clear hgrow5 hat5 hlt5 hcvb hne
      go_wp2_with fail
      have hqne : ¬ q = w.heap.size + 1 := by omega
      have hqne' : ¬ w.heap.size + 1 = q := by omega
      have hres : (((w5.setCell ⟨q, 0, none⟩ (.slice (some ⟨cb, 0, none⟩) (g.n + 1) cc)).setCell ⟨q, 0, none⟩ (.slice (some ⟨cb, 0, none⟩) g.n cc)).setCell ⟨w.heap.size + 1, 0, none⟩ (.slice (some ⟨cb, 0, none⟩) g.n cc)).cell? ⟨w.heap.size + 1, 0, none⟩ = some (.slice (some ⟨cb, 0, none⟩) g.n cc) := by go_light; go_simp
      refine bodyPost_ret (v := .agg #[.slice (some ⟨cb, 0, none⟩) g.n cc]) (by simp [results, Tryd.results10, go_sem, hres]) rfl ⟨Bk, C, cb, cc, rfl, ?_, fun j hj => ?_, HINJ.out, ?_⟩
      · exact owns_base (ownsRow_setCell_below (ownsRow_setCell_below (ownsRow_setCell_below hown5 (a := ⟨q, 0, none⟩) (by show q < q + 1; omega) _) (a := ⟨q, 0, none⟩) (by show q < q + 1; omega) _) (a := ⟨w.heap.size + 1, 0, none⟩) (by show w.heap.size + 1 < q + 1; omega) _) (by omega)
      · have hc := HC5.out j hj
        have h1 := (owns_at hc).1
        refine owns_base (owns_block hc ?_) (by omega)
        rw [Below.heap_setCell _ _ _ _ (by show Bk j ≠ w.heap.size + 1; omega), Below.heap_setCell _ _ _ _ (by show Bk j ≠ q; omega), Below.heap_setCell _ _ _ _ (by show Bk j ≠ q; omega)]
      · exact (((hbel0.trans (hbel5.mono (by omega))).setCell (p := ⟨q, 0, none⟩) (by show w.heap.size ≤ q; omega) _).setCell (p := ⟨q, 0, none⟩) (by show w.heap.size ≤ q; omega) _).setCell (p := ⟨w.heap.size + 1, 0, none⟩) (by show w.heap.size ≤ w.heap.size + 1; omega) _

end Go.Proofs.YtbkmgoffiigdbaaDoor
