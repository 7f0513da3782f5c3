import Derived.Test.YtbkmgoffiigdbaaDoorV
import Derived.Deep.RegionWith
import Derived.WalkLawsBesides
namespace Go.Proofs.YtbkmgoffiigdbaaDoor
open Go.RowKit

/-- A copy of a program lies in blocks from B on. -/
def CopyIn (B : Nat) (w : World) (g : PgR) (Bk C : Nat → Nat) (cb cc : Nat) : Prop :=
  w.ownsRow B 35 3 (.slice (some ⟨cb, 0, none⟩) (g.n + 1) cc) (g.n + 1) (funCells g Bk C g.n ++ [.int .i64 (-7070), .int .i64 0, .slice none 0 0]) ∧
    (∀ j, j < g.n → CopyAt B w (g.f j) (Bk j) (C j)) ∧ ∀ i j, i < g.n → j < g.n → Bk i = Bk j → i = j

theorem fun_row {B : Nat} {w : World} {g : PgR} {Bk C : Nat → Nat} {cb cc : Nat} (h : CopyIn B w g Bk C cb cc) : ∃ F, w.rowIs cb 35 (cc * 3) F ∧ g.n + 1 ≤ cc ∧
    (∀ t, t < g.n → F (t * 3) = .int .i64 (g.f t).p ∧ F (t * 3 + 1) = .int .i64 (g.f t).l ∧ F (t * 3 + 2) = .slice (some ⟨Bk t, 0, none⟩) (g.f t).n (C t)) ∧
    F (g.n * 3) = .int .i64 (-7070) ∧ F (g.n * 3 + 1) = .int .i64 0 ∧ F (g.n * 3 + 2) = .slice none 0 0 := by
  rcases h.1.2 with ⟨h0, _⟩ | ⟨gb, cap, cur, hv, _, hh, hn, _, hs, ht⟩
  · cases h0
  · cases hv
    have hget : ∀ k, k < (g.n + 1) * 3 → cur[k]? = (funCells g Bk C g.n ++ [.int .i64 (-7070), .int .i64 0, .slice none 0 0])[k]? := fun k hk => by
      rw [← ht, List.getElem?_take, if_pos hk]; simp
    have hl : (funCells g Bk C g.n).length = g.n * 3 := flat3_length _ _ _ _
    refine ⟨fun k => cur.getD k (.int .i64 0), ⟨cur, hh, hs, fun k hk => ?_⟩, hn, fun t htn => ?_, ?_, ?_, ?_⟩
    · simp only [Array.getD_eq_getD_getElem?]; rw [Array.getElem?_eq_getElem (by omega)]; rfl
    · simp only [Array.getD_eq_getD_getElem?]
      rw [hget (t * 3) (by omega), hget (t * 3 + 1) (by omega), hget (t * 3 + 2) (by omega), List.getElem?_append_left (by omega), List.getElem?_append_left (by omega), List.getElem?_append_left (by omega)]
      unfold funCells
      obtain ⟨h1, h2, h3⟩ := flat3_get (a := fun j => .int .i64 (g.f j).p) (b := fun j => .int .i64 (g.f j).l) (c := fun j => .slice (some ⟨Bk j, 0, none⟩) (g.f j).n (C j)) htn
      rw [h1, h2, h3]
      exact ⟨rfl, rfl, rfl⟩
    all_goals
      simp only [Array.getD_eq_getD_getElem?]
      rw [hget _ (by omega), List.getElem?_append_right (by omega), hl]
    · rw [show g.n * 3 - g.n * 3 = 0 by omega]; rfl
    · rw [show g.n * 3 + 1 - g.n * 3 = 1 by omega]; rfl
    · rw [show g.n * 3 + 2 - g.n * 3 = 2 by omega]; rfl

set_option maxRecDepth 100000 in
set_option maxHeartbeats 4000000 in
theorem returned_any (B : Nat) (g : PgR) (Bk C : Nat → Nat) (cb cc : Nat) (w : World) (hB : B ≤ w.heap.size) (hg : PgIn B w g) (hr : Reach g) (hc : CopyIn B w g Bk C cb cc) :
    Calls Tryd.prog 13 #[.agg #[.slice (some ⟨cb, 0, none⟩) g.n cc], .agg #[.slice g.a g.n g.c]] w fun e w' => e = .returned (.bool true) ∧ Below B w w' := by
  obtain ⟨F0, hrow0, hcap, hF0, hFa, hFb, hFc⟩ := fun_row hc
  have HF0 := (show Hid _ from hF0); clear hF0
  obtain ⟨hcb1, hcb2, _, hcc2, cur0, hcur0⟩ := owns_at hc.1
  unfold maxLen at hcc2
  have hn := hg.1
  have hcapI : (g.n : Int) + 1 ≤ (cc : Int) := by omega
  have b0 := hrow0.cell (i := g.n * 3) (by omega)
  have b2 := hrow0.cell (i := g.n * 3 + 2) (by omega)
  rw [hFa] at b0
  rw [hFc] at b2
  clear hFa hFb hFc
  have v0 : ((w.alloc (Obj.cells #[Value.slice (some ⟨cb, 0, none⟩) g.n cc] 24)).alloc (Obj.cells #[Value.slice g.a g.n g.c] 24)).cell? ⟨w.heap.size, 0, none⟩ = some (.slice (some ⟨cb, 0, none⟩) g.n cc) := by go_simp
  have v1 : ((w.alloc (Obj.cells #[Value.slice (some ⟨cb, 0, none⟩) g.n cc] 24)).alloc (Obj.cells #[Value.slice g.a g.n g.c] 24)).cell? ⟨w.heap.size + 1, 0, none⟩ = some (.slice g.a g.n g.c) := by go_simp
  have hbut0 : But (fun k => B ≤ k ∧ k < w.heap.size) w ((w.alloc (Obj.cells #[Value.slice (some ⟨cb, 0, none⟩) g.n cc] 24)).alloc (Obj.cells #[Value.slice g.a g.n g.c] 24)) := ((But.refl _ _).alloc _).alloc _
  have hrow1 : ((w.alloc (Obj.cells #[Value.slice (some ⟨cb, 0, none⟩) g.n cc] 24)).alloc (Obj.cells #[Value.slice g.a g.n g.c] 24)).rowIs cb 35 (cc * 3) F0 := (hrow0.alloc _).alloc _
  have hs1 : ((w.alloc (Obj.cells #[Value.slice (some ⟨cb, 0, none⟩) g.n cc] 24)).alloc (Obj.cells #[Value.slice g.a g.n g.c] 24)).heap.size = w.heap.size + 2 := by simp
  have heq : ∀ W : World, (binOp .eql 33 (.slice none 0 0) (.slice none 0 0)).run Tryd.prog W = .ok (.bool true) W := fun W => Go.Lib.run_eql_slice_nil W 33 37 none 0 0 0 0 Tryd.underlying33
  have hbut0' : Hid (∀ k, k < w.heap.size → ((w.alloc (Obj.cells #[Value.slice (some ⟨cb, 0, none⟩) g.n cc] 24)).alloc (Obj.cells #[Value.slice g.a g.n g.c] 24)).heap[k]? = w.heap[k]?) := fun k hk => by
    rw [Below.heap_alloc _ _ _ (by simp; omega), Below.heap_alloc _ _ _ hk]
  go_enter Tryd.func13, Tryd.ntmps13
  go_wp2
  clear v0 heq b0 b2
  generalize ((w.alloc (Obj.cells #[Value.slice (some ⟨cb, 0, none⟩) g.n cc] 24)).alloc (Obj.cells #[Value.slice g.a g.n g.c] 24)) = W1 at *
  have HINJ : Hid (∀ i j, i < g.n → j < g.n → Bk i = Bk j → i = j) := hc.2.2
  have HCP : Hid (∀ j, j < g.n → CopyAt B w (g.f j) (Bk j) (C j)) := hc.2.1
  have hBkne : ∀ j, j < g.n → Bk j ≠ cb ∧ B ≤ Bk j ∧ Bk j < w.heap.size := fun j hj => by
    obtain ⟨h1, h2, _, _, cur, hcur⟩ := owns_at (hc.2.1 j hj)
    refine ⟨fun e => ?_, h1, h2⟩
    rw [e, hcur0] at hcur
    have := Option.some.inj hcur
    simp at this
  have HBK := (show Hid _ from hBkne); clear hBkne
  go_loopw [6, 7] (fun v vi wr => ∃ (i : Nat) (F : Nat → Value), i ≤ g.n ∧ vi = .int .i64 i ∧ v = .bool true ∧ But (fun k => B ≤ k ∧ k < w.heap.size) W1 wr ∧ wr.rowIs cb 35 (cc * 3) F ∧
      (∀ t, i ≤ t → t < g.n → F (t * 3) = .int .i64 (g.f t).p ∧ F (t * 3 + 1) = .int .i64 (g.f t).l ∧ F (t * 3 + 2) = .slice (some ⟨Bk t, 0, none⟩) (g.f t).n (C t)) ∧
      ∀ t, i ≤ t → t < g.n → CopyAt B wr (g.f t) (Bk t) (C t)) (fun _ vi _ => g.n - (intOf vi).toNat)
  case atStart => exact ⟨0, F0, Nat.zero_le _, rfl, rfl, But.refl _ _, hrow1, fun t _ ht => HF0.out t ht, fun t _ ht => owns_block (HCP.out t ht) (hbut0'.out _ (HBK.out t ht).2.2)⟩
  case round =>
    obtain ⟨i, F, hi, rfl, rfl, hbut, hrow, hF, hcp⟩ := hrel
    have HF := (show Hid _ from hF); clear hF
    have HCPi := (show Hid _ from hcp); clear hcp
    have hsz := hbut.size
    have hbutw : But (fun k => B ≤ k ∧ k < w.heap.size) w wr := hbut0.trans hbut
    have hbelw : Below B w wr := hbutw.below hB (fun k hk => by omega)
    have k1 : wr.cell? ⟨w.heap.size + 1, 0, none⟩ = some (.slice g.a g.n g.c) := by rw [hbut.cell (by show w.heap.size + 1 < _; omega) (by show ¬ (B ≤ w.heap.size + 1 ∧ w.heap.size + 1 < w.heap.size); omega)]; exact v1
    have hz1 : w.heap.size + 1 < wr.heap.size := by omega
    by_cases hlt : i < g.n
    · obtain ⟨ha, hb, hcell⟩ := hg.2.1 (by omega)
      obtain ⟨c0, c1, c2⟩ := hcell i hlt
      rw [← hbelw.cell (p := ⟨g.b, _, none⟩) hb] at c0 c1 c2
      have hbw : g.b < wr.heap.size := by omega
      obtain ⟨e0, e1, e2⟩ := HF.out i (Nat.le_refl _) hlt
      have d0 := hrow.cell (i := i * 3) (by omega)
      have d1 := hrow.cell (i := i * 3 + 1) (by omega)
      have d2 := hrow.cell (i := i * 3 + 2) (by omega)
      have z0 := hrow.frozen (i * 3)
      have z1 := hrow.frozen (i * 3 + 1)
      have z2 := hrow.frozen (i * 3 + 2)
      rw [e0] at d0
      rw [e1] at d1
      rw [e2] at d2
      clear e0 e1 e2 hcell
      have hcbw : cb < wr.heap.size := hrow.lt
      have hltI : (i : Int) < (g.n : Int) + 1 := by omega
      rw [ha] at k1
      have HA := (show Hid _ from ha); clear ha
      have hn16 := (hr.2 i hlt).1
      obtain ⟨hk1, hk2, hk3⟩ := HBK.out i hlt
      have HCR : Hid (∀ W, (W.heap.size = wr.heap.size) → (∀ k : Nat, W.heap[k]? = wr.heap[k]?) → Calls Tryd.prog 36 #[.slice (some ⟨Bk i, 0, none⟩) (g.f i).n (C i), .slice (g.f i).a (g.f i).n (g.f i).c] W fun e w' => e = .returned (.bool true) ∧ But (· = Bk i) W w') := by
        intro W hWs hW
        have hfW : CodeIn B W (g.f i) := ((hg.2.2 i hlt).below hbelw).below ⟨rfl, rfl, rfl, Nat.le_of_eq rfl, fun k _ => rfl⟩ |> fun h => ⟨h.1, fun hn => by
          obtain ⟨p1, p2, p3⟩ := h.2 hn
          refine ⟨p1, p2, fun j hj => ?_⟩
          rw [World.cell?_of_block (w := wr) (w' := W) (hW _), World.cell?_of_block (w := wr) (w' := W) (hW _)]
          exact p3 j hj⟩
        exact codeReturned_any B (g.f i) (Bk i) (C i) W hk2 hfW (owns_block (HCPi.out i (Nat.le_refl _) hlt) (hW _)) hn16
      go_wp2_with fail
      go_quiet (fail)
      go_wp2_with fail
      go_region_with ((go_at_call 36; refine (HCR.out _ ?_ ?_).mono ?_; exact rfl; exact (fun _ => rfl); rintro e w2 ⟨rfl, hbut2⟩))
      all_goals
        have hne2 : ¬ cb = Bk i := fun e => hk1 e.symm
        have hsz2 : wr.heap.size ≤ w2.heap.size := hbut2.size
        have hrow2 : w2.rowIs cb 35 (cc * 3) F := hrow.of_block (hbut2.block cb hcbw hne2)
        have hcb2' : cb < w2.heap.size := by omega
        have y0 := hrow2.cell (i := i * 3) (by omega)
        have y1 := hrow2.cell (i := i * 3 + 1) (by omega)
        have y2 := hrow2.cell (i := i * 3 + 2) (by omega)
        have yz0 := hrow2.frozen (i * 3)
        have yz1 := hrow2.frozen (i * 3 + 1)
        have yz2 := hrow2.frozen (i * 3 + 2)
        have hbw2 : But (fun k => B ≤ k ∧ k < w.heap.size) W1 w2 := hbut.trans ⟨hbut2.os, hbut2.tape, hbut2.output, hbut2.size, fun k hk hs => hbut2.block k hk (fun e => hs ⟨by rw [e]; exact hk2, by rw [e]; exact hk3⟩)⟩
        have hcp2 : ∀ t, i + 1 ≤ t → t < g.n → CopyAt B w2 (g.f t) (Bk t) (C t) := fun t h1 h2 => by
          have hct := HCPi.out t (by omega) h2
          refine owns_block hct (hbut2.block (Bk t) (owns_at hct).2.1 (fun e => ?_))
          have := HINJ.out t i h2 hlt e; omega
        have HCP2 := (show Hid _ from hcp2); clear hcp2
        clear hbut2 d0 d1 d2 c0 c1 c2 z0 z1 z2 k1 HCR
        go_wp2_with fail
        go_roundw
        case rel =>
          refine ⟨i + 1, _, by omega, by go_num, rfl, ((hbw2.setCell (p := ⟨cb, i * 3, none⟩) (Or.inl ⟨hcb1, hcb2⟩) _).setCell (p := ⟨cb, i * 3 + 1, none⟩) (Or.inl ⟨hcb1, hcb2⟩) _).setCell (p := ⟨cb, i * 3 + 2, none⟩) (Or.inl ⟨hcb1, hcb2⟩) _,
            ((hrow2.set (i * 3) _).set (i * 3 + 1) _).set (i * 3 + 2) _, fun t h1 h2 => ?_, fun t h1 h2 => owns_block (HCP2.out t h1 h2) ?_⟩
          · simp only [if_neg (show ¬ t * 3 = i * 3 by omega), if_neg (show ¬ t * 3 = i * 3 + 1 by omega), if_neg (show ¬ t * 3 = i * 3 + 2 by omega), if_neg (show ¬ t * 3 + 1 = i * 3 by omega), if_neg (show ¬ t * 3 + 1 = i * 3 + 1 by omega), if_neg (show ¬ t * 3 + 1 = i * 3 + 2 by omega), if_neg (show ¬ t * 3 + 2 = i * 3 by omega), if_neg (show ¬ t * 3 + 2 = i * 3 + 1 by omega), if_neg (show ¬ t * 3 + 2 = i * 3 + 2 by omega)]
            exact HF.out t (by omega) h2
          · have := (HBK.out t h2).1
            rw [Below.heap_setCell _ _ _ _ this, Below.heap_setCell _ _ _ _ this, Below.heap_setCell _ _ _ _ this]
        case measure => simp [intOf]; omega
    · go_wp2_with fail
      go_ret
      exact ⟨rfl, hbelw⟩

end Go.Proofs.YtbkmgoffiigdbaaDoor
