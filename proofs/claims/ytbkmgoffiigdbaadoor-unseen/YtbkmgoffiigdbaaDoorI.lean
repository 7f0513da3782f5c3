import Derived.Test.YtbkmgoffiigdbaaDoorH
namespace Go.Proofs.YtbkmgoffiigdbaaDoor
open Go.RowKit

theorem info3 : (Tryd.prog.info? 3).map (fun i => (i.zero, i.size, i.bytes)) = some (some (.int .i64 0), 1, 8) := by kernel_rfl

def HeightsPost (g : PgR) (f : FnR) (w : World) (e : Ending) (w' : World) : Prop :=
  ∃ v ok, e = .returned (.tuple #[v, .bool ok]) ∧ (ok = true ↔ (flowOf g f).Fits) ∧ Below w.heap.size w w'
theorem heightsPost {g : PgR} {f : FnR} {w : World} {e : Ending} {w' : World} (v : Value) (ok : Bool) (he : e = .returned (.tuple #[v, .bool ok])) (hs : ok = true ↔ (flowOf g f).Fits) (hw : Below w.heap.size w w') : HeightsPost g f w e w' := ⟨v, ok, he, hs, hw⟩

set_option maxRecDepth 100000 in
set_option maxHeartbeats 4000000 in
theorem heights_any (B : Nat) (g : PgR) (f : FnR) (w : World) (hB : B ≤ w.heap.size) (hg : PgIn B w g) (hf : CodeIn B w f) (hgood : Good g f) :
    Calls Tryd.prog 35 #[.agg #[.slice g.a g.n g.c], .agg #[.int .i64 f.p, .int .i64 f.l, .slice f.a f.n f.c]] w fun e w' => HeightsPost g f w e w' := by
  have hn1 : 1 ≤ f.n := hgood.1
  have hn60 : f.n ≤ 60 := hgood.2.1
  have hmk := Go.run_make_row' (P := Tryd.prog) 31 3 (.int .i64 0) 8 Tryd.underlying31 info3 rfl .i64 .i64 f.n (by omega) (by omega)
  go_enter Tryd.func35, Tryd.ntmps35
  go_wp2
  have hbelow1 : Below w.heap.size w (((w.alloc (Obj.cells #[Value.slice g.a g.n g.c] 24)).alloc (Obj.cells #[Value.int IntKind.i64 f.p, Value.int IntKind.i64 f.l, Value.slice f.a f.n f.c] 35)).alloc (Obj.cells (madeCells #[Value.int IntKind.i64 0] f.n) 3)) := by repeat (first | exact Below.refl _ _ | refine Below.alloc ?_ (by first | omega | (simp; done) | (simp; omega)) _)
  have hrow1 : (((w.alloc (Obj.cells #[Value.slice g.a g.n g.c] 24)).alloc (Obj.cells #[Value.int IntKind.i64 f.p, Value.int IntKind.i64 f.l, Value.slice f.a f.n f.c] 35)).alloc (Obj.cells (madeCells #[Value.int IntKind.i64 0] f.n) 3)).rowIs (w.heap.size + 1 + 1) 3 f.n (fun _ => .int .i64 0) := by
    have := World.rowIs_made ((w.alloc (Obj.cells #[Value.slice g.a g.n g.c] 24)).alloc (Obj.cells #[Value.int IntKind.i64 f.p, Value.int IntKind.i64 f.l, Value.slice f.a f.n f.c] 35)) (.int .i64 0) f.n 3
    simpa using this
  have g0 : (((w.alloc (Obj.cells #[Value.slice g.a g.n g.c] 24)).alloc (Obj.cells #[Value.int IntKind.i64 f.p, Value.int IntKind.i64 f.l, Value.slice f.a f.n f.c] 35)).alloc (Obj.cells (madeCells #[Value.int IntKind.i64 0] f.n) 3)).cell? ⟨w.heap.size, 0, none⟩ = some (.slice g.a g.n g.c) := by go_simp
  have f0 : (((w.alloc (Obj.cells #[Value.slice g.a g.n g.c] 24)).alloc (Obj.cells #[Value.int IntKind.i64 f.p, Value.int IntKind.i64 f.l, Value.slice f.a f.n f.c] 35)).alloc (Obj.cells (madeCells #[Value.int IntKind.i64 0] f.n) 3)).cell? ⟨w.heap.size + 1, 0, none⟩ = some (.int .i64 f.p) := by go_simp
  have f1 : (((w.alloc (Obj.cells #[Value.slice g.a g.n g.c] 24)).alloc (Obj.cells #[Value.int IntKind.i64 f.p, Value.int IntKind.i64 f.l, Value.slice f.a f.n f.c] 35)).alloc (Obj.cells (madeCells #[Value.int IntKind.i64 0] f.n) 3)).cell? ⟨w.heap.size + 1, 1, none⟩ = some (.int .i64 f.l) := by go_simp
  have f2 : (((w.alloc (Obj.cells #[Value.slice g.a g.n g.c] 24)).alloc (Obj.cells #[Value.int IntKind.i64 f.p, Value.int IntKind.i64 f.l, Value.slice f.a f.n f.c] 35)).alloc (Obj.cells (madeCells #[Value.int IntKind.i64 0] f.n) 3)).cell? ⟨w.heap.size + 1, 2, none⟩ = some (.slice f.a f.n f.c) := by go_simp
  have hs1 : (((w.alloc (Obj.cells #[Value.slice g.a g.n g.c] 24)).alloc (Obj.cells #[Value.int IntKind.i64 f.p, Value.int IntKind.i64 f.l, Value.slice f.a f.n f.c] 35)).alloc (Obj.cells (madeCells #[Value.int IntKind.i64 0] f.n) 3)).heap.size = w.heap.size + 3 := by simp
  generalize (((w.alloc (Obj.cells #[Value.slice g.a g.n g.c] 24)).alloc (Obj.cells #[Value.int IntKind.i64 f.p, Value.int IntKind.i64 f.l, Value.slice f.a f.n f.c] 35)).alloc (Obj.cells (madeCells #[Value.int IntKind.i64 0] f.n) 3)) = W1 at *
  obtain ⟨hb, hhb⟩ : ∃ hb, hb = w.heap.size + 1 + 1 := ⟨_, rfl⟩
  rw [← hhb] at hrow1 ⊢
  have HHB := (show Hid _ from hhb); clear hhb
  have hhb1 : hb ≤ w.heap.size + 2 := by have := HHB.out; omega
  have hhb2 : w.heap.size + 2 ≤ hb := by have := HHB.out; omega
  clear hmk
  go_loopw [7] (fun v wr => ∃ i : Nat, 1 ≤ i ∧ i ≤ f.n ∧ v = .int .i64 i ∧ But (· = hb) W1 wr ∧ wr.rowIs hb 3 f.n (fun j => .int .i64 (if 1 ≤ j ∧ j < i then -1 else 0))) (fun v _ => f.n - (intOf v).toNat)
  case atStart => exact ⟨1, Nat.le_refl _, hn1, rfl, But.refl _ _, hrow1.congr (fun j _ => by rw [if_neg (by omega)])⟩
  case round =>
    obtain ⟨i, hi1, hi2, rfl, hbut, hrow⟩ := hrel
    by_cases hlt : i < f.n
    · have kh := hrow.cell hlt
      have kf := hrow.frozen i
      go_wp2
      go_roundw
      case rel => exact ⟨i + 1, by omega, by omega, by go_num, hbut.setCell (Or.inl rfl) _, (hrow.set i (.int .i64 (-1))).congr (fun j _ => by
        by_cases e : j = i
        · subst e; rw [if_pos rfl, if_pos (by omega)]
        · rw [if_neg e]
          by_cases h1 : 1 ≤ j ∧ j < i
          · rw [if_pos h1, if_pos (by omega)]
          · rw [if_neg h1, if_neg (by omega)])⟩
      case measure => simp [intOf]; omega
    · go_wp2
      have HH0 : Hid (∀ j, (fun j : Nat => if 1 ≤ j ∧ j < i then (-1 : Int) else 0) j = if 1 ≤ j ∧ j < i then (-1 : Int) else 0) := fun _ => rfl
      have hflow : (flowOf g f).n = f.n := rfl
      have HFL := (show Hid _ from hflow); clear hflow
      have hstart : (∀ a, a < f.n → -1 ≤ (if 1 ≤ a ∧ a < i then (-1 : Int) else 0) ∧ (if 1 ≤ a ∧ a < i then (-1 : Int) else 0) ≤ 10 ∧ (0 ≤ (if 1 ≤ a ∧ a < i then (-1 : Int) else 0) → (flowOf g f).Reach a (if 1 ≤ a ∧ a < i then (-1 : Int) else 0))) := by
        intro a ha
        by_cases h1 : 1 ≤ a ∧ a < i
        · rw [if_pos h1]; exact ⟨by omega, by omega, fun h => by omega⟩
        · rw [if_neg h1]; refine ⟨by omega, by omega, fun _ => ?_⟩
          obtain rfl : a = 0 := by omega
          exact (flowOf g f).reach_first
      have HST := (show Hid _ from hstart); clear hstart
      generalize hH0 : (fun j : Nat => if 1 ≤ j ∧ j < i then (-1 : Int) else 0) = H0 at *
      have e0 : ∀ j, H0 j = if 1 ≤ j ∧ j < i then (-1 : Int) else 0 := fun j => by rw [← hH0]
      have hrowH : wr.rowIs hb 3 f.n (fun j => .int .i64 (H0 j)) := hrow.congr fun j _ => by rw [e0]
      have hst : ∀ a, a < f.n → -1 ≤ H0 a ∧ H0 a ≤ 10 ∧ (0 ≤ H0 a → (flowOf g f).Reach a (H0 a)) := fun a ha => by rw [e0]; exact HST.out a ha
      have h00 : H0 0 = 0 := by rw [e0, if_neg (by omega)]
      have HST2 := (show Hid _ from hst); have H00 := (show Hid _ from h00)
      clear hst h00 e0 hH0 HST HH0 hrow
      go_loopg [8] (left f.n H0) (fun k _ wx => ∃ H : Nat → Int, left f.n H ≤ k ∧ But (· = hb) W1 wx ∧ wx.rowIs hb 3 f.n (fun j => .int .i64 (H j)) ∧ H 0 = 0 ∧ ∀ a, a < f.n → -1 ≤ H a ∧ H a ≤ 10 ∧ (0 ≤ H a → (flowOf g f).Reach a (H a)))
      case atStart => exact ⟨H0, Nat.le_refl _, hbut, hrowH, H00.out, HST2.out⟩
      case round =>
        obtain ⟨H, hk, hbutx, hrowx, hx0, hxr⟩ := hrel
        have HX0 := (show Hid _ from hx0); clear hx0
        have HXR := (show Hid _ from hxr); clear hxr
        have hszx := hbutx.size
        have hz0 : w.heap.size < wr.heap.size := by omega
        have hz1 : w.heap.size + 1 < wr.heap.size := by omega
        have kg : wr.cell? ⟨w.heap.size, 0, none⟩ = some (.slice g.a g.n g.c) := by rw [hbutx.cell (by show w.heap.size < _; omega) (by show ¬ w.heap.size = hb; omega)]; exact g0
        have k0 : wr.cell? ⟨w.heap.size + 1, 0, none⟩ = some (.int .i64 f.p) := by rw [hbutx.cell (by show w.heap.size + 1 < _; omega) (by show ¬ w.heap.size + 1 = hb; omega)]; exact f0
        have k1 : wr.cell? ⟨w.heap.size + 1, 1, none⟩ = some (.int .i64 f.l) := by rw [hbutx.cell (by show w.heap.size + 1 < _; omega) (by show ¬ w.heap.size + 1 = hb; omega)]; exact f1
        have k2 : wr.cell? ⟨w.heap.size + 1, 2, none⟩ = some (.slice f.a f.n f.c) := by rw [hbutx.cell (by show w.heap.size + 1 < _; omega) (by show ¬ w.heap.size + 1 = hb; omega)]; exact f2
        have hbwx : Below w.heap.size w wr := hbelow1.trans (hbutx.below (by omega) (fun k hk => by omega))
        have hgx : PgIn hb wr g := ((hg.mono hB).below hbwx).mono (by omega)
        have hfx : CodeIn hb wr f := ((hf.mono hB).below hbwx).mono (by omega)
        clear g0 f0 f1 f2
        go_wp2_with fail
        refine (spread_any hb g f H wr (by omega) hgx hfx hgood hrowx HXR.out).mono ?_
        rintro e w2 ⟨fr, ok, H', rfl, hsay, hbut2, hrow2⟩
        have hbw2 : Below w.heap.size w w2 := hbwx.trans (hbut2.below (by omega) (fun k hk => by omega))
        rcases hsay with ⟨rfl, hnot⟩ | ⟨rfl, hsp⟩
        · go_wp2_with fail
          go_ret2
          exact heightsPost _ false rfl ⟨fun h => (by cases h), fun h => absurd h hnot⟩ hbw2
        · rcases hsp with ⟨hs1', hs2', ⟨rfl, hse, hsh⟩ | ⟨rfl, hsl⟩⟩
          · go_wp2_with fail
            go_ret2
            exact heightsPost _ true rfl ⟨fun _ => Flow.fits_of_shut (H := H) (by show 0 < f.n; omega) HX0.out (fun a => (pushD_bd _).1) hsh, fun _ => rfl⟩ hbw2
          · have HSA := (show Hid _ from hs1'); have HSB := (show Hid _ from hs2'); clear hs1' hs2'
            go_wp2_with fail
            go_roundg (left f.n H')
            case measure => exact Nat.lt_of_lt_of_le hsl hk
            case rel => exact ⟨H', Nat.le_refl _, hbutx.trans hbut2, hrow2, by rw [HSB.out 0 (by rw [HX0.out]; omega)]; exact HX0.out, HSA.out⟩

end Go.Proofs.YtbkmgoffiigdbaaDoor
