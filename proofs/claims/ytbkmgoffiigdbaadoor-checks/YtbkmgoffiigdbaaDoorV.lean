import Derived.Test.YtbkmgoffiigdbaaDoorS
import Derived.Deep.OwnRows
import Derived.Deep.QuietTactic
import Derived.BigQuiet
namespace Go.Proofs.YtbkmgoffiigdbaaDoor
open Go.RowKit

theorem But.drewN' {S : Nat → Prop} {a w : World} (h : But S a w) (n : Nat) : But S a (w.drewN n) := ⟨h.os, h.tape, h.output, h.size, h.block⟩

def copyOp (f : FnR) (t : Nat) : Int := if t < f.n then f.op t else -7070
def copyAr (f : FnR) (t : Nat) : Int := if t < f.n then f.ar t else 0

theorem copy_row {B : Nat} {w : World} {f : FnR} {b c : Nat} (h : CopyAt B w f b c) : ∃ F, w.rowIs b 37 (c * 2) F ∧ f.n + 2 ≤ c ∧ ∀ t, t < f.n + 2 → F (t * 2) = .int .i64 (copyOp f t) ∧ F (t * 2 + 1) = .int .i64 (copyAr f t) := by
  rcases h.2 with ⟨h0, _⟩ | ⟨g, cap, cur, hv, _, hh, hn, _, hs, ht⟩
  · cases h0
  · cases hv
    have hget : ∀ k, k < (f.n + 2) * 2 → cur[k]? = (insCells f ++ farTail)[k]? := fun k hk => by
      rw [← ht, List.getElem?_take, if_pos hk]; simp
    have hl : (insCells f).length = f.n * 2 := flat2_length _ _ _
    refine ⟨fun k => cur.getD k (.int .i64 0), ⟨cur, hh, hs, fun k hk => ?_⟩, hn, fun t htn => ?_⟩
    · simp only [Array.getD_eq_getD_getElem?]; rw [Array.getElem?_eq_getElem (by omega)]; rfl
    · simp only [Array.getD_eq_getD_getElem?]
      rw [hget (t * 2) (by omega), hget (t * 2 + 1) (by omega)]
      by_cases e : t < f.n
      · rw [List.getElem?_append_left (by omega), List.getElem?_append_left (by omega)]
        obtain ⟨h1, h2⟩ := flat2_get (a := fun j => .int .i64 (f.op j)) (b := fun j => .int .i64 (f.ar j)) e
        unfold insCells copyOp copyAr
        rw [h1, h2, if_pos e, if_pos e]
        exact ⟨rfl, rfl⟩
      · rw [List.getElem?_append_right (by omega), List.getElem?_append_right (by omega), hl]
        unfold copyOp copyAr
        rw [if_neg e, if_neg e]
        obtain rfl | rfl : t = f.n ∨ t = f.n + 1 := by omega
        · rw [show f.n * 2 - f.n * 2 = 0 by omega, show f.n * 2 + 1 - f.n * 2 = 1 by omega]; exact ⟨rfl, rfl⟩
        · rw [show (f.n + 1) * 2 - f.n * 2 = 2 by omega, show (f.n + 1) * 2 + 1 - f.n * 2 = 3 by omega]; exact ⟨rfl, rfl⟩

set_option maxRecDepth 100000 in
set_option maxHeartbeats 4000000 in
theorem codeReturned_any (B : Nat) (f : FnR) (b c : Nat) (w : World) (hB : B ≤ b) (hf : CodeIn B w f) (hc : CopyAt B w f b c) (hn16 : f.n * 16 ≤ 140737488351232) :
    Calls Tryd.prog 36 #[.slice (some ⟨b, 0, none⟩) f.n c, .slice f.a f.n f.c] w fun e w' => e = .returned (.bool true) ∧ But (· = b) w w' := by
  obtain ⟨F0, hrow0, hcap, hF0⟩ := copy_row hc
  have HF0 := (show Hid _ from hF0); clear hF0
  have hbw : b < w.heap.size := hrow0.lt
  have hcapI : (f.n : Int) + 2 ≤ (c : Int) := by omega
  have hc2 := (owns_at hc).2.2.2.1
  unfold maxLen at hc2
  go_enter Tryd.func36, Tryd.ntmps36
  go_wp2
  go_loopw [6, 7] (fun v vi wr => ∃ (i : Nat) (F : Nat → Value), i ≤ f.n + 2 ∧ vi = .int .i64 i ∧ v = .bool true ∧ But (· = b) w wr ∧ wr.rowIs b 37 (c * 2) F ∧ ∀ t, i ≤ t → t < f.n + 2 → F (t * 2) = .int .i64 (copyOp f t) ∧ F (t * 2 + 1) = .int .i64 (copyAr f t)) (fun _ vi _ => f.n + 2 - (intOf vi).toNat)
  case atStart => exact ⟨0, F0, by omega, rfl, rfl, But.refl _ _, hrow0, fun t _ ht => HF0.out t ht⟩
  case round =>
    obtain ⟨i, F, hi, rfl, rfl, hbut, hrow, hF⟩ := hrel
    have HF := (show Hid _ from hF); clear hF
    have hsz := hbut.size
    by_cases hlt : i < f.n + 2
    · obtain ⟨e0, e1⟩ := HF.out i (Nat.le_refl _) hlt
      have hltI : (i : Int) < (f.n : Int) + 2 := by omega
      have b0 := hrow.cell (i := i * 2) (by omega)
      have b1 := hrow.cell (i := i * 2 + 1) (by omega)
      have bf0 := hrow.frozen (i * 2)
      have bf1 := hrow.frozen (i * 2 + 1)
      rw [e0] at b0
      rw [e1] at b1
      clear e0 e1
      have hbwr : b < wr.heap.size := by omega
      have hfin : ∀ (W : World) (u0 u1 : Value), But (· = b) w W → W.rowIs b 37 (c * 2) F → (∃ (i' : Nat) (F' : Nat → Value), i' ≤ f.n + 2 ∧ Value.int .i64 ((i : Int) + 1) = .int .i64 i' ∧ But (· = b) w ((W.setCell ⟨b, i * 2, none⟩ u0).setCell ⟨b, i * 2 + 1, none⟩ u1) ∧
          ((W.setCell ⟨b, i * 2, none⟩ u0).setCell ⟨b, i * 2 + 1, none⟩ u1).rowIs b 37 (c * 2) F' ∧ ∀ t, i' ≤ t → t < f.n + 2 → F' (t * 2) = .int .i64 (copyOp f t) ∧ F' (t * 2 + 1) = .int .i64 (copyAr f t)) := by
        intro W u0 u1 hW hWr
        refine ⟨i + 1, _, by omega, by go_num, (hW.setCell (p := ⟨b, i * 2, none⟩) (Or.inl rfl) _).setCell (p := ⟨b, i * 2 + 1, none⟩) (Or.inl rfl) _, (hWr.set (i * 2) u0).set (i * 2 + 1) u1, fun t ht ht2 => ?_⟩
        simp only [if_neg (show ¬ t * 2 = i * 2 by omega), if_neg (show ¬ t * 2 = i * 2 + 1 by omega), if_neg (show ¬ t * 2 + 1 = i * 2 by omega), if_neg (show ¬ t * 2 + 1 = i * 2 + 1 by omega)]
        exact HF.out t (by omega) ht2
      have HFIN := (show Hid _ from hfin); clear hfin
      by_cases hin : i < f.n
      · obtain ⟨ha, hfb, hfc⟩ := hf.2 (by omega)
        obtain ⟨s0, s1⟩ := hfc i hin
        have hfbb : ¬ f.b = b := by omega
        rw [← hbut.cell (p := ⟨f.b, _, none⟩) (by show f.b < w.heap.size; omega) hfbb] at s0 s1
        rw [show copyOp f i = f.op i by simp [copyOp, hin]] at b0
        rw [show copyAr f i = f.ar i by simp [copyAr, hin]] at b1
        have hfbw : f.b < wr.heap.size := by omega
        rw [ha]
        clear ha hfc
        go_wp2_with fail
        go_quiet (fail)
        go_wp2_with fail
        go_roundw
        case rel =>
          obtain ⟨i', F', q1, q2, q3, q4, q5⟩ := HFIN.out _ (.int .i64 26) (.int .i64 (-7070)) ((hbut.alloc _).drewN' nq) (hrow.alloc _)
          exact ⟨i', F', q1, q2, rfl, q3, q4, q5⟩
        case measure => simp [intOf]; omega
      · rw [show copyOp f i = -7070 by simp [copyOp, hin]] at b0
        rw [show copyAr f i = 0 by simp [copyAr, hin]] at b1
        go_wp2_with fail
        go_quiet (fail)
        go_wp2_with fail
        go_roundw
        case rel =>
          obtain ⟨i', F', q1, q2, q3, q4, q5⟩ := HFIN.out _ (.int .i64 26) (.int .i64 (-7070)) ((hbut.alloc _).drewN' nq) (hrow.alloc _)
          exact ⟨i', F', q1, q2, rfl, q3, q4, q5⟩
        case measure => simp [intOf]; omega
    · have hltI : ¬ (i : Int) < (f.n : Int) + 2 := by omega
      go_wp2_with fail
      go_ret
      exact ⟨rfl, hbut⟩

end Go.Proofs.YtbkmgoffiigdbaaDoor
