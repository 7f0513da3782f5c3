import Derived.Test.YtbkmgoffiigdbaaDoorMA
import Derived.Test.YtbkmgoffiigdbaaDoorMP
import Derived.Test.YtbkmgoffiigdbaaDoorMG
import Derived.Test.YtbkmgoffiigdbaaDoorMQ
import Derived.Test.YtbkmgoffiigdbaaDoorMV
import Derived.Deep.RegionHeldLaw
import Derived.WalkSmall
namespace Go.Proofs.YtbkmgoffiigdbaaDoor
open Go.RowKit

/-- A list of numbers in memory. -/
def RawIn (B : Nat) (w : World) (a : Option Addr) (n b o : Nat) (R : Nat → Int) : Prop :=
  n ≤ 1152921504606846976 ∧ (0 < n → a = some ⟨b, o, none⟩ ∧ b < B ∧ ∀ i, i < n → w.cell? ⟨b, o + i, none⟩ = some (.int .i64 (R i))) ∧ ∀ i, -9223372036854775808 ≤ R i ∧ R i ≤ 9223372036854775807

def BodyPost (R : Nat → Int) (n : Nat) (w : World) (e : Ending) (w' : World) : Prop :=
  ∃ mb, e = .returned (.pointer (some ⟨mb, 0, none⟩)) ∧ w.heap.size ≤ mb ∧ MakerAt w' mb (bodyTo R (min n 6)) ∧ Below w.heap.size w w'
theorem bodyPost' {R : Nat → Int} {n mb i : Nat} {w : World} {e : Ending} {w' : World} (he : e = .returned (.pointer (some ⟨mb, 0, none⟩))) (hmb : w.heap.size ≤ mb) (hi : i ≤ n ∧ i ≤ 6) (hx : ¬ (i < n ∧ i < 6)) (hM : MakerAt w' mb (bodyTo R i)) (hB : Below w.heap.size w w') : BodyPost R n w e w' := by
  refine ⟨mb, he, hmb, ?_, hB⟩
  rw [show min n 6 = i by omega]; exact hM

theorem pickI_bd (c : Int) : 0 ≤ pickI c 1099511627776 ∧ pickI c 1099511627776 < 1099511627776 := by unfold pickI; split <;> omega
theorem piece_lo {c : Int} {len : Nat} (h : pickI c 1099511627776 % 18 < 8) : piece c len = pieceV (pickI c 1099511627776 % 18).toNat (pickI c 1099511627776 / 18 % 9) len := by unfold piece; rw [if_pos h]
theorem piece_hi {c : Int} {len : Nat} (h : ¬ pickI c 1099511627776 % 18 < 8) : piece c len = pieceO (pickI c 1099511627776 % 18 - 8).toNat (pickI c 1099511627776 / 18 % 9) len := by unfold piece; rw [if_neg h]

set_option maxRecDepth 100000 in
set_option maxHeartbeats 8000000 in
theorem body_any (a : Option Addr) (n c b o : Nat) (R : Nat → Int) (w : World) (hr : RawIn w.heap.size w a n b o R) :
    Calls Tryd.prog 37 #[.slice a n c] w fun e w' => BodyPost R n w e w' := by
  have HR := (show Hid (RawIn w.heap.size w a n b o R) from hr); clear hr
  go_enter Tryd.func37, Tryd.ntmps37
  go_wp2_with fail
  have hcv0 : ∃ cv, MakerCv (w.alloc (Obj.cells #[Value.slice none 0 0] 76)) w.heap.size [] cv := ⟨.slice none 0 0, by go_simp, by go_simp, World.ownsRow_nil _ _ _ _, by simp⟩
  have hB0 : Below w.heap.size w (w.alloc (Obj.cells #[Value.slice none 0 0] 76)) := Below.alloc (Below.refl _ _) (Nat.le_refl _) _
  generalize (w.alloc (Obj.cells #[Value.slice none 0 0] 76)) = W at *
  obtain ⟨mb, hmb⟩ : ∃ mb, mb = w.heap.size := ⟨_, rfl⟩
  rw [← hmb] at hcv0
  rw [← hmb]
  have hmb1 : w.heap.size ≤ mb := by omega
  clear hmb
  obtain ⟨cv, hcv⟩ := hcv0
  obtain ⟨h1, h2, h3, h4⟩ := id hcv
  obtain ⟨i37, hi37, hz37, hs37, hb37⟩ := info_parts info37'
  have h4a : mb < W.heap.size + 1 := by omega
  have h4b : mb < W.heap.size + 1 + 1 := by omega
  have h4c : mb < W.heap.size + 1 + 1 + 1 := by omega
  go_region_law ((first | (refine step_append_lies _ rfl (.tmp 12) (.tmp 15) 33 rfl (mb + 1) 37 i37 _ 2 16 Tryd.underlying33 hi37 hz37 hs37 hb37 rfl (by decide) cv 0 (cellsL []) (by rfl) (by repeat (first | exact h3 | exact h3.drew | refine World.ownsRow.alloc ?_ _ | refine World.ownsRow.drew ?_)) _ 2 2 (cellsL [(0, 0), (3, 0)]) (by rfl) rfl (World.news_of_block (cs := #[.int .i64 0, .int .i64 (0), .int .i64 3, .int .i64 (0)]) (t := 37) (fr := (0, 0)) (by first | exact blk_at (by simp) | (exact blk_at rfl))) (cellsL_one _) (by omega) (by unfold maxLen; omega) (by omega) (by first | omega | (simp; done) | (simp; omega)) _ rfl ?_; intro gq capq w5 hown5 hgrow5 hat5 hlt5; obtain ⟨y0, y1, y2, hM, hBl⟩ := maker_app (l := []) (new := [(0, 0), (3, 0)]) hcv (by repeat (first | exact Below.refl _ _ | refine Below.drew ?_ | refine Below.alloc ?_ (by first | omega | (simp; done) | (simp; omega)) _)) hgrow5 rfl hown5; clear hown5 hgrow5 hat5 hlt5) | (go_simp; go_at_call 39; refine (at_any _ _ _).mono ?_; rintro e w' ⟨rfl, rfl⟩)))
  all_goals
    have hM0 : MakerAt (w5.setCell ⟨mb, 0, none⟩ (.slice (some ⟨gq, 0, none⟩) 2 capq)) mb (bodyTo R 0) := hM
    have hBl0 : Below w.heap.size w (w5.setCell ⟨mb, 0, none⟩ (.slice (some ⟨gq, 0, none⟩) 2 capq)) := hB0.trans (Below.mono hBl hmb1)
    clear hM hBl h1 h2 h3 h4 hcv h4a h4b h4c y0 y1 y2 hi37 hz37 hs37 hb37 hB0
    generalize (w5.setCell ⟨mb, 0, none⟩ (.slice (some ⟨gq, 0, none⟩) 2 capq)) = W2 at *
    go_wp2_with fail
    go_loopw [4] (fun v wr => ∃ i : Nat, (i ≤ n ∧ i ≤ 6) ∧ v = .int .i64 i ∧ MakerAt wr mb (bodyTo R i) ∧ Below w.heap.size w wr) (fun v _ => 6 - (intOf v).toNat)
    case atStart => exact ⟨0, ⟨Nat.zero_le _, Nat.zero_le _⟩, rfl, hM0, hBl0⟩
    case round =>
      clear hM0 hBl0
      obtain ⟨i, hi, rfl, hM, hbel⟩ := hrel
      by_cases hlt : i < n ∧ i < 6
      · obtain ⟨hin, hi6⟩ := hlt
        have HMX := (show Hid _ from hi); clear hi
        obtain ⟨ha, hbz, hcell⟩ := HR.out.2.1 (by omega)
        have hsz := hbel.size
        have hbw : b < wr.heap.size := by omega
        have hci : wr.cell? ⟨b, o + i, none⟩ = some (.int .i64 (R i)) := by
          rw [hbel.cell (p := ⟨b, o + i, none⟩) hbz]; exact hcell i hin
        have hRi := HR.out.2.2 i
        have hlen := bodyTo_len R i
        clear hcell
        subst ha
        go_wp2_with (go_at_call 31; refine (pick_any _ _ hRi.1 hRi.2).mono ?_; rintro e w7 ⟨rfl, hB7⟩)
        all_goals
          have hX := pickI_bd (R i)
          have e2 : (wrap64 ((pickI (R i) 1099511627776).tdiv 18)).tmod 9 = pickI (R i) 1099511627776 / 18 % 9 := by
            rw [← Go.IntWalk.i64_left, Go.IntWalk.i64_quo _ _ (by omega), mod_t _ _ (by omega)]
          have e1 : (pickI (R i) 1099511627776).tmod 18 = pickI (R i) 1099511627776 % 18 := mod_t _ _ hX.1
          have hM7 : MakerAt w7 mb (bodyTo R i) := by
            obtain ⟨cv', hcv'⟩ := hM
            exact ⟨cv', hcv'.below hB7⟩
          have hbel7 : Below w.heap.size w w7 := hbel.trans (hB7.mono hsz)
        · have hlt8 : (pickI (R i) 1099511627776).tmod 18 < 8 := by assumption
          rw [e2]
          simp only [e1] at hlt8 ⊢
          refine (values_any mb (bodyTo R i) _ _ w7 hM7 (by omega) (by omega) (by omega) hlt8 (by omega)).mono ?_
          rintro e w8 ⟨rfl, hM8, hB8⟩
          rw [← piece_lo hlt8] at hM8
          have hbel8 : Below w.heap.size w w8 := hbel7.trans (Below.mono hB8 hmb1)
          clear hM hM7 hB7 hB8 hbel7 hbel hci e1 e2 hX hlt8 hRi
          go_wp2_with fail
          go_roundw
          case rel => exact ⟨i + 1, by omega, by go_num, hM8, hbel8⟩
          case measure => simp [intOf]; omega
        · have hlt8 : ¬ (pickI (R i) 1099511627776).tmod 18 < 8 := by omega
          rw [e1] at hlt8
          have e4 : wrap64 (pickI (R i) 1099511627776 % 18 - 8) = pickI (R i) 1099511627776 % 18 - 8 := by
            rw [← Go.IntWalk.i64_left]; exact Go.IntWalk.i64_in _ (by omega)
          rw [e2]
          simp only [e1, e4]
          refine (objects_any mb (bodyTo R i) _ _ w7 hM7 (by omega) (by omega) (by omega) (by omega) (by omega)).mono ?_
          rintro e w8 ⟨rfl, hM8, hB8⟩
          rw [← piece_hi hlt8] at hM8
          have hbel8 : Below w.heap.size w w8 := hbel7.trans (Below.mono hB8 hmb1)
          clear hM hM7 hB7 hB8 hbel7 hbel hci e1 e2 e4 hX hlt8 hRi
          go_wp2_with fail
          go_roundw
          case rel => exact ⟨i + 1, by omega, by go_num, hM8, hbel8⟩
          case measure => simp [intOf]; omega
      · have HLT := (show Hid _ from hlt)
        by_cases hin : i < n
        · have hi6 : ¬ i < 6 := fun h => hlt ⟨hin, h⟩
          clear hlt
          go_wp2_with fail
          go_ret
          exact bodyPost' rfl hmb1 hi HLT.out hM hbel
        · clear hlt
          go_wp2_with fail
          go_ret
          exact bodyPost' rfl hmb1 hi HLT.out hM hbel

end Go.Proofs.YtbkmgoffiigdbaaDoor
