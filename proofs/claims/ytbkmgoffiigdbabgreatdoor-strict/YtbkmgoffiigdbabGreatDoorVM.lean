import Derived.Test.YtbkmgoffiigdbabGreatDoorVB
import Derived.Test.YtbkmgoffiigdbabGreatDoorWMB7
import Derived.Test.YtbkmgoffiigdbabGreatDoorWMP
import Derived.Test.YtbkmgoffiigdbabGreatDoorWMA
import Derived.Test.YtbkmgoffiigdbabGreatDoorWMQ
import Derived.Deep.RegionHeldLaw
import Derived.WalkSmall
import Derived.RegionTactic
import Derived.BigRegion
namespace Go.Proofs.YtbkmgoffiigdbabGreatDoor
open Go.RowKit

theorem mod_t (n m : Int) (h : 0 ≤ n) : n.tmod m = n % m := Int.tmod_eq_emod_of_nonneg h
theorem wrap_t (n m : Int) (h : 0 ≤ n) (hm : m = 2 ∨ m = 3) : IntKind.wrap .i64 (1 + n.tmod m) = 1 + n % m := by
  rw [mod_t n m h]; exact Go.IntWalk.i64_in _ (by rcases hm with rfl | rfl <;> omega)

theorem values_any (mb : Nat) (l : List (Int × Int)) (k n : Int) (w : World) (hm : MakerAt w mb l) (hl : l.length ≤ 800) (hl0 : 0 < l.length) (hk0 : 0 ≤ k) (hk8 : k < 8) (hn0 : 0 ≤ n) :
    Calls Tryz.prog 39 #[.pointer (some ⟨mb, 0, none⟩), .int .i64 k, .int .i64 n] w fun e w' => MadePost mb (l ++ pieceV k.toNat n l.length) w e w' := by
  have hk : k = 0 ∨ k = 1 ∨ k = 2 ∨ k = 3 ∨ k = 4 ∨ k = 5 ∨ k = 6 ∨ k = 7 := by omega
  have hl' : l.length ≤ 1000 := by omega
  rcases hk with rfl | rfl | rfl | rfl | rfl | rfl | rfl | rfl
  · exact values_0 mb l n w hm hl'
  · exact values_1 mb l n w hm hl'
  · exact values_2 mb l n w hm hl'
  · exact values_3 mb l n w hm hl'
  · exact values_4 mb l n w hm hl'
  · have h := values_5 mb l n w hm hl' (n.tmod 2) (IntKind.i64.wrap (1 + n.tmod 2)) rfl rfl
    rw [wrap_t n 2 hn0 (Or.inl rfl)] at h
    exact h
  · exact values_6 mb l n w hm hl'
  · have h := values_7 mb l n w hm hl' hl0 (IntKind.i64.wrap ((l.length : Int) + 6)) rfl
    rw [Go.IntWalk.i64_in ((l.length : Int) + 6) (by omega)] at h
    exact h

theorem objects_any (mb : Nat) (l : List (Int × Int)) (k n : Int) (w : World) (hm : MakerAt w mb l) (hl : l.length ≤ 800) (hk0 : 0 ≤ k) (hk8 : k < 10) (hn0 : 0 ≤ n) (hn8 : n ≤ 8) :
    Calls Tryz.prog 40 #[.pointer (some ⟨mb, 0, none⟩), .int .i64 k, .int .i64 n] w fun e w' => MadePost mb (l ++ pieceO k.toNat n l.length) w e w' := by
  have hk : k = 0 ∨ k = 1 ∨ k = 2 ∨ k = 3 ∨ k = 4 ∨ k = 5 ∨ k = 6 ∨ k = 7 ∨ k = 8 ∨ k = 9 := by omega
  have hl' : l.length ≤ 1000 := by omega
  rcases hk with rfl | rfl | rfl | rfl | rfl | rfl | rfl | rfl | rfl | rfl
  · exact objects_0 mb l n w hm hl'
  · exact objects_1 mb l n w hm hl'
  · exact objects_2 mb l n w hm hl'
  · exact objects_3 mb l n w hm hl
  · exact objects_4 mb l n w hm hl
  · exact objects_5 mb l n w hm hl
  · exact objects_6 mb l n w hm hl
  · exact objects_7 mb l n w hm hl
  · exact objects_8 mb l n w hm hl hn0 hn8
  · have h := objects_9 mb l n w hm hl' (n.tmod 3) (IntKind.i64.wrap (1 + n.tmod 3)) rfl rfl
    rw [wrap_t n 3 hn0 (Or.inr rfl), mod_t n 3 hn0] at h
    exact h

theorem pieceV_len (k : Nat) (n : Int) (len : Nat) : 1 ≤ (pieceV k n len).length ∧ (pieceV k n len).length ≤ 7 := by
  unfold pieceV; repeat' split
  all_goals simp
theorem pieceO_len (k : Nat) (n : Int) (len : Nat) : 1 ≤ (pieceO k n len).length ∧ (pieceO k n len).length ≤ 7 := by
  unfold pieceO guardL; repeat' split
  all_goals simp
theorem piece_len (c : Int) (len : Nat) : 1 ≤ (piece c len).length ∧ (piece c len).length ≤ 7 := by
  unfold piece; split
  · exact pieceV_len _ _ _
  · exact pieceO_len _ _ _
theorem bodyTo_len (R : Nat → Int) (i : Nat) : 2 ≤ (bodyTo R i).length ∧ (bodyTo R i).length ≤ 2 + 7 * i := by
  induction i with
  | zero => simp [bodyTo]
  | succ i ih =>
    have := piece_len (R i) (bodyTo R i).length
    simp only [bodyTo, List.length_append]
    omega

end Go.Proofs.YtbkmgoffiigdbabGreatDoor

namespace Go.Proofs.YtbkmgoffiigdbabGreatDoor
open Go.RowKit

/-- A list of numbers in memory. -/
def RawIn (B : Nat) (w : World) (a : Option Addr) (n b o : Nat) (R : Nat → Int) : Prop :=
  n ≤ 1152921504606846976 ∧ (0 < n → a = some ⟨b, o, none⟩ ∧ b < B ∧ ∀ i, i < n → w.cell? ⟨b, o + i, none⟩ = some (.int .i64 (R i))) ∧ ∀ i, -9223372036854775808 ≤ R i ∧ R i ≤ 9223372036854775807

def BodyPost (R : Nat → Int) (n : Nat) (w : World) (e : Ending) (w' : World) : Prop :=
  ∃ mb, e = .returned (.pointer (some ⟨mb, 0, none⟩)) ∧ w.heap.size ≤ mb ∧ MakerAt w' mb (bodyTo R (min n 6)) ∧ Below w.heap.size w w'
theorem bodyPost' {R : Nat → Int} {n mb i : Nat} {w : World} {e : Ending} {w' : World} (he : e = .returned (.pointer (some ⟨mb, 0, none⟩))) (hmb : w.heap.size ≤ mb) (hi : i ≤ n ∧ i ≤ 6) (hx : ¬ (i < n ∧ i < 6)) (hM : MakerAt w' mb (bodyTo R i)) (hB : Below w.heap.size w w') : BodyPost R n w e w' := by
  refine ⟨mb, he, hmb, ?_, hB⟩
  rw [show min n 6 = i by omega]; exact hM

theorem pickI_bd (c : Int) : 0 ≤ pickI c 1099511627776 ∧ pickI c 1099511627776 < 1099511627776 := by unfold pickI; split <;> omega
theorem piece_lo {c : Int} {len : Nat} (h : pickI c 1099511627776 % 18 < 8) : piece c len = pieceV (pickI c 1099511627776 % 18).toNat (pickI c 1099511627776 / 18 % 9) len := by unfold piece; rw [if_pos h]
theorem piece_hi {c : Int} {len : Nat} (h : ¬ pickI c 1099511627776 % 18 < 8) : piece c len = pieceO (pickI c 1099511627776 % 18 - 8).toNat (pickI c 1099511627776 / 18 % 9) len := by unfold piece; rw [if_neg h]

set_option maxRecDepth 100000 in
set_option maxHeartbeats 8000000 in
theorem body_any (a : Option Addr) (n c b o : Nat) (R : Nat → Int) (w : World) (hr : RawIn w.heap.size w a n b o R) :
    Calls Tryz.prog 25 #[.slice a n c] w fun e w' => BodyPost R n w e w' := by
  have HR := (show Hid (RawIn w.heap.size w a n b o R) from hr); clear hr
  go_enter Tryz.func25, Tryz.ntmps25
  go_wp2_with fail
  have hcv0 : ∃ cv, MakerCv (w.alloc (Obj.cells #[Value.slice none 0 0] 66)) w.heap.size [] cv := ⟨.slice none 0 0, by go_simp, by go_simp, World.ownsRow_nil _ _ _ _, by simp⟩
  have hB0 : Below w.heap.size w (w.alloc (Obj.cells #[Value.slice none 0 0] 66)) := Below.alloc (Below.refl _ _) (Nat.le_refl _) _
  generalize (w.alloc (Obj.cells #[Value.slice none 0 0] 66)) = W at *
  obtain ⟨mb, hmb⟩ : ∃ mb, mb = w.heap.size := ⟨_, rfl⟩
  rw [← hmb] at hcv0
  rw [← hmb]
  have hmb1 : w.heap.size ≤ mb := by omega
  clear hmb
  obtain ⟨cv, hcv⟩ := hcv0
  obtain ⟨h1, h2, h3, h4⟩ := id hcv
  obtain ⟨i37, hi37, hz37, hs37, hb37⟩ := info_parts info37'
  have h4a : mb < W.heap.size + 1 := by omega
  have h4b : mb < W.heap.size + 1 + 1 := by omega
  have h4c : mb < W.heap.size + 1 + 1 + 1 := by omega
  go_region_law ((first | (refine step_append_lies _ rfl (.tmp 12) (.tmp 15) 64 rfl (mb + 1) 62 i37 _ 2 16 Tryz.underlying64 hi37 hz37 hs37 hb37 rfl (by decide) cv 0 (cellsL []) (by rfl) (by repeat (first | exact h3 | exact h3.drew | refine World.ownsRow.alloc ?_ _ | refine World.ownsRow.drew ?_)) _ 2 2 (cellsL [(0, 0), (3, 0)]) (by rfl) rfl (World.news_of_block (cs := #[.int .i64 0, .int .i64 (0), .int .i64 3, .int .i64 (0)]) (t := 62) (fr := (0, 0)) (by first | exact blk_at (by simp) | (exact blk_at rfl))) (cellsL_one _) (by omega) (by unfold maxLen; omega) (by omega) (by first | omega | (simp; done) | (simp; omega)) _ rfl ?_; intro gq capq w5 hown5 hgrow5 hat5 hlt5; obtain ⟨y0, y1, y2, hM, hBl⟩ := maker_app (l := []) (new := [(0, 0), (3, 0)]) hcv (by repeat (first | exact Below.refl _ _ | refine Below.drew ?_ | refine Below.alloc ?_ (by first | omega | (simp; done) | (simp; omega)) _)) hgrow5 rfl hown5; clear hown5 hgrow5 hat5 hlt5) | (go_simp; go_at_call 27; refine (at_any _ _ _).mono ?_; rintro e w' ⟨rfl, rfl⟩)))
  all_goals
    have hM0 : MakerAt (w5.setCell ⟨mb, 0, none⟩ (.slice (some ⟨gq, 0, none⟩) 2 capq)) mb (bodyTo R 0) := hM
    have hBl0 : Below w.heap.size w (w5.setCell ⟨mb, 0, none⟩ (.slice (some ⟨gq, 0, none⟩) 2 capq)) := hB0.trans (Below.mono hBl hmb1)
    clear hM hBl h1 h2 h3 h4 hcv h4a h4b h4c y0 y1 y2 hi37 hz37 hs37 hb37 hB0
    generalize (w5.setCell ⟨mb, 0, none⟩ (.slice (some ⟨gq, 0, none⟩) 2 capq)) = W2 at *
    go_wp2_with fail
    go_loopw [4] (fun v wr => ∃ i : Nat, (i ≤ n ∧ i ≤ 6) ∧ v = .int .i64 i ∧ MakerAt wr mb (bodyTo R i) ∧ Below w.heap.size w wr) (fun v _ => 6 - (intOf v).toNat)
    case atStart => exact ⟨0, ⟨Nat.zero_le _, Nat.zero_le _⟩, rfl, hM0, hBl0⟩
    case round =>
      clear hM0 hBl0
      obtain ⟨i, hi, rfl, hM, hbel⟩ := hrel
      by_cases hlt : i < n ∧ i < 6
      · obtain ⟨hin, hi6⟩ := hlt
        have HMX := (show Hid _ from hi); clear hi
        obtain ⟨ha, hbz, hcell⟩ := HR.out.2.1 (by omega)
        have hsz := hbel.size
        have hbw : b < wr.heap.size := by omega
        have hci : wr.cell? ⟨b, o + i, none⟩ = some (.int .i64 (R i)) := by
          rw [hbel.cell (p := ⟨b, o + i, none⟩) hbz]; exact hcell i hin
        have hRi := HR.out.2.2 i
        have hlen := bodyTo_len R i
        clear hcell
        subst ha
        go_wp2_with (go_at_call 12; refine (pick_any _ _ hRi.1 hRi.2).mono ?_; rintro e w7 ⟨rfl, hB7⟩)
        all_goals
          have hX := pickI_bd (R i)
          have e2 : (wrap64 ((pickI (R i) 1099511627776).tdiv 18)).tmod 9 = pickI (R i) 1099511627776 / 18 % 9 := by
            rw [← Go.IntWalk.i64_left, Go.IntWalk.i64_quo _ _ (by omega), mod_t _ _ (by omega)]
          have e1 : (pickI (R i) 1099511627776).tmod 18 = pickI (R i) 1099511627776 % 18 := mod_t _ _ hX.1
          have hM7 : MakerAt w7 mb (bodyTo R i) := by
            obtain ⟨cv', hcv'⟩ := hM
            exact ⟨cv', hcv'.below hB7⟩
          have hbel7 : Below w.heap.size w w7 := hbel.trans (hB7.mono hsz)
        · have hlt8 : (pickI (R i) 1099511627776).tmod 18 < 8 := by assumption
          rw [e2]
          simp only [e1] at hlt8 ⊢
          refine (values_any mb (bodyTo R i) _ _ w7 hM7 (by omega) (by omega) (by omega) hlt8 (by omega)).mono ?_
          rintro e w8 ⟨rfl, hM8, hB8⟩
          rw [← piece_lo hlt8] at hM8
          have hbel8 : Below w.heap.size w w8 := hbel7.trans (Below.mono hB8 hmb1)
          clear hM hM7 hB7 hB8 hbel7 hbel hci e1 e2 hX hlt8 hRi
          go_wp2_with fail
          go_roundw
          case rel => exact ⟨i + 1, by omega, by go_num, hM8, hbel8⟩
          case measure => simp [intOf]; omega
        · have hlt8 : ¬ (pickI (R i) 1099511627776).tmod 18 < 8 := by omega
          rw [e1] at hlt8
          have e4 : wrap64 (pickI (R i) 1099511627776 % 18 - 8) = pickI (R i) 1099511627776 % 18 - 8 := by
            rw [← Go.IntWalk.i64_left]; exact Go.IntWalk.i64_in _ (by omega)
          rw [e2]
          simp only [e1, e4]
          refine (objects_any mb (bodyTo R i) _ _ w7 hM7 (by omega) (by omega) (by omega) (by omega) (by omega)).mono ?_
          rintro e w8 ⟨rfl, hM8, hB8⟩
          rw [← piece_hi hlt8] at hM8
          have hbel8 : Below w.heap.size w w8 := hbel7.trans (Below.mono hB8 hmb1)
          clear hM hM7 hB7 hB8 hbel7 hbel hci e1 e2 e4 hX hlt8 hRi
          go_wp2_with fail
          go_roundw
          case rel => exact ⟨i + 1, by omega, by go_num, hM8, hbel8⟩
          case measure => simp [intOf]; omega
      · have HLT := (show Hid _ from hlt)
        by_cases hin : i < n
        · have hi6 : ¬ i < 6 := fun h => hlt ⟨hin, h⟩
          clear hlt
          go_wp2_with fail
          go_ret
          exact bodyPost' rfl hmb1 hi HLT.out hM hbel
        · clear hlt
          go_wp2_with fail
          go_ret
          exact bodyPost' rfl hmb1 hi HLT.out hM hbel

end Go.Proofs.YtbkmgoffiigdbabGreatDoor

namespace Go.Proofs.YtbkmgoffiigdbabGreatDoor
open Go.RowKit

/-! How a program that was made lies in memory. -/

def fnOf (p l : Int) (b c : Nat) (L : List (Int × Int)) : FnR :=
  { p := p, l := l, a := some ⟨b, 0, none⟩, n := L.length, c := c, b := b, o := 0, op := fun j => (L.getD j (0, 0)).1, ar := fun j => (L.getD j (0, 0)).2 }

def madeG (pb b1 c1 sb b2 c2 : Nat) (L1 S L2 : List (Int × Int)) : PgR :=
  { a := some ⟨pb, 0, none⟩, n := 3, c := 3, b := pb, o := 0, f := fun i => if i = 0 then fnOf 0 3 b1 c1 L1 else if i = 1 then fnOf 2 3 sb 9 S else fnOf 0 3 b2 c2 L2 }

/-- The main function, and function 2. -/
def mainW (B : List (Int × Int)) (x : Int × Int) : List (Int × Int) := B ++ [(14, 2)] ++ [(5, 0)] ++ [x]
def lastI (again : Bool) : Int × Int := if again then (12, 2) else (27, 0)
def mainL (R : Nat → Int) (n : Nat) (again : Bool) : List (Int × Int) := mainW (bodyTo R (min (n / 2) 6)) (lastI again)
def otherL (R : Nat → Int) (n : Nat) : List (Int × Int) := bodyTo (fun i => R (n / 2 + i)) (min (n - n / 2) 6) ++ [(2, 1)] ++ [(15, 0)]
def stepL : List (Int × Int) := [(16, 1), (3, 2), (2, 2), (2, 1), (20, 0), (2, 0), (0, 1), (7, 0), (15, 0)]

theorem cellsL_get (L : List (Int × Int)) : ∀ j, j < L.length → (cellsL L)[j * 2]? = some (.int .i64 (L.getD j (0, 0)).1) ∧ (cellsL L)[j * 2 + 1]? = some (.int .i64 (L.getD j (0, 0)).2) := by
  induction L with
  | nil => intro j hj; simp at hj
  | cons x r ih =>
    intro j hj
    have hc : cellsL (x :: r) = .int .i64 x.1 :: .int .i64 x.2 :: cellsL r := rfl
    rw [hc]
    cases j with
    | zero => exact ⟨rfl, rfl⟩
    | succ j =>
      have := ih j (by simpa using hj)
      rw [show (j + 1) * 2 = j * 2 + 1 + 1 by omega]
      simpa using this

theorem code_of_cells {B : Nat} {w : World} {p l : Int} {b c : Nat} {L : List (Int × Int)} (hl : L.length ≤ 1000) (hb : b < B)
    (h : ∀ j u, (cellsL L)[j]? = some u → w.cell? ((⟨b, 0, none⟩ : Addr).add j) = some u) : CodeIn B w (fnOf p l b c L) := by
  refine ⟨by show L.length ≤ _; omega, fun _ => ⟨rfl, hb, fun j hj => ?_⟩⟩
  obtain ⟨h1, h2⟩ := cellsL_get L j hj
  have k1 := h _ _ h1
  have k2 := h _ _ h2
  rw [Go.WideShapes.add_plain] at k1 k2
  exact ⟨k1, by rw [Nat.add_assoc]; exact k2⟩

theorem owns_frozen {w : World} {base : Nat} {e : TypeId} {size b n c : Nat} {xs : List Value} (h : w.ownsRow base e size (.slice (some ⟨b, 0, none⟩) n c) n xs) (j : Nat) : w.frozen? ⟨b, j, none⟩ = false := by
  rcases h.2 with ⟨h0, _⟩ | ⟨g, cap, cur, hv, _, hh, hn, _, hs, ht⟩
  · cases h0
  · cases hv
    exact World.rowIs.frozen (w := w) (b := b) (t := e) (n := cur.size) (f := fun k => cur.getD k (.int .i64 0)) ⟨cur, hh, rfl, fun k hk => by simp only [Array.getD_eq_getD_getElem?]; rw [Array.getElem?_eq_getElem hk]; rfl⟩ j

theorem made_in {B : Nat} {w : World} {pb b1 c1 sb b2 c2 : Nat} {L1 S L2 : List (Int × Int)} (hp : pb < B)
    (h0 : w.cell? ⟨pb, 0, none⟩ = some (.int .i64 0)) (h1 : w.cell? ⟨pb, 1, none⟩ = some (.int .i64 3)) (h2 : w.cell? ⟨pb, 2, none⟩ = some (.slice (some ⟨b1, 0, none⟩) L1.length c1))
    (h3 : w.cell? ⟨pb, 3, none⟩ = some (.int .i64 2)) (h4 : w.cell? ⟨pb, 4, none⟩ = some (.int .i64 3)) (h5 : w.cell? ⟨pb, 5, none⟩ = some (.slice (some ⟨sb, 0, none⟩) S.length 9))
    (h6 : w.cell? ⟨pb, 6, none⟩ = some (.int .i64 0)) (h7 : w.cell? ⟨pb, 7, none⟩ = some (.int .i64 3)) (h8 : w.cell? ⟨pb, 8, none⟩ = some (.slice (some ⟨b2, 0, none⟩) L2.length c2))
    (k1 : CodeIn B w (fnOf 0 3 b1 c1 L1)) (k2 : CodeIn B w (fnOf 2 3 sb 9 S)) (k3 : CodeIn B w (fnOf 0 3 b2 c2 L2)) : PgIn B w (madeG pb b1 c1 sb b2 c2 L1 S L2) := by
  refine ⟨by show 3 ≤ _; omega, fun _ => ⟨rfl, hp, fun i hi => ?_⟩, fun i hi => ?_⟩
  · have hi' : i = 0 ∨ i = 1 ∨ i = 2 := by have : i < 3 := hi; omega
    rcases hi' with rfl | rfl | rfl
    · exact ⟨h0, h1, h2⟩
    · exact ⟨h3, h4, h5⟩
    · exact ⟨h6, h7, h8⟩
  · have hi' : i = 0 ∨ i = 1 ∨ i = 2 := by have : i < 3 := hi; omega
    rcases hi' with rfl | rfl | rfl
    · exact k1
    · exact k2
    · exact k3

end Go.Proofs.YtbkmgoffiigdbabGreatDoor

namespace Go.Proofs.YtbkmgoffiigdbabGreatDoor
open Go.RowKit

theorem RawIn.below {B : Nat} {w w' : World} {a : Option Addr} {n b o : Nat} {R : Nat → Int} (h : RawIn B w a n b o R) (hb : Below B w w') : RawIn B w' a n b o R :=
  ⟨h.1, fun hn => by
    obtain ⟨h1, h2, h3⟩ := h.2.1 hn
    refine ⟨h1, h2, fun i hi => ?_⟩
    rw [hb.cell (p := ⟨b, o + i, none⟩) h2]; exact h3 i hi, h.2.2⟩
theorem RawIn.mono {B B' : Nat} {w : World} {a : Option Addr} {n b o : Nat} {R : Nat → Int} (h : RawIn B w a n b o R) (hb : B ≤ B') : RawIn B' w a n b o R :=
  ⟨h.1, fun hn => by obtain ⟨h1, h2, h3⟩ := h.2.1 hn; exact ⟨h1, by omega, h3⟩, h.2.2⟩

def ProgPost (R : Nat → Int) (n : Nat) (again : Bool) (w : World) (e : Ending) (w' : World) : Prop :=
  ∃ pb b1 c1 sb b2 c2, e = .returned (.agg #[.slice (some ⟨pb, 0, none⟩) 3 3]) ∧ PgIn w'.heap.size w' (madeG pb b1 c1 sb b2 c2 (mainL R n again) stepL (otherL R n)) ∧
    w.heap.size ≤ b1 ∧ b1 < b2 ∧ b2 < sb ∧ sb < pb ∧ pb < w'.heap.size ∧ (mainL R n again).length ≤ 47 ∧ 0 < (mainL R n again).length ∧ (∀ j, w'.frozen? ⟨b1, j, none⟩ = false) ∧ Below w.heap.size w w'

set_option maxRecDepth 100000 in
set_option maxHeartbeats 8000000 in
theorem program_false (a : Option Addr) (n c b o : Nat) (R : Nat → Int) (w : World) (hr : RawIn w.heap.size w a n b o R) (hc : n ≤ c) :
    Calls Tryz.prog 7 #[.slice a n c, .bool false] w fun e w' => ProgPost R n false w e w' := by
  have HR := (show Hid (RawIn w.heap.size w a n b o R) from hr); clear hr
  have hn := HR.out.1
  have hq : IntKind.i64.wrap ((n : Int).tdiv 2) = ((n / 2 : Nat) : Int) := by rw [Go.IntWalk.i64_quo _ _ (by omega)]; omega
  go_enter Tryz.func7, Tryz.ntmps7
  go_wp2_with fail
  have hl1 := bodyTo_len R (min (n / 2) 6)
  have hr0 : RawIn (w.alloc (Obj.cells #[Value.slice none 0 0] 27)).heap.size (w.alloc (Obj.cells #[Value.slice none 0 0] 27)) a (n / 2) b o R := by
    refine RawIn.mono (RawIn.below (w := w) (B := w.heap.size) ?_ (Below.alloc (Below.refl _ _) (Nat.le_refl _) _)) (by simp)
    exact ⟨by omega, fun h => by obtain ⟨h1, h2, h3⟩ := HR.out.2.1 (by omega); exact ⟨h1, h2, fun i hi => h3 i (by omega)⟩, HR.out.2.2⟩
  refine (body_any a (n / 2) c b o R _ hr0).mono ?_
  clear hr0
  rintro e w1 ⟨mb1, rfl, hmb1, hM1, hB1⟩
  have hbel1 : Below w.heap.size w w1 := (Below.alloc (Below.refl _ _) (Nat.le_refl _) _).trans (Below.mono hB1 (by simp))
  have hmb1' : w.heap.size < mb1 := Nat.lt_of_succ_le (by simpa using hmb1)
  have hrs1 : w1.cell? ⟨w.heap.size, 0, none⟩ = some (.slice none 0 0) := by rw [hB1.cell (p := ⟨w.heap.size, 0, none⟩) (by simp)]; go_simp
  have hrf1 : w1.frozen? ⟨w.heap.size, 0, none⟩ = false := by rw [hB1.frozen (p := ⟨w.heap.size, 0, none⟩) (by simp)]; go_simp
  clear hB1 hmb1
  go_wp2_with fail
  refine (op_any mb1 _ 14 2 w1 hM1 (by omega)).mono ?_
  rintro e w2 ⟨rfl, hM2, hB2⟩
  go_wp2_with fail
  refine (op_any mb1 _ 5 0 w2 hM2 (by simp; omega)).mono ?_
  rintro e w3 ⟨rfl, hM3, hB3⟩
  have hB13 := hB2.trans hB3
  clear hM1 hM2 hB2 hB3
  all_goals
    go_wp2_with fail
    refine (op_any mb1 _ _ _ w3 hM3 (by simp; omega)).mono ?_
    rintro e w4 ⟨rfl, hM4, hB4⟩
    have hB14 := hB13.trans hB4
    clear hM3 hB13 hB4
    have hsz4 := hB14.size
    have hbel4 : Below w.heap.size w w4 := hbel1.trans (Below.mono hB14 (by omega))
    have hrs4 : w4.cell? ⟨w.heap.size, 0, none⟩ = some (.slice none 0 0) := by rw [hB14.cell (p := ⟨w.heap.size, 0, none⟩) hmb1']; exact hrs1
    have hrf4 : w4.frozen? ⟨w.heap.size, 0, none⟩ = false := by rw [hB14.frozen (p := ⟨w.heap.size, 0, none⟩) hmb1']; exact hrf1
    have hl2 := bodyTo_len (fun i => R (n / 2 + i)) (min (n - n / 2) 6)
    obtain ⟨cv4, hcv4⟩ := hM4
    have hmb14 : mb1 < w4.heap.size := hcv4.2.2.2
    clear hrs1 hrf1 hB14 hbel1
    go_wp2_with fail
  all_goals
    refine (body_any _ (n - n / 2) _ b (o + n / 2) (fun i => R (n / 2 + i)) w4 ?_).mono ?_
    · refine ⟨by omega, fun h => ?_, fun i => HR.out.2.2 _⟩
      obtain ⟨h1, h2, h3⟩ := HR.out.2.1 (by omega)
      have hs := hbel4.size
      first
        | (exfalso; omega)
        | (refine ⟨by rw [h1]; simp [Go.WideShapes.add_plain], by omega, fun i hi => ?_⟩
           rw [hbel4.cell (p := ⟨b, o + n / 2 + i, none⟩) h2, Nat.add_assoc]
           exact h3 _ (by omega))
    rintro e w5 ⟨mb2, rfl, hmb2, hM5, hB5⟩
    go_wp2_with fail
    refine (op_any mb2 _ 2 1 w5 hM5 (by omega)).mono ?_
    rintro e w6 ⟨rfl, hM6, hB6⟩
    go_wp2_with fail
    refine (op_any mb2 _ 15 0 w6 hM6 (by simp; omega)).mono ?_
    rintro e w7 ⟨rfl, ⟨cv7, hcv7⟩, hB7⟩
    have hB47 : Below w4.heap.size w4 w7 := hB5.trans (Below.mono (hB6.trans hB7) hmb2)
    have hc1 := hcv4.below hB47
    have hrs7 : w7.cell? ⟨w.heap.size, 0, none⟩ = some (.slice none 0 0) := by rw [hB47.cell (p := ⟨w.heap.size, 0, none⟩) (by show w.heap.size < _; omega)]; exact hrs4
    have hrf7 : w7.frozen? ⟨w.heap.size, 0, none⟩ = false := by rw [hB47.frozen (p := ⟨w.heap.size, 0, none⟩) (by show w.heap.size < _; omega)]; exact hrf4
    have hbel7 : Below w.heap.size w w7 := hbel4.trans (Below.mono hB47 hbel4.size)
    have hln1 : ∀ x : Int × Int, 0 < (bodyTo R (min (n / 2) 6) ++ [(14, 2)] ++ [(5, 0)] ++ [x]).length ∧ (bodyTo R (min (n / 2) 6) ++ [(14, 2)] ++ [(5, 0)] ++ [x]).length ≤ 47 := fun x => by simp; omega
    have hln2 : 0 < (bodyTo (fun i => R (n / 2 + i)) (min (n - n / 2) 6) ++ [(2, 1)] ++ [(15, 0)]).length ∧ (bodyTo (fun i => R (n / 2 + i)) (min (n - n / 2) 6) ++ [(2, 1)] ++ [(15, 0)]).length ≤ 46 := by simp; omega
    obtain ⟨L1, hL1⟩ : ∃ L1, L1 = mainL R n false := ⟨_, rfl⟩
    obtain ⟨L2, hL2⟩ : ∃ L2, L2 = otherL R n := ⟨_, rfl⟩
    have hn1 : 0 < L1.length ∧ L1.length ≤ 47 := by rw [hL1]; exact hln1 _
    have hn2 : 0 < L2.length ∧ L2.length ≤ 46 := by rw [hL2]; exact hln2
    have hc1 : MakerCv w7 mb1 L1 cv4 := by rw [hL1]; exact hc1
    have hcv7 : MakerCv w7 mb2 L2 cv7 := by rw [hL2]; exact hcv7
    have HL1 := (show Hid _ from hL1); clear hL1
    have HL2 := (show Hid _ from hL2); clear hL2 hln1 hln2
    obtain ⟨g1, cap1, rfl, hg1, hg1'⟩ := hc1.2.2.1.form hn1.1
    obtain ⟨g2, cap2, rfl, hg2, hg2'⟩ := hcv7.2.2.1.form hn2.1
    have hg14 : g1 < w4.heap.size := (hcv4.2.2.1.lt g1 rfl).2
    have h1a := hc1.1
    have h1b := hc1.2.2.2
    have h2a := hcv7.1
    have h2b := hcv7.2.2.2
    have hw7 : w.heap.size < w7.heap.size := by omega
    clear hM5 hM6 hB5 hB6 hB7 hrs4 hrf4 hbel4
    go_wp2_with (go_at_call 27; refine (at_any _ _ _).mono ?_; rintro e w' ⟨rfl, rfl⟩)
    have hBk : Below w7.heap.size w7 ((((((((((w7.alloc (Obj.cells #[Value.int IntKind.i64 16, Value.int IntKind.i64 1] 62)).alloc (Obj.cells #[Value.int IntKind.i64 3, Value.int IntKind.i64 2] 62)).alloc (Obj.cells #[Value.int IntKind.i64 2, Value.int IntKind.i64 2] 62)).alloc (Obj.cells #[Value.int IntKind.i64 2, Value.int IntKind.i64 1] 62)).alloc (Obj.cells #[Value.int IntKind.i64 20, Value.int IntKind.i64 0] 62)).alloc (Obj.cells #[Value.int IntKind.i64 2, Value.int IntKind.i64 0] 62)).alloc (Obj.cells #[Value.int IntKind.i64 0, Value.int IntKind.i64 1] 62)).alloc (Obj.cells #[Value.int IntKind.i64 7, Value.int IntKind.i64 0] 62)).alloc (Obj.cells #[Value.int IntKind.i64 15, Value.int IntKind.i64 0] 62)).alloc (Obj.cells #[Value.int IntKind.i64 16, Value.int IntKind.i64 1, Value.int IntKind.i64 3, Value.int IntKind.i64 2, Value.int IntKind.i64 2, Value.int IntKind.i64 2, Value.int IntKind.i64 2, Value.int IntKind.i64 1, Value.int IntKind.i64 20, Value.int IntKind.i64 0, Value.int IntKind.i64 2, Value.int IntKind.i64 0, Value.int IntKind.i64 0, Value.int IntKind.i64 1, Value.int IntKind.i64 7, Value.int IntKind.i64 0, Value.int IntKind.i64 15, Value.int IntKind.i64 0] 62)) := by
      repeat (first | exact Below.refl _ _ | refine Below.drew ?_ | refine Below.alloc ?_ (by first | omega | (simp; done) | (simp; omega)) _)
    have hsb : (((((((((((w7.alloc (Obj.cells #[Value.int IntKind.i64 16, Value.int IntKind.i64 1] 62)).alloc (Obj.cells #[Value.int IntKind.i64 3, Value.int IntKind.i64 2] 62)).alloc (Obj.cells #[Value.int IntKind.i64 2, Value.int IntKind.i64 2] 62)).alloc (Obj.cells #[Value.int IntKind.i64 2, Value.int IntKind.i64 1] 62)).alloc (Obj.cells #[Value.int IntKind.i64 20, Value.int IntKind.i64 0] 62)).alloc (Obj.cells #[Value.int IntKind.i64 2, Value.int IntKind.i64 0] 62)).alloc (Obj.cells #[Value.int IntKind.i64 0, Value.int IntKind.i64 1] 62)).alloc (Obj.cells #[Value.int IntKind.i64 7, Value.int IntKind.i64 0] 62)).alloc (Obj.cells #[Value.int IntKind.i64 15, Value.int IntKind.i64 0] 62)).alloc (Obj.cells #[Value.int IntKind.i64 16, Value.int IntKind.i64 1, Value.int IntKind.i64 3, Value.int IntKind.i64 2, Value.int IntKind.i64 2, Value.int IntKind.i64 2, Value.int IntKind.i64 2, Value.int IntKind.i64 1, Value.int IntKind.i64 20, Value.int IntKind.i64 0, Value.int IntKind.i64 2, Value.int IntKind.i64 0, Value.int IntKind.i64 0, Value.int IntKind.i64 1, Value.int IntKind.i64 7, Value.int IntKind.i64 0, Value.int IntKind.i64 15, Value.int IntKind.i64 0] 62))).heap[w7.heap.size + 1 + 1 + 1 + 1 + 1 + 1 + 1 + 1 + 1]? = some (Obj.cells #[Value.int IntKind.i64 16, Value.int IntKind.i64 1, Value.int IntKind.i64 3, Value.int IntKind.i64 2, Value.int IntKind.i64 2, Value.int IntKind.i64 2, Value.int IntKind.i64 2, Value.int IntKind.i64 1, Value.int IntKind.i64 20, Value.int IntKind.i64 0, Value.int IntKind.i64 2, Value.int IntKind.i64 0, Value.int IntKind.i64 0, Value.int IntKind.i64 1, Value.int IntKind.i64 7, Value.int IntKind.i64 0, Value.int IntKind.i64 15, Value.int IntKind.i64 0] 62) := blk_at (by simp)
    have hsz : (((((((((((w7.alloc (Obj.cells #[Value.int IntKind.i64 16, Value.int IntKind.i64 1] 62)).alloc (Obj.cells #[Value.int IntKind.i64 3, Value.int IntKind.i64 2] 62)).alloc (Obj.cells #[Value.int IntKind.i64 2, Value.int IntKind.i64 2] 62)).alloc (Obj.cells #[Value.int IntKind.i64 2, Value.int IntKind.i64 1] 62)).alloc (Obj.cells #[Value.int IntKind.i64 20, Value.int IntKind.i64 0] 62)).alloc (Obj.cells #[Value.int IntKind.i64 2, Value.int IntKind.i64 0] 62)).alloc (Obj.cells #[Value.int IntKind.i64 0, Value.int IntKind.i64 1] 62)).alloc (Obj.cells #[Value.int IntKind.i64 7, Value.int IntKind.i64 0] 62)).alloc (Obj.cells #[Value.int IntKind.i64 15, Value.int IntKind.i64 0] 62)).alloc (Obj.cells #[Value.int IntKind.i64 16, Value.int IntKind.i64 1, Value.int IntKind.i64 3, Value.int IntKind.i64 2, Value.int IntKind.i64 2, Value.int IntKind.i64 2, Value.int IntKind.i64 2, Value.int IntKind.i64 1, Value.int IntKind.i64 20, Value.int IntKind.i64 0, Value.int IntKind.i64 2, Value.int IntKind.i64 0, Value.int IntKind.i64 0, Value.int IntKind.i64 1, Value.int IntKind.i64 7, Value.int IntKind.i64 0, Value.int IntKind.i64 15, Value.int IntKind.i64 0] 62))).heap.size = w7.heap.size + 10 := by simp
    generalize hWk : ((((((((((w7.alloc (Obj.cells #[Value.int IntKind.i64 16, Value.int IntKind.i64 1] 62)).alloc (Obj.cells #[Value.int IntKind.i64 3, Value.int IntKind.i64 2] 62)).alloc (Obj.cells #[Value.int IntKind.i64 2, Value.int IntKind.i64 2] 62)).alloc (Obj.cells #[Value.int IntKind.i64 2, Value.int IntKind.i64 1] 62)).alloc (Obj.cells #[Value.int IntKind.i64 20, Value.int IntKind.i64 0] 62)).alloc (Obj.cells #[Value.int IntKind.i64 2, Value.int IntKind.i64 0] 62)).alloc (Obj.cells #[Value.int IntKind.i64 0, Value.int IntKind.i64 1] 62)).alloc (Obj.cells #[Value.int IntKind.i64 7, Value.int IntKind.i64 0] 62)).alloc (Obj.cells #[Value.int IntKind.i64 15, Value.int IntKind.i64 0] 62)).alloc (Obj.cells #[Value.int IntKind.i64 16, Value.int IntKind.i64 1, Value.int IntKind.i64 3, Value.int IntKind.i64 2, Value.int IntKind.i64 2, Value.int IntKind.i64 2, Value.int IntKind.i64 2, Value.int IntKind.i64 1, Value.int IntKind.i64 20, Value.int IntKind.i64 0, Value.int IntKind.i64 2, Value.int IntKind.i64 0, Value.int IntKind.i64 0, Value.int IntKind.i64 1, Value.int IntKind.i64 7, Value.int IntKind.i64 0, Value.int IntKind.i64 15, Value.int IntKind.i64 0] 62)) = Wk at *
    obtain ⟨sb, hsbq⟩ : ∃ sb, sb = w7.heap.size + 1 + 1 + 1 + 1 + 1 + 1 + 1 + 1 + 1 := ⟨_, rfl⟩
    rw [← hsbq] at hsb
    rw [← hsbq]
    have hsb1 : w7.heap.size ≤ sb := by omega
    have hsb2 : sb < Wk.heap.size := by omega
    clear hsbq hWk hsz
    have hszk := hBk.size
    have k1 : Wk.cell? ⟨mb1, 0, none⟩ = some (.slice (some ⟨g1, 0, none⟩) L1.length cap1) := by rw [hBk.cell (p := ⟨mb1, 0, none⟩) h1b]; exact h1a
    have k2 : Wk.cell? ⟨mb2, 0, none⟩ = some (.slice (some ⟨g2, 0, none⟩) L2.length cap2) := by rw [hBk.cell (p := ⟨mb2, 0, none⟩) h2b]; exact h2a
    have k3 : Wk.cell? ⟨w.heap.size, 0, none⟩ = some (.slice none 0 0) := by rw [hBk.cell (p := ⟨w.heap.size, 0, none⟩) hw7]; exact hrs7
    have k4 : Wk.frozen? ⟨w.heap.size, 0, none⟩ = false := by rw [hBk.frozen (p := ⟨w.heap.size, 0, none⟩) hw7]; exact hrf7
    have j1 : mb1 < Wk.heap.size := by omega
    have j2 : mb2 < Wk.heap.size := by omega
    have j3 : w.heap.size < Wk.heap.size := by omega
    have HC1 := (show Hid _ from hc1); clear hc1
    have HC7 := (show Hid _ from hcv7); clear hcv7
    clear hcv4 h1a h2a hrs7 hrf7
    go_region
  all_goals
    have p0 : (((Wk.setCell ⟨w.heap.size, 0, none⟩ (.slice (some ⟨Wk.heap.size, 0, none⟩) 3 3)).alloc (Obj.cells #[.int .i64 0, .int .i64 3, .slice (some ⟨g1, 0, none⟩) L1.length cap1, .int .i64 2, .int .i64 3, .slice (some ⟨sb, 0, none⟩) 9 9, .int .i64 0, .int .i64 3, .slice (some ⟨g2, 0, none⟩) L2.length cap2] 68)).drew).cell? ⟨Wk.heap.size, 0, none⟩ = some (.int .i64 0) := by go_simp
    have p1 : (((Wk.setCell ⟨w.heap.size, 0, none⟩ (.slice (some ⟨Wk.heap.size, 0, none⟩) 3 3)).alloc (Obj.cells #[.int .i64 0, .int .i64 3, .slice (some ⟨g1, 0, none⟩) L1.length cap1, .int .i64 2, .int .i64 3, .slice (some ⟨sb, 0, none⟩) 9 9, .int .i64 0, .int .i64 3, .slice (some ⟨g2, 0, none⟩) L2.length cap2] 68)).drew).cell? ⟨Wk.heap.size, 1, none⟩ = some (.int .i64 3) := by go_simp
    have p2 : (((Wk.setCell ⟨w.heap.size, 0, none⟩ (.slice (some ⟨Wk.heap.size, 0, none⟩) 3 3)).alloc (Obj.cells #[.int .i64 0, .int .i64 3, .slice (some ⟨g1, 0, none⟩) L1.length cap1, .int .i64 2, .int .i64 3, .slice (some ⟨sb, 0, none⟩) 9 9, .int .i64 0, .int .i64 3, .slice (some ⟨g2, 0, none⟩) L2.length cap2] 68)).drew).cell? ⟨Wk.heap.size, 2, none⟩ = some (.slice (some ⟨g1, 0, none⟩) L1.length cap1) := by go_simp
    have p3 : (((Wk.setCell ⟨w.heap.size, 0, none⟩ (.slice (some ⟨Wk.heap.size, 0, none⟩) 3 3)).alloc (Obj.cells #[.int .i64 0, .int .i64 3, .slice (some ⟨g1, 0, none⟩) L1.length cap1, .int .i64 2, .int .i64 3, .slice (some ⟨sb, 0, none⟩) 9 9, .int .i64 0, .int .i64 3, .slice (some ⟨g2, 0, none⟩) L2.length cap2] 68)).drew).cell? ⟨Wk.heap.size, 3, none⟩ = some (.int .i64 2) := by go_simp
    have p4 : (((Wk.setCell ⟨w.heap.size, 0, none⟩ (.slice (some ⟨Wk.heap.size, 0, none⟩) 3 3)).alloc (Obj.cells #[.int .i64 0, .int .i64 3, .slice (some ⟨g1, 0, none⟩) L1.length cap1, .int .i64 2, .int .i64 3, .slice (some ⟨sb, 0, none⟩) 9 9, .int .i64 0, .int .i64 3, .slice (some ⟨g2, 0, none⟩) L2.length cap2] 68)).drew).cell? ⟨Wk.heap.size, 4, none⟩ = some (.int .i64 3) := by go_simp
    have p5 : (((Wk.setCell ⟨w.heap.size, 0, none⟩ (.slice (some ⟨Wk.heap.size, 0, none⟩) 3 3)).alloc (Obj.cells #[.int .i64 0, .int .i64 3, .slice (some ⟨g1, 0, none⟩) L1.length cap1, .int .i64 2, .int .i64 3, .slice (some ⟨sb, 0, none⟩) 9 9, .int .i64 0, .int .i64 3, .slice (some ⟨g2, 0, none⟩) L2.length cap2] 68)).drew).cell? ⟨Wk.heap.size, 5, none⟩ = some (.slice (some ⟨sb, 0, none⟩) 9 9) := by go_simp
    have p6 : (((Wk.setCell ⟨w.heap.size, 0, none⟩ (.slice (some ⟨Wk.heap.size, 0, none⟩) 3 3)).alloc (Obj.cells #[.int .i64 0, .int .i64 3, .slice (some ⟨g1, 0, none⟩) L1.length cap1, .int .i64 2, .int .i64 3, .slice (some ⟨sb, 0, none⟩) 9 9, .int .i64 0, .int .i64 3, .slice (some ⟨g2, 0, none⟩) L2.length cap2] 68)).drew).cell? ⟨Wk.heap.size, 6, none⟩ = some (.int .i64 0) := by go_simp
    have p7 : (((Wk.setCell ⟨w.heap.size, 0, none⟩ (.slice (some ⟨Wk.heap.size, 0, none⟩) 3 3)).alloc (Obj.cells #[.int .i64 0, .int .i64 3, .slice (some ⟨g1, 0, none⟩) L1.length cap1, .int .i64 2, .int .i64 3, .slice (some ⟨sb, 0, none⟩) 9 9, .int .i64 0, .int .i64 3, .slice (some ⟨g2, 0, none⟩) L2.length cap2] 68)).drew).cell? ⟨Wk.heap.size, 7, none⟩ = some (.int .i64 3) := by go_simp
    have p8 : (((Wk.setCell ⟨w.heap.size, 0, none⟩ (.slice (some ⟨Wk.heap.size, 0, none⟩) 3 3)).alloc (Obj.cells #[.int .i64 0, .int .i64 3, .slice (some ⟨g1, 0, none⟩) L1.length cap1, .int .i64 2, .int .i64 3, .slice (some ⟨sb, 0, none⟩) 9 9, .int .i64 0, .int .i64 3, .slice (some ⟨g2, 0, none⟩) L2.length cap2] 68)).drew).cell? ⟨Wk.heap.size, 8, none⟩ = some (.slice (some ⟨g2, 0, none⟩) L2.length cap2) := by go_simp
    have pr : (((Wk.setCell ⟨w.heap.size, 0, none⟩ (.slice (some ⟨Wk.heap.size, 0, none⟩) 3 3)).alloc (Obj.cells #[.int .i64 0, .int .i64 3, .slice (some ⟨g1, 0, none⟩) L1.length cap1, .int .i64 2, .int .i64 3, .slice (some ⟨sb, 0, none⟩) 9 9, .int .i64 0, .int .i64 3, .slice (some ⟨g2, 0, none⟩) L2.length cap2] 68)).drew).cell? ⟨w.heap.size, 0, none⟩ = some (.slice (some ⟨Wk.heap.size, 0, none⟩) 3 3) := by go_simp
    have hpz : (((Wk.setCell ⟨w.heap.size, 0, none⟩ (.slice (some ⟨Wk.heap.size, 0, none⟩) 3 3)).alloc (Obj.cells #[.int .i64 0, .int .i64 3, .slice (some ⟨g1, 0, none⟩) L1.length cap1, .int .i64 2, .int .i64 3, .slice (some ⟨sb, 0, none⟩) 9 9, .int .i64 0, .int .i64 3, .slice (some ⟨g2, 0, none⟩) L2.length cap2] 68)).drew).heap.size = Wk.heap.size + 1 := by simp
    have hBut : But (fun k => k = w.heap.size) Wk (((Wk.setCell ⟨w.heap.size, 0, none⟩ (.slice (some ⟨Wk.heap.size, 0, none⟩) 3 3)).alloc (Obj.cells #[.int .i64 0, .int .i64 3, .slice (some ⟨g1, 0, none⟩) L1.length cap1, .int .i64 2, .int .i64 3, .slice (some ⟨sb, 0, none⟩) 9 9, .int .i64 0, .int .i64 3, .slice (some ⟨g2, 0, none⟩) L2.length cap2] 68)).drew) := But.drew (But.alloc (But.setCell (S := fun k => k = w.heap.size) (p := ⟨w.heap.size, 0, none⟩) (But.refl _ _) (Or.inl rfl) _) _)
    have hBF : Below w.heap.size w (((Wk.setCell ⟨w.heap.size, 0, none⟩ (.slice (some ⟨Wk.heap.size, 0, none⟩) 3 3)).alloc (Obj.cells #[.int .i64 0, .int .i64 3, .slice (some ⟨g1, 0, none⟩) L1.length cap1, .int .i64 2, .int .i64 3, .slice (some ⟨sb, 0, none⟩) 9 9, .int .i64 0, .int .i64 3, .slice (some ⟨g2, 0, none⟩) L2.length cap2] 68)).drew) := (Below.alloc (Below.setCell (p := ⟨w.heap.size, 0, none⟩) (hbel7.trans (Below.mono hBk (by omega))) (Nat.le_refl _) _) (by simp; omega) _).drew
    generalize (((Wk.setCell ⟨w.heap.size, 0, none⟩ (.slice (some ⟨Wk.heap.size, 0, none⟩) 3 3)).alloc (Obj.cells #[.int .i64 0, .int .i64 3, .slice (some ⟨g1, 0, none⟩) L1.length cap1, .int .i64 2, .int .i64 3, .slice (some ⟨sb, 0, none⟩) 9 9, .int .i64 0, .int .i64 3, .slice (some ⟨g2, 0, none⟩) L2.length cap2] 68)).drew) = WF at *
    obtain ⟨pb, hpb⟩ : ∃ pb, pb = Wk.heap.size := ⟨_, rfl⟩
    rw [← hpb] at p0 p1 p2 p3 p4 p5 p6 p7 p8 pr
    have hpb1 : pb < WF.heap.size := by omega
    have q1 : CodeIn WF.heap.size WF (fnOf 0 3 g1 cap1 L1) := code_of_cells (by omega) (by omega) (fun j u hu => by
      have := HC1.out.2.2.1.cells (g := g1) rfl j u hu
      rw [Go.WideShapes.add_plain] at this ⊢
      rw [hBut.cell (p := ⟨g1, 0 + j, none⟩) (by show g1 < _; omega) (by show ¬ g1 = _; omega), hBk.cell (p := ⟨g1, 0 + j, none⟩) (by show g1 < _; omega)]
      exact this)
    have q3 : CodeIn WF.heap.size WF (fnOf 0 3 g2 cap2 L2) := code_of_cells (by omega) (by omega) (fun j u hu => by
      have := HC7.out.2.2.1.cells (g := g2) rfl j u hu
      rw [Go.WideShapes.add_plain] at this ⊢
      rw [hBut.cell (p := ⟨g2, 0 + j, none⟩) (by show g2 < _; omega) (by show ¬ g2 = _; omega), hBk.cell (p := ⟨g2, 0 + j, none⟩) (by show g2 < _; omega)]
      exact this)
    have q2 : CodeIn WF.heap.size WF (fnOf 2 3 sb 9 stepL) := code_of_cells (by decide) (by omega) (fun j u hu => by
      have := World.news_of_block hsb j u hu
      rw [Go.WideShapes.add_plain] at this ⊢
      rw [hBut.cell (p := ⟨sb, 0 + j, none⟩) (by show sb < _; omega) (by show ¬ sb = _; omega)]
      exact this)
    have qf : ∀ j, WF.frozen? ⟨g1, j, none⟩ = false := fun j => by
      have := owns_frozen HC1.out.2.2.1 j
      rw [hBut.frozen (p := ⟨g1, j, none⟩) (by show g1 < _; omega) (by show ¬ g1 = _; omega), hBk.frozen (p := ⟨g1, j, none⟩) (by show g1 < _; omega)]
      exact this
    have hpost : ProgPost R n false w (.returned (.agg #[.slice (some ⟨pb, 0, none⟩) 3 3])) WF := by
      refine ⟨pb, g1, cap1, sb, g2, cap2, rfl, ?_, by omega, by omega, by omega, by omega, by omega, by rw [← HL1.out]; exact hn1.2, by rw [← HL1.out]; exact hn1.1, qf, hBF⟩
      · rw [← HL1.out, ← HL2.out]; exact made_in hpb1 p0 p1 p2 p3 p4 p5 p6 p7 p8 q1 q2 q3
    have HP := (show Hid _ from hpost); clear hpost
    clear p0 p1 p2 p3 p4 p5 p6 p7 p8 q1 q2 q3 qf hBut hBF hBk k1 k2 k3 k4
    go_wp2_with fail
    exact bodyPost_ret (v := .agg #[.slice (some ⟨pb, 0, none⟩) 3 3]) (by simp [results, Tryz.results7, go_sem, pr]) rfl HP.out

set_option maxRecDepth 100000 in
set_option maxHeartbeats 8000000 in
theorem program_true (a : Option Addr) (n c b o : Nat) (R : Nat → Int) (w : World) (hr : RawIn w.heap.size w a n b o R) (hc : n ≤ c) :
    Calls Tryz.prog 7 #[.slice a n c, .bool true] w fun e w' => ProgPost R n true w e w' := by
  have HR := (show Hid (RawIn w.heap.size w a n b o R) from hr); clear hr
  have hn := HR.out.1
  have hq : IntKind.i64.wrap ((n : Int).tdiv 2) = ((n / 2 : Nat) : Int) := by rw [Go.IntWalk.i64_quo _ _ (by omega)]; omega
  go_enter Tryz.func7, Tryz.ntmps7
  go_wp2_with fail
  have hl1 := bodyTo_len R (min (n / 2) 6)
  have hr0 : RawIn (w.alloc (Obj.cells #[Value.slice none 0 0] 27)).heap.size (w.alloc (Obj.cells #[Value.slice none 0 0] 27)) a (n / 2) b o R := by
    refine RawIn.mono (RawIn.below (w := w) (B := w.heap.size) ?_ (Below.alloc (Below.refl _ _) (Nat.le_refl _) _)) (by simp)
    exact ⟨by omega, fun h => by obtain ⟨h1, h2, h3⟩ := HR.out.2.1 (by omega); exact ⟨h1, h2, fun i hi => h3 i (by omega)⟩, HR.out.2.2⟩
  refine (body_any a (n / 2) c b o R _ hr0).mono ?_
  clear hr0
  rintro e w1 ⟨mb1, rfl, hmb1, hM1, hB1⟩
  have hbel1 : Below w.heap.size w w1 := (Below.alloc (Below.refl _ _) (Nat.le_refl _) _).trans (Below.mono hB1 (by simp))
  have hmb1' : w.heap.size < mb1 := Nat.lt_of_succ_le (by simpa using hmb1)
  have hrs1 : w1.cell? ⟨w.heap.size, 0, none⟩ = some (.slice none 0 0) := by rw [hB1.cell (p := ⟨w.heap.size, 0, none⟩) (by simp)]; go_simp
  have hrf1 : w1.frozen? ⟨w.heap.size, 0, none⟩ = false := by rw [hB1.frozen (p := ⟨w.heap.size, 0, none⟩) (by simp)]; go_simp
  clear hB1 hmb1
  go_wp2_with fail
  refine (op_any mb1 _ 14 2 w1 hM1 (by omega)).mono ?_
  rintro e w2 ⟨rfl, hM2, hB2⟩
  go_wp2_with fail
  refine (op_any mb1 _ 5 0 w2 hM2 (by simp; omega)).mono ?_
  rintro e w3 ⟨rfl, hM3, hB3⟩
  have hB13 := hB2.trans hB3
  clear hM1 hM2 hB2 hB3
  all_goals
    go_wp2_with fail
    refine (op_any mb1 _ _ _ w3 hM3 (by simp; omega)).mono ?_
    rintro e w4 ⟨rfl, hM4, hB4⟩
    have hB14 := hB13.trans hB4
    clear hM3 hB13 hB4
    have hsz4 := hB14.size
    have hbel4 : Below w.heap.size w w4 := hbel1.trans (Below.mono hB14 (by omega))
    have hrs4 : w4.cell? ⟨w.heap.size, 0, none⟩ = some (.slice none 0 0) := by rw [hB14.cell (p := ⟨w.heap.size, 0, none⟩) hmb1']; exact hrs1
    have hrf4 : w4.frozen? ⟨w.heap.size, 0, none⟩ = false := by rw [hB14.frozen (p := ⟨w.heap.size, 0, none⟩) hmb1']; exact hrf1
    have hl2 := bodyTo_len (fun i => R (n / 2 + i)) (min (n - n / 2) 6)
    obtain ⟨cv4, hcv4⟩ := hM4
    have hmb14 : mb1 < w4.heap.size := hcv4.2.2.2
    clear hrs1 hrf1 hB14 hbel1
    go_wp2_with fail
  all_goals
    refine (body_any _ (n - n / 2) _ b (o + n / 2) (fun i => R (n / 2 + i)) w4 ?_).mono ?_
    · refine ⟨by omega, fun h => ?_, fun i => HR.out.2.2 _⟩
      obtain ⟨h1, h2, h3⟩ := HR.out.2.1 (by omega)
      have hs := hbel4.size
      first
        | (exfalso; omega)
        | (refine ⟨by rw [h1]; simp [Go.WideShapes.add_plain], by omega, fun i hi => ?_⟩
           rw [hbel4.cell (p := ⟨b, o + n / 2 + i, none⟩) h2, Nat.add_assoc]
           exact h3 _ (by omega))
    rintro e w5 ⟨mb2, rfl, hmb2, hM5, hB5⟩
    go_wp2_with fail
    refine (op_any mb2 _ 2 1 w5 hM5 (by omega)).mono ?_
    rintro e w6 ⟨rfl, hM6, hB6⟩
    go_wp2_with fail
    refine (op_any mb2 _ 15 0 w6 hM6 (by simp; omega)).mono ?_
    rintro e w7 ⟨rfl, ⟨cv7, hcv7⟩, hB7⟩
    have hB47 : Below w4.heap.size w4 w7 := hB5.trans (Below.mono (hB6.trans hB7) hmb2)
    have hc1 := hcv4.below hB47
    have hrs7 : w7.cell? ⟨w.heap.size, 0, none⟩ = some (.slice none 0 0) := by rw [hB47.cell (p := ⟨w.heap.size, 0, none⟩) (by show w.heap.size < _; omega)]; exact hrs4
    have hrf7 : w7.frozen? ⟨w.heap.size, 0, none⟩ = false := by rw [hB47.frozen (p := ⟨w.heap.size, 0, none⟩) (by show w.heap.size < _; omega)]; exact hrf4
    have hbel7 : Below w.heap.size w w7 := hbel4.trans (Below.mono hB47 hbel4.size)
    have hln1 : ∀ x : Int × Int, 0 < (bodyTo R (min (n / 2) 6) ++ [(14, 2)] ++ [(5, 0)] ++ [x]).length ∧ (bodyTo R (min (n / 2) 6) ++ [(14, 2)] ++ [(5, 0)] ++ [x]).length ≤ 47 := fun x => by simp; omega
    have hln2 : 0 < (bodyTo (fun i => R (n / 2 + i)) (min (n - n / 2) 6) ++ [(2, 1)] ++ [(15, 0)]).length ∧ (bodyTo (fun i => R (n / 2 + i)) (min (n - n / 2) 6) ++ [(2, 1)] ++ [(15, 0)]).length ≤ 46 := by simp; omega
    obtain ⟨L1, hL1⟩ : ∃ L1, L1 = mainL R n true := ⟨_, rfl⟩
    obtain ⟨L2, hL2⟩ : ∃ L2, L2 = otherL R n := ⟨_, rfl⟩
    have hn1 : 0 < L1.length ∧ L1.length ≤ 47 := by rw [hL1]; exact hln1 _
    have hn2 : 0 < L2.length ∧ L2.length ≤ 46 := by rw [hL2]; exact hln2
    have hc1 : MakerCv w7 mb1 L1 cv4 := by rw [hL1]; exact hc1
    have hcv7 : MakerCv w7 mb2 L2 cv7 := by rw [hL2]; exact hcv7
    have HL1 := (show Hid _ from hL1); clear hL1
    have HL2 := (show Hid _ from hL2); clear hL2 hln1 hln2
    obtain ⟨g1, cap1, rfl, hg1, hg1'⟩ := hc1.2.2.1.form hn1.1
    obtain ⟨g2, cap2, rfl, hg2, hg2'⟩ := hcv7.2.2.1.form hn2.1
    have hg14 : g1 < w4.heap.size := (hcv4.2.2.1.lt g1 rfl).2
    have h1a := hc1.1
    have h1b := hc1.2.2.2
    have h2a := hcv7.1
    have h2b := hcv7.2.2.2
    have hw7 : w.heap.size < w7.heap.size := by omega
    clear hM5 hM6 hB5 hB6 hB7 hrs4 hrf4 hbel4
    go_wp2_with (go_at_call 27; refine (at_any _ _ _).mono ?_; rintro e w' ⟨rfl, rfl⟩)
    have hBk : Below w7.heap.size w7 ((((((((((w7.alloc (Obj.cells #[Value.int IntKind.i64 16, Value.int IntKind.i64 1] 62)).alloc (Obj.cells #[Value.int IntKind.i64 3, Value.int IntKind.i64 2] 62)).alloc (Obj.cells #[Value.int IntKind.i64 2, Value.int IntKind.i64 2] 62)).alloc (Obj.cells #[Value.int IntKind.i64 2, Value.int IntKind.i64 1] 62)).alloc (Obj.cells #[Value.int IntKind.i64 20, Value.int IntKind.i64 0] 62)).alloc (Obj.cells #[Value.int IntKind.i64 2, Value.int IntKind.i64 0] 62)).alloc (Obj.cells #[Value.int IntKind.i64 0, Value.int IntKind.i64 1] 62)).alloc (Obj.cells #[Value.int IntKind.i64 7, Value.int IntKind.i64 0] 62)).alloc (Obj.cells #[Value.int IntKind.i64 15, Value.int IntKind.i64 0] 62)).alloc (Obj.cells #[Value.int IntKind.i64 16, Value.int IntKind.i64 1, Value.int IntKind.i64 3, Value.int IntKind.i64 2, Value.int IntKind.i64 2, Value.int IntKind.i64 2, Value.int IntKind.i64 2, Value.int IntKind.i64 1, Value.int IntKind.i64 20, Value.int IntKind.i64 0, Value.int IntKind.i64 2, Value.int IntKind.i64 0, Value.int IntKind.i64 0, Value.int IntKind.i64 1, Value.int IntKind.i64 7, Value.int IntKind.i64 0, Value.int IntKind.i64 15, Value.int IntKind.i64 0] 62)) := by
      repeat (first | exact Below.refl _ _ | refine Below.drew ?_ | refine Below.alloc ?_ (by first | omega | (simp; done) | (simp; omega)) _)
    have hsb : (((((((((((w7.alloc (Obj.cells #[Value.int IntKind.i64 16, Value.int IntKind.i64 1] 62)).alloc (Obj.cells #[Value.int IntKind.i64 3, Value.int IntKind.i64 2] 62)).alloc (Obj.cells #[Value.int IntKind.i64 2, Value.int IntKind.i64 2] 62)).alloc (Obj.cells #[Value.int IntKind.i64 2, Value.int IntKind.i64 1] 62)).alloc (Obj.cells #[Value.int IntKind.i64 20, Value.int IntKind.i64 0] 62)).alloc (Obj.cells #[Value.int IntKind.i64 2, Value.int IntKind.i64 0] 62)).alloc (Obj.cells #[Value.int IntKind.i64 0, Value.int IntKind.i64 1] 62)).alloc (Obj.cells #[Value.int IntKind.i64 7, Value.int IntKind.i64 0] 62)).alloc (Obj.cells #[Value.int IntKind.i64 15, Value.int IntKind.i64 0] 62)).alloc (Obj.cells #[Value.int IntKind.i64 16, Value.int IntKind.i64 1, Value.int IntKind.i64 3, Value.int IntKind.i64 2, Value.int IntKind.i64 2, Value.int IntKind.i64 2, Value.int IntKind.i64 2, Value.int IntKind.i64 1, Value.int IntKind.i64 20, Value.int IntKind.i64 0, Value.int IntKind.i64 2, Value.int IntKind.i64 0, Value.int IntKind.i64 0, Value.int IntKind.i64 1, Value.int IntKind.i64 7, Value.int IntKind.i64 0, Value.int IntKind.i64 15, Value.int IntKind.i64 0] 62))).heap[w7.heap.size + 1 + 1 + 1 + 1 + 1 + 1 + 1 + 1 + 1]? = some (Obj.cells #[Value.int IntKind.i64 16, Value.int IntKind.i64 1, Value.int IntKind.i64 3, Value.int IntKind.i64 2, Value.int IntKind.i64 2, Value.int IntKind.i64 2, Value.int IntKind.i64 2, Value.int IntKind.i64 1, Value.int IntKind.i64 20, Value.int IntKind.i64 0, Value.int IntKind.i64 2, Value.int IntKind.i64 0, Value.int IntKind.i64 0, Value.int IntKind.i64 1, Value.int IntKind.i64 7, Value.int IntKind.i64 0, Value.int IntKind.i64 15, Value.int IntKind.i64 0] 62) := blk_at (by simp)
    have hsz : (((((((((((w7.alloc (Obj.cells #[Value.int IntKind.i64 16, Value.int IntKind.i64 1] 62)).alloc (Obj.cells #[Value.int IntKind.i64 3, Value.int IntKind.i64 2] 62)).alloc (Obj.cells #[Value.int IntKind.i64 2, Value.int IntKind.i64 2] 62)).alloc (Obj.cells #[Value.int IntKind.i64 2, Value.int IntKind.i64 1] 62)).alloc (Obj.cells #[Value.int IntKind.i64 20, Value.int IntKind.i64 0] 62)).alloc (Obj.cells #[Value.int IntKind.i64 2, Value.int IntKind.i64 0] 62)).alloc (Obj.cells #[Value.int IntKind.i64 0, Value.int IntKind.i64 1] 62)).alloc (Obj.cells #[Value.int IntKind.i64 7, Value.int IntKind.i64 0] 62)).alloc (Obj.cells #[Value.int IntKind.i64 15, Value.int IntKind.i64 0] 62)).alloc (Obj.cells #[Value.int IntKind.i64 16, Value.int IntKind.i64 1, Value.int IntKind.i64 3, Value.int IntKind.i64 2, Value.int IntKind.i64 2, Value.int IntKind.i64 2, Value.int IntKind.i64 2, Value.int IntKind.i64 1, Value.int IntKind.i64 20, Value.int IntKind.i64 0, Value.int IntKind.i64 2, Value.int IntKind.i64 0, Value.int IntKind.i64 0, Value.int IntKind.i64 1, Value.int IntKind.i64 7, Value.int IntKind.i64 0, Value.int IntKind.i64 15, Value.int IntKind.i64 0] 62))).heap.size = w7.heap.size + 10 := by simp
    generalize hWk : ((((((((((w7.alloc (Obj.cells #[Value.int IntKind.i64 16, Value.int IntKind.i64 1] 62)).alloc (Obj.cells #[Value.int IntKind.i64 3, Value.int IntKind.i64 2] 62)).alloc (Obj.cells #[Value.int IntKind.i64 2, Value.int IntKind.i64 2] 62)).alloc (Obj.cells #[Value.int IntKind.i64 2, Value.int IntKind.i64 1] 62)).alloc (Obj.cells #[Value.int IntKind.i64 20, Value.int IntKind.i64 0] 62)).alloc (Obj.cells #[Value.int IntKind.i64 2, Value.int IntKind.i64 0] 62)).alloc (Obj.cells #[Value.int IntKind.i64 0, Value.int IntKind.i64 1] 62)).alloc (Obj.cells #[Value.int IntKind.i64 7, Value.int IntKind.i64 0] 62)).alloc (Obj.cells #[Value.int IntKind.i64 15, Value.int IntKind.i64 0] 62)).alloc (Obj.cells #[Value.int IntKind.i64 16, Value.int IntKind.i64 1, Value.int IntKind.i64 3, Value.int IntKind.i64 2, Value.int IntKind.i64 2, Value.int IntKind.i64 2, Value.int IntKind.i64 2, Value.int IntKind.i64 1, Value.int IntKind.i64 20, Value.int IntKind.i64 0, Value.int IntKind.i64 2, Value.int IntKind.i64 0, Value.int IntKind.i64 0, Value.int IntKind.i64 1, Value.int IntKind.i64 7, Value.int IntKind.i64 0, Value.int IntKind.i64 15, Value.int IntKind.i64 0] 62)) = Wk at *
    obtain ⟨sb, hsbq⟩ : ∃ sb, sb = w7.heap.size + 1 + 1 + 1 + 1 + 1 + 1 + 1 + 1 + 1 := ⟨_, rfl⟩
    rw [← hsbq] at hsb
    rw [← hsbq]
    have hsb1 : w7.heap.size ≤ sb := by omega
    have hsb2 : sb < Wk.heap.size := by omega
    clear hsbq hWk hsz
    have hszk := hBk.size
    have k1 : Wk.cell? ⟨mb1, 0, none⟩ = some (.slice (some ⟨g1, 0, none⟩) L1.length cap1) := by rw [hBk.cell (p := ⟨mb1, 0, none⟩) h1b]; exact h1a
    have k2 : Wk.cell? ⟨mb2, 0, none⟩ = some (.slice (some ⟨g2, 0, none⟩) L2.length cap2) := by rw [hBk.cell (p := ⟨mb2, 0, none⟩) h2b]; exact h2a
    have k3 : Wk.cell? ⟨w.heap.size, 0, none⟩ = some (.slice none 0 0) := by rw [hBk.cell (p := ⟨w.heap.size, 0, none⟩) hw7]; exact hrs7
    have k4 : Wk.frozen? ⟨w.heap.size, 0, none⟩ = false := by rw [hBk.frozen (p := ⟨w.heap.size, 0, none⟩) hw7]; exact hrf7
    have j1 : mb1 < Wk.heap.size := by omega
    have j2 : mb2 < Wk.heap.size := by omega
    have j3 : w.heap.size < Wk.heap.size := by omega
    have HC1 := (show Hid _ from hc1); clear hc1
    have HC7 := (show Hid _ from hcv7); clear hcv7
    clear hcv4 h1a h2a hrs7 hrf7
    go_region
  all_goals
    have p0 : (((Wk.setCell ⟨w.heap.size, 0, none⟩ (.slice (some ⟨Wk.heap.size, 0, none⟩) 3 3)).alloc (Obj.cells #[.int .i64 0, .int .i64 3, .slice (some ⟨g1, 0, none⟩) L1.length cap1, .int .i64 2, .int .i64 3, .slice (some ⟨sb, 0, none⟩) 9 9, .int .i64 0, .int .i64 3, .slice (some ⟨g2, 0, none⟩) L2.length cap2] 68)).drew).cell? ⟨Wk.heap.size, 0, none⟩ = some (.int .i64 0) := by go_simp
    have p1 : (((Wk.setCell ⟨w.heap.size, 0, none⟩ (.slice (some ⟨Wk.heap.size, 0, none⟩) 3 3)).alloc (Obj.cells #[.int .i64 0, .int .i64 3, .slice (some ⟨g1, 0, none⟩) L1.length cap1, .int .i64 2, .int .i64 3, .slice (some ⟨sb, 0, none⟩) 9 9, .int .i64 0, .int .i64 3, .slice (some ⟨g2, 0, none⟩) L2.length cap2] 68)).drew).cell? ⟨Wk.heap.size, 1, none⟩ = some (.int .i64 3) := by go_simp
    have p2 : (((Wk.setCell ⟨w.heap.size, 0, none⟩ (.slice (some ⟨Wk.heap.size, 0, none⟩) 3 3)).alloc (Obj.cells #[.int .i64 0, .int .i64 3, .slice (some ⟨g1, 0, none⟩) L1.length cap1, .int .i64 2, .int .i64 3, .slice (some ⟨sb, 0, none⟩) 9 9, .int .i64 0, .int .i64 3, .slice (some ⟨g2, 0, none⟩) L2.length cap2] 68)).drew).cell? ⟨Wk.heap.size, 2, none⟩ = some (.slice (some ⟨g1, 0, none⟩) L1.length cap1) := by go_simp
    have p3 : (((Wk.setCell ⟨w.heap.size, 0, none⟩ (.slice (some ⟨Wk.heap.size, 0, none⟩) 3 3)).alloc (Obj.cells #[.int .i64 0, .int .i64 3, .slice (some ⟨g1, 0, none⟩) L1.length cap1, .int .i64 2, .int .i64 3, .slice (some ⟨sb, 0, none⟩) 9 9, .int .i64 0, .int .i64 3, .slice (some ⟨g2, 0, none⟩) L2.length cap2] 68)).drew).cell? ⟨Wk.heap.size, 3, none⟩ = some (.int .i64 2) := by go_simp
    have p4 : (((Wk.setCell ⟨w.heap.size, 0, none⟩ (.slice (some ⟨Wk.heap.size, 0, none⟩) 3 3)).alloc (Obj.cells #[.int .i64 0, .int .i64 3, .slice (some ⟨g1, 0, none⟩) L1.length cap1, .int .i64 2, .int .i64 3, .slice (some ⟨sb, 0, none⟩) 9 9, .int .i64 0, .int .i64 3, .slice (some ⟨g2, 0, none⟩) L2.length cap2] 68)).drew).cell? ⟨Wk.heap.size, 4, none⟩ = some (.int .i64 3) := by go_simp
    have p5 : (((Wk.setCell ⟨w.heap.size, 0, none⟩ (.slice (some ⟨Wk.heap.size, 0, none⟩) 3 3)).alloc (Obj.cells #[.int .i64 0, .int .i64 3, .slice (some ⟨g1, 0, none⟩) L1.length cap1, .int .i64 2, .int .i64 3, .slice (some ⟨sb, 0, none⟩) 9 9, .int .i64 0, .int .i64 3, .slice (some ⟨g2, 0, none⟩) L2.length cap2] 68)).drew).cell? ⟨Wk.heap.size, 5, none⟩ = some (.slice (some ⟨sb, 0, none⟩) 9 9) := by go_simp
    have p6 : (((Wk.setCell ⟨w.heap.size, 0, none⟩ (.slice (some ⟨Wk.heap.size, 0, none⟩) 3 3)).alloc (Obj.cells #[.int .i64 0, .int .i64 3, .slice (some ⟨g1, 0, none⟩) L1.length cap1, .int .i64 2, .int .i64 3, .slice (some ⟨sb, 0, none⟩) 9 9, .int .i64 0, .int .i64 3, .slice (some ⟨g2, 0, none⟩) L2.length cap2] 68)).drew).cell? ⟨Wk.heap.size, 6, none⟩ = some (.int .i64 0) := by go_simp
    have p7 : (((Wk.setCell ⟨w.heap.size, 0, none⟩ (.slice (some ⟨Wk.heap.size, 0, none⟩) 3 3)).alloc (Obj.cells #[.int .i64 0, .int .i64 3, .slice (some ⟨g1, 0, none⟩) L1.length cap1, .int .i64 2, .int .i64 3, .slice (some ⟨sb, 0, none⟩) 9 9, .int .i64 0, .int .i64 3, .slice (some ⟨g2, 0, none⟩) L2.length cap2] 68)).drew).cell? ⟨Wk.heap.size, 7, none⟩ = some (.int .i64 3) := by go_simp
    have p8 : (((Wk.setCell ⟨w.heap.size, 0, none⟩ (.slice (some ⟨Wk.heap.size, 0, none⟩) 3 3)).alloc (Obj.cells #[.int .i64 0, .int .i64 3, .slice (some ⟨g1, 0, none⟩) L1.length cap1, .int .i64 2, .int .i64 3, .slice (some ⟨sb, 0, none⟩) 9 9, .int .i64 0, .int .i64 3, .slice (some ⟨g2, 0, none⟩) L2.length cap2] 68)).drew).cell? ⟨Wk.heap.size, 8, none⟩ = some (.slice (some ⟨g2, 0, none⟩) L2.length cap2) := by go_simp
    have pr : (((Wk.setCell ⟨w.heap.size, 0, none⟩ (.slice (some ⟨Wk.heap.size, 0, none⟩) 3 3)).alloc (Obj.cells #[.int .i64 0, .int .i64 3, .slice (some ⟨g1, 0, none⟩) L1.length cap1, .int .i64 2, .int .i64 3, .slice (some ⟨sb, 0, none⟩) 9 9, .int .i64 0, .int .i64 3, .slice (some ⟨g2, 0, none⟩) L2.length cap2] 68)).drew).cell? ⟨w.heap.size, 0, none⟩ = some (.slice (some ⟨Wk.heap.size, 0, none⟩) 3 3) := by go_simp
    have hpz : (((Wk.setCell ⟨w.heap.size, 0, none⟩ (.slice (some ⟨Wk.heap.size, 0, none⟩) 3 3)).alloc (Obj.cells #[.int .i64 0, .int .i64 3, .slice (some ⟨g1, 0, none⟩) L1.length cap1, .int .i64 2, .int .i64 3, .slice (some ⟨sb, 0, none⟩) 9 9, .int .i64 0, .int .i64 3, .slice (some ⟨g2, 0, none⟩) L2.length cap2] 68)).drew).heap.size = Wk.heap.size + 1 := by simp
    have hBut : But (fun k => k = w.heap.size) Wk (((Wk.setCell ⟨w.heap.size, 0, none⟩ (.slice (some ⟨Wk.heap.size, 0, none⟩) 3 3)).alloc (Obj.cells #[.int .i64 0, .int .i64 3, .slice (some ⟨g1, 0, none⟩) L1.length cap1, .int .i64 2, .int .i64 3, .slice (some ⟨sb, 0, none⟩) 9 9, .int .i64 0, .int .i64 3, .slice (some ⟨g2, 0, none⟩) L2.length cap2] 68)).drew) := But.drew (But.alloc (But.setCell (S := fun k => k = w.heap.size) (p := ⟨w.heap.size, 0, none⟩) (But.refl _ _) (Or.inl rfl) _) _)
    have hBF : Below w.heap.size w (((Wk.setCell ⟨w.heap.size, 0, none⟩ (.slice (some ⟨Wk.heap.size, 0, none⟩) 3 3)).alloc (Obj.cells #[.int .i64 0, .int .i64 3, .slice (some ⟨g1, 0, none⟩) L1.length cap1, .int .i64 2, .int .i64 3, .slice (some ⟨sb, 0, none⟩) 9 9, .int .i64 0, .int .i64 3, .slice (some ⟨g2, 0, none⟩) L2.length cap2] 68)).drew) := (Below.alloc (Below.setCell (p := ⟨w.heap.size, 0, none⟩) (hbel7.trans (Below.mono hBk (by omega))) (Nat.le_refl _) _) (by simp; omega) _).drew
    generalize (((Wk.setCell ⟨w.heap.size, 0, none⟩ (.slice (some ⟨Wk.heap.size, 0, none⟩) 3 3)).alloc (Obj.cells #[.int .i64 0, .int .i64 3, .slice (some ⟨g1, 0, none⟩) L1.length cap1, .int .i64 2, .int .i64 3, .slice (some ⟨sb, 0, none⟩) 9 9, .int .i64 0, .int .i64 3, .slice (some ⟨g2, 0, none⟩) L2.length cap2] 68)).drew) = WF at *
    obtain ⟨pb, hpb⟩ : ∃ pb, pb = Wk.heap.size := ⟨_, rfl⟩
    rw [← hpb] at p0 p1 p2 p3 p4 p5 p6 p7 p8 pr
    have hpb1 : pb < WF.heap.size := by omega
    have q1 : CodeIn WF.heap.size WF (fnOf 0 3 g1 cap1 L1) := code_of_cells (by omega) (by omega) (fun j u hu => by
      have := HC1.out.2.2.1.cells (g := g1) rfl j u hu
      rw [Go.WideShapes.add_plain] at this ⊢
      rw [hBut.cell (p := ⟨g1, 0 + j, none⟩) (by show g1 < _; omega) (by show ¬ g1 = _; omega), hBk.cell (p := ⟨g1, 0 + j, none⟩) (by show g1 < _; omega)]
      exact this)
    have q3 : CodeIn WF.heap.size WF (fnOf 0 3 g2 cap2 L2) := code_of_cells (by omega) (by omega) (fun j u hu => by
      have := HC7.out.2.2.1.cells (g := g2) rfl j u hu
      rw [Go.WideShapes.add_plain] at this ⊢
      rw [hBut.cell (p := ⟨g2, 0 + j, none⟩) (by show g2 < _; omega) (by show ¬ g2 = _; omega), hBk.cell (p := ⟨g2, 0 + j, none⟩) (by show g2 < _; omega)]
      exact this)
    have q2 : CodeIn WF.heap.size WF (fnOf 2 3 sb 9 stepL) := code_of_cells (by decide) (by omega) (fun j u hu => by
      have := World.news_of_block hsb j u hu
      rw [Go.WideShapes.add_plain] at this ⊢
      rw [hBut.cell (p := ⟨sb, 0 + j, none⟩) (by show sb < _; omega) (by show ¬ sb = _; omega)]
      exact this)
    have qf : ∀ j, WF.frozen? ⟨g1, j, none⟩ = false := fun j => by
      have := owns_frozen HC1.out.2.2.1 j
      rw [hBut.frozen (p := ⟨g1, j, none⟩) (by show g1 < _; omega) (by show ¬ g1 = _; omega), hBk.frozen (p := ⟨g1, j, none⟩) (by show g1 < _; omega)]
      exact this
    have hpost : ProgPost R n true w (.returned (.agg #[.slice (some ⟨pb, 0, none⟩) 3 3])) WF := by
      refine ⟨pb, g1, cap1, sb, g2, cap2, rfl, ?_, by omega, by omega, by omega, by omega, by omega, by rw [← HL1.out]; exact hn1.2, by rw [← HL1.out]; exact hn1.1, qf, hBF⟩
      · rw [← HL1.out, ← HL2.out]; exact made_in hpb1 p0 p1 p2 p3 p4 p5 p6 p7 p8 q1 q2 q3
    have HP := (show Hid _ from hpost); clear hpost
    clear p0 p1 p2 p3 p4 p5 p6 p7 p8 q1 q2 q3 qf hBut hBF hBk k1 k2 k3 k4
    go_wp2_with fail
    exact bodyPost_ret (v := .agg #[.slice (some ⟨pb, 0, none⟩) 3 3]) (by simp [results, Tryz.results7, go_sem, pr]) rfl HP.out

theorem program_any (a : Option Addr) (n c b o : Nat) (R : Nat → Int) (again : Bool) (w : World) (hr : RawIn w.heap.size w a n b o R) (hc : n ≤ c) :
    Calls Tryz.prog 7 #[.slice a n c, .bool again] w fun e w' => ProgPost R n again w e w' := by
  cases again
  · exact program_false a n c b o R w hr hc
  · exact program_true a n c b o R w hr hc

end Go.Proofs.YtbkmgoffiigdbabGreatDoor

namespace Go.Proofs.YtbkmgoffiigdbabGreatDoor

/-! PLAIN: a body that was made is in order. -/

def rel (c : Int) : List (Int × Int × Int) :=
  if pickI c 1099511627776 % 18 < 8 then relV (pickI c 1099511627776 % 18).toNat (pickI c 1099511627776 / 18 % 9)
  else relO (pickI c 1099511627776 % 18 - 8).toNat (pickI c 1099511627776 / 18 % 9)

def absI (len : Nat) (t : Int × Int × Int) : Int × Int := (t.1, if t.1 = 13 then t.2.1 + len else t.2.1)

theorem pieceV_rel (k : Nat) (n : Int) (len : Nat) : pieceV k n len = (relV k n).map (absI len) := by
  unfold pieceV relV; repeat' split
  all_goals simp [absI]
  all_goals omega
theorem pieceO_rel (k : Nat) (n : Int) (len : Nat) : pieceO k n len = (relO k n).map (absI len) := by
  unfold pieceO relO guardL relG; repeat' split
  all_goals simp [absI]
  all_goals omega
theorem piece_rel (c : Int) (len : Nat) : piece c len = (rel c).map (absI len) := by
  unfold piece rel; split
  · exact pieceV_rel _ _ _
  · exact pieceO_rel _ _ _

theorem rel_ok (c : Int) : relOk (rel c) = true := by
  have hb : 0 ≤ pickI c 1099511627776 ∧ pickI c 1099511627776 < 1099511627776 := by unfold pickI; split <;> omega
  have hn : (((pickI c 1099511627776 / 18 % 9).toNat : Nat) : Int) = pickI c 1099511627776 / 18 % 9 := by omega
  unfold rel
  split
  · have h := List.all_eq_true.1 relV_ok (pickI c 1099511627776 % 18).toNat (List.mem_range.2 (by omega))
    have h' := List.all_eq_true.1 h (pickI c 1099511627776 / 18 % 9).toNat (List.mem_range.2 (by omega))
    simp only [hn] at h'
    exact h'
  · have h := List.all_eq_true.1 relO_ok (pickI c 1099511627776 % 18 - 8).toNat (List.mem_range.2 (by omega))
    have h' := List.all_eq_true.1 h (pickI c 1099511627776 / 18 % 9).toNat (List.mem_range.2 (by omega))
    simp only [hn] at h'
    exact h'

/-- The height ahead of a piece's place j. -/
def relH (p : List (Int × Int × Int)) (c : Nat) : Int := if c < p.length then (p.getD c (0, 0, 0)).2.2 else 0

/-- What is asked of one instruction: 'hb': the height behind it, as the place that follows has it. -/
structure InstrOk (op x : Int) (m : Nat) (h hn : Int) (H : Nat → Int) : Prop where
  h0 : 0 ≤ h
  hp : popD op 2 ≤ h
  ht : h - popD op 2 + pushD op ≤ 10
  no : op ≠ 12 ∧ op ≠ 15 ∧ op ≠ 27
  nx : hn = h - popD op 2 + pushD op
  jm : op = 13 → 0 ≤ x ∧ x ≤ m ∧ H x.toNat = h - popD op 2 + pushD op
  lg : op ≠ 13 → legalB 3 3 0 op x = true
  cl : op = 14 → x = 1

theorem rel_at {p : List (Int × Int × Int)} (h : relOk p = true) : 1 ≤ p.length ∧ p.length ≤ 7 ∧ relH p 0 = 0 ∧
    ∀ j, j < p.length → InstrOk (p.getD j (0, 0, 0)).1 (p.getD j (0, 0, 0)).2.1 p.length (relH p j) (relH p (j + 1)) (relH p) := by
  simp only [relOk, Bool.and_eq_true, decide_eq_true_eq] at h
  obtain ⟨hl, ha⟩ := h
  have hj := fun j (hj : j < p.length) => List.all_eq_true.1 ha j (List.mem_range.2 hj)
  refine ⟨hl.1, hl.2, ?_, fun j hjl => ?_⟩
  · have := hj 0 (by omega)
    simp only [Bool.and_eq_true, decide_eq_true_eq] at this
    unfold relH
    rw [if_pos (by omega)]
    exact this.1.1.2
  · have := hj j hjl
    simp only [Bool.and_eq_true, decide_eq_true_eq, beq_iff_eq] at this
    obtain ⟨⟨⟨⟨⟨⟨h1, h2⟩, h3⟩, h4⟩, h5⟩, h6⟩, h7⟩ := this
    have hr : relH p j = (p.getD j (0, 0, 0)).2.2 := by unfold relH; rw [if_pos hjl]
    refine ⟨by rw [hr]; exact h1, by rw [hr]; exact h2, by rw [hr]; exact h3, h4, by rw [hr]; exact h6, fun h13 => ?_, fun h13 => ?_, fun h14 => ?_⟩
    · rw [if_pos h13] at h7
      simp only [Bool.and_eq_true, decide_eq_true_eq, beq_iff_eq] at h7
      rw [hr]
      exact ⟨h7.1.1, h7.1.2, h7.2⟩
    · rw [if_neg h13] at h7
      simp only [Bool.and_eq_true] at h7
      exact h7.1
    · rw [if_neg (by omega)] at h7
      simp only [Bool.and_eq_true, Bool.or_eq_true, decide_eq_true_eq, beq_iff_eq] at h7
      rcases h7.2 with h | h
      · exact absurd h14 h
      · exact h

/-- The first m instructions are in order. -/
structure Seg (L : List (Int × Int)) (m : Nat) (H : Nat → Int) : Prop where
  z0 : H 0 = 0
  z2 : H 2 = 0
  zm : H m = 0
  m2 : 2 ≤ m
  ok : ∀ a, a < m → InstrOk (L.getD a (0, 0)).1 (L.getD a (0, 0)).2 m (H a) (H (a + 1)) H

theorem seg_zero : Seg [(0, 0), (3, 0)] 2 (fun a => if a = 1 then 1 else 0) := by
  refine ⟨rfl, rfl, rfl, Nat.le_refl _, fun a ha => ?_⟩
  obtain rfl | rfl : a = 0 ∨ a = 1 := by omega
  · refine ⟨by decide, by decide, by decide, by decide, by decide, fun h => by simp at h, fun _ => by decide, fun h => by simp at h⟩
  · refine ⟨by decide, by decide, by decide, by decide, by decide, fun h => by simp at h, fun _ => by decide, fun h => by simp at h⟩

theorem seg_step {L : List (Int × Int)} {H : Nat → Int} (h : Seg L L.length H) (c : Int) : ∃ H', Seg (L ++ piece c L.length) (L ++ piece c L.length).length H' := by
  obtain ⟨hp1, hp7, hp0, hpk⟩ := rel_at (rel_ok c)
  rw [piece_rel]
  generalize rel c = p at *
  have hlen : (L ++ p.map (absI L.length)).length = L.length + p.length := by simp
  rw [hlen]
  have hlo : ∀ c, c ≤ L.length → (if c < L.length then H c else relH p (c - L.length)) = H c := fun c hc => by
    by_cases e : c < L.length
    · rw [if_pos e]
    · obtain rfl : c = L.length := by omega
      rw [if_neg e, Nat.sub_self, hp0, h.zm]
  have hhi : ∀ j, (if L.length + j < L.length then H (L.length + j) else relH p (L.length + j - L.length)) = relH p j := fun j => by
    rw [if_neg (by omega), show L.length + j - L.length = j by omega]
  have h2 := h.m2
  refine ⟨fun c => if c < L.length then H c else relH p (c - L.length), ?_, ?_, ?_, by omega, fun a ha => ?_⟩
  · show (if 0 < L.length then _ else _) = _; rw [hlo 0 (by omega)]; exact h.z0
  · show (if 2 < L.length then _ else _) = _; rw [hlo 2 (by omega)]; exact h.z2
  · show (if L.length + p.length < L.length then _ else _) = _
    rw [hhi p.length]; unfold relH; rw [if_neg (by omega)]
  · by_cases e : a < L.length
    · have hk := h.ok a e
      have hg : (L ++ p.map (absI L.length)).getD a (0, 0) = L.getD a (0, 0) := by
        simp only [List.getD_eq_getElem?_getD]; rw [List.getElem?_append_left e]
      rw [hg]
      show InstrOk _ _ _ (if a < L.length then _ else _) (if a + 1 < L.length then _ else _) _
      rw [hlo a (by omega), hlo (a + 1) (by omega)]
      refine ⟨hk.h0, hk.hp, hk.ht, hk.no, hk.nx, fun h13 => ?_, hk.lg, hk.cl⟩
      obtain ⟨k1, k2, k3⟩ := hk.jm h13
      refine ⟨k1, by omega, ?_⟩
      show (if _ < L.length then _ else _) = _
      rw [hlo _ (by omega)]; exact k3
    · obtain ⟨j, rfl⟩ : ∃ j, a = L.length + j := ⟨a - L.length, by omega⟩
      have hj : j < p.length := by omega
      have hk := hpk j hj
      have hg : (L ++ p.map (absI L.length)).getD (L.length + j) (0, 0) = absI L.length (p.getD j (0, 0, 0)) := by
        simp only [List.getD_eq_getElem?_getD]
        rw [List.getElem?_append_right (by omega), show L.length + j - L.length = j by omega, List.getElem?_map, List.getElem?_eq_getElem hj]
        simp
      rw [hg]
      have hhi1 : (if L.length + j + 1 < L.length then H (L.length + j + 1) else relH p (L.length + j + 1 - L.length)) = relH p (j + 1) := hhi (j + 1)
      show InstrOk _ _ _ (if L.length + j < L.length then _ else _) (if L.length + j + 1 < L.length then _ else _) _
      rw [hhi j, hhi1]
      generalize p.getD j (0, 0, 0) = t at *
      refine ⟨hk.h0, hk.hp, hk.ht, hk.no, hk.nx, fun h13 => ?_, fun h13 => ?_, fun h14 => ?_⟩
      · have h13' : t.1 = 13 := h13
        obtain ⟨k1, k2, k3⟩ := hk.jm h13'
        simp only [absI, if_pos h13']
        refine ⟨by omega, by omega, ?_⟩
        have ht : (t.2.1 + (L.length : Int)).toNat = L.length + t.2.1.toNat := by omega
        rw [ht, hhi]
        exact k3
      · have h13' : t.1 ≠ 13 := h13
        simp only [absI, if_neg h13']
        exact hk.lg h13'
      · have h14' : t.1 = 14 := h14
        simp only [absI, if_neg (show ¬ t.1 = 13 by omega)]
        exact hk.cl h14'

theorem seg_body (R : Nat → Int) (i : Nat) : ∃ H, Seg (bodyTo R i) (bodyTo R i).length H := by
  induction i with
  | zero => exact ⟨_, seg_zero⟩
  | succ i ih => obtain ⟨H, h⟩ := ih; exact seg_step h (R i)

end Go.Proofs.YtbkmgoffiigdbabGreatDoor

namespace Go.Proofs.YtbkmgoffiigdbabGreatDoor

/-! PLAIN: what Check tells of a program that was made. -/

theorem popD_of {op q : Int} (h : op ≠ 14) : popD op q = popD op 2 := by
  unfold popD; repeat' split
  all_goals first | rfl | omega

theorem getD_hi (B t : List (Int × Int)) (j : Nat) : (B ++ t).getD (B.length + j) (0, 0) = t.getD j (0, 0) := by
  simp only [List.getD_eq_getElem?_getD]; rw [List.getElem?_append_right (by omega), show B.length + j - B.length = j by omega]
theorem getD_lo (B t : List (Int × Int)) {a : Nat} (h : a < B.length) : (B ++ t).getD a (0, 0) = B.getD a (0, 0) := by
  simp only [List.getD_eq_getElem?_getD]; rw [List.getElem?_append_left h]

theorem pop_of {g : PgR} (h1 : (g.f 1).p = 2) {op x : Int} (hc : op = 14 → x = 1) : popD op (g.f x.toNat).p = popD op 2 := by
  by_cases e : op = 14
  · rw [hc e]; show popD op (g.f 1).p = _; rw [h1]
  · exact popD_of e

theorem next_of {a : Nat} {op x : Int} (h : op ≠ 12 ∧ op ≠ 15 ∧ op ≠ 27) {c : Nat} (hc : c ∈ nextD a op x) : c = a + 1 ∨ (op = 13 ∧ c = x.toNat) := by
  unfold nextD at hc
  rw [if_neg (by omega), if_neg h.1] at hc
  split at hc
  · next h13 => simp only [List.mem_cons, List.not_mem_nil, or_false] at hc; rcases hc with h | h
                · exact Or.inr ⟨h13, h⟩
                · exact Or.inl h
  · simp only [List.mem_cons, List.not_mem_nil, or_false] at hc; exact Or.inl hc

theorem shut_of {g : PgR} {p l : Int} {b c m : Nat} {L : List (Int × Int)} {HH : Nat → Int} (h1 : (g.f 1).p = 2) (hm : m < L.length) {a : Nat} (ha : a < m)
    (ok : InstrOk (L.getD a (0, 0)).1 (L.getD a (0, 0)).2 m (HH a) (HH (a + 1)) HH) : (flowOf g (fnOf p l b c L)).Shut HH a := by
  have hp : (flowOf g (fnOf p l b c L)).pop a = popD (L.getD a (0, 0)).1 2 := pop_of h1 ok.cl
  have hb : (flowOf g (fnOf p l b c L)).behind a (HH a) = HH a - popD (L.getD a (0, 0)).1 2 + pushD (L.getD a (0, 0)).1 := by
    unfold Flow.behind; rw [hp]; rfl
  refine ⟨by rw [hp]; exact ok.hp, by rw [hb]; exact ok.ht, fun d hd => ?_⟩
  rw [hb]
  rcases next_of ok.no hd with rfl | ⟨h13, rfl⟩
  · exact ⟨by show a + 1 < L.length; omega, ok.nx⟩
  · obtain ⟨k1, k2, k3⟩ := ok.jm h13
    exact ⟨by show _ < L.length; have : (fnOf p l b c L).ar a = (L.getD a (0, 0)).2 := rfl; omega, k3⟩

theorem instr_ext {op x : Int} {m : Nat} {h hn h' hn' : Int} {H H' : Nat → Int} (ok : InstrOk op x m h hn H) (e1 : h' = h) (e2 : hn' = hn) (e3 : ∀ c, c ≤ m → H' c = H c) : InstrOk op x m h' hn' H' := by
  subst e1 e2
  exact ⟨ok.h0, ok.hp, ok.ht, ok.no, ok.nx, fun h13 => by obtain ⟨k1, k2, k3⟩ := ok.jm h13; exact ⟨k1, k2, by rw [e3 _ (by omega)]; exact k3⟩, ok.lg, ok.cl⟩

/-- The heights: those of the body, then those of what follows. -/
def HT (m : Nat) (H T : Nat → Int) (a : Nat) : Int := if a ≤ m then H a else T (a - m)

theorem HT_lo {m : Nat} {H T : Nat → Int} {a : Nat} (h : a ≤ m) : HT m H T a = H a := by unfold HT; rw [if_pos h]
theorem HT_hi {m : Nat} {H T : Nat → Int} {j : Nat} (h : 0 < j) : HT m H T (m + j) = T j := by unfold HT; rw [if_neg (by omega), show m + j - m = j by omega]

theorem body_shut {g : PgR} {p l : Int} {b c : Nat} {B t : List (Int × Int)} {H T : Nat → Int} (h1 : (g.f 1).p = 2) (hs : Seg B B.length H) (ht : 0 < t.length) {a : Nat} (ha : a < B.length) :
    (flowOf g (fnOf p l b c (B ++ t))).Shut (HT B.length H T) a := by
  refine shut_of (m := B.length) h1 (by simp; omega) ha ?_
  rw [getD_lo B t ha]
  exact instr_ext (hs.ok a ha) (HT_lo (by omega)) (HT_lo (by omega)) (fun c hc => HT_lo hc)

theorem body_reach {g : PgR} {p l : Int} {b c : Nat} {B t : List (Int × Int)} {H : Nat → Int} (h1 : (g.f 1).p = 2) (hs : Seg B B.length H) (a : Nat) (ha : a ≤ B.length) :
    (flowOf g (fnOf p l b c (B ++ t))).Reach a (H a) := by
  induction a with
  | zero => rw [hs.z0]; exact Flow.reach_first _
  | succ a ih =>
    have hr := ih (by omega)
    have ok := hs.ok a (by omega)
    have hop : (fnOf p l b c (B ++ t)).op a = (B.getD a (0, 0)).1 := by show ((B ++ t).getD a (0, 0)).1 = _; rw [getD_lo B t (by omega)]
    have har : (fnOf p l b c (B ++ t)).ar a = (B.getD a (0, 0)).2 := by show ((B ++ t).getD a (0, 0)).2 = _; rw [getD_lo B t (by omega)]
    have hn : a + 1 ∈ (flowOf g (fnOf p l b c (B ++ t))).next a := by
      show a + 1 ∈ nextD a ((fnOf p l b c (B ++ t)).op a) _
      rw [hop]
      have hno := ok.no
      unfold nextD
      rw [if_neg (by omega), if_neg hno.1]
      split <;> simp
    have h2 := Flow.reach_next hr hn
    have hb : (flowOf g (fnOf p l b c (B ++ t))).behind a (H a) = H (a + 1) := by
      rw [ok.nx]
      show H a - popD ((fnOf p l b c (B ++ t)).op a) (g.f ((fnOf p l b c (B ++ t)).ar a).toNat).p + pushD ((fnOf p l b c (B ++ t)).op a) = _
      rw [hop, har, pop_of h1 ok.cl]
    rwa [hb] at h2

theorem legal_lo {nc : Nat} {op x : Int} {m : Nat} {h hn : Int} {H : Nat → Int} (ok : InstrOk op x m h hn H) (hm : m < nc) : legalB 3 3 nc op x = true := by
  by_cases e : op = 13
  · obtain ⟨k1, k2, _⟩ := ok.jm e
    unfold legalB
    rw [if_neg (by omega), if_neg (by omega), if_pos (Or.inr e)]
    exact insideB_t k1 (by omega)
  · have h := ok.lg e
    have hno := ok.no
    unfold legalB at h ⊢
    by_cases e0 : op = 0
    · rw [if_pos e0]
    · rw [if_neg e0] at h ⊢
      by_cases e1 : op = 2 ∨ op = 3
      · rw [if_pos e1] at h ⊢; exact h
      · rw [if_neg e1] at h ⊢
        rw [if_neg (by omega)] at h ⊢
        exact h

theorem list_legal {B t : List (Int × Int)} {H : Nat → Int} (hs : Seg B B.length H) (ht0 : 0 < t.length) (k : Nat) (ht : ∀ j, j < k → legalB 3 3 (B ++ t).length (t.getD j (0, 0)).1 (t.getD j (0, 0)).2 = true) (j : Nat) (hj : j < B.length + k) :
    legalB 3 3 (B ++ t).length ((B ++ t).getD j (0, 0)).1 ((B ++ t).getD j (0, 0)).2 = true := by
  by_cases e : j < B.length
  · rw [getD_lo B t e]; exact legal_lo (hs.ok j e) (by simp; omega)
  · obtain ⟨i, rfl⟩ : ∃ i, j = B.length + i := ⟨j - B.length, by omega⟩
    rw [getD_hi B t i]; exact ht i (by omega)

theorem mainW_eq (B : List (Int × Int)) (x : Int × Int) : mainW B x = B ++ [(14, 2), (5, 0), x] := by simp [mainW]
theorem mainW_len (B : List (Int × Int)) (x : Int × Int) : (mainW B x).length = B.length + 3 := by simp [mainW]


theorem made_sizes {pb b1 c1 sb b2 c2 : Nat} {B : List (Int × Int)} {C : List (Int × Int)} {x : Int × Int} {H : Nat → Int} (hB : Seg B B.length H) (hB2 : B.length ≤ 44) (hC2 : C.length ≤ 44) :
    SizesSay (madeG pb b1 c1 sb b2 c2 (mainW B x) stepL (C ++ [(2, 1)] ++ [(15, 0)])) 0 true := by
  have h2 := hB.m2
  refine Or.inl ⟨rfl, rfl, by show 1 ≤ 3; omega, by show 3 ≤ 8; omega, fun i hi => ?_⟩
  have hi' : i = 0 ∨ i = 1 ∨ i = 2 := by have : i < 3 := hi; omega
  rcases hi' with rfl | rfl | rfl
  · show sizedB 0 0 3 (mainW B x).length = true
    rw [mainW_len]
    unfold sizedB
    rw [insideB_t (by omega) (by omega)]
    decide
  · show sizedB 1 2 3 stepL.length = true
    decide
  · show sizedB 2 0 3 (C ++ [(2, 1)] ++ [(15, 0)]).length = true
    unfold sizedB
    rw [insideB_t (by simp; omega) (by simp; omega)]
    decide

theorem step_legal (j : Nat) (hj : j < 9) : legalB 3 3 9 (stepL.getD j (0, 0)).1 (stepL.getD j (0, 0)).2 = true := by
  have : ∀ j : Fin 9, legalB 3 3 9 (stepL.getD j (0, 0)).1 (stepL.getD j (0, 0)).2 = true := by decide
  exact this ⟨j, hj⟩

theorem other_legal {C : List (Int × Int)} {K : Nat → Int} (hC : Seg C C.length K) (j : Nat) (hj : j < (C ++ [(2, 1)] ++ [(15, 0)]).length) :
    legalB 3 3 (C ++ [(2, 1)] ++ [(15, 0)]).length ((C ++ [(2, 1)] ++ [(15, 0)]).getD j (0, 0)).1 ((C ++ [(2, 1)] ++ [(15, 0)]).getD j (0, 0)).2 = true := by
  rw [List.append_assoc] at *
  refine list_legal hC (by simp) 2 (fun j hj => ?_) j (by simpa using hj)
  obtain rfl | rfl : j = 0 ∨ j = 1 := by omega
  · rfl
  · rfl

theorem main_legal {B : List (Int × Int)} {x : Int × Int} {H : Nat → Int} (hB : Seg B B.length H) (j : Nat) (hj : j < B.length + 2) : legalB 3 3 (mainW B x).length ((mainW B x).getD j (0, 0)).1 ((mainW B x).getD j (0, 0)).2 = true := by
  rw [mainW_eq]
  refine list_legal hB (by simp) 2 (fun j hj => ?_) j hj
  obtain rfl | rfl : j = 0 ∨ j = 1 := by omega
  · rfl
  · rfl

theorem main_last (B : List (Int × Int)) (x : Int × Int) : (mainW B x).getD (B.length + 2) (0, 0) = x := by
  rw [mainW_eq, getD_hi]; rfl

theorem made_legal {pb b1 c1 sb b2 c2 : Nat} {B : List (Int × Int)} {C : List (Int × Int)} {x : Int × Int} {H : Nat → Int} {K : Nat → Int} (hB : Seg B B.length H) (hC : Seg C C.length K) (hx : legalB 3 3 (mainW B x).length x.1 x.2 = true) :
    CodeSay (madeG pb b1 c1 sb b2 c2 (mainW B x) stepL (C ++ [(2, 1)] ++ [(15, 0)])) 0 true := by
  refine Or.inl ⟨rfl, rfl, fun i hi j hj => ?_⟩
  have hi' : i = 0 ∨ i = 1 ∨ i = 2 := by have : i < 3 := hi; omega
  rcases hi' with rfl | rfl | rfl
  · have hj' : j < (mainW B x).length := hj
    rw [mainW_len] at hj'
    show legalB 3 3 (mainW B x).length ((mainW B x).getD j (0, 0)).1 ((mainW B x).getD j (0, 0)).2 = true
    by_cases e : j < B.length + 2
    · exact main_legal hB j e
    · obtain rfl : j = B.length + 2 := by omega
      rw [main_last]; exact hx
  · exact step_legal j hj
  · exact other_legal hC j hj

/-- A slip: an instruction that may not be. -/
theorem made_slip {pb b1 c1 sb b2 c2 : Nat} {B : List (Int × Int)} {C : List (Int × Int)} {x : Int × Int} {H : Nat → Int} (hB : Seg B B.length H) (hx : legalB 3 3 (mainW B x).length x.1 x.2 = false) :
    CodeSay (madeG pb b1 c1 sb b2 c2 (mainW B x) stepL (C ++ [(2, 1)] ++ [(15, 0)])) ((B.length + 2 : Nat) : Int) false := by
  refine Or.inr ⟨rfl, 0, B.length + 2, by omega, by show 0 < 3; omega, fun i hi => by omega, ?_, ?_, fun j hj => ?_⟩
  · show B.length + 2 < (mainW B x).length; rw [mainW_len]; omega
  · show legalB 3 3 (mainW B x).length ((mainW B x).getD (B.length + 2) (0, 0)).1 ((mainW B x).getD (B.length + 2) (0, 0)).2 = false
    rw [main_last]; exact hx
  · exact main_legal hB j hj

theorem shut_at {g : PgR} {p l : Int} {b c : Nat} {L : List (Int × Int)} {HH : Nat → Int} {a : Nat} {op x h q : Int} (hg : L.getD a (0, 0) = (op, x)) (hh : HH a = h) (hq : (g.f x.toNat).p = q)
    (h1 : popD op q ≤ h) (h2 : h - popD op q + pushD op ≤ 10) (h3 : ∀ d, d ∈ nextD a op x → d < L.length ∧ HH d = h - popD op q + pushD op) : (flowOf g (fnOf p l b c L)).Shut HH a := by
  have hop : (fnOf p l b c L).op a = op := by show (L.getD a (0, 0)).1 = _; rw [hg]
  have har : (fnOf p l b c L).ar a = x := by show (L.getD a (0, 0)).2 = _; rw [hg]
  have hp : (flowOf g (fnOf p l b c L)).pop a = popD op q := by show popD ((fnOf p l b c L).op a) (g.f ((fnOf p l b c L).ar a).toNat).p = _; rw [hop, har, hq]
  have hb : (flowOf g (fnOf p l b c L)).behind a (HH a) = h - popD op q + pushD op := by
    unfold Flow.behind; rw [hp, hh]; show _ + pushD ((fnOf p l b c L).op a) = _; rw [hop]
  refine ⟨by rw [hp, hh]; exact h1, by rw [hb]; exact h2, fun d hd => ?_⟩
  rw [hb]
  refine h3 d ?_
  have : d ∈ nextD a ((fnOf p l b c L).op a) ((fnOf p l b c L).ar a) := hd
  rwa [hop, har] at this

theorem main_fits {pb b1 c1 sb b2 c2 : Nat} {B : List (Int × Int)} {C : List (Int × Int)} {H : Nat → Int} (hB : Seg B B.length H) (again : Bool) : (flowOf (madeG pb b1 c1 sb b2 c2 (mainW B (lastI again)) stepL (C ++ [(2, 1)] ++ [(15, 0)])) (fnOf 0 3 b1 c1 (mainW B (lastI again)))).Fits := by
  have h2 := hB.m2
  have hlen := mainW_len B (lastI again)
  refine Flow.fits_of_shut (H := HT B.length H (fun j => if j = 1 then 1 else 0)) (by show 0 < (mainW B (lastI again)).length; omega) (by rw [HT_lo (by omega)]; exact hB.z0) (fun a => (pushD_bd _).1) (fun a ha _ => ?_)
  have ha' : a < B.length + 3 := by rw [← hlen]; exact ha
  by_cases e : a < B.length
  · rw [mainW_eq]; exact body_shut rfl hB (by simp) e
  · have hcase : a = B.length + 0 ∨ a = B.length + 1 ∨ a = B.length + 2 := by omega
    rcases hcase with rfl | rfl | rfl
    · refine shut_at (op := 14) (x := 2) (h := 0) (q := 0) (by rw [mainW_eq, getD_hi]; rfl) (by rw [HT_lo (by omega)]; exact hB.zm) rfl (by decide) (by decide) (fun d hd => ?_)
      have : d = B.length + 0 + 1 := by simpa [nextD] using hd
      subst this
      exact ⟨by omega, by rw [show B.length + 0 + 1 = B.length + 1 from rfl, HT_hi (by omega)]; decide⟩
    · refine shut_at (op := 5) (x := 0) (h := 1) (q := 0) (by rw [mainW_eq, getD_hi]; rfl) (by rw [HT_hi (by omega)]; rfl) rfl (by decide) (by decide) (fun d hd => ?_)
      have : d = B.length + 1 + 1 := by simpa [nextD] using hd
      subst this
      exact ⟨by omega, by rw [show B.length + 1 + 1 = B.length + 2 from rfl, HT_hi (by omega)]; decide⟩
    · cases again
      · refine shut_at (op := 27) (x := 0) (h := 0) (q := 0) (by rw [main_last]; rfl) (by rw [HT_hi (by omega)]; rfl) rfl (by decide) (by decide) (fun d hd => ?_)
        simp [nextD] at hd
      · refine shut_at (op := 12) (x := 2) (h := 0) (q := 0) (by rw [main_last]; rfl) (by rw [HT_hi (by omega)]; rfl) rfl (by decide) (by decide) (fun d hd => ?_)
        have : d = 2 := by simpa [nextD] using hd
        subst this
        exact ⟨by omega, by rw [HT_lo (by omega), hB.z2]; decide⟩

theorem other_fits {pb b1 c1 sb b2 c2 : Nat} {B : List (Int × Int)} {C : List (Int × Int)} {x : Int × Int} {K : Nat → Int} (hC : Seg C C.length K) : (flowOf (madeG pb b1 c1 sb b2 c2 (mainW B x) stepL (C ++ [(2, 1)] ++ [(15, 0)])) (fnOf 0 3 b2 c2 (C ++ [(2, 1)] ++ [(15, 0)]))).Fits := by
  have h2 := hC.m2
  have hlen : (C ++ [(2, 1)] ++ [(15, 0)] : List (Int × Int)).length = C.length + 2 := by simp
  have heq : (C ++ [(2, 1)] ++ [(15, 0)] : List (Int × Int)) = C ++ [(2, 1), (15, 0)] := by simp
  refine Flow.fits_of_shut (H := HT C.length K (fun _ => 1)) (by show 0 < (C ++ [(2, 1)] ++ [(15, 0)]).length; omega) (by rw [HT_lo (by omega)]; exact hC.z0) (fun a => (pushD_bd _).1) (fun a ha _ => ?_)
  have ha' : a < C.length + 2 := by rw [← hlen]; exact ha
  by_cases e : a < C.length
  · rw [heq]; exact body_shut rfl hC (by simp) e
  · have hcase : a = C.length + 0 ∨ a = C.length + 1 := by omega
    rcases hcase with rfl | rfl
    · refine shut_at (op := 2) (x := 1) (h := 0) (q := 2) (by rw [heq, getD_hi]; rfl) (by rw [HT_lo (by omega)]; exact hC.zm) rfl (by decide) (by decide) (fun d hd => ?_)
      have : d = C.length + 0 + 1 := by simpa [nextD] using hd
      subst this
      exact ⟨by omega, by rw [show C.length + 0 + 1 = C.length + 1 from rfl, HT_hi (by omega)]; decide⟩
    · refine shut_at (op := 15) (x := 0) (h := 1) (q := 0) (by rw [heq, getD_hi]; rfl) (by rw [HT_hi (by omega)]) rfl (by decide) (by decide) (fun d hd => ?_)
      simp [nextD] at hd

def stepH (a : Nat) : Int := ([0, 1, 0, 1, 2, 0, 1, 2, 1] : List Int).getD a 0

theorem step_fits {pb b1 c1 sb b2 c2 : Nat} {B : List (Int × Int)} {C : List (Int × Int)} {x : Int × Int} : (flowOf (madeG pb b1 c1 sb b2 c2 (mainW B x) stepL (C ++ [(2, 1)] ++ [(15, 0)])) (fnOf 2 3 sb 9 stepL)).Fits := by
  refine Flow.fits_of_shut (H := stepH) (by show 0 < 9; omega) rfl (fun a => (pushD_bd _).1) (fun a ha _ => ?_)
  have ha' : a < 9 := ha
  have hcase : a = 0 ∨ a = 1 ∨ a = 2 ∨ a = 3 ∨ a = 4 ∨ a = 5 ∨ a = 6 ∨ a = 7 ∨ a = 8 := by omega
  rcases hcase with rfl | rfl | rfl | rfl | rfl | rfl | rfl | rfl | rfl
  · exact shut_at (op := 16) (x := 1) (h := 0) (q := 2) rfl rfl rfl (by decide) (by decide) (fun d hd => by have : d = 1 := by simpa [nextD] using hd
                                                                                                            subst this; decide)
  · exact shut_at (op := 3) (x := 2) (h := 1) (q := 0) rfl rfl rfl (by decide) (by decide) (fun d hd => by have : d = 2 := by simpa [nextD] using hd
                                                                                                           subst this; decide)
  · exact shut_at (op := 2) (x := 2) (h := 0) (q := 0) rfl rfl rfl (by decide) (by decide) (fun d hd => by have : d = 3 := by simpa [nextD] using hd
                                                                                                           subst this; decide)
  · exact shut_at (op := 2) (x := 1) (h := 1) (q := 2) rfl rfl rfl (by decide) (by decide) (fun d hd => by have : d = 4 := by simpa [nextD] using hd
                                                                                                           subst this; decide)
  · exact shut_at (op := 20) (x := 0) (h := 2) (q := 0) rfl rfl rfl (by decide) (by decide) (fun d hd => by have : d = 5 := by simpa [nextD] using hd
                                                                                                            subst this; decide)
  · exact shut_at (op := 2) (x := 0) (h := 0) (q := 0) rfl rfl rfl (by decide) (by decide) (fun d hd => by have : d = 6 := by simpa [nextD] using hd
                                                                                                           subst this; decide)
  · exact shut_at (op := 0) (x := 1) (h := 1) (q := 2) rfl rfl rfl (by decide) (by decide) (fun d hd => by have : d = 7 := by simpa [nextD] using hd
                                                                                                           subst this; decide)
  · exact shut_at (op := 7) (x := 0) (h := 2) (q := 0) rfl rfl rfl (by decide) (by decide) (fun d hd => by have : d = 8 := by simpa [nextD] using hd
                                                                                                           subst this; decide)
  · exact shut_at (op := 15) (x := 0) (h := 1) (q := 0) rfl rfl rfl (by decide) (by decide) (fun d hd => by simp [nextD] at hd)

/-- A slip: a value too many is popped. -/
theorem main_unfit {pb b1 c1 sb b2 c2 : Nat} {B : List (Int × Int)} {C : List (Int × Int)} {H : Nat → Int} (hB : Seg B B.length H) : ¬ (flowOf (madeG pb b1 c1 sb b2 c2 (mainW B (5, 0)) stepL (C ++ [(2, 1)] ++ [(15, 0)])) (fnOf 0 3 b1 c1 (mainW B (5, 0)))).Fits := by
  have hr := body_reach (g := madeG pb b1 c1 sb b2 c2 (mainW B (5, 0)) stepL (C ++ [(2, 1)] ++ [(15, 0)])) (p := 0) (l := 3) (b := b1) (c := c1) (t := [(14, 2), (5, 0), (5, 0)]) rfl hB B.length (Nat.le_refl _)
  rw [← mainW_eq, hB.zm] at hr
  have g0 : (mainW B (5, 0)).getD B.length (0, 0) = (14, 2) := by rw [mainW_eq]; exact getD_hi B _ 0
  have g1 : (mainW B (5, 0)).getD (B.length + 1) (0, 0) = (5, 0) := by rw [mainW_eq, getD_hi]; rfl
  have g2 := main_last B (5, 0)
  have hr1 := Flow.reach_next (c := B.length + 1) hr (by
    show _ ∈ nextD B.length ((mainW B (5, 0)).getD B.length (0, 0)).1 ((mainW B (5, 0)).getD B.length (0, 0)).2
    rw [g0]; simp [nextD])
  have e1 : (flowOf (madeG pb b1 c1 sb b2 c2 (mainW B (5, 0)) stepL (C ++ [(2, 1)] ++ [(15, 0)])) (fnOf 0 3 b1 c1 (mainW B (5, 0)))).behind B.length 0 = 1 := by
    show 0 - popD ((mainW B (5, 0)).getD B.length (0, 0)).1 ((madeG pb b1 c1 sb b2 c2 (mainW B (5, 0)) stepL (C ++ [(2, 1)] ++ [(15, 0)])).f ((mainW B (5, 0)).getD B.length (0, 0)).2.toNat).p + pushD ((mainW B (5, 0)).getD B.length (0, 0)).1 = 1
    rw [g0]; rfl
  rw [e1] at hr1
  have hr2 := Flow.reach_next (c := B.length + 2) hr1 (by
    show _ ∈ nextD (B.length + 1) ((mainW B (5, 0)).getD (B.length + 1) (0, 0)).1 ((mainW B (5, 0)).getD (B.length + 1) (0, 0)).2
    rw [g1]; simp [nextD])
  have e2 : (flowOf (madeG pb b1 c1 sb b2 c2 (mainW B (5, 0)) stepL (C ++ [(2, 1)] ++ [(15, 0)])) (fnOf 0 3 b1 c1 (mainW B (5, 0)))).behind (B.length + 1) 1 = 0 := by
    show 1 - popD ((mainW B (5, 0)).getD (B.length + 1) (0, 0)).1 ((madeG pb b1 c1 sb b2 c2 (mainW B (5, 0)) stepL (C ++ [(2, 1)] ++ [(15, 0)])).f ((mainW B (5, 0)).getD (B.length + 1) (0, 0)).2.toNat).p + pushD ((mainW B (5, 0)).getD (B.length + 1) (0, 0)).1 = 0
    rw [g1]; rfl
  rw [e2] at hr2
  refine Flow.not_fits_pop hr2 (Or.inl ?_)
  show 0 < popD ((mainW B (5, 0)).getD (B.length + 2) (0, 0)).1 ((madeG pb b1 c1 sb b2 c2 (mainW B (5, 0)) stepL (C ++ [(2, 1)] ++ [(15, 0)])).f ((mainW B (5, 0)).getD (B.length + 2) (0, 0)).2.toNat).p
  rw [g2]; show (0 : Int) < 1; decide

theorem made_taken {pb b1 c1 sb b2 c2 : Nat} {B : List (Int × Int)} {C : List (Int × Int)} {H : Nat → Int} {K : Nat → Int} (hB : Seg B B.length H) (hB2 : B.length ≤ 44) (hC : Seg C C.length K) (hC2 : C.length ≤ 44) (again : Bool) :
    CheckIs (madeG pb b1 c1 sb b2 c2 (mainW B (lastI again)) stepL (C ++ [(2, 1)] ++ [(15, 0)])) 0 0 := by
  have h2 := hB.m2
  refine Or.inr ⟨made_sizes hB hB2 hC2, Or.inr ⟨made_legal hB hC ?_, Or.inr ⟨Or.inl ⟨rfl, rfl, fun i hi => ?_⟩, rfl, rfl⟩⟩⟩
  · rw [mainW_len]
    cases again
    · rfl
    · show legalB 3 3 (B.length + 3) 12 2 = true
      unfold legalB
      rw [if_neg (by decide), if_neg (by decide), if_pos (by decide)]
      exact insideB_t (by omega) (by omega)
  · have hi' : i = 0 ∨ i = 1 ∨ i = 2 := by have : i < 3 := hi; omega
    rcases hi' with rfl | rfl | rfl
    · exact main_fits hB again
    · exact step_fits
    · exact other_fits hC

theorem made_high {pb b1 c1 sb b2 c2 : Nat} {B : List (Int × Int)} {C : List (Int × Int)} {H : Nat → Int} {K : Nat → Int} (hB : Seg B B.length H) (hB2 : B.length ≤ 44) (hC : Seg C C.length K) (hC2 : C.length ≤ 44) :
    CheckIs (madeG pb b1 c1 sb b2 c2 (mainW B (5, 0)) stepL (C ++ [(2, 1)] ++ [(15, 0)])) 3 0 := by
  refine Or.inr ⟨made_sizes hB hB2 hC2, Or.inr ⟨made_legal hB hC rfl, Or.inl ⟨Or.inr ⟨rfl, 0, rfl, by show 0 < 3; omega, main_unfit hB, fun i hi => by omega⟩, rfl⟩⟩⟩

theorem made_wrong {pb b1 c1 sb b2 c2 : Nat} {B : List (Int × Int)} {C : List (Int × Int)} {H : Nat → Int} (hB : Seg B B.length H) (hB2 : B.length ≤ 44) (hC2 : C.length ≤ 44) :
    CheckIs (madeG pb b1 c1 sb b2 c2 (mainW B (2, 3)) stepL (C ++ [(2, 1)] ++ [(15, 0)])) 2 ((B.length + 2 : Nat) : Int) :=
  Or.inr ⟨made_sizes hB hB2 hC2, Or.inl ⟨made_slip hB rfl, rfl⟩⟩

end Go.Proofs.YtbkmgoffiigdbabGreatDoor

namespace Go.Proofs.YtbkmgoffiigdbabGreatDoor
open Go.RowKit

theorem main_getD {B : List (Int × Int)} {x y : Int × Int} {j : Nat} (h : j < B.length + 2) : (mainW B y).getD j (0, 0) = (mainW B x).getD j (0, 0) := by
  rw [mainW_eq, mainW_eq]
  by_cases e : j < B.length
  · rw [getD_lo _ _ e, getD_lo _ _ e]
  · obtain ⟨i, rfl⟩ : ∃ i, j = B.length + i := ⟨j - B.length, by omega⟩
    rw [getD_hi, getD_hi]
    obtain rfl | rfl : i = 0 ∨ i = 1 := by omega
    · rfl
    · rfl

theorem set2_same {w : World} {b k : Nat} {y0 y1 : Int} {u0 u1 : Value} (c0 : w.cell? ⟨b, k, none⟩ = some u0) (c1 : w.cell? ⟨b, k + 1, none⟩ = some u1) :
    ((w.setCell ⟨b, k, none⟩ (.int .i64 y0)).setCell ⟨b, k + 1, none⟩ (.int .i64 y1)).cell? ⟨b, k, none⟩ = some (.int .i64 y0) ∧ ((w.setCell ⟨b, k, none⟩ (.int .i64 y0)).setCell ⟨b, k + 1, none⟩ (.int .i64 y1)).cell? ⟨b, k + 1, none⟩ = some (.int .i64 y1) :=
  ⟨by go_simp, by go_simp⟩
theorem set2_other {w : World} {b k i : Nat} {y0 y1 : Int} (h1 : i ≠ k) (h2 : i ≠ k + 1) :
    ((w.setCell ⟨b, k, none⟩ (.int .i64 y0)).setCell ⟨b, k + 1, none⟩ (.int .i64 y1)).cell? ⟨b, i, none⟩ = w.cell? ⟨b, i, none⟩ := by
  rw [World.cell?_setCell_other (h := fun e => h2 (congrArg Addr.off e).symm), World.cell?_setCell_other (h := fun e => h1 (congrArg Addr.off e).symm)]

/-- The last instruction of the main function written over. -/
theorem made_set {w : World} {pb b1 c1 sb b2 c2 m : Nat} {B S T : List (Int × Int)} {x : Int × Int} (y0 y1 : Int) (hm : m = B.length + 2) (h : PgIn w.heap.size w (madeG pb b1 c1 sb b2 c2 (mainW B x) S T)) (h1 : b1 ≠ b2) (h2 : b1 ≠ sb) (h3 : b1 ≠ pb) :
    PgIn ((w.setCell ⟨b1, m * 2, none⟩ (.int .i64 y0)).setCell ⟨b1, m * 2 + 1, none⟩ (.int .i64 y1)).heap.size ((w.setCell ⟨b1, m * 2, none⟩ (.int .i64 y0)).setCell ⟨b1, m * 2 + 1, none⟩ (.int .i64 y1)) (madeG pb b1 c1 sb b2 c2 (mainW B (y0, y1)) S T) := by
  have hsz : ((w.setCell ⟨b1, m * 2, none⟩ (.int .i64 y0)).setCell ⟨b1, m * 2 + 1, none⟩ (.int .i64 y1)).heap.size = w.heap.size := by simp
  have hBt : But (fun k => k = b1) w ((w.setCell ⟨b1, m * 2, none⟩ (.int .i64 y0)).setCell ⟨b1, m * 2 + 1, none⟩ (.int .i64 y1)) :=
    But.setCell (S := fun k => k = b1) (p := ⟨b1, m * 2 + 1, none⟩) (But.setCell (S := fun k => k = b1) (p := ⟨b1, m * 2, none⟩) (But.refl _ _) (Or.inl rfl) _) (Or.inl rfl) _
  rw [hsz]
  have hother : ∀ {p l : Int} {b c : Nat} {L : List (Int × Int)}, b ≠ b1 → CodeIn w.heap.size w (fnOf p l b c L) → CodeIn w.heap.size ((w.setCell ⟨b1, m * 2, none⟩ (.int .i64 y0)).setCell ⟨b1, m * 2 + 1, none⟩ (.int .i64 y1)) (fnOf p l b c L) := fun {p l b c L} hne hc =>
    ⟨hc.1, fun hn => by
      obtain ⟨k1, k2, k3⟩ := hc.2 hn
      refine ⟨k1, k2, fun j hj => ?_⟩
      have k2' : b < w.heap.size := k2
      have := k3 j hj
      rw [hBt.cell (p := ⟨(fnOf p l b c L).b, (fnOf p l b c L).o + j * 2, none⟩) k2 hne, hBt.cell (p := ⟨(fnOf p l b c L).b, (fnOf p l b c L).o + j * 2 + 1, none⟩) k2 hne]
      exact this⟩
  obtain ⟨g0, g1, g2⟩ := h
  obtain ⟨q1, q2, q3⟩ := g1 (by show 0 < 3; omega)
  have q2' : pb < w.heap.size := q2
  have f0 := g2 0 (by show 0 < 3; omega)
  have f1 := g2 1 (by show 1 < 3; omega)
  have f2 := g2 2 (by show 2 < 3; omega)
  refine ⟨g0, fun _ => ⟨rfl, q2', fun i hi => ?_⟩, fun i hi => ?_⟩
  · have hi' : i = 0 ∨ i = 1 ∨ i = 2 := by have : i < 3 := hi; omega
    have c := q3 i hi
    rw [hBt.cell (p := ⟨(madeG pb b1 c1 sb b2 c2 (mainW B (y0, y1)) S T).b, (madeG pb b1 c1 sb b2 c2 (mainW B (y0, y1)) S T).o + i * 3, none⟩) q2' (Ne.symm h3), hBt.cell (p := ⟨(madeG pb b1 c1 sb b2 c2 (mainW B (y0, y1)) S T).b, (madeG pb b1 c1 sb b2 c2 (mainW B (y0, y1)) S T).o + i * 3 + 1, none⟩) q2' (Ne.symm h3), hBt.cell (p := ⟨(madeG pb b1 c1 sb b2 c2 (mainW B (y0, y1)) S T).b, (madeG pb b1 c1 sb b2 c2 (mainW B (y0, y1)) S T).o + i * 3 + 2, none⟩) q2' (Ne.symm h3)]
    rcases hi' with rfl | rfl | rfl
    · refine ⟨c.1, c.2.1, ?_⟩
      have := c.2.2
      have e : (mainW B x).length = (mainW B (y0, y1)).length := by rw [mainW_len, mainW_len]
      show w.cell? ⟨pb, 0 + 0 * 3 + 2, none⟩ = some (.slice (some ⟨b1, 0, none⟩) (mainW B (y0, y1)).length c1)
      rw [← e]; exact this
    · exact c
    · exact c
  · have hi' : i = 0 ∨ i = 1 ∨ i = 2 := by have : i < 3 := hi; omega
    rcases hi' with rfl | rfl | rfl
    · have hlen := mainW_len B x
      have hlen' := mainW_len B (y0, y1)
      refine ⟨by show (mainW B (y0, y1)).length ≤ _; have : (mainW B x).length ≤ 1152921504606846976 := f0.1; omega, fun _ => ?_⟩
      obtain ⟨k1, k2, k3⟩ := f0.2 (by show 0 < (mainW B x).length; omega)
      have k2' : b1 < w.heap.size := k2
      refine ⟨rfl, k2', fun j hj => ?_⟩
      have hj' : j < B.length + 3 := by rw [← hlen']; exact hj
      have c : w.cell? ⟨b1, 0 + j * 2, none⟩ = some (.int .i64 ((mainW B x).getD j (0, 0)).1) ∧ w.cell? ⟨b1, 0 + j * 2 + 1, none⟩ = some (.int .i64 ((mainW B x).getD j (0, 0)).2) := k3 j (by show j < (mainW B x).length; omega)
      show World.cell? _ ⟨b1, 0 + j * 2, none⟩ = some (.int .i64 ((mainW B (y0, y1)).getD j (0, 0)).1) ∧ World.cell? _ ⟨b1, 0 + j * 2 + 1, none⟩ = some (.int .i64 ((mainW B (y0, y1)).getD j (0, 0)).2)
      rw [Nat.zero_add] at *
      by_cases e : j = m
      · subst e
        rw [show (mainW B (y0, y1)).getD j (0, 0) = (y0, y1) by rw [hm]; exact main_last _ _]
        exact set2_same c.1 c.2
      · have hjm : j < B.length + 2 := by omega
        rw [main_getD (x := x) hjm]
        rw [set2_other (by omega) (by omega), set2_other (by omega) (by omega)]
        exact c
    · exact hother (Ne.symm h2) f1
    · exact hother (Ne.symm h1) f2

end Go.Proofs.YtbkmgoffiigdbabGreatDoor
