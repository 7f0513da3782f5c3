import Derived.Test.YtbkmgoffiigdbabGreatDoorVNk
import Derived.Test.YtbkmgoffiigdbabGreatDoorWMA
import Derived.Test.YtbkmgoffiigdbabGreatDoorWMQ
namespace Go.Proofs.YtbkmgoffiigdbabGreatDoor
open Go.RowKit Go.Sort

theorem sprog_check {g : PgR} {l : Nat} {L : List (Int × Int)} (h : SProg g l L) (hl : l ≤ 8) (h1 : 1 ≤ L.length) (h60 : L.length ≤ 60) (Hs : Nat → Int) (h0 : Hs 0 = 0) (hleg : ∀ (a : Nat) (x : Int × Int), L[a]? = some x → legalB 1 l L.length x.1 x.2 = true ∧ x.1 ≠ 14)
    (hsh : ∀ (a : Nat) (x : Int × Int), L[a]? = some x → popD x.1 0 ≤ Hs a ∧ Hs a - popD x.1 0 + pushD x.1 ≤ 10 ∧ ∀ c, c ∈ nextD a x.1 x.2 → c < L.length ∧ Hs c = Hs a - popD x.1 0 + pushD x.1) : CheckIs g 0 0 := by
  have hget : ∀ j, j < L.length → ∃ x, L[j]? = some x := fun j hj => ⟨_, List.getElem?_eq_getElem hj⟩
  have hi0 : ∀ i, i < g.n → i = 0 := fun i hi => by rw [h.n] at hi; omega
  refine Or.inr ⟨Or.inl ⟨rfl, rfl, by rw [h.n]; omega, by rw [h.n]; omega, fun i hi => ?_⟩, Or.inr ⟨Or.inl ⟨rfl, rfl, fun i hi j hj => ?_⟩, Or.inr ⟨Or.inl ⟨rfl, rfl, fun i hi => ?_⟩, rfl, rfl⟩⟩⟩
  · obtain rfl := hi0 i hi
    rw [h.p, h.l, h.len]
    refine (sizedB_of (r := true) ?_).symm
    exact ⟨fun _ => rfl, fun _ => ⟨by omega, by omega, by omega, Or.inr rfl⟩⟩
  · obtain rfl := hi0 i hi
    rw [h.len] at hj
    obtain ⟨x, hx⟩ := hget j hj
    obtain ⟨q1, q2⟩ := h.code j x hx
    unfold legalAt
    rw [h.n, h.l, h.len, q1, q2]
    exact (hleg j x hx).1
  · obtain rfl := hi0 i hi
    have hp : ∀ a x, L[a]? = some x → (flowOf g (g.f 0)).pop a = popD x.1 0 := fun a x hx => by
      obtain ⟨q1, q2⟩ := h.code a x hx
      have h14 := (hleg a x hx).2
      show popD ((g.f 0).op a) _ = _
      rw [q1]
      unfold popD
      rw [if_neg h14, if_neg h14]
    refine Flow.fits_of_shut (H := Hs) (by show 0 < (g.f 0).n; rw [h.len]; omega) h0 (fun a => (pushD_bd _).1) fun a ha _ => ?_
    have ha' : a < L.length := by rw [← h.len]; exact ha
    obtain ⟨x, hx⟩ := hget a ha'
    obtain ⟨q1, q2⟩ := h.code a x hx
    obtain ⟨s1, s2, s3⟩ := hsh a x hx
    have hb : (flowOf g (g.f 0)).behind a (Hs a) = Hs a - popD x.1 0 + pushD x.1 := by
      unfold Flow.behind
      rw [hp a x hx]
      show _ + pushD ((g.f 0).op a) = _
      rw [q1]
    refine ⟨by rw [hp a x hx]; exact s1, by rw [hb]; exact s2, fun c hc => ?_⟩
    have hc' : c ∈ nextD a x.1 x.2 := by
      have : c ∈ nextD a ((g.f 0).op a) ((g.f 0).ar a) := hc
      rwa [q1, q2] at this
    obtain ⟨t1, t2⟩ := s3 c hc'
    exact ⟨by show c < (g.f 0).n; rw [h.len]; exact t1, by rw [hb]; exact t2⟩

def straightL (x y : Int) (k : Nat) : List (Int × Int) := [(0, x), (0, y), ((k : Int), 0), (26, 0), (27, 0)]
def livesL : List (Int × Int) := [(0, 7), (26, 0), (27, 0)]

theorem check_lives {g : PgR} (h : SProg g 0 livesL) : CheckIs g 0 0 := by
  refine sprog_check h (by omega) (by simp [livesL]) (by simp [livesL]) (fun a => if a = 1 then 1 else 0) rfl (fun a x hx => ?_) (fun a x hx => ?_)
  · match a, hx with
    | 0, hx => obtain rfl : (0, 7) = x := by simpa [livesL] using hx
               simp [legalB]
    | 1, hx => obtain rfl : (26, 0) = x := by simpa [livesL] using hx
               simp [legalB, insideB]
    | 2, hx => obtain rfl : (27, 0) = x := by simpa [livesL] using hx
               simp [legalB, insideB]
    | n + 3, hx => simp [livesL] at hx
  · match a, hx with
    | 0, hx => obtain rfl : (0, 7) = x := by simpa [livesL] using hx
               simp [popD, pushD, nextD, livesL]
    | 1, hx => obtain rfl : (26, 0) = x := by simpa [livesL] using hx
               simp [popD, pushD, nextD, livesL]
    | 2, hx => obtain rfl : (27, 0) = x := by simpa [livesL] using hx
               simp [popD, pushD, nextD]
    | n + 3, hx => simp [livesL] at hx

theorem check_straight {g : PgR} {x y : Int} {k : Nat} (hk : 7 ≤ k ∧ k ≤ 11) (h : SProg g 0 (straightL x y k)) : CheckIs g 0 0 := by
  have hk' : k = 7 ∨ k = 8 ∨ k = 9 ∨ k = 10 ∨ k = 11 := by omega
  refine sprog_check h (by omega) (by simp [straightL]) (by simp [straightL]) (fun a => if a = 2 then 2 else if a = 1 ∨ a = 3 then 1 else 0) rfl (fun a x' hx => ?_) (fun a x' hx => ?_)
  · match a, hx with
    | 0, hx => obtain rfl : (0, x) = x' := by simpa [straightL] using hx
               simp [legalB]
    | 1, hx => obtain rfl : (0, y) = x' := by simpa [straightL] using hx
               simp [legalB]
    | 2, hx => obtain rfl : ((k : Int), 0) = x' := by simpa [straightL] using hx
               rcases hk' with rfl | rfl | rfl | rfl | rfl <;> simp [legalB, insideB]
    | 3, hx => obtain rfl : (26, 0) = x' := by simpa [straightL] using hx
               simp [legalB, insideB]
    | 4, hx => obtain rfl : (27, 0) = x' := by simpa [straightL] using hx
               simp [legalB, insideB]
    | n + 5, hx => simp [straightL] at hx
  · match a, hx with
    | 0, hx => obtain rfl : (0, x) = x' := by simpa [straightL] using hx
               simp [popD, pushD, nextD, straightL]
    | 1, hx => obtain rfl : (0, y) = x' := by simpa [straightL] using hx
               simp [popD, pushD, nextD, straightL]
    | 2, hx => obtain rfl : ((k : Int), 0) = x' := by simpa [straightL] using hx
               rcases hk' with rfl | rfl | rfl | rfl | rfl <;> simp [popD, pushD, nextD, straightL]
    | 3, hx => obtain rfl : (26, 0) = x' := by simpa [straightL] using hx
               simp [popD, pushD, nextD, straightL]
    | 4, hx => obtain rfl : (27, 0) = x' := by simpa [straightL] using hx
               simp [popD, pushD, nextD]
    | n + 5, hx => simp [straightL] at hx

theorem mid_begun {g : PgR} {L : List (Int × Int)} {cap : Nat} {R : McR} (h : SProg g 0 L) (hb : Begun g cap R) : Mid cap 0 [] [] R := by
  obtain ⟨lv, hf⟩ := hb.frs
  have hl : (g.f 0).l = 0 := h.l
  rw [hl] at hf
  exact ⟨hb.st, hb.out, ⟨lv, _, hf⟩, by rw [hb.obs]; simp⟩

def straightS (cap : Nat) (x y z : Int) : Nat → McR → Prop
  | 0 => Mid cap 0 [] []
  | 1 => Mid cap 1 [(1, x)] []
  | 2 => Mid cap 2 [(1, x), (1, y)] []
  | 3 => Mid cap 3 [(1, z)] []
  | 4 => Mid cap 4 [] [z]
  | _ => Ended cap [z]

theorem run_straight {own : Own} {mb : Nat} {g : PgR} {R : McR} {w : World} {cap k : Nat} {x y z : Int} (h : MachAt w own mb g R) (hg : SProg g 0 (straightL x y k)) (hz : Ari k x y z) (hR : Mid cap 0 [] [] R) (fuel : Nat) (h5 : 5 < fuel) (hf : fuel ≤ 10000) :
    Calls Tryz.prog 28 #[.pointer (some ⟨mb, 0, none⟩), .int .i64 (fuel : Int)] w fun e w' => RunPost own mb g (Ended cap [z]) 5 w e w' := by
  have h60 : (straightL x y k).length ≤ 60 := by simp [straightL]
  refine run_any h (straightS cap x y z) hR 5 fuel (by omega) hf (fun i R hi hs => ?_) (fun _ R hs => ?_) (fun i own R w hi hm hs => ?_)
  · match i, hi, hs with
    | 0, _, hs => exact hs.st
    | 1, _, hs => exact hs.st
    | 2, _, hs => exact hs.st
    | 3, _, hs => exact hs.st
    | 4, _, hs => exact hs.st
  · have : R.st = 1 := hs.st
    rw [this]; decide
  · match i, hi, hs with
    | 0, _, hs => exact mid_int (stk := []) hg h60 hm hs rfl (by simp)
    | 1, _, hs => exact mid_int (stk := [(1, x)]) hg h60 hm hs rfl (by simp)
    | 2, _, hs => exact mid_ari (stk := []) hg h60 hz hm hs rfl (by simp)
    | 3, _, hs => exact mid_print (stk := []) (out := []) hg h60 hm hs rfl (by simp) (by simp)
    | 4, _, hs => exact mid_halt hg h60 hm hs rfl (by simp)

def livesS (cap : Nat) : Nat → McR → Prop
  | 0 => Mid cap 0 [] []
  | 1 => Mid cap 1 [(1, 7)] []
  | 2 => Mid cap 2 [] [7]
  | _ => Ended cap [7]

theorem run_lives {own : Own} {mb : Nat} {g : PgR} {R : McR} {w : World} {cap : Nat} (h : MachAt w own mb g R) (hg : SProg g 0 livesL) (hR : Mid cap 0 [] [] R) :
    Calls Tryz.prog 28 #[.pointer (some ⟨mb, 0, none⟩), .int .i64 9] w fun e w' => RunPost own mb g (Ended cap [7]) 3 w e w' := by
  have h60 : livesL.length ≤ 60 := by simp [livesL]
  refine run_any h (livesS cap) hR 3 9 (by omega) (by omega) (fun i R hi hs => ?_) (fun _ R hs => ?_) (fun i own R w hi hm hs => ?_)
  · match i, hi, hs with
    | 0, _, hs => exact hs.st
    | 1, _, hs => exact hs.st
    | 2, _, hs => exact hs.st
  · have : R.st = 1 := hs.st
    rw [this]; decide
  · match i, hi, hs with
    | 0, _, hs => exact mid_int (stk := []) hg h60 hm hs rfl (by simp)
    | 1, _, hs => exact mid_print (stk := []) (out := []) hg h60 hm hs rfl (by simp) (by simp)
    | 2, _, hs => exact mid_halt hg h60 hm hs rfl (by simp)

end Go.Proofs.YtbkmgoffiigdbabGreatDoor

namespace Go.Proofs.YtbkmgoffiigdbabGreatDoor
open Go.RowKit Go.Sort

/-- A program of one function, new in memory. -/
def ProgNew (l : Nat) (L : List (Int × Int)) (w : World) (e : Ending) (w' : World) : Prop :=
  ∃ g : PgR, e = .returned (.agg #[.slice g.a g.n g.c]) ∧ PgIn w'.heap.size w' g ∧ SProg g l L ∧ Below w.heap.size w w'

def oneG (fb fc l cb cc : Nat) (L : List (Int × Int)) : PgR :=
  ⟨some ⟨fb, 0, none⟩, 1, fc, fb, 0, fun _ => ⟨0, l, some ⟨cb, 0, none⟩, L.length, cc, cb, 0, fun j => (L.getD j (0, 0)).1, fun j => (L.getD j (0, 0)).2⟩⟩

theorem oneG_in {W : World} {fb fc l cb cc : Nat} {L : List (Int × Int)} {arr : Array Value} (hf : W.heap[fb]? = some (.cells #[.int .i64 0, .int .i64 (l : Int), .slice (some ⟨cb, 0, none⟩) L.length cc] 68)) (hc : W.heap[cb]? = some (.cells arr 62)) (ha : arr.toList = cellsL L) (hL : L.length ≤ 1000) :
    PgIn W.heap.size W (oneG fb fc l cb cc L) ∧ SProg (oneG fb fc l cb cc L) l L := by
  have hfb := (Array.getElem?_eq_some_iff.1 hf).1
  have hcb := (Array.getElem?_eq_some_iff.1 hc).1
  have len2 : ∀ x : Int × Int, (([.int .i64 x.1, .int .i64 x.2] : List Value)).length = 2 := fun _ => rfl
  refine ⟨⟨by show (1 : Nat) ≤ _; omega, fun _ => ⟨rfl, hfb, fun i hi => ?_⟩, fun i hi => ⟨by show L.length ≤ _; omega, fun _ => ⟨rfl, hcb, fun j hj => ?_⟩⟩⟩, ⟨rfl, rfl, rfl, rfl, fun j x hx => ?_⟩⟩
  · obtain rfl : i = 0 := by have : i < 1 := hi; omega
    have := cell_of_row W fb 0 _ _ _ hf
    have h1 := cell_of_row W fb 1 _ _ _ hf
    have h2 := cell_of_row W fb 2 _ _ _ hf
    exact ⟨this, h1, h2⟩
  · have hj' : j < L.length := hj
    have hx : L[j]? = some L[j] := List.getElem?_eq_getElem hj'
    have hcell : ∀ i, i < 2 → W.cell? ⟨cb, j * 2 + i, none⟩ = ([.int .i64 (L[j]).1, .int .i64 (L[j]).2] : List Value)[i]? := fun i hi => by
      rw [cell_of_row W cb _ _ _ _ hc, ← Array.getElem?_toList, ha]
      exact flat_get len2 hx hi
    have e : L.getD j (0, 0) = L[j] := by simp [List.getD, hx]
    have h0 := hcell 0 (by omega)
    have h1 := hcell 1 (by omega)
    show W.cell? ⟨cb, 0 + j * 2, none⟩ = some (.int .i64 (L.getD j (0, 0)).1) ∧ W.cell? ⟨cb, 0 + j * 2 + 1, none⟩ = some (.int .i64 (L.getD j (0, 0)).2)
    rw [e, Nat.zero_add]
    exact ⟨h0, h1⟩
  · show (L.getD j (0, 0)).1 = x.1 ∧ (L.getD j (0, 0)).2 = x.2
    have e : L.getD j (0, 0) = x := by simp [List.getD, hx]
    rw [e]; exact ⟨rfl, rfl⟩

theorem blk_old {w : World} {o o' : Obj} {n : Nat} (h : w.heap[n]? = some o') : (w.alloc o).heap[n]? = some o' := by
  rw [Below.heap_alloc _ _ _ (Array.getElem?_eq_some_iff.1 h).1]; exact h

end Go.Proofs.YtbkmgoffiigdbabGreatDoor

namespace Go.Proofs.YtbkmgoffiigdbabGreatDoor
open Go.RowKit Go.Sort

/-- Behind a run of a straight program: what is asked of the machine. -/
theorem ended_out {own : Own} {mb cap : Nat} {g : PgR} {R : McR} {w : World} {z : Int} (h : MachAt w own mb g R) (hR : Ended cap [z] R) :
    Calls Tryz.prog 32 #[.pointer (some ⟨mb, 0, none⟩)] w fun e w' => ∃ b c, e = .returned (.slice (some ⟨b, 0, none⟩) 1 c) ∧ w'.cell? ⟨b, 0, none⟩ = some (.int .i64 z) ∧ w.heap.size ≤ b ∧ b < w'.heap.size ∧ Below w.heap.size w w' := by
  refine (Output_any h (by rw [hR.out]; simp) (fun e => by rw [hR.out] at e; simp at e)).mono ?_
  rintro e w' ⟨hB, ⟨h0, _⟩ | ⟨_, b, c, rfl, hown, _⟩⟩
  · rw [hR.out] at h0; cases h0
  · rw [hR.out] at hown
    have hc := hown.cellAt 0 (by simp)
    have hb : w.heap.size ≤ b ∧ b < w'.heap.size := by
      rcases hown.2 with ⟨h0, _⟩ | ⟨_, _, _, hv, h1, hg, _⟩
      · cases h0
      · cases hv; exact ⟨h1, (Array.getElem?_eq_some_iff.1 hg).1⟩
    exact ⟨b, c, by rw [hR.out]; rfl, hc, hb.1, hb.2, hB⟩

set_option maxRecDepth 100000 in
set_option maxHeartbeats 4000000 in
theorem lives_any (w : World) (ht : Tab w) : Calls Tryz.prog 23 #[] w fun e w' => e = .returned (.bool true) ∧ Below w.heap.size w w' := by
  have HT := hid ht
  clear ht
  go_enter Tryz.func23, Tryz.ntmps23
  go_wp2_with (go_at_call 27; refine (at_any _ _ _).mono ?_; rintro e w' ⟨rfl, hw⟩; rw [hw]; clear hw w')
  obtain ⟨h1, h2⟩ := oneG_in (l := 0) (fc := 1) (cc := 3) (L := livesL) (W := ((((((w.alloc (Obj.cells #[Value.int IntKind.i64 0, Value.int IntKind.i64 7] 62)).alloc (Obj.cells #[Value.int IntKind.i64 26, Value.int IntKind.i64 0] 62)).alloc (Obj.cells #[Value.int IntKind.i64 27, Value.int IntKind.i64 0] 62)).alloc (Obj.cells #[Value.int IntKind.i64 0, Value.int IntKind.i64 7, Value.int IntKind.i64 26, Value.int IntKind.i64 0, Value.int IntKind.i64 27, Value.int IntKind.i64 0] 62)).alloc (Obj.cells #[Value.int IntKind.i64 0, Value.int IntKind.i64 0, Value.slice (some { block := w.heap.size + 1 + 1 + 1, off := 0 }) 3 3] 68)).alloc (Obj.cells #[Value.slice (some { block := w.heap.size + 1 + 1 + 1 + 1, off := 0 }) 1 1] 27)))
    (blk_old (blk_new (n := w.heap.size + 1 + 1 + 1 + 1) (by simp))) (blk_old (blk_old (blk_new (n := w.heap.size + 1 + 1 + 1) (by simp)))) rfl (by simp [livesL])
  have hB : Below w.heap.size w ((((((w.alloc (Obj.cells #[Value.int IntKind.i64 0, Value.int IntKind.i64 7] 62)).alloc (Obj.cells #[Value.int IntKind.i64 26, Value.int IntKind.i64 0] 62)).alloc (Obj.cells #[Value.int IntKind.i64 27, Value.int IntKind.i64 0] 62)).alloc (Obj.cells #[Value.int IntKind.i64 0, Value.int IntKind.i64 7, Value.int IntKind.i64 26, Value.int IntKind.i64 0, Value.int IntKind.i64 27, Value.int IntKind.i64 0] 62)).alloc (Obj.cells #[Value.int IntKind.i64 0, Value.int IntKind.i64 0, Value.slice (some { block := w.heap.size + 1 + 1 + 1, off := 0 }) 3 3] 68)).alloc (Obj.cells #[Value.slice (some { block := w.heap.size + 1 + 1 + 1 + 1, off := 0 }) 1 1] 27)) := by repeat (first | exact Below.refl _ _ | refine Below.alloc ?_ (by first | (simp; done) | (simp; omega)) _)
  generalize ((((((w.alloc (Obj.cells #[Value.int IntKind.i64 0, Value.int IntKind.i64 7] 62)).alloc (Obj.cells #[Value.int IntKind.i64 26, Value.int IntKind.i64 0] 62)).alloc (Obj.cells #[Value.int IntKind.i64 27, Value.int IntKind.i64 0] 62)).alloc (Obj.cells #[Value.int IntKind.i64 0, Value.int IntKind.i64 7, Value.int IntKind.i64 26, Value.int IntKind.i64 0, Value.int IntKind.i64 27, Value.int IntKind.i64 0] 62)).alloc (Obj.cells #[Value.int IntKind.i64 0, Value.int IntKind.i64 0, Value.slice (some { block := w.heap.size + 1 + 1 + 1, off := 0 }) 3 3] 68)).alloc (Obj.cells #[Value.slice (some { block := w.heap.size + 1 + 1 + 1 + 1, off := 0 }) 1 1] 27)) = W at *
  have HN : Hid (Calls Tryz.prog 24 #[.agg #[.slice (some ⟨w.heap.size + 1 + 1 + 1 + 1, 0, none⟩) 1 1], .int .i64 1] W fun e w' => NewPost (oneG (w.heap.size + 1 + 1 + 1 + 1) 1 0 (w.heap.size + 1 + 1 + 1) 3 livesL) 1 W e w') := New_any _ W h1 (HT.out.held hB.size (hB.block 0 HT.out.1)) (check_lives h2) 1 (by omega) (by omega)
  refine HN.out.mono ?_
  rintro e w2 ⟨own, mb, g', R, rfl, hm, hbg, hsame, hb, hnew⟩
  have hmid := mid_begun h2 hbg
  have hsp := h2.same hsame
  have HRUN := hid (Run_any (run_lives hm hsp hmid))
  have HNEW := hid hnew
  have HB2 : Hid (Below w.heap.size w w2) := below_via' hb hB
  have HBW := hid hB
  clear h1 h2 hB HN hm hbg hsame hb hnew hmid hsp
  go_wp2_with (go_at_call 8; refine HRUN.out.mono ?_; rintro e w3 ⟨own3, R3, rfl, hm3, hend3, ht3⟩; have HM3 := hid hm3; have HE3 := hid hend3; have HT3 := hid ht3; clear hm3 hend3 ht3)
  refine (ended_out HM3.out HE3.out).mono ?_
  rintro e w4 ⟨b, c, rfl, hcell, hb4, hb4', hB4⟩
  have HM4 : Hid (MachAt w4 own3 mb g' R3) := HM3.out.same hB4.size fun k hk => hB4.block k hk
  have HST : Hid (∀ U, Below w4.heap.size w4 U → Calls Tryz.prog 20 #[.pointer (some ⟨mb, 0, none⟩)] U fun e w' => e = .returned (.agg #[.int .i64 1, .int .i64 (taken R3.obs : Int), .int .i64 (R3.dr.length : Int)]) ∧ Below U.heap.size U w') := by
    intro U hU
    have := Status_any (HM4.out.same hU.size fun k hk => hU.block k hk) (by rw [HE3.out.obs]; omega) (by rw [HE3.out.obs]; omega)
    rw [HE3.out.st] at this
    exact this
  have HB4 := hid hB4
  have HL4 := hid hb4
  clear hB4 hb4
  go_wp2_with (go_at_call 20; refine (HST.out _ ?_).mono ?_; exact (by repeat (first | exact Below.refl _ _ | refine Below.alloc ?_ (by first | (simp; done) | (simp; omega)) _)); rintro e w5 ⟨rfl, hb5⟩; obtain ⟨hcc, hff⟩ := bcell hb5; have hl5 := Nat.lt_of_lt_of_le hb4' hb5.size; have HB5 := hid hb5; clear hb5)
  go_ret
  have hB3 : Below w.heap.size w w3 := HB2.out.trans (HT3.out.below HB2.out.size fun k hk => by
    cases e : own k with
    | none => rfl
    | some t => have := HNEW.out k t e; have := HBW.out.size; omega)
  have hB5 : Below w.heap.size w w5 := below_via' HB5.out (below_via' HB4.out hB3)
  exact ⟨rfl, Below.alloc hB5 hB5.size _⟩

end Go.Proofs.YtbkmgoffiigdbabGreatDoor

namespace Go.Proofs.YtbkmgoffiigdbabGreatDoor
open Go.RowKit Go.Sort

set_option maxHeartbeats 1000000 in
theorem pick40_any (c : Int) (w : World) (h1 : -9223372036854775808 ≤ c) (h2 : c ≤ 9223372036854775807) :
    Calls Tryz.prog 12 #[.int .i64 c, .int .i64 40] w fun e w' => e = .returned (.int .i64 (pickI c 40)) ∧ w' = w := by
  by_cases hc : c < 0
  · go_enter Tryz.func12, Tryz.ntmps12
    go_wp2
    go_ret
    refine ⟨ret_i64 ?_, rfl⟩
    show -(c + 1).tmod 40 = pickI c 40
    unfold pickI
    rw [if_pos hc, ← Int.neg_tmod]
    exact Int.tmod_eq_emod_of_nonneg (by omega)
  · go_enter Tryz.func12, Tryz.ntmps12
    go_wp2
    go_ret
    refine ⟨ret_i64 ?_, rfl⟩
    show c % 40 = pickI c 40
    unfold pickI
    rw [if_neg (by omega)]

def BegunPost (g : PgR) (cap : Nat) (w : World) (e : Ending) (w' : World) : Prop :=
  ∃ own mb g' R, e = .returned (.pointer (some ⟨mb, 0, none⟩)) ∧ MachAt w' own mb g' R ∧ Begun g cap R ∧ Same g g' ∧ Below w.heap.size w w' ∧ ∀ k t, own k = some t → w.heap.size ≤ k

theorem pickI_bd40 (c : Int) : 0 ≤ pickI c 40 ∧ pickI c 40 < 40 := by
  unfold pickI; split <;> omega

set_option maxRecDepth 100000 in
set_option maxHeartbeats 1000000 in
theorem begun_any (g : PgR) (w : World) (hg : PgIn w.heap.size w g) (ht : Tab w) (hck : CheckIs g 0 0) (room : Int) (h1 : -9223372036854775808 ≤ room) (h2 : room ≤ 9223372036854775807) (cap : Nat) (hcap : (cap : Int) = 1 + pickI room 40) :
    Calls Tryz.prog 6 #[.agg #[.slice g.a g.n g.c], .int .i64 room] w fun e w' => BegunPost g cap w e w' := by
  obtain ⟨hp0, hp1⟩ := pickI_bd40 room
  have HL : Hid (∀ W, Below w.heap.size w W → Calls Tryz.prog 23 #[] W fun e w' => e = .returned (.bool true) ∧ Below W.heap.size W w') := fun W hW => lives_any W (ht.held hW.size (hW.block 0 ht.1))
  have HN : Hid (∀ W, Below w.heap.size w W → Calls Tryz.prog 24 #[.agg #[.slice g.a g.n g.c], .int .i64 (1 + pickI room 40)] W fun e w' => NewPost g cap W e w') := by
    intro W hW
    rw [← hcap]
    exact New_any g W (hg.held hW.size fun k hk => hW.block k (hg.blk_lt hk)) (ht.held hW.size (hW.block 0 ht.1)) hck cap (by omega) (by omega)
  have hwr : IntKind.i64.wrap (1 + pickI room 40) = 1 + pickI room 40 := Go.IntWalk.i64_in _ (by omega)
  clear hg ht hck hcap
  go_enter Tryz.func6, Tryz.ntmps6
  go_wp2_with (first | (go_at_call 23; refine (HL.out _ ?_).mono ?_; exact (by repeat (first | exact Below.refl _ _ | refine Below.alloc ?_ (by first | (simp; done) | (simp; omega)) _)); rintro e w2 ⟨rfl, hb2⟩; obtain ⟨hcc, hff⟩ := bcell hb2; have HB2 : Hid (Below w.heap.size w w2) := below_via' hb2 (by repeat (first | exact Below.refl _ _ | refine Below.alloc ?_ (by first | (simp; done) | (simp; omega)) _)); clear hb2))
  go_region_with (first | (go_at_call 12; refine (pick40_any _ _ h1 h2).mono ?_; rintro e w3 ⟨rfl, rfl⟩) | (go_at_call 24; refine (HN.out _ ?_).mono ?_; exact (by repeat (first | exact HB2.out | refine Below.drew ?_)); rintro e w4 ⟨own, mb, g', R, rfl, hm, hbg, hsame, hb, hnew⟩; have HM := hid hm; have HBG := hid hbg; have HSAME := hid hsame; have HB4 : Hid (Below w.heap.size w w4) := below_via' hb (by repeat (first | exact HB2.out | refine Below.drew ?_)); have HNEW := hid hnew; clear hm hbg hsame hb hnew))
  all_goals
    clear hcc hff
    go_wp2_with fail
    go_ret
    exact ⟨own, mb, g', R, rfl, HM.out, HBG.out, HSAME.out, HB4.out, fun k t hk => Nat.le_trans HB2.out.size (HNEW.out k t hk)⟩

end Go.Proofs.YtbkmgoffiigdbabGreatDoor
