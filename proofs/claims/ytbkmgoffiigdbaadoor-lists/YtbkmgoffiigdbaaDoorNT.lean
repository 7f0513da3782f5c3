import Derived.Test.YtbkmgoffiigdbaaDoorNS
namespace Go.Proofs.YtbkmgoffiigdbaaDoor
open Go.RowKit Go.Sort

theorem sprog_check {g : PgR} {l : Nat} {L : List (Int × Int)} (h : SProg g l L) (hl : l ≤ 8) (h1 : 1 ≤ L.length) (h60 : L.length ≤ 60) (Hs : Nat → Int) (h0 : Hs 0 = 0) (hleg : ∀ (a : Nat) (x : Int × Int), L[a]? = some x → legalB 1 l L.length x.1 x.2 = true ∧ x.1 ≠ 14)
    (hsh : ∀ (a : Nat) (x : Int × Int), L[a]? = some x → popD x.1 0 ≤ Hs a ∧ Hs a - popD x.1 0 + pushD x.1 ≤ 10 ∧ ∀ c, c ∈ nextD a x.1 x.2 → c < L.length ∧ Hs c = Hs a - popD x.1 0 + pushD x.1) : CheckIs g 0 0 := by
  have hget : ∀ j, j < L.length → ∃ x, L[j]? = some x := fun j hj => ⟨_, List.getElem?_eq_getElem hj⟩
  have hi0 : ∀ i, i < g.n → i = 0 := fun i hi => by rw [h.n] at hi; omega
  refine Or.inr ⟨Or.inl ⟨rfl, rfl, by rw [h.n]; omega, by rw [h.n]; omega, fun i hi => ?_⟩, Or.inr ⟨Or.inl ⟨rfl, rfl, fun i hi j hj => ?_⟩, Or.inr ⟨Or.inl ⟨rfl, rfl, fun i hi => ?_⟩, rfl, rfl⟩⟩⟩
  · obtain rfl := hi0 i hi
    rw [h.p, h.l, h.len]
    refine (sizedB_of (r := true) ?_).symm
    exact ⟨fun _ => rfl, fun _ => ⟨by omega, by omega, by omega, Or.inr rfl⟩⟩
  · obtain rfl := hi0 i hi
    rw [h.len] at hj
    obtain ⟨x, hx⟩ := hget j hj
    obtain ⟨q1, q2⟩ := h.code j x hx
    unfold legalAt
    rw [h.n, h.l, h.len, q1, q2]
    exact (hleg j x hx).1
  · obtain rfl := hi0 i hi
    have hp : ∀ a x, L[a]? = some x → (flowOf g (g.f 0)).pop a = popD x.1 0 := fun a x hx => by
      obtain ⟨q1, q2⟩ := h.code a x hx
      have h14 := (hleg a x hx).2
      show popD ((g.f 0).op a) _ = _
      rw [q1]
      unfold popD
      rw [if_neg h14, if_neg h14]
    refine Flow.fits_of_shut (H := Hs) (by show 0 < (g.f 0).n; rw [h.len]; omega) h0 (fun a => (pushD_bd _).1) fun a ha _ => ?_
    have ha' : a < L.length := by rw [← h.len]; exact ha
    obtain ⟨x, hx⟩ := hget a ha'
    obtain ⟨q1, q2⟩ := h.code a x hx
    obtain ⟨s1, s2, s3⟩ := hsh a x hx
    have hb : (flowOf g (g.f 0)).behind a (Hs a) = Hs a - popD x.1 0 + pushD x.1 := by
      unfold Flow.behind
      rw [hp a x hx]
      show _ + pushD ((g.f 0).op a) = _
      rw [q1]
    refine ⟨by rw [hp a x hx]; exact s1, by rw [hb]; exact s2, fun c hc => ?_⟩
    have hc' : c ∈ nextD a x.1 x.2 := by
      have : c ∈ nextD a ((g.f 0).op a) ((g.f 0).ar a) := hc
      rwa [q1, q2] at this
    obtain ⟨t1, t2⟩ := s3 c hc'
    exact ⟨by show c < (g.f 0).n; rw [h.len]; exact t1, by rw [hb]; exact t2⟩

def straightL (x y : Int) (k : Nat) : List (Int × Int) := [(0, x), (0, y), ((k : Int), 0), (26, 0), (27, 0)]
def livesL : List (Int × Int) := [(0, 7), (26, 0), (27, 0)]

theorem check_lives {g : PgR} (h : SProg g 0 livesL) : CheckIs g 0 0 := by
  refine sprog_check h (by omega) (by simp [livesL]) (by simp [livesL]) (fun a => if a = 1 then 1 else 0) rfl (fun a x hx => ?_) (fun a x hx => ?_)
  · match a, hx with
    | 0, hx => obtain rfl : (0, 7) = x := by simpa [livesL] using hx
               simp [legalB]
    | 1, hx => obtain rfl : (26, 0) = x := by simpa [livesL] using hx
               simp [legalB, insideB]
    | 2, hx => obtain rfl : (27, 0) = x := by simpa [livesL] using hx
               simp [legalB, insideB]
    | n + 3, hx => simp [livesL] at hx
  · match a, hx with
    | 0, hx => obtain rfl : (0, 7) = x := by simpa [livesL] using hx
               simp [popD, pushD, nextD, livesL]
    | 1, hx => obtain rfl : (26, 0) = x := by simpa [livesL] using hx
               simp [popD, pushD, nextD, livesL]
    | 2, hx => obtain rfl : (27, 0) = x := by simpa [livesL] using hx
               simp [popD, pushD, nextD]
    | n + 3, hx => simp [livesL] at hx

theorem check_straight {g : PgR} {x y : Int} {k : Nat} (hk : 7 ≤ k ∧ k ≤ 11) (h : SProg g 0 (straightL x y k)) : CheckIs g 0 0 := by
  have hk' : k = 7 ∨ k = 8 ∨ k = 9 ∨ k = 10 ∨ k = 11 := by omega
  refine sprog_check h (by omega) (by simp [straightL]) (by simp [straightL]) (fun a => if a = 2 then 2 else if a = 1 ∨ a = 3 then 1 else 0) rfl (fun a x' hx => ?_) (fun a x' hx => ?_)
  · match a, hx with
    | 0, hx => obtain rfl : (0, x) = x' := by simpa [straightL] using hx
               simp [legalB]
    | 1, hx => obtain rfl : (0, y) = x' := by simpa [straightL] using hx
               simp [legalB]
    | 2, hx => obtain rfl : ((k : Int), 0) = x' := by simpa [straightL] using hx
               rcases hk' with rfl | rfl | rfl | rfl | rfl <;> simp [legalB, insideB]
    | 3, hx => obtain rfl : (26, 0) = x' := by simpa [straightL] using hx
               simp [legalB, insideB]
    | 4, hx => obtain rfl : (27, 0) = x' := by simpa [straightL] using hx
               simp [legalB, insideB]
    | n + 5, hx => simp [straightL] at hx
  · match a, hx with
    | 0, hx => obtain rfl : (0, x) = x' := by simpa [straightL] using hx
               simp [popD, pushD, nextD, straightL]
    | 1, hx => obtain rfl : (0, y) = x' := by simpa [straightL] using hx
               simp [popD, pushD, nextD, straightL]
    | 2, hx => obtain rfl : ((k : Int), 0) = x' := by simpa [straightL] using hx
               rcases hk' with rfl | rfl | rfl | rfl | rfl <;> simp [popD, pushD, nextD, straightL]
    | 3, hx => obtain rfl : (26, 0) = x' := by simpa [straightL] using hx
               simp [popD, pushD, nextD, straightL]
    | 4, hx => obtain rfl : (27, 0) = x' := by simpa [straightL] using hx
               simp [popD, pushD, nextD]
    | n + 5, hx => simp [straightL] at hx

theorem mid_begun {g : PgR} {L : List (Int × Int)} {cap : Nat} {R : McR} (h : SProg g 0 L) (hb : Begun g cap R) : Mid cap 0 [] [] R := by
  obtain ⟨lv, hf⟩ := hb.frs
  have hl : (g.f 0).l = 0 := h.l
  rw [hl] at hf
  exact ⟨hb.st, hb.out, ⟨lv, _, hf⟩, by rw [hb.obs]; simp⟩

def straightS (cap : Nat) (x y z : Int) : Nat → McR → Prop
  | 0 => Mid cap 0 [] []
  | 1 => Mid cap 1 [(1, x)] []
  | 2 => Mid cap 2 [(1, x), (1, y)] []
  | 3 => Mid cap 3 [(1, z)] []
  | 4 => Mid cap 4 [] [z]
  | _ => Ended cap [z]

theorem run_straight {own : Own} {mb : Nat} {g : PgR} {R : McR} {w : World} {cap k : Nat} {x y z : Int} (h : MachAt w own mb g R) (hg : SProg g 0 (straightL x y k)) (hz : Ari k x y z) (hR : Mid cap 0 [] [] R) (fuel : Nat) (h5 : 5 < fuel) (hf : fuel ≤ 10000) :
    Calls Tryd.prog 42 #[.pointer (some ⟨mb, 0, none⟩), .int .i64 (fuel : Int)] w fun e w' => RunPost own mb g (Ended cap [z]) 5 w e w' := by
  have h60 : (straightL x y k).length ≤ 60 := by simp [straightL]
  refine run_any h (straightS cap x y z) hR 5 fuel (by omega) hf (fun i R hi hs => ?_) (fun _ R hs => ?_) (fun i own R w hi hm hs => ?_)
  · match i, hi, hs with
    | 0, _, hs => exact hs.st
    | 1, _, hs => exact hs.st
    | 2, _, hs => exact hs.st
    | 3, _, hs => exact hs.st
    | 4, _, hs => exact hs.st
  · have : R.st = 1 := hs.st
    rw [this]; decide
  · match i, hi, hs with
    | 0, _, hs => exact mid_int (stk := []) hg h60 hm hs rfl (by simp)
    | 1, _, hs => exact mid_int (stk := [(1, x)]) hg h60 hm hs rfl (by simp)
    | 2, _, hs => exact mid_ari (stk := []) hg h60 hz hm hs rfl (by simp)
    | 3, _, hs => exact mid_print (stk := []) (out := []) hg h60 hm hs rfl (by simp) (by simp)
    | 4, _, hs => exact mid_halt hg h60 hm hs rfl (by simp)

def livesS (cap : Nat) : Nat → McR → Prop
  | 0 => Mid cap 0 [] []
  | 1 => Mid cap 1 [(1, 7)] []
  | 2 => Mid cap 2 [] [7]
  | _ => Ended cap [7]

theorem run_lives {own : Own} {mb : Nat} {g : PgR} {R : McR} {w : World} {cap : Nat} (h : MachAt w own mb g R) (hg : SProg g 0 livesL) (hR : Mid cap 0 [] [] R) :
    Calls Tryd.prog 42 #[.pointer (some ⟨mb, 0, none⟩), .int .i64 9] w fun e w' => RunPost own mb g (Ended cap [7]) 3 w e w' := by
  have h60 : livesL.length ≤ 60 := by simp [livesL]
  refine run_any h (livesS cap) hR 3 9 (by omega) (by omega) (fun i R hi hs => ?_) (fun _ R hs => ?_) (fun i own R w hi hm hs => ?_)
  · match i, hi, hs with
    | 0, _, hs => exact hs.st
    | 1, _, hs => exact hs.st
    | 2, _, hs => exact hs.st
  · have : R.st = 1 := hs.st
    rw [this]; decide
  · match i, hi, hs with
    | 0, _, hs => exact mid_int (stk := []) hg h60 hm hs rfl (by simp)
    | 1, _, hs => exact mid_print (stk := []) (out := []) hg h60 hm hs rfl (by simp) (by simp)
    | 2, _, hs => exact mid_halt hg h60 hm hs rfl (by simp)

end Go.Proofs.YtbkmgoffiigdbaaDoor
