import Derived.Test.YtbkmgoffiigdbaaDoorMT
import Derived.Test.YtbkmgoffiigdbaaDoorMU
namespace Go.Proofs.YtbkmgoffiigdbaaDoor

/-! PLAIN: what Check tells of a program that was made. -/

theorem popD_of {op q : Int} (h : op ≠ 14) : popD op q = popD op 2 := by
  unfold popD; repeat' split
  all_goals first | rfl | omega

theorem getD_hi (B t : List (Int × Int)) (j : Nat) : (B ++ t).getD (B.length + j) (0, 0) = t.getD j (0, 0) := by
  simp only [List.getD_eq_getElem?_getD]; rw [List.getElem?_append_right (by omega), show B.length + j - B.length = j by omega]
theorem getD_lo (B t : List (Int × Int)) {a : Nat} (h : a < B.length) : (B ++ t).getD a (0, 0) = B.getD a (0, 0) := by
  simp only [List.getD_eq_getElem?_getD]; rw [List.getElem?_append_left h]

theorem pop_of {g : PgR} (h1 : (g.f 1).p = 2) {op x : Int} (hc : op = 14 → x = 1) : popD op (g.f x.toNat).p = popD op 2 := by
  by_cases e : op = 14
  · rw [hc e]; show popD op (g.f 1).p = _; rw [h1]
  · exact popD_of e

theorem next_of {a : Nat} {op x : Int} (h : op ≠ 12 ∧ op ≠ 15 ∧ op ≠ 27) {c : Nat} (hc : c ∈ nextD a op x) : c = a + 1 ∨ (op = 13 ∧ c = x.toNat) := by
  unfold nextD at hc
  rw [if_neg (by omega), if_neg h.1] at hc
  split at hc
  · next h13 => simp only [List.mem_cons, List.not_mem_nil, or_false] at hc; rcases hc with h | h
                · exact Or.inr ⟨h13, h⟩
                · exact Or.inl h
  · simp only [List.mem_cons, List.not_mem_nil, or_false] at hc; exact Or.inl hc

theorem shut_of {g : PgR} {p l : Int} {b c m : Nat} {L : List (Int × Int)} {HH : Nat → Int} (h1 : (g.f 1).p = 2) (hm : m < L.length) {a : Nat} (ha : a < m)
    (ok : InstrOk (L.getD a (0, 0)).1 (L.getD a (0, 0)).2 m (HH a) (HH (a + 1)) HH) : (flowOf g (fnOf p l b c L)).Shut HH a := by
  have hp : (flowOf g (fnOf p l b c L)).pop a = popD (L.getD a (0, 0)).1 2 := pop_of h1 ok.cl
  have hb : (flowOf g (fnOf p l b c L)).behind a (HH a) = HH a - popD (L.getD a (0, 0)).1 2 + pushD (L.getD a (0, 0)).1 := by
    unfold Flow.behind; rw [hp]; rfl
  refine ⟨by rw [hp]; exact ok.hp, by rw [hb]; exact ok.ht, fun d hd => ?_⟩
  rw [hb]
  rcases next_of ok.no hd with rfl | ⟨h13, rfl⟩
  · exact ⟨by show a + 1 < L.length; omega, ok.nx⟩
  · obtain ⟨k1, k2, k3⟩ := ok.jm h13
    exact ⟨by show _ < L.length; have : (fnOf p l b c L).ar a = (L.getD a (0, 0)).2 := rfl; omega, k3⟩

theorem instr_ext {op x : Int} {m : Nat} {h hn h' hn' : Int} {H H' : Nat → Int} (ok : InstrOk op x m h hn H) (e1 : h' = h) (e2 : hn' = hn) (e3 : ∀ c, c ≤ m → H' c = H c) : InstrOk op x m h' hn' H' := by
  subst e1 e2
  exact ⟨ok.h0, ok.hp, ok.ht, ok.no, ok.nx, fun h13 => by obtain ⟨k1, k2, k3⟩ := ok.jm h13; exact ⟨k1, k2, by rw [e3 _ (by omega)]; exact k3⟩, ok.lg, ok.cl⟩

/-- The heights: those of the body, then those of what follows. -/
def HT (m : Nat) (H T : Nat → Int) (a : Nat) : Int := if a ≤ m then H a else T (a - m)

theorem HT_lo {m : Nat} {H T : Nat → Int} {a : Nat} (h : a ≤ m) : HT m H T a = H a := by unfold HT; rw [if_pos h]
theorem HT_hi {m : Nat} {H T : Nat → Int} {j : Nat} (h : 0 < j) : HT m H T (m + j) = T j := by unfold HT; rw [if_neg (by omega), show m + j - m = j by omega]

theorem body_shut {g : PgR} {p l : Int} {b c : Nat} {B t : List (Int × Int)} {H T : Nat → Int} (h1 : (g.f 1).p = 2) (hs : Seg B B.length H) (ht : 0 < t.length) {a : Nat} (ha : a < B.length) :
    (flowOf g (fnOf p l b c (B ++ t))).Shut (HT B.length H T) a := by
  refine shut_of (m := B.length) h1 (by simp; omega) ha ?_
  rw [getD_lo B t ha]
  exact instr_ext (hs.ok a ha) (HT_lo (by omega)) (HT_lo (by omega)) (fun c hc => HT_lo hc)

theorem body_reach {g : PgR} {p l : Int} {b c : Nat} {B t : List (Int × Int)} {H : Nat → Int} (h1 : (g.f 1).p = 2) (hs : Seg B B.length H) (a : Nat) (ha : a ≤ B.length) :
    (flowOf g (fnOf p l b c (B ++ t))).Reach a (H a) := by
  induction a with
  | zero => rw [hs.z0]; exact Flow.reach_first _
  | succ a ih =>
    have hr := ih (by omega)
    have ok := hs.ok a (by omega)
    have hop : (fnOf p l b c (B ++ t)).op a = (B.getD a (0, 0)).1 := by show ((B ++ t).getD a (0, 0)).1 = _; rw [getD_lo B t (by omega)]
    have har : (fnOf p l b c (B ++ t)).ar a = (B.getD a (0, 0)).2 := by show ((B ++ t).getD a (0, 0)).2 = _; rw [getD_lo B t (by omega)]
    have hn : a + 1 ∈ (flowOf g (fnOf p l b c (B ++ t))).next a := by
      show a + 1 ∈ nextD a ((fnOf p l b c (B ++ t)).op a) _
      rw [hop]
      have hno := ok.no
      unfold nextD
      rw [if_neg (by omega), if_neg hno.1]
      split <;> simp
    have h2 := Flow.reach_next hr hn
    have hb : (flowOf g (fnOf p l b c (B ++ t))).behind a (H a) = H (a + 1) := by
      rw [ok.nx]
      show H a - popD ((fnOf p l b c (B ++ t)).op a) (g.f ((fnOf p l b c (B ++ t)).ar a).toNat).p + pushD ((fnOf p l b c (B ++ t)).op a) = _
      rw [hop, har, pop_of h1 ok.cl]
    rwa [hb] at h2

theorem legal_lo {nc : Nat} {op x : Int} {m : Nat} {h hn : Int} {H : Nat → Int} (ok : InstrOk op x m h hn H) (hm : m < nc) : legalB 3 3 nc op x = true := by
  by_cases e : op = 13
  · obtain ⟨k1, k2, _⟩ := ok.jm e
    unfold legalB
    rw [if_neg (by omega), if_neg (by omega), if_pos (Or.inr e)]
    exact insideB_t k1 (by omega)
  · have h := ok.lg e
    have hno := ok.no
    unfold legalB at h ⊢
    by_cases e0 : op = 0
    · rw [if_pos e0]
    · rw [if_neg e0] at h ⊢
      by_cases e1 : op = 2 ∨ op = 3
      · rw [if_pos e1] at h ⊢; exact h
      · rw [if_neg e1] at h ⊢
        rw [if_neg (by omega)] at h ⊢
        exact h

theorem list_legal {B t : List (Int × Int)} {H : Nat → Int} (hs : Seg B B.length H) (ht0 : 0 < t.length) (k : Nat) (ht : ∀ j, j < k → legalB 3 3 (B ++ t).length (t.getD j (0, 0)).1 (t.getD j (0, 0)).2 = true) (j : Nat) (hj : j < B.length + k) :
    legalB 3 3 (B ++ t).length ((B ++ t).getD j (0, 0)).1 ((B ++ t).getD j (0, 0)).2 = true := by
  by_cases e : j < B.length
  · rw [getD_lo B t e]; exact legal_lo (hs.ok j e) (by simp; omega)
  · obtain ⟨i, rfl⟩ : ∃ i, j = B.length + i := ⟨j - B.length, by omega⟩
    rw [getD_hi B t i]; exact ht i (by omega)

theorem mainW_eq (B : List (Int × Int)) (x : Int × Int) : mainW B x = B ++ [(14, 2), (5, 0), x] := by simp [mainW]
theorem mainW_len (B : List (Int × Int)) (x : Int × Int) : (mainW B x).length = B.length + 3 := by simp [mainW]


theorem made_sizes {pb b1 c1 sb b2 c2 : Nat} {B : List (Int × Int)} {C : List (Int × Int)} {x : Int × Int} {H : Nat → Int} (hB : Seg B B.length H) (hB2 : B.length ≤ 44) (hC2 : C.length ≤ 44) :
    SizesSay (madeG pb b1 c1 sb b2 c2 (mainW B x) stepL (C ++ [(2, 1)] ++ [(15, 0)])) 0 true := by
  have h2 := hB.m2
  refine Or.inl ⟨rfl, rfl, by show 1 ≤ 3; omega, by show 3 ≤ 8; omega, fun i hi => ?_⟩
  have hi' : i = 0 ∨ i = 1 ∨ i = 2 := by have : i < 3 := hi; omega
  rcases hi' with rfl | rfl | rfl
  · show sizedB 0 0 3 (mainW B x).length = true
    rw [mainW_len]
    unfold sizedB
    rw [insideB_t (by omega) (by omega)]
    decide
  · show sizedB 1 2 3 stepL.length = true
    decide
  · show sizedB 2 0 3 (C ++ [(2, 1)] ++ [(15, 0)]).length = true
    unfold sizedB
    rw [insideB_t (by simp; omega) (by simp; omega)]
    decide

theorem step_legal (j : Nat) (hj : j < 9) : legalB 3 3 9 (stepL.getD j (0, 0)).1 (stepL.getD j (0, 0)).2 = true := by
  have : ∀ j : Fin 9, legalB 3 3 9 (stepL.getD j (0, 0)).1 (stepL.getD j (0, 0)).2 = true := by decide
  exact this ⟨j, hj⟩

theorem other_legal {C : List (Int × Int)} {K : Nat → Int} (hC : Seg C C.length K) (j : Nat) (hj : j < (C ++ [(2, 1)] ++ [(15, 0)]).length) :
    legalB 3 3 (C ++ [(2, 1)] ++ [(15, 0)]).length ((C ++ [(2, 1)] ++ [(15, 0)]).getD j (0, 0)).1 ((C ++ [(2, 1)] ++ [(15, 0)]).getD j (0, 0)).2 = true := by
  rw [List.append_assoc] at *
  refine list_legal hC (by simp) 2 (fun j hj => ?_) j (by simpa using hj)
  obtain rfl | rfl : j = 0 ∨ j = 1 := by omega
  · rfl
  · rfl

theorem main_legal {B : List (Int × Int)} {x : Int × Int} {H : Nat → Int} (hB : Seg B B.length H) (j : Nat) (hj : j < B.length + 2) : legalB 3 3 (mainW B x).length ((mainW B x).getD j (0, 0)).1 ((mainW B x).getD j (0, 0)).2 = true := by
  rw [mainW_eq]
  refine list_legal hB (by simp) 2 (fun j hj => ?_) j hj
  obtain rfl | rfl : j = 0 ∨ j = 1 := by omega
  · rfl
  · rfl

theorem main_last (B : List (Int × Int)) (x : Int × Int) : (mainW B x).getD (B.length + 2) (0, 0) = x := by
  rw [mainW_eq, getD_hi]; rfl

theorem made_legal {pb b1 c1 sb b2 c2 : Nat} {B : List (Int × Int)} {C : List (Int × Int)} {x : Int × Int} {H : Nat → Int} {K : Nat → Int} (hB : Seg B B.length H) (hC : Seg C C.length K) (hx : legalB 3 3 (mainW B x).length x.1 x.2 = true) :
    CodeSay (madeG pb b1 c1 sb b2 c2 (mainW B x) stepL (C ++ [(2, 1)] ++ [(15, 0)])) 0 true := by
  refine Or.inl ⟨rfl, rfl, fun i hi j hj => ?_⟩
  have hi' : i = 0 ∨ i = 1 ∨ i = 2 := by have : i < 3 := hi; omega
  rcases hi' with rfl | rfl | rfl
  · have hj' : j < (mainW B x).length := hj
    rw [mainW_len] at hj'
    show legalB 3 3 (mainW B x).length ((mainW B x).getD j (0, 0)).1 ((mainW B x).getD j (0, 0)).2 = true
    by_cases e : j < B.length + 2
    · exact main_legal hB j e
    · obtain rfl : j = B.length + 2 := by omega
      rw [main_last]; exact hx
  · exact step_legal j hj
  · exact other_legal hC j hj

/-- A slip: an instruction that may not be. -/
theorem made_slip {pb b1 c1 sb b2 c2 : Nat} {B : List (Int × Int)} {C : List (Int × Int)} {x : Int × Int} {H : Nat → Int} (hB : Seg B B.length H) (hx : legalB 3 3 (mainW B x).length x.1 x.2 = false) :
    CodeSay (madeG pb b1 c1 sb b2 c2 (mainW B x) stepL (C ++ [(2, 1)] ++ [(15, 0)])) ((B.length + 2 : Nat) : Int) false := by
  refine Or.inr ⟨rfl, 0, B.length + 2, by omega, by show 0 < 3; omega, fun i hi => by omega, ?_, ?_, fun j hj => ?_⟩
  · show B.length + 2 < (mainW B x).length; rw [mainW_len]; omega
  · show legalB 3 3 (mainW B x).length ((mainW B x).getD (B.length + 2) (0, 0)).1 ((mainW B x).getD (B.length + 2) (0, 0)).2 = false
    rw [main_last]; exact hx
  · exact main_legal hB j hj

theorem shut_at {g : PgR} {p l : Int} {b c : Nat} {L : List (Int × Int)} {HH : Nat → Int} {a : Nat} {op x h q : Int} (hg : L.getD a (0, 0) = (op, x)) (hh : HH a = h) (hq : (g.f x.toNat).p = q)
    (h1 : popD op q ≤ h) (h2 : h - popD op q + pushD op ≤ 10) (h3 : ∀ d, d ∈ nextD a op x → d < L.length ∧ HH d = h - popD op q + pushD op) : (flowOf g (fnOf p l b c L)).Shut HH a := by
  have hop : (fnOf p l b c L).op a = op := by show (L.getD a (0, 0)).1 = _; rw [hg]
  have har : (fnOf p l b c L).ar a = x := by show (L.getD a (0, 0)).2 = _; rw [hg]
  have hp : (flowOf g (fnOf p l b c L)).pop a = popD op q := by show popD ((fnOf p l b c L).op a) (g.f ((fnOf p l b c L).ar a).toNat).p = _; rw [hop, har, hq]
  have hb : (flowOf g (fnOf p l b c L)).behind a (HH a) = h - popD op q + pushD op := by
    unfold Flow.behind; rw [hp, hh]; show _ + pushD ((fnOf p l b c L).op a) = _; rw [hop]
  refine ⟨by rw [hp, hh]; exact h1, by rw [hb]; exact h2, fun d hd => ?_⟩
  rw [hb]
  refine h3 d ?_
  have : d ∈ nextD a ((fnOf p l b c L).op a) ((fnOf p l b c L).ar a) := hd
  rwa [hop, har] at this

theorem main_fits {pb b1 c1 sb b2 c2 : Nat} {B : List (Int × Int)} {C : List (Int × Int)} {H : Nat → Int} (hB : Seg B B.length H) (again : Bool) : (flowOf (madeG pb b1 c1 sb b2 c2 (mainW B (lastI again)) stepL (C ++ [(2, 1)] ++ [(15, 0)])) (fnOf 0 3 b1 c1 (mainW B (lastI again)))).Fits := by
  have h2 := hB.m2
  have hlen := mainW_len B (lastI again)
  refine Flow.fits_of_shut (H := HT B.length H (fun j => if j = 1 then 1 else 0)) (by show 0 < (mainW B (lastI again)).length; omega) (by rw [HT_lo (by omega)]; exact hB.z0) (fun a => (pushD_bd _).1) (fun a ha _ => ?_)
  have ha' : a < B.length + 3 := by rw [← hlen]; exact ha
  by_cases e : a < B.length
  · rw [mainW_eq]; exact body_shut rfl hB (by simp) e
  · have hcase : a = B.length + 0 ∨ a = B.length + 1 ∨ a = B.length + 2 := by omega
    rcases hcase with rfl | rfl | rfl
    · refine shut_at (op := 14) (x := 2) (h := 0) (q := 0) (by rw [mainW_eq, getD_hi]; rfl) (by rw [HT_lo (by omega)]; exact hB.zm) rfl (by decide) (by decide) (fun d hd => ?_)
      have : d = B.length + 0 + 1 := by simpa [nextD] using hd
      subst this
      exact ⟨by omega, by rw [show B.length + 0 + 1 = B.length + 1 from rfl, HT_hi (by omega)]; decide⟩
    · refine shut_at (op := 5) (x := 0) (h := 1) (q := 0) (by rw [mainW_eq, getD_hi]; rfl) (by rw [HT_hi (by omega)]; rfl) rfl (by decide) (by decide) (fun d hd => ?_)
      have : d = B.length + 1 + 1 := by simpa [nextD] using hd
      subst this
      exact ⟨by omega, by rw [show B.length + 1 + 1 = B.length + 2 from rfl, HT_hi (by omega)]; decide⟩
    · cases again
      · refine shut_at (op := 27) (x := 0) (h := 0) (q := 0) (by rw [main_last]; rfl) (by rw [HT_hi (by omega)]; rfl) rfl (by decide) (by decide) (fun d hd => ?_)
        simp [nextD] at hd
      · refine shut_at (op := 12) (x := 2) (h := 0) (q := 0) (by rw [main_last]; rfl) (by rw [HT_hi (by omega)]; rfl) rfl (by decide) (by decide) (fun d hd => ?_)
        have : d = 2 := by simpa [nextD] using hd
        subst this
        exact ⟨by omega, by rw [HT_lo (by omega), hB.z2]; decide⟩

theorem other_fits {pb b1 c1 sb b2 c2 : Nat} {B : List (Int × Int)} {C : List (Int × Int)} {x : Int × Int} {K : Nat → Int} (hC : Seg C C.length K) : (flowOf (madeG pb b1 c1 sb b2 c2 (mainW B x) stepL (C ++ [(2, 1)] ++ [(15, 0)])) (fnOf 0 3 b2 c2 (C ++ [(2, 1)] ++ [(15, 0)]))).Fits := by
  have h2 := hC.m2
  have hlen : (C ++ [(2, 1)] ++ [(15, 0)] : List (Int × Int)).length = C.length + 2 := by simp
  have heq : (C ++ [(2, 1)] ++ [(15, 0)] : List (Int × Int)) = C ++ [(2, 1), (15, 0)] := by simp
  refine Flow.fits_of_shut (H := HT C.length K (fun _ => 1)) (by show 0 < (C ++ [(2, 1)] ++ [(15, 0)]).length; omega) (by rw [HT_lo (by omega)]; exact hC.z0) (fun a => (pushD_bd _).1) (fun a ha _ => ?_)
  have ha' : a < C.length + 2 := by rw [← hlen]; exact ha
  by_cases e : a < C.length
  · rw [heq]; exact body_shut rfl hC (by simp) e
  · have hcase : a = C.length + 0 ∨ a = C.length + 1 := by omega
    rcases hcase with rfl | rfl
    · refine shut_at (op := 2) (x := 1) (h := 0) (q := 2) (by rw [heq, getD_hi]; rfl) (by rw [HT_lo (by omega)]; exact hC.zm) rfl (by decide) (by decide) (fun d hd => ?_)
      have : d = C.length + 0 + 1 := by simpa [nextD] using hd
      subst this
      exact ⟨by omega, by rw [show C.length + 0 + 1 = C.length + 1 from rfl, HT_hi (by omega)]; decide⟩
    · refine shut_at (op := 15) (x := 0) (h := 1) (q := 0) (by rw [heq, getD_hi]; rfl) (by rw [HT_hi (by omega)]) rfl (by decide) (by decide) (fun d hd => ?_)
      simp [nextD] at hd

def stepH (a : Nat) : Int := ([0, 1, 0, 1, 2, 0, 1, 2, 1] : List Int).getD a 0

theorem step_fits {pb b1 c1 sb b2 c2 : Nat} {B : List (Int × Int)} {C : List (Int × Int)} {x : Int × Int} : (flowOf (madeG pb b1 c1 sb b2 c2 (mainW B x) stepL (C ++ [(2, 1)] ++ [(15, 0)])) (fnOf 2 3 sb 9 stepL)).Fits := by
  refine Flow.fits_of_shut (H := stepH) (by show 0 < 9; omega) rfl (fun a => (pushD_bd _).1) (fun a ha _ => ?_)
  have ha' : a < 9 := ha
  have hcase : a = 0 ∨ a = 1 ∨ a = 2 ∨ a = 3 ∨ a = 4 ∨ a = 5 ∨ a = 6 ∨ a = 7 ∨ a = 8 := by omega
  rcases hcase with rfl | rfl | rfl | rfl | rfl | rfl | rfl | rfl | rfl
  · exact shut_at (op := 16) (x := 1) (h := 0) (q := 2) rfl rfl rfl (by decide) (by decide) (fun d hd => by have : d = 1 := by simpa [nextD] using hd
                                                                                                            subst this; decide)
  · exact shut_at (op := 3) (x := 2) (h := 1) (q := 0) rfl rfl rfl (by decide) (by decide) (fun d hd => by have : d = 2 := by simpa [nextD] using hd
                                                                                                           subst this; decide)
  · exact shut_at (op := 2) (x := 2) (h := 0) (q := 0) rfl rfl rfl (by decide) (by decide) (fun d hd => by have : d = 3 := by simpa [nextD] using hd
                                                                                                           subst this; decide)
  · exact shut_at (op := 2) (x := 1) (h := 1) (q := 2) rfl rfl rfl (by decide) (by decide) (fun d hd => by have : d = 4 := by simpa [nextD] using hd
                                                                                                           subst this; decide)
  · exact shut_at (op := 20) (x := 0) (h := 2) (q := 0) rfl rfl rfl (by decide) (by decide) (fun d hd => by have : d = 5 := by simpa [nextD] using hd
                                                                                                            subst this; decide)
  · exact shut_at (op := 2) (x := 0) (h := 0) (q := 0) rfl rfl rfl (by decide) (by decide) (fun d hd => by have : d = 6 := by simpa [nextD] using hd
                                                                                                           subst this; decide)
  · exact shut_at (op := 0) (x := 1) (h := 1) (q := 2) rfl rfl rfl (by decide) (by decide) (fun d hd => by have : d = 7 := by simpa [nextD] using hd
                                                                                                           subst this; decide)
  · exact shut_at (op := 7) (x := 0) (h := 2) (q := 0) rfl rfl rfl (by decide) (by decide) (fun d hd => by have : d = 8 := by simpa [nextD] using hd
                                                                                                           subst this; decide)
  · exact shut_at (op := 15) (x := 0) (h := 1) (q := 0) rfl rfl rfl (by decide) (by decide) (fun d hd => by simp [nextD] at hd)

/-- A slip: a value too many is popped. -/
theorem main_unfit {pb b1 c1 sb b2 c2 : Nat} {B : List (Int × Int)} {C : List (Int × Int)} {H : Nat → Int} (hB : Seg B B.length H) : ¬ (flowOf (madeG pb b1 c1 sb b2 c2 (mainW B (5, 0)) stepL (C ++ [(2, 1)] ++ [(15, 0)])) (fnOf 0 3 b1 c1 (mainW B (5, 0)))).Fits := by
  have hr := body_reach (g := madeG pb b1 c1 sb b2 c2 (mainW B (5, 0)) stepL (C ++ [(2, 1)] ++ [(15, 0)])) (p := 0) (l := 3) (b := b1) (c := c1) (t := [(14, 2), (5, 0), (5, 0)]) rfl hB B.length (Nat.le_refl _)
  rw [← mainW_eq, hB.zm] at hr
  have g0 : (mainW B (5, 0)).getD B.length (0, 0) = (14, 2) := by rw [mainW_eq]; exact getD_hi B _ 0
  have g1 : (mainW B (5, 0)).getD (B.length + 1) (0, 0) = (5, 0) := by rw [mainW_eq, getD_hi]; rfl
  have g2 := main_last B (5, 0)
  have hr1 := Flow.reach_next (c := B.length + 1) hr (by
    show _ ∈ nextD B.length ((mainW B (5, 0)).getD B.length (0, 0)).1 ((mainW B (5, 0)).getD B.length (0, 0)).2
    rw [g0]; simp [nextD])
  have e1 : (flowOf (madeG pb b1 c1 sb b2 c2 (mainW B (5, 0)) stepL (C ++ [(2, 1)] ++ [(15, 0)])) (fnOf 0 3 b1 c1 (mainW B (5, 0)))).behind B.length 0 = 1 := by
    show 0 - popD ((mainW B (5, 0)).getD B.length (0, 0)).1 ((madeG pb b1 c1 sb b2 c2 (mainW B (5, 0)) stepL (C ++ [(2, 1)] ++ [(15, 0)])).f ((mainW B (5, 0)).getD B.length (0, 0)).2.toNat).p + pushD ((mainW B (5, 0)).getD B.length (0, 0)).1 = 1
    rw [g0]; rfl
  rw [e1] at hr1
  have hr2 := Flow.reach_next (c := B.length + 2) hr1 (by
    show _ ∈ nextD (B.length + 1) ((mainW B (5, 0)).getD (B.length + 1) (0, 0)).1 ((mainW B (5, 0)).getD (B.length + 1) (0, 0)).2
    rw [g1]; simp [nextD])
  have e2 : (flowOf (madeG pb b1 c1 sb b2 c2 (mainW B (5, 0)) stepL (C ++ [(2, 1)] ++ [(15, 0)])) (fnOf 0 3 b1 c1 (mainW B (5, 0)))).behind (B.length + 1) 1 = 0 := by
    show 1 - popD ((mainW B (5, 0)).getD (B.length + 1) (0, 0)).1 ((madeG pb b1 c1 sb b2 c2 (mainW B (5, 0)) stepL (C ++ [(2, 1)] ++ [(15, 0)])).f ((mainW B (5, 0)).getD (B.length + 1) (0, 0)).2.toNat).p + pushD ((mainW B (5, 0)).getD (B.length + 1) (0, 0)).1 = 0
    rw [g1]; rfl
  rw [e2] at hr2
  refine Flow.not_fits_pop hr2 (Or.inl ?_)
  show 0 < popD ((mainW B (5, 0)).getD (B.length + 2) (0, 0)).1 ((madeG pb b1 c1 sb b2 c2 (mainW B (5, 0)) stepL (C ++ [(2, 1)] ++ [(15, 0)])).f ((mainW B (5, 0)).getD (B.length + 2) (0, 0)).2.toNat).p
  rw [g2]; show (0 : Int) < 1; decide

theorem made_taken {pb b1 c1 sb b2 c2 : Nat} {B : List (Int × Int)} {C : List (Int × Int)} {H : Nat → Int} {K : Nat → Int} (hB : Seg B B.length H) (hB2 : B.length ≤ 44) (hC : Seg C C.length K) (hC2 : C.length ≤ 44) (again : Bool) :
    CheckIs (madeG pb b1 c1 sb b2 c2 (mainW B (lastI again)) stepL (C ++ [(2, 1)] ++ [(15, 0)])) 0 0 := by
  have h2 := hB.m2
  refine Or.inr ⟨made_sizes hB hB2 hC2, Or.inr ⟨made_legal hB hC ?_, Or.inr ⟨Or.inl ⟨rfl, rfl, fun i hi => ?_⟩, rfl, rfl⟩⟩⟩
  · rw [mainW_len]
    cases again
    · rfl
    · show legalB 3 3 (B.length + 3) 12 2 = true
      unfold legalB
      rw [if_neg (by decide), if_neg (by decide), if_pos (by decide)]
      exact insideB_t (by omega) (by omega)
  · have hi' : i = 0 ∨ i = 1 ∨ i = 2 := by have : i < 3 := hi; omega
    rcases hi' with rfl | rfl | rfl
    · exact main_fits hB again
    · exact step_fits
    · exact other_fits hC

theorem made_high {pb b1 c1 sb b2 c2 : Nat} {B : List (Int × Int)} {C : List (Int × Int)} {H : Nat → Int} {K : Nat → Int} (hB : Seg B B.length H) (hB2 : B.length ≤ 44) (hC : Seg C C.length K) (hC2 : C.length ≤ 44) :
    CheckIs (madeG pb b1 c1 sb b2 c2 (mainW B (5, 0)) stepL (C ++ [(2, 1)] ++ [(15, 0)])) 3 0 := by
  refine Or.inr ⟨made_sizes hB hB2 hC2, Or.inr ⟨made_legal hB hC rfl, Or.inl ⟨Or.inr ⟨rfl, 0, rfl, by show 0 < 3; omega, main_unfit hB, fun i hi => by omega⟩, rfl⟩⟩⟩

theorem made_wrong {pb b1 c1 sb b2 c2 : Nat} {B : List (Int × Int)} {C : List (Int × Int)} {H : Nat → Int} (hB : Seg B B.length H) (hB2 : B.length ≤ 44) (hC2 : C.length ≤ 44) :
    CheckIs (madeG pb b1 c1 sb b2 c2 (mainW B (2, 3)) stepL (C ++ [(2, 1)] ++ [(15, 0)])) 2 ((B.length + 2 : Nat) : Int) :=
  Or.inr ⟨made_sizes hB hB2 hC2, Or.inl ⟨made_slip hB rfl, rfl⟩⟩

end Go.Proofs.YtbkmgoffiigdbaaDoor
