import Derived.Test.YtiejbnfjdobpcaaDoorOH
import Derived.Test.YtiejbnfjdobpcaaDoorNT
namespace Go.Proofs.YtiejbnfjdobpcaaDoor
open Go.RowKit Go.Sort

/-- A step of a program of one function, in one frame. -/
def stepL (L : List (Int × Int)) (s : McA) : Option McA :=
  match s.frs with
  | [f] => if s.st = 0 ∧ s.obs.length ≤ 1000 ∧ s.dr.length ≤ 1000 ∧ f.stk.length ≤ 1000 ∧ f.fn = 0 then (L[f.pc]?).bind fun x => if 0 ≤ x.1 ∧ x.1 < 28 ∧ x.1 ≠ 14 then opA x.1 x.2 s [] f else none else none
  | _ => none

def runL (L : List (Int × Int)) : Nat → McA → Option McA
  | 0, s => some s
  | n + 1, s => (runL L n s).bind (stepL L)

theorem runL_before {L : List (Int × Int)} {s : McA} : ∀ {n i : Nat}, i ≤ n → runL L n s ≠ none → runL L i s ≠ none
  | 0, i, hi, h => by obtain rfl : i = 0 := by omega
                      exact h
  | n + 1, i, hi, h => by
    by_cases e : i = n + 1
    · rw [e]; exact h
    · refine runL_before (n := n) (by omega) fun h' => h ?_
      simp [runL, h']

theorem stepL_abs {L : List (Int × Int)} {g : PgR} {l : Nat} (hg : SProg g l L) (hL : L.length ≤ 60) {own : Own} {mb : Nat} {R : McR} {w : World} (hm : MachAt w own mb g R) (hq : NilOut R) {s : McA} (hs : stepL L R.abs = some s) :
    R.st = 0 ∧ Calls Tryd.prog 55 #[.pointer (some ⟨mb, 0, none⟩)] w fun e w' => StepPost own mb g (fun R' => R'.abs = s ∧ NilOut R') w e w' := by
  unfold stepL at hs
  split at hs
  · rename_i f' hf'
    split at hs
    · rename_i hc
      obtain ⟨h0, ho, hd, hk, hfn⟩ := hc
      obtain ⟨⟨op, a⟩, hx, hs⟩ := Option.bind_eq_some_iff.1 hs
      split at hs
      · rename_i hop
        obtain ⟨p1, p2, p3⟩ := hop
        obtain ⟨k, rfl⟩ := Int.eq_ofNat_of_zero_le p1
        obtain ⟨f, hf, rfl⟩ : ∃ f, R.frs = [] ++ [f] ∧ f.abs = f' := by
          have : R.frs.map FrR.abs = [f'] := hf'
          match hR : R.frs, this with
          | [f], h => exact ⟨f, rfl, by simpa using h⟩
        have hfn' : f.fn = 0 := hfn
        have hx' : L[f.pc]? = some ((k : Int), a) := hx
        have hpc := (List.getElem?_eq_some_iff.1 hx').1
        obtain ⟨q1, q2⟩ := hg.code f.pc _ hx'
        have hk' : f.stk.length ≤ 1000 := hk
        have ho' : R.obs.length ≤ 1000 := by simpa [McR.abs] using ho
        refine ⟨h0, step_abs hm hq hf ⟨by rw [hfn', hg.n]; omega, by rw [hfn', hg.len]; exact hpc, by rw [hfn']; exact q1, by rw [hfn']; exact q2, by simp only at p3; omega, by simp only at p2; omega, by simp, hk', by omega, by rw [hg.n]; omega, by rw [hfn', hg.len]; omega⟩ ho' hd s hs⟩
      · cases hs
    · cases hs
  · cases hs

theorem run_list {L : List (Int × Int)} {g : PgR} {l : Nat} (hg : SProg g l L) (hL : L.length ≤ 60) {own : Own} {mb : Nat} {R : McR} {w : World} (hm : MachAt w own mb g R) (hq : NilOut R) (N fuel : Nat) (hN : N < fuel) (hfuel : fuel ≤ 10000) {s : McA} (hr : runL L N R.abs = some s) (hs : s.st ≠ 0) :
    Calls Tryd.prog 40 #[.pointer (some ⟨mb, 0, none⟩), .int .i64 (fuel : Int)] w fun e w' => RunPost own mb g (fun R' => R'.abs = s ∧ NilOut R') N w e w' := by
  have hne : ∀ i, i ≤ N → ∃ s', runL L i R.abs = some s' := fun i hi => Option.ne_none_iff_exists'.1 (runL_before hi (by rw [hr]; simp))
  have hst : ∀ i (R' : McR), i < N → runL L i R.abs = some R'.abs → ∃ s', stepL L R'.abs = some s' ∧ runL L (i + 1) R.abs = some s' := fun i R' hi h => by
    obtain ⟨s', hs'⟩ := hne (i + 1) hi
    refine ⟨s', ?_, hs'⟩
    simpa [runL, h] using hs'
  refine (run_any hm (fun i R' => runL L i R.abs = some R'.abs ∧ NilOut R') ⟨rfl, hq⟩ N fuel (by omega) hfuel (fun i R' hi h => ?_) (fun _ R' h => ?_) (fun i own R' w hi hm h => ?_)).mono ?_
  · obtain ⟨s', h1, _⟩ := hst i R' hi h.1
    unfold stepL at h1
    split at h1
    · split at h1
      · rename_i hc; exact hc.1
      · cases h1
    · cases h1
  · have h := h.1
    rw [hr] at h
    have : s.st = R'.st := by rw [Option.some.inj h]; rfl
    rw [← this]; exact hs
  · obtain ⟨s', h1, h2⟩ := hst i R' hi h.1
    refine (stepL_abs hg hL hm h.2 h1).2.mono ?_
    rintro e w' ⟨own', R'', he, hm', ⟨hR, hq'⟩, ht⟩
    exact ⟨own', R'', he, hm', ⟨by rw [h2, hR], hq'⟩, ht⟩
  · rintro e w' ⟨own', R', he, hm', ⟨hR, hq'⟩, ht⟩
    exact ⟨own', R', he, hm', ⟨by rw [hr] at hR; exact (Option.some.inj hR).symm, hq'⟩, ht⟩

/-- Whether a program of one function, with one local, is taken, by the heights H. -/
def okL (L : List (Int × Int)) (H : List Int) : Bool :=
  (List.range L.length).all fun a => match L[a]? with
    | none => false
    | some x => legalB 1 1 L.length x.1 x.2 && decide (x.1 ≠ 14) && decide (popD x.1 0 ≤ H.getD a 0) && decide (H.getD a 0 - popD x.1 0 + pushD x.1 ≤ 10) &&
      (nextD a x.1 x.2).all fun c => decide (c < L.length) && decide (H.getD c 0 = H.getD a 0 - popD x.1 0 + pushD x.1)

theorem okL_check {L : List (Int × Int)} {H : List Int} {g : PgR} (hg : SProg g 1 L) (h1 : 1 ≤ L.length) (h60 : L.length ≤ 60) (h0 : H.getD 0 0 = 0) (hok : okL L H = true) : CheckIs g 0 0 := by
  have ha : ∀ a x, L[a]? = some x → legalB 1 1 L.length x.1 x.2 = true ∧ x.1 ≠ 14 ∧ popD x.1 0 ≤ H.getD a 0 ∧ H.getD a 0 - popD x.1 0 + pushD x.1 ≤ 10 ∧ ∀ c, c ∈ nextD a x.1 x.2 → c < L.length ∧ H.getD c 0 = H.getD a 0 - popD x.1 0 + pushD x.1 := fun a x hx => by
    have hl := (List.getElem?_eq_some_iff.1 hx).1
    have := List.all_eq_true.1 hok a (List.mem_range.2 hl)
    simp only [hx, Bool.and_eq_true, decide_eq_true_eq, List.all_eq_true] at this
    obtain ⟨⟨⟨⟨q1, q2⟩, q3⟩, q4⟩, q5⟩ := this
    exact ⟨q1, q2, q3, q4, q5⟩
  exact sprog_check hg (by omega) h1 h60 (fun a => H.getD a 0) h0 (fun a x hx => ⟨(ha a x hx).1, (ha a x hx).2.1⟩) (fun a x hx => (ha a x hx).2.2)

def revRow (x : Int) : List (Int × Int) := [(16, 2), (4, 0), (2, 0), (20, 0), (4, 0), (0, x), (20, 1), (3, 0)]
def revEnd (k : Nat) : List (Int × Int) := [(2, 0), (25, 0), (13, (k + 10 : Nat)), (2, 0), (19, 1), (26, 0), (2, 0), (19, 0), (3, 0), (12, (k : Nat)), (27, 0)]
def revL (l : List Int) : List (Int × Int) := l.flatMap revRow ++ revEnd (l.length * 8)
def revH : Nat → List Int
  | 0 => [0, 1, 1, 0, 1, 1, 0, 1, 1, 0, 0]
  | n + 1 => [0, 1, 2, 3, 1, 2, 3, 1] ++ revH n

def revS : McA := ⟨0, [], [⟨0, 0, [(0, 0)], []⟩], List.replicate 11 (0, []), []⟩
def endA (s : McA) : Int × List Int × Nat := (s.st, s.out, s.obs.length)

theorem rev_ok : ∀ l : List Int, l.length ≤ 6 → okL (revL l) (revH l.length) = true
  | [], _ => by kernel_rfl
  | [_], _ => by kernel_rfl
  | [_, _], _ => by kernel_rfl
  | [_, _, _], _ => by kernel_rfl
  | [_, _, _, _], _ => by kernel_rfl
  | [_, _, _, _, _], _ => by kernel_rfl
  | [_, _, _, _, _, _], _ => by kernel_rfl
  | _ :: _ :: _ :: _ :: _ :: _ :: _ :: _, h => by simp at h

theorem rev_run : ∀ l : List Int, l.length ≤ 6 → (runL (revL l) (18 * l.length + 4) revS).map endA = some (1, l.reverse, 11)
  | [], _ => by kernel_rfl
  | [_], _ => by kernel_rfl
  | [_, _], _ => by kernel_rfl
  | [_, _, _], _ => by kernel_rfl
  | [_, _, _, _], _ => by kernel_rfl
  | [_, _, _, _, _], _ => by kernel_rfl
  | [_, _, _, _, _, _], _ => by kernel_rfl
  | _ :: _ :: _ :: _ :: _ :: _ :: _ :: _, h => by simp at h

end Go.Proofs.YtiejbnfjdobpcaaDoor
