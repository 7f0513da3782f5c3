import Derived.Test.YtiejbnfjdobpcaaDoorOF
import Derived.Test.YtiejbnfjdobpcaaDoorNS
namespace Go.Proofs.YtiejbnfjdobpcaaDoor
open Go.RowKit Go.Sort

/-- Machines without the places where they lie. -/
structure FrA where
  fn : Nat
  pc : Nat
  loc : List Val
  stk : List Val
structure McA where
  st : Int
  out : List Int
  frs : List FrA
  obs : List (Int × List Val)
  dr : List Int
def FrR.abs (f : FrR) : FrA := ⟨f.fn, f.pc, f.loc, f.stk⟩
def ObR.abs (o : ObR) : Int × List Val := (o.kind, o.fl)
def McR.abs (R : McR) : McA := ⟨R.st, R.out, R.frs.map FrR.abs, R.obs.map ObR.abs, R.dr⟩

/-- A machine that has put out nothing has no list for it. -/
def NilOut (R : McR) : Prop := R.out = [] → R.ov = .slice none 0 0

/-- The machine behind an operation that only puts the frame anew. -/
def goA (s : McA) (fs : List FrA) (f : FrA) (pc : Nat) (l : List Val) : McA := ⟨0, s.out, fs ++ [⟨f.fn, pc, f.loc, l⟩], s.obs, s.dr⟩

theorem goA_abs (R : McR) (fs : List FrR) (f : FrR) (pc : Nat) (l : List Val) (sv : Value) :
    McR.abs { ({ R with frs := fs ++ [{ f with pc := pc, sv := sv, stk := l }] } : McR) with st := 0 } = goA R.abs (fs.map FrR.abs) f.abs pc l := by
  simp [McR.abs, goA, FrR.abs]

/-- An operation is about to be done, and the machine is small. -/
structure Here (g : PgR) (fs : List FrR) (f : FrR) (k : Nat) (a : Int) : Prop where
  fn : f.fn < g.n
  pc : f.pc < (g.f f.fn).n
  op : (g.f f.fn).op f.pc = k
  ar : (g.f f.fn).ar f.pc = a
  n14 : k ≠ 14
  k28 : k < 28
  b1 : fs.length ≤ 1000
  b2 : f.stk.length ≤ 1000
  b3 : f.pc ≤ 1000
  b4 : g.n ≤ 1000
  b5 : (g.f f.fn).n ≤ 1000

theorem step_here {own : Own} {mb : Nat} {g : PgR} {R : McR} {fs : List FrR} {f : FrR} {w : World} {k : Nat} {a : Int} (h : MachAt w own mb g R) (hf : R.frs = fs ++ [f]) (H : Here g fs f k a) (rest args : List Val) (hst : f.stk = rest ++ args) (hn : popD k 0 = args.length)
    (P : McR → Prop) (st : Int) (HD : ∀ W va vc sb, AtOp W own mb g R fs f rest args va sb → Calls Tryd.prog (doT k) #[.pointer (some ⟨mb, 0, none⟩), .int .i64 a, .slice va args.length vc] W fun e w' => DoPost own mb g P st W e w') (S : McR → Prop) (himp : ∀ Q, P Q → S { Q with st := st }) :
    Calls Tryd.prog 55 #[.pointer (some ⟨mb, 0, none⟩)] w fun e w' => StepPost own mb g S w e w' := by
  have h14 : ¬ (k : Int) = 14 := by have := H.n14; omega
  refine step_to h hf k a rest args hst ⟨H.fn, H.pc, H.op, H.ar, H.k28, ?_, fun e => absurd e h14⟩ H.b1 H.b2 H.b3 H.b4 H.b5 P st HD S himp
  rw [← hn]; unfold popD; rw [if_neg h14, if_neg h14]

/-- An operation that only puts the frame anew. -/
theorem step_top {own : Own} {mb : Nat} {g : PgR} {R : McR} {fs : List FrR} {f : FrR} {w : World} {k : Nat} {a : Int} (h : MachAt w own mb g R) (hq : NilOut R) (hf : R.frs = fs ++ [f]) (H : Here g fs f k a) (rest args : List Val) (hst : f.stk = rest ++ args) (hn : popD k 0 = args.length) (pc : Nat) (l : List Val)
    (HD : ∀ W va vc sb, AtOp W own mb g R fs f rest args va sb → Calls Tryd.prog (doT k) #[.pointer (some ⟨mb, 0, none⟩), .int .i64 a, .slice va args.length vc] W fun e w' => TopPost' own mb g R fs f pc l (.int .i64 0) W e w') :
    Calls Tryd.prog 55 #[.pointer (some ⟨mb, 0, none⟩)] w fun e w' => StepPost own mb g (fun R' => R'.abs = goA R.abs (fs.map FrR.abs) f.abs pc l ∧ NilOut R') w e w' := by
  refine step_here h hf H rest args hst hn (TopQ R fs f pc l) 0 (fun W va vc sb hA => (HD W va vc sb hA).mono fun _ _ h => h.toDo) _ ?_
  rintro Q ⟨sv', rfl⟩
  exact ⟨goA_abs R fs f pc l sv', hq⟩

def top1 (l : List Val) : Option (List Val × Val) := match l.reverse with | y :: r => some (r.reverse, y) | [] => none
def top2 (l : List Val) : Option (List Val × Val × Val) := match l.reverse with | y :: x :: r => some (r.reverse, x, y) | _ => none

theorem top1_eq {l r : List Val} {y : Val} (h : top1 l = some (r, y)) : l = r ++ [y] := by
  unfold top1 at h
  split at h
  · rename_i y' r' e
    cases h
    have := congrArg List.reverse e
    simpa using this
  · cases h
theorem top2_eq {l r : List Val} {x y : Val} (h : top2 l = some (r, x, y)) : l = r ++ [x, y] := by
  unfold top2 at h
  split at h
  · rename_i y' x' r' e
    cases h
    have := congrArg List.reverse e
    simpa using this
  · cases h

/-- The first slot that is free. -/
def freeA : List (Int × List Val) → Nat → Option Nat
  | [], _ => none
  | o :: l, n => if o.1 = 0 then some n else freeA l (n + 1)

theorem freeA_spec : ∀ (l : List ObR) (n j : Nat), freeA (l.map ObR.abs) n = some j → n ≤ j ∧ FirstFree l (j - n)
  | [], n, j, h => by cases h
  | o :: l, n, j, h => by
    simp only [List.map_cons, freeA] at h
    by_cases h0 : o.abs.1 = 0
    · rw [if_pos h0] at h
      cases h
      refine ⟨Nat.le_refl _, ⟨o, by simp, h0⟩, fun i x hi _ => by omega⟩
    · rw [if_neg h0] at h
      obtain ⟨h1, ⟨x, hx, hk⟩, h3⟩ := freeA_spec l (n + 1) j h
      have e : j - n = (j - (n + 1)) + 1 := by omega
      rw [e]
      refine ⟨by omega, ⟨x, by simpa using hx, hk⟩, fun i y hi hy => ?_⟩
      cases i with
      | zero => simp at hy; subst hy; exact h0
      | succ i => exact h3 i y (by omega) (by simpa using hy)

theorem FirstFree.notFull {l : List ObR} {j : Nat} (h : FirstFree l j) : taken l ≠ l.length := by
  obtain ⟨⟨o, ho, hk⟩, _⟩ := h
  intro e
  have := (List.filter_sublist (p := fun o : ObR => o.kind != 0) (l := l)).eq_of_length e
  have hm : o ∈ l.filter fun o => o.kind != 0 := by rw [this]; exact List.mem_of_getElem? ho
  simp [hk] at hm

/-- The slot of a new object, and the draws that are left. -/
def pickA (obs : List (Int × List Val)) (dr : List Int) : Option (Nat × List Int) :=
  match dr with
  | [] => (freeA obs 0).map fun j => (j, [])
  | d :: ds => match obs[(d % (obs.length : Int)).toNat]? with
    | none => none
    | some o => if o.1 = 0 then some ((d % (obs.length : Int)).toNat, ds) else (freeA obs 0).map fun j => (j, ds)

theorem pickA_spec {l : List ObR} {dr ds : List Int} {j : Nat} (h : pickA (l.map ObR.abs) dr = some (j, ds)) : Picks l dr j ds := by
  have hfree : ∀ i, freeA (l.map ObR.abs) 0 = some i → FirstFree l i := fun i hi => by have := (freeA_spec l 0 i hi).2; simpa using this
  cases dr with
  | nil =>
    obtain ⟨i, hi, e⟩ := Option.map_eq_some_iff.1 h
    cases e
    exact ⟨rfl, hfree _ hi⟩
  | cons d r =>
    simp only [pickA, List.length_map, List.getElem?_map] at h
    cases ho : l[(d % (l.length : Int)).toNat]? with
    | none => rw [ho] at h; cases h
    | some o =>
      rw [ho] at h
      simp only [Option.map_some] at h
      split at h
      · rename_i hk
        cases h
        exact ⟨rfl, o, ho, Or.inl ⟨hk, rfl⟩⟩
      · rename_i hk
        obtain ⟨i, hi, e⟩ := Option.map_eq_some_iff.1 h
        cases e
        exact ⟨rfl, o, ho, Or.inr ⟨hk, hfree _ hi⟩⟩

/-- What an operation does, where it can be done. -/
def opA (op a : Int) (s : McA) (fs : List FrA) (f : FrA) : Option McA :=
  if op = 0 then some (goA s fs f (f.pc + 1) (f.stk ++ [(1, a)]))
  else if op = 2 then (if a < 0 then none else (f.loc[a.toNat]?).map fun x => goA s fs f (f.pc + 1) (f.stk ++ [x]))
  else if op = 3 then (if a < 0 ∨ f.loc.length ≤ a.toNat then none else (top1 f.stk).map fun x => ⟨0, s.out, fs ++ [⟨f.fn, f.pc + 1, f.loc.set a.toNat x.2, x.1⟩], s.obs, s.dr⟩)
  else if op = 4 then (top1 f.stk).map fun x => goA s fs f (f.pc + 1) (x.1 ++ [x.2, x.2])
  else if op = 1 then some (goA s fs f (f.pc + 1) (f.stk ++ [(0, 0)]))
  else if op = 5 then (top1 f.stk).map fun x => goA s fs f (f.pc + 1) (x.1 ++ [])
  else if op = 6 then (top2 f.stk).map fun x => goA s fs f (f.pc + 1) (x.1 ++ [x.2.2, x.2.1])
  else if op = 7 then (top2 f.stk).bind fun x => if x.2.1.1 = 1 ∧ x.2.2.1 = 1 then some (goA s fs f (f.pc + 1) (x.1 ++ [(1, wrap64 (x.2.1.2 + x.2.2.2))])) else none
  else if op = 8 then (top2 f.stk).bind fun x => if x.2.1.1 = 1 ∧ x.2.2.1 = 1 then some (goA s fs f (f.pc + 1) (x.1 ++ [(1, wrap64 (x.2.1.2 - x.2.2.2))])) else none
  else if op = 9 then (top2 f.stk).bind fun x => if x.2.1.1 = 1 ∧ x.2.2.1 = 1 then some (goA s fs f (f.pc + 1) (x.1 ++ [(1, wrap64 (x.2.1.2 * x.2.2.2))])) else none
  else if op = 10 then (top2 f.stk).bind fun x => if x.2.1.1 = 1 ∧ x.2.2.1 = 1 then some (goA s fs f (f.pc + 1) (x.1 ++ [(1, truthI (decide (x.2.1.2 < x.2.2.2)))])) else none
  else if op = 11 then (top2 f.stk).map fun x => goA s fs f (f.pc + 1) (x.1 ++ [(1, truthI (x.2.1.1 == x.2.2.1 && x.2.1.2 == x.2.2.2))])
  else if op = 12 then (if a < 0 then none else some (goA s fs f a.toNat f.stk))
  else if op = 13 then (if a < 0 then none else (top1 f.stk).map fun x => if goesOn x.2 then goA s fs f (f.pc + 1) x.1 else goA s fs f a.toNat x.1)
  else if op = 16 then (if a < 0 ∨ 8 < a then none else (pickA s.obs s.dr).map fun j => ⟨0, s.out, fs ++ [⟨f.fn, f.pc + 1, f.loc, f.stk ++ [(2, (j.1 : Int))]⟩], s.obs.set j.1 (1, List.replicate a.toNat (0, 0)), j.2⟩)
  else if op = 19 then (if a < 0 then none else (top1 f.stk).bind fun x => if x.2.1 = 2 ∧ 0 ≤ x.2.2 then (s.obs[x.2.2.toNat]?).bind fun o => if o.1 = 1 ∧ o.2.length ≤ 8 then (o.2[a.toNat]?).map fun y => goA s fs f (f.pc + 1) (x.1 ++ [y]) else none else none)
  else if op = 20 then (if a < 0 then none else (top2 f.stk).bind fun x => if x.2.1.1 = 2 ∧ 0 ≤ x.2.1.2 then (s.obs[x.2.1.2.toNat]?).bind fun o => if o.1 = 1 ∧ o.2.length ≤ 8 ∧ a.toNat < o.2.length then some ⟨0, s.out, fs ++ [⟨f.fn, f.pc + 1, f.loc, x.1⟩], s.obs.set x.2.1.2.toNat (1, o.2.set a.toNat x.2.2), s.dr⟩ else none else none)
  else if op = 25 then (top1 f.stk).map fun x => goA s fs f (f.pc + 1) (x.1 ++ [(1, truthI (x.2.1 == 2))])
  else if op = 26 then (if 40 ≤ s.out.length then none else (top1 f.stk).bind fun x => if x.2.1 = 1 then some ⟨0, s.out ++ [x.2.2], fs ++ [⟨f.fn, f.pc + 1, f.loc, x.1⟩], s.obs, s.dr⟩ else none)
  else if op = 27 then some ⟨1, s.out, [], s.obs, s.dr⟩
  else none

set_option maxHeartbeats 1000000 in
theorem step_abs {own : Own} {mb : Nat} {g : PgR} {R : McR} {fs : List FrR} {f : FrR} {w : World} {k : Nat} {a : Int} (h : MachAt w own mb g R) (hq : NilOut R) (hf : R.frs = fs ++ [f]) (H : Here g fs f k a) (hob : R.obs.length ≤ 1000) (hdr : R.dr.length ≤ 1000) (s : McA) (hs : opA k a R.abs (fs.map FrR.abs) f.abs = some s) :
    Calls Tryd.prog 55 #[.pointer (some ⟨mb, 0, none⟩)] w fun e w' => StepPost own mb g (fun R' => R'.abs = s ∧ NilOut R') w e w' := by
  unfold opA at hs
  by_cases hk0 : (k : Int) = 0
  · rw [if_pos hk0] at hs
    obtain rfl : k = 0 := by omega
    clear hk0
    cases hs
    exact step_top h hq hf H f.stk [] (by simp) rfl _ _ fun W va vc sb hA => doInt_any hA a vc
  rw [if_neg hk0] at hs
  by_cases hk2 : (k : Int) = 2
  · rw [if_pos hk2] at hs
    obtain rfl : k = 2 := by omega
    clear hk2
    split at hs
    · cases hs
    rename_i ha
    obtain ⟨n, rfl⟩ := Int.eq_ofNat_of_zero_le (Int.not_lt.1 ha)
    obtain ⟨x, hx, rfl⟩ := Option.map_eq_some_iff.1 hs
    exact step_top h hq hf H f.stk [] (by simp) rfl _ _ fun W va vc sb hA => doLoad_any hA n x (by simpa [FrR.abs] using hx) vc
  rw [if_neg hk2] at hs
  by_cases hk3 : (k : Int) = 3
  · rw [if_pos hk3] at hs
    obtain rfl : k = 3 := by omega
    clear hk3
    split at hs
    · cases hs
    rename_i ha
    obtain ⟨n, rfl⟩ := Int.eq_ofNat_of_zero_le (by omega : 0 ≤ a)
    obtain ⟨⟨r, y⟩, hx, rfl⟩ := Option.map_eq_some_iff.1 hs
    have hl : n < f.loc.length := by have : ¬ f.loc.length ≤ (n : Int).toNat := fun e => ha (Or.inr e); simpa using this
    refine step_here h hf H r [y] (top1_eq hx) (by simp [popD]) (Stored R fs f r n y) 0 (fun W va vc sb hA => doStore_any hA n hl vc) _ ?_
    rintro Q ⟨sv', rfl⟩
    exact ⟨by simp [McR.abs, FrR.abs], hq⟩
  rw [if_neg hk3] at hs
  by_cases hk4 : (k : Int) = 4
  · rw [if_pos hk4] at hs
    obtain rfl : k = 4 := by omega
    clear hk4
    obtain ⟨⟨r, y⟩, hx, rfl⟩ := Option.map_eq_some_iff.1 hs
    exact step_top h hq hf H r [y] (top1_eq hx) (by simp [popD]) _ _ fun W va vc sb hA => doDup_any hA a vc
  rw [if_neg hk4] at hs
  by_cases hk1 : (k : Int) = 1
  · rw [if_pos hk1] at hs
    obtain rfl : k = 1 := by omega
    clear hk1
    cases hs
    exact step_top h hq hf H f.stk [] (by simp) (by simp [popD]) _ _ fun W va vc sb hA => doNil_any hA a vc
  rw [if_neg hk1] at hs
  by_cases hk5 : (k : Int) = 5
  · rw [if_pos hk5] at hs
    obtain rfl : k = 5 := by omega
    clear hk5
    obtain ⟨⟨r, y⟩, hx, rfl⟩ := Option.map_eq_some_iff.1 hs
    exact step_top h hq hf H r [y] (top1_eq hx) (by simp [popD]) _ _ fun W va vc sb hA => doPop_any hA a vc
  rw [if_neg hk5] at hs
  by_cases hk6 : (k : Int) = 6
  · rw [if_pos hk6] at hs
    obtain rfl : k = 6 := by omega
    clear hk6
    obtain ⟨⟨r, x, y⟩, hx, rfl⟩ := Option.map_eq_some_iff.1 hs
    exact step_top h hq hf H r [x, y] (top2_eq hx) (by simp [popD]) _ _ fun W va vc sb hA => doSwap_any hA a vc
  rw [if_neg hk6] at hs
  by_cases hk7 : (k : Int) = 7
  · rw [if_pos hk7] at hs
    obtain rfl : k = 7 := by omega
    clear hk7
    obtain ⟨⟨r, ⟨x1, x2⟩, ⟨y1, y2⟩⟩, hx, hs⟩ := Option.bind_eq_some_iff.1 hs
    simp only at hs
    split at hs
    · rename_i hc
      obtain ⟨rfl, rfl⟩ := hc
      cases hs
      exact step_top h hq hf H r [(1, x2), (1, y2)] (top2_eq hx) (by simp [popD]) _ _ fun W va vc sb hA => do_add hA a vc
    · cases hs
  rw [if_neg hk7] at hs
  by_cases hk8 : (k : Int) = 8
  · rw [if_pos hk8] at hs
    obtain rfl : k = 8 := by omega
    clear hk8
    obtain ⟨⟨r, ⟨x1, x2⟩, ⟨y1, y2⟩⟩, hx, hs⟩ := Option.bind_eq_some_iff.1 hs
    simp only at hs
    split at hs
    · rename_i hc
      obtain ⟨rfl, rfl⟩ := hc
      cases hs
      exact step_top h hq hf H r [(1, x2), (1, y2)] (top2_eq hx) (by simp [popD]) _ _ fun W va vc sb hA => do_sub hA a vc
    · cases hs
  rw [if_neg hk8] at hs
  by_cases hk9 : (k : Int) = 9
  · rw [if_pos hk9] at hs
    obtain rfl : k = 9 := by omega
    clear hk9
    obtain ⟨⟨r, ⟨x1, x2⟩, ⟨y1, y2⟩⟩, hx, hs⟩ := Option.bind_eq_some_iff.1 hs
    simp only at hs
    split at hs
    · rename_i hc
      obtain ⟨rfl, rfl⟩ := hc
      cases hs
      exact step_top h hq hf H r [(1, x2), (1, y2)] (top2_eq hx) (by simp [popD]) _ _ fun W va vc sb hA => do_mul hA a vc
    · cases hs
  rw [if_neg hk9] at hs
  by_cases hk10 : (k : Int) = 10
  · rw [if_pos hk10] at hs
    obtain rfl : k = 10 := by omega
    clear hk10
    obtain ⟨⟨r, ⟨x1, x2⟩, ⟨y1, y2⟩⟩, hx, hs⟩ := Option.bind_eq_some_iff.1 hs
    simp only at hs
    split at hs
    · rename_i hc
      obtain ⟨rfl, rfl⟩ := hc
      cases hs
      exact step_top h hq hf H r [(1, x2), (1, y2)] (top2_eq hx) (by simp [popD]) _ _ fun W va vc sb hA => do_less hA a vc
    · cases hs
  rw [if_neg hk10] at hs
  by_cases hk11 : (k : Int) = 11
  · rw [if_pos hk11] at hs
    obtain rfl : k = 11 := by omega
    clear hk11
    obtain ⟨⟨r, x, y⟩, hx, rfl⟩ := Option.map_eq_some_iff.1 hs
    exact step_top h hq hf H r [x, y] (top2_eq hx) (by simp [popD]) _ _ fun W va vc sb hA => doSame_any hA a vc
  rw [if_neg hk11] at hs
  by_cases hk12 : (k : Int) = 12
  · rw [if_pos hk12] at hs
    obtain rfl : k = 12 := by omega
    clear hk12
    split at hs
    · cases hs
    rename_i ha
    obtain ⟨n, rfl⟩ := Int.eq_ofNat_of_zero_le (Int.not_lt.1 ha)
    cases hs
    exact step_top h hq hf H f.stk [] (by simp) (by simp [popD]) _ _ fun W va vc sb hA => doJump_any hA n vc
  rw [if_neg hk12] at hs
  by_cases hk13 : (k : Int) = 13
  · rw [if_pos hk13] at hs
    obtain rfl : k = 13 := by omega
    clear hk13
    split at hs
    · cases hs
    rename_i ha
    obtain ⟨n, rfl⟩ := Int.eq_ofNat_of_zero_le (Int.not_lt.1 ha)
    obtain ⟨⟨r, y⟩, hx, rfl⟩ := Option.map_eq_some_iff.1 hs
    by_cases hg : goesOn y = true
    · simp only [hg, if_true]
      exact step_top h hq hf H r [y] (top1_eq hx) (by simp [popD]) _ _ fun W va vc sb hA => doJumpNot_on hA hg n vc
    · simp only [hg]
      exact step_top h hq hf H r [y] (top1_eq hx) (by simp [popD]) _ _ fun W va vc sb hA => doJumpNot_off hA (by simpa using hg) n vc
  rw [if_neg hk13] at hs
  by_cases hk16 : (k : Int) = 16
  · rw [if_pos hk16] at hs
    obtain rfl : k = 16 := by omega
    clear hk16
    split at hs
    · cases hs
    rename_i ha
    obtain ⟨n, rfl⟩ := Int.eq_ofNat_of_zero_le (by omega : 0 ≤ a)
    obtain ⟨⟨j, ds⟩, hj, rfl⟩ := Option.map_eq_some_iff.1 hs
    have hfr : Picks R.obs R.dr j ds := pickA_spec hj
    refine step_here h hf H f.stk [] (by simp) (by simp [popD]) (fun R' => ∃ fv, NewOb R fs f f.stk j ds ⟨1, fv, List.replicate n (0, 0)⟩ R') 0 (fun W va vc sb hA => (doRecord_ok hA j ds hfr hob hdr n (by omega) vc).mono ?_) _ ?_
    · rintro e w' ⟨own', R', he, hm, hp, ht⟩
      exact ⟨own', R', he, hm, ⟨_, hp⟩, ht⟩
    · rintro Q ⟨fv, sv', dv', rfl⟩
      exact ⟨by simp [McR.abs, FrR.abs, ObR.abs, List.map_set], hq⟩
  rw [if_neg hk16] at hs
  by_cases hk19 : (k : Int) = 19
  · rw [if_pos hk19] at hs
    obtain rfl : k = 19 := by omega
    clear hk19
    split at hs
    · cases hs
    rename_i ha
    obtain ⟨n, rfl⟩ := Int.eq_ofNat_of_zero_le (Int.not_lt.1 ha)
    obtain ⟨⟨r, y1, y2⟩, hx, hs⟩ := Option.bind_eq_some_iff.1 hs
    simp only at hs
    split at hs
    · rename_i hy
      obtain ⟨rfl, hy2⟩ := hy
      obtain ⟨j, rfl⟩ := Int.eq_ofNat_of_zero_le hy2
      obtain ⟨o', ho', hs⟩ := Option.bind_eq_some_iff.1 hs
      simp only [Int.toNat_natCast, McR.abs, List.getElem?_map] at ho'
      obtain ⟨o, ho, rfl⟩ := Option.map_eq_some_iff.1 ho'
      split at hs
      · rename_i hc
        obtain ⟨z, hz, rfl⟩ := Option.map_eq_some_iff.1 hs
        exact step_top h hq hf H r [(2, (j : Int))] (top1_eq hx) (by simp [popD]) _ _ fun W va vc sb hA => doGet_ok hA ho hc.1 (by simpa [ObR.abs] using hz) (by have : o.fl.length ≤ 8 := hc.2; omega) vc
      · cases hs
    · cases hs
  rw [if_neg hk19] at hs
  by_cases hk20 : (k : Int) = 20
  · rw [if_pos hk20] at hs
    obtain rfl : k = 20 := by omega
    clear hk20
    split at hs
    · cases hs
    rename_i ha
    obtain ⟨n, rfl⟩ := Int.eq_ofNat_of_zero_le (Int.not_lt.1 ha)
    obtain ⟨⟨r, ⟨y1, y2⟩, z⟩, hx, hs⟩ := Option.bind_eq_some_iff.1 hs
    simp only at hs
    split at hs
    · rename_i hy
      obtain ⟨rfl, hy2⟩ := hy
      obtain ⟨j, rfl⟩ := Int.eq_ofNat_of_zero_le hy2
      obtain ⟨o', ho', hs⟩ := Option.bind_eq_some_iff.1 hs
      simp only [Int.toNat_natCast, McR.abs, List.getElem?_map] at ho'
      obtain ⟨o, ho, rfl⟩ := Option.map_eq_some_iff.1 ho'
      split at hs
      · rename_i hc
        obtain ⟨hc1, hc2, hc3⟩ := hc
        have hc2' : o.fl.length ≤ 8 := hc2
        have hc3' : n < o.fl.length := by simpa [ObR.abs] using hc3
        have hc1' : o.kind = 1 := hc1
        cases hs
        refine step_here h hf H r [(2, (j : Int)), z] (top2_eq hx) (by simp [popD]) (Putted R fs f r j n o z) 0 (fun W va vc sb hA => doPut_ok hA ho hc1' hc3' (by omega) vc) _ ?_
        rintro Q ⟨sv', rfl⟩
        exact ⟨by simp [McR.abs, FrR.abs, ObR.abs, List.map_set, hc1'], hq⟩
      · cases hs
    · cases hs
  rw [if_neg hk20] at hs
  by_cases hk25 : (k : Int) = 25
  · rw [if_pos hk25] at hs
    obtain rfl : k = 25 := by omega
    clear hk25
    obtain ⟨⟨r, y⟩, hx, rfl⟩ := Option.map_eq_some_iff.1 hs
    exact step_top h hq hf H r [y] (top1_eq hx) (by simp [popD]) _ _ fun W va vc sb hA => doIsRef_any hA a vc
  rw [if_neg hk25] at hs
  by_cases hk26 : (k : Int) = 26
  · rw [if_pos hk26] at hs
    obtain rfl : k = 26 := by omega
    clear hk26
    split at hs
    · cases hs
    rename_i ho
    obtain ⟨⟨r, y1, y2⟩, hx, hs⟩ := Option.bind_eq_some_iff.1 hs
    simp only at hs
    split at hs
    · rename_i hy
      subst hy
      cases hs
      have ho' : R.out.length < 40 := Nat.not_le.1 ho
      refine step_here h hf H r [(1, y2)] (top1_eq hx) (by simp [popD]) (Printed R fs f r y2) 0 (fun W va vc sb hA => doPrint_any hA ho' a vc) _ ?_
      rintro Q ⟨ov', sv', rfl⟩
      exact ⟨by simp [McR.abs, FrR.abs], fun e => by simp at e⟩
    · cases hs
  rw [if_neg hk26] at hs
  by_cases hk27 : (k : Int) = 27
  · rw [if_pos hk27] at hs
    obtain rfl : k = 27 := by omega
    clear hk27
    cases hs
    refine step_here h hf H f.stk [] (by simp) (by simp [popD]) (fun R' => R' = { R with cv := .slice none 0 0, frs := [] }) 1 (fun W va vc sb hA => doHalt_any hA.m a _) _ ?_
    rintro Q rfl
    exact ⟨by simp [McR.abs], hq⟩
  rw [if_neg hk27] at hs
  cases hs

end Go.Proofs.YtiejbnfjdobpcaaDoor
