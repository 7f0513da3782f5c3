import Derived.Test.YtfnehhaecklkhaaDoorOF
import Derived.Test.YtfnehhaecklkhaaDoorNS
namespace Go.Proofs.YtfnehhaecklkhaaDoor
open Go.RowKit Go.Sort

/-- Machines without the places where they lie. -/
structure FrA where
  fn : Nat
  pc : Nat
  loc : List Val
  stk : List Val
structure McA where
  st : Int
  out : List Int
  frs : List FrA
  obs : List (Int × List Val)
def FrR.abs (f : FrR) : FrA := ⟨f.fn, f.pc, f.loc, f.stk⟩
def ObR.abs (o : ObR) : Int × List Val := (o.kind, o.fl)
def McR.abs (R : McR) : McA := ⟨R.st, R.out, R.frs.map FrR.abs, R.obs.map ObR.abs⟩

/-- A machine that has put out nothing has no list for it. -/
def NilOut (R : McR) : Prop := R.out = [] → R.ov = .slice none 0 0

/-- The machine behind an operation that only puts the frame anew. -/
def goA (s : McA) (fs : List FrA) (f : FrA) (pc : Nat) (l : List Val) : McA := ⟨0, s.out, fs ++ [⟨f.fn, pc, f.loc, l⟩], s.obs⟩

theorem goA_abs (R : McR) (fs : List FrR) (f : FrR) (pc : Nat) (l : List Val) (sv : Value) :
    McR.abs { ({ R with frs := fs ++ [{ f with pc := pc, sv := sv, stk := l }] } : McR) with st := 0 } = goA R.abs (fs.map FrR.abs) f.abs pc l := by
  simp [McR.abs, goA, FrR.abs]

/-- An operation is about to be done, and the machine is small. -/
structure Here (g : PgR) (fs : List FrR) (f : FrR) (k : Nat) (a : Int) : Prop where
  fn : f.fn < g.n
  pc : f.pc < (g.f f.fn).n
  op : (g.f f.fn).op f.pc = k
  ar : (g.f f.fn).ar f.pc = a
  n14 : k ≠ 14
  k28 : k < 28
  b1 : fs.length ≤ 1000
  b2 : f.stk.length ≤ 1000
  b3 : f.pc ≤ 1000
  b4 : g.n ≤ 1000
  b5 : (g.f f.fn).n ≤ 1000

theorem step_here {own : Own} {mb : Nat} {g : PgR} {R : McR} {fs : List FrR} {f : FrR} {w : World} {k : Nat} {a : Int} (h : MachAt w own mb g R) (hf : R.frs = fs ++ [f]) (H : Here g fs f k a) (rest args : List Val) (hst : f.stk = rest ++ args) (hn : popD k 0 = args.length)
    (P : McR → Prop) (st : Int) (HD : ∀ W va vc sb, AtOp W own mb g R fs f rest args va sb → Calls Tryd.prog (doT k) #[.pointer (some ⟨mb, 0, none⟩), .int .i64 a, .slice va args.length vc] W fun e w' => DoPost own mb g P st W e w') (S : McR → Prop) (himp : ∀ Q, P Q → S { Q with st := st }) :
    Calls Tryd.prog 53 #[.pointer (some ⟨mb, 0, none⟩)] w fun e w' => StepPost own mb g S w e w' := by
  have h14 : ¬ (k : Int) = 14 := by have := H.n14; omega
  refine step_to h hf k a rest args hst ⟨H.fn, H.pc, H.op, H.ar, H.k28, ?_, fun e => absurd e h14⟩ H.b1 H.b2 H.b3 H.b4 H.b5 P st HD S himp
  rw [← hn]; unfold popD; rw [if_neg h14, if_neg h14]

/-- An operation that only puts the frame anew. -/
theorem step_top {own : Own} {mb : Nat} {g : PgR} {R : McR} {fs : List FrR} {f : FrR} {w : World} {k : Nat} {a : Int} (h : MachAt w own mb g R) (hq : NilOut R) (hf : R.frs = fs ++ [f]) (H : Here g fs f k a) (rest args : List Val) (hst : f.stk = rest ++ args) (hn : popD k 0 = args.length) (pc : Nat) (l : List Val)
    (HD : ∀ W va vc sb, AtOp W own mb g R fs f rest args va sb → Calls Tryd.prog (doT k) #[.pointer (some ⟨mb, 0, none⟩), .int .i64 a, .slice va args.length vc] W fun e w' => TopPost' own mb g R fs f pc l (.int .i64 0) W e w') :
    Calls Tryd.prog 53 #[.pointer (some ⟨mb, 0, none⟩)] w fun e w' => StepPost own mb g (fun R' => R'.abs = goA R.abs (fs.map FrR.abs) f.abs pc l ∧ NilOut R') w e w' := by
  refine step_here h hf H rest args hst hn (TopQ R fs f pc l) 0 (fun W va vc sb hA => (HD W va vc sb hA).mono fun _ _ h => h.toDo) _ ?_
  rintro Q ⟨sv', rfl⟩
  exact ⟨goA_abs R fs f pc l sv', hq⟩

def top1 (l : List Val) : Option (List Val × Val) := match l.reverse with | y :: r => some (r.reverse, y) | [] => none
def top2 (l : List Val) : Option (List Val × Val × Val) := match l.reverse with | y :: x :: r => some (r.reverse, x, y) | _ => none

theorem top1_eq {l r : List Val} {y : Val} (h : top1 l = some (r, y)) : l = r ++ [y] := by
  unfold top1 at h
  split at h
  · rename_i y' r' e
    cases h
    have := congrArg List.reverse e
    simpa using this
  · cases h
theorem top2_eq {l r : List Val} {x y : Val} (h : top2 l = some (r, x, y)) : l = r ++ [x, y] := by
  unfold top2 at h
  split at h
  · rename_i y' x' r' e
    cases h
    have := congrArg List.reverse e
    simpa using this
  · cases h

/-- The first slot that is free. -/
def freeA : List (Int × List Val) → Nat → Option Nat
  | [], _ => none
  | o :: l, n => if o.1 = 0 then some n else freeA l (n + 1)

theorem freeA_spec : ∀ (l : List ObR) (n j : Nat), freeA (l.map ObR.abs) n = some j → n ≤ j ∧ FirstFree l (j - n)
  | [], n, j, h => by cases h
  | o :: l, n, j, h => by
    simp only [List.map_cons, freeA] at h
    by_cases h0 : o.abs.1 = 0
    · rw [if_pos h0] at h
      cases h
      refine ⟨Nat.le_refl _, ⟨o, by simp, h0⟩, fun i x hi _ => by omega⟩
    · rw [if_neg h0] at h
      obtain ⟨h1, ⟨x, hx, hk⟩, h3⟩ := freeA_spec l (n + 1) j h
      have e : j - n = (j - (n + 1)) + 1 := by omega
      rw [e]
      refine ⟨by omega, ⟨x, by simpa using hx, hk⟩, fun i y hi hy => ?_⟩
      cases i with
      | zero => simp at hy; subst hy; exact h0
      | succ i => exact h3 i y (by omega) (by simpa using hy)

theorem FirstFree.notFull {l : List ObR} {j : Nat} (h : FirstFree l j) : taken l ≠ l.length := by
  obtain ⟨⟨o, ho, hk⟩, _⟩ := h
  intro e
  have := (List.filter_sublist (p := fun o : ObR => o.kind != 0) (l := l)).eq_of_length e
  have hm : o ∈ l.filter fun o => o.kind != 0 := by rw [this]; exact List.mem_of_getElem? ho
  simp [hk] at hm

/-- What an operation does, where it can be done. -/
def opA (op a : Int) (s : McA) (fs : List FrA) (f : FrA) : Option McA :=
  if op = 0 then some (goA s fs f (f.pc + 1) (f.stk ++ [(1, a)]))
  else if op = 2 then (if a < 0 then none else (f.loc[a.toNat]?).map fun x => goA s fs f (f.pc + 1) (f.stk ++ [x]))
  else if op = 3 then (if a < 0 ∨ f.loc.length ≤ a.toNat then none else (top1 f.stk).map fun x => ⟨0, s.out, fs ++ [⟨f.fn, f.pc + 1, f.loc.set a.toNat x.2, x.1⟩], s.obs⟩)
  else if op = 4 then (top1 f.stk).map fun x => goA s fs f (f.pc + 1) (x.1 ++ [x.2, x.2])
  else if op = 12 then (if a < 0 then none else some (goA s fs f a.toNat f.stk))
  else if op = 13 then (if a < 0 then none else (top1 f.stk).map fun x => if goesOn x.2 then goA s fs f (f.pc + 1) x.1 else goA s fs f a.toNat x.1)
  else if op = 16 then (if a < 0 ∨ 8 < a then none else (freeA s.obs 0).map fun j => ⟨0, s.out, fs ++ [⟨f.fn, f.pc + 1, f.loc, f.stk ++ [(2, (j : Int))]⟩], s.obs.set j (1, List.replicate a.toNat (0, 0))⟩)
  else if op = 19 then (if a < 0 then none else (top1 f.stk).bind fun x => if x.2.1 = 2 ∧ 0 ≤ x.2.2 then (s.obs[x.2.2.toNat]?).bind fun o => if o.1 = 1 ∧ o.2.length ≤ 8 then (o.2[a.toNat]?).map fun y => goA s fs f (f.pc + 1) (x.1 ++ [y]) else none else none)
  else if op = 20 then (if a < 0 then none else (top2 f.stk).bind fun x => if x.2.1.1 = 2 ∧ 0 ≤ x.2.1.2 then (s.obs[x.2.1.2.toNat]?).bind fun o => if o.1 = 1 ∧ o.2.length ≤ 8 ∧ a.toNat < o.2.length then some ⟨0, s.out, fs ++ [⟨f.fn, f.pc + 1, f.loc, x.1⟩], s.obs.set x.2.1.2.toNat (1, o.2.set a.toNat x.2.2)⟩ else none else none)
  else if op = 25 then (top1 f.stk).map fun x => goA s fs f (f.pc + 1) (x.1 ++ [(1, truthI (x.2.1 == 2))])
  else if op = 26 then (if 40 ≤ s.out.length then none else (top1 f.stk).bind fun x => if x.2.1 = 1 then some ⟨0, s.out ++ [x.2.2], fs ++ [⟨f.fn, f.pc + 1, f.loc, x.1⟩], s.obs⟩ else none)
  else if op = 27 then some ⟨1, s.out, [], s.obs⟩
  else none

set_option maxHeartbeats 1000000 in
theorem step_abs {own : Own} {mb : Nat} {g : PgR} {R : McR} {fs : List FrR} {f : FrR} {w : World} {k : Nat} {a : Int} (h : MachAt w own mb g R) (hq : NilOut R) (hf : R.frs = fs ++ [f]) (H : Here g fs f k a) (hob : R.obs.length ≤ 1000) (s : McA) (hs : opA k a R.abs (fs.map FrR.abs) f.abs = some s) :
    Calls Tryd.prog 53 #[.pointer (some ⟨mb, 0, none⟩)] w fun e w' => StepPost own mb g (fun R' => R'.abs = s ∧ NilOut R') w e w' := by
  unfold opA at hs
  by_cases hk0 : (k : Int) = 0
  · rw [if_pos hk0] at hs
    obtain rfl : k = 0 := by omega
    clear hk0
    cases hs
    exact step_top h hq hf H f.stk [] (by simp) rfl _ _ fun W va vc sb hA => doInt_any hA a vc
  rw [if_neg hk0] at hs
  by_cases hk2 : (k : Int) = 2
  · rw [if_pos hk2] at hs
    obtain rfl : k = 2 := by omega
    clear hk2
    split at hs
    · cases hs
    rename_i ha
    obtain ⟨n, rfl⟩ := Int.eq_ofNat_of_zero_le (Int.not_lt.1 ha)
    obtain ⟨x, hx, rfl⟩ := Option.map_eq_some_iff.1 hs
    exact step_top h hq hf H f.stk [] (by simp) rfl _ _ fun W va vc sb hA => doLoad_any hA n x (by simpa [FrR.abs] using hx) vc
  rw [if_neg hk2] at hs
  by_cases hk3 : (k : Int) = 3
  · rw [if_pos hk3] at hs
    obtain rfl : k = 3 := by omega
    clear hk3
    split at hs
    · cases hs
    rename_i ha
    obtain ⟨n, rfl⟩ := Int.eq_ofNat_of_zero_le (by omega : 0 ≤ a)
    obtain ⟨⟨r, y⟩, hx, rfl⟩ := Option.map_eq_some_iff.1 hs
    have hl : n < f.loc.length := by have : ¬ f.loc.length ≤ (n : Int).toNat := fun e => ha (Or.inr e); simpa using this
    refine step_here h hf H r [y] (top1_eq hx) (by simp [popD]) (Stored R fs f r n y) 0 (fun W va vc sb hA => doStore_any hA n hl vc) _ ?_
    rintro Q ⟨sv', rfl⟩
    exact ⟨by simp [McR.abs, FrR.abs], hq⟩
  rw [if_neg hk3] at hs
  by_cases hk4 : (k : Int) = 4
  · rw [if_pos hk4] at hs
    obtain rfl : k = 4 := by omega
    clear hk4
    obtain ⟨⟨r, y⟩, hx, rfl⟩ := Option.map_eq_some_iff.1 hs
    exact step_top h hq hf H r [y] (top1_eq hx) (by simp [popD]) _ _ fun W va vc sb hA => doDup_any hA a vc
  rw [if_neg hk4] at hs
  by_cases hk12 : (k : Int) = 12
  · rw [if_pos hk12] at hs
    obtain rfl : k = 12 := by omega
    clear hk12
    split at hs
    · cases hs
    rename_i ha
    obtain ⟨n, rfl⟩ := Int.eq_ofNat_of_zero_le (Int.not_lt.1 ha)
    cases hs
    exact step_top h hq hf H f.stk [] (by simp) (by simp [popD]) _ _ fun W va vc sb hA => doJump_any hA n vc
  rw [if_neg hk12] at hs
  by_cases hk13 : (k : Int) = 13
  · rw [if_pos hk13] at hs
    obtain rfl : k = 13 := by omega
    clear hk13
    split at hs
    · cases hs
    rename_i ha
    obtain ⟨n, rfl⟩ := Int.eq_ofNat_of_zero_le (Int.not_lt.1 ha)
    obtain ⟨⟨r, y⟩, hx, rfl⟩ := Option.map_eq_some_iff.1 hs
    by_cases hg : goesOn y = true
    · simp only [hg, if_true]
      exact step_top h hq hf H r [y] (top1_eq hx) (by simp [popD]) _ _ fun W va vc sb hA => doJumpNot_on hA hg n vc
    · simp only [hg]
      exact step_top h hq hf H r [y] (top1_eq hx) (by simp [popD]) _ _ fun W va vc sb hA => doJumpNot_off hA (by simpa using hg) n vc
  rw [if_neg hk13] at hs
  by_cases hk16 : (k : Int) = 16
  · rw [if_pos hk16] at hs
    obtain rfl : k = 16 := by omega
    clear hk16
    split at hs
    · cases hs
    rename_i ha
    obtain ⟨n, rfl⟩ := Int.eq_ofNat_of_zero_le (by omega : 0 ≤ a)
    obtain ⟨j, hj, rfl⟩ := Option.map_eq_some_iff.1 hs
    have hfr : FirstFree R.obs j := by have := (freeA_spec R.obs 0 j hj).2; simpa using this
    refine step_here h hf H f.stk [] (by simp) (by simp [popD]) (fun R' => ∃ fv, NewOb R fs f f.stk j ⟨1, fv, List.replicate n (0, 0)⟩ R') 0 (fun W va vc sb hA => (doRecord_ok hA j hfr hfr.notFull hob n (by omega) vc).mono ?_) _ ?_
    · rintro e w' ⟨own', R', he, hm, hp, ht⟩
      exact ⟨own', R', he, hm, ⟨_, hp⟩, ht⟩
    · rintro Q ⟨fv, sv', rfl⟩
      exact ⟨by simp [McR.abs, FrR.abs, ObR.abs, List.map_set], hq⟩
  rw [if_neg hk16] at hs
  by_cases hk19 : (k : Int) = 19
  · rw [if_pos hk19] at hs
    obtain rfl : k = 19 := by omega
    clear hk19
    split at hs
    · cases hs
    rename_i ha
    obtain ⟨n, rfl⟩ := Int.eq_ofNat_of_zero_le (Int.not_lt.1 ha)
    obtain ⟨⟨r, y1, y2⟩, hx, hs⟩ := Option.bind_eq_some_iff.1 hs
    simp only at hs
    split at hs
    · rename_i hy
      obtain ⟨rfl, hy2⟩ := hy
      obtain ⟨j, rfl⟩ := Int.eq_ofNat_of_zero_le hy2
      obtain ⟨o', ho', hs⟩ := Option.bind_eq_some_iff.1 hs
      simp only [Int.toNat_natCast, McR.abs, List.getElem?_map] at ho'
      obtain ⟨o, ho, rfl⟩ := Option.map_eq_some_iff.1 ho'
      split at hs
      · rename_i hc
        obtain ⟨z, hz, rfl⟩ := Option.map_eq_some_iff.1 hs
        exact step_top h hq hf H r [(2, (j : Int))] (top1_eq hx) (by simp [popD]) _ _ fun W va vc sb hA => doGet_ok hA ho hc.1 (by simpa [ObR.abs] using hz) (by have : o.fl.length ≤ 8 := hc.2; omega) vc
      · cases hs
    · cases hs
  rw [if_neg hk19] at hs
  by_cases hk20 : (k : Int) = 20
  · rw [if_pos hk20] at hs
    obtain rfl : k = 20 := by omega
    clear hk20
    split at hs
    · cases hs
    rename_i ha
    obtain ⟨n, rfl⟩ := Int.eq_ofNat_of_zero_le (Int.not_lt.1 ha)
    obtain ⟨⟨r, ⟨y1, y2⟩, z⟩, hx, hs⟩ := Option.bind_eq_some_iff.1 hs
    simp only at hs
    split at hs
    · rename_i hy
      obtain ⟨rfl, hy2⟩ := hy
      obtain ⟨j, rfl⟩ := Int.eq_ofNat_of_zero_le hy2
      obtain ⟨o', ho', hs⟩ := Option.bind_eq_some_iff.1 hs
      simp only [Int.toNat_natCast, McR.abs, List.getElem?_map] at ho'
      obtain ⟨o, ho, rfl⟩ := Option.map_eq_some_iff.1 ho'
      split at hs
      · rename_i hc
        obtain ⟨hc1, hc2, hc3⟩ := hc
        have hc2' : o.fl.length ≤ 8 := hc2
        have hc3' : n < o.fl.length := by simpa [ObR.abs] using hc3
        have hc1' : o.kind = 1 := hc1
        cases hs
        refine step_here h hf H r [(2, (j : Int)), z] (top2_eq hx) (by simp [popD]) (Putted R fs f r j n o z) 0 (fun W va vc sb hA => doPut_ok hA ho hc1' hc3' (by omega) vc) _ ?_
        rintro Q ⟨sv', rfl⟩
        exact ⟨by simp [McR.abs, FrR.abs, ObR.abs, List.map_set, hc1'], hq⟩
      · cases hs
    · cases hs
  rw [if_neg hk20] at hs
  by_cases hk25 : (k : Int) = 25
  · rw [if_pos hk25] at hs
    obtain rfl : k = 25 := by omega
    clear hk25
    obtain ⟨⟨r, y⟩, hx, rfl⟩ := Option.map_eq_some_iff.1 hs
    exact step_top h hq hf H r [y] (top1_eq hx) (by simp [popD]) _ _ fun W va vc sb hA => doIsRef_any hA a vc
  rw [if_neg hk25] at hs
  by_cases hk26 : (k : Int) = 26
  · rw [if_pos hk26] at hs
    obtain rfl : k = 26 := by omega
    clear hk26
    split at hs
    · cases hs
    rename_i ho
    obtain ⟨⟨r, y1, y2⟩, hx, hs⟩ := Option.bind_eq_some_iff.1 hs
    simp only at hs
    split at hs
    · rename_i hy
      subst hy
      cases hs
      have ho' : R.out.length < 40 := Nat.not_le.1 ho
      refine step_here h hf H r [(1, y2)] (top1_eq hx) (by simp [popD]) (Printed R fs f r y2) 0 (fun W va vc sb hA => doPrint_any hA ho' a vc) _ ?_
      rintro Q ⟨ov', sv', rfl⟩
      exact ⟨by simp [McR.abs, FrR.abs], fun e => by simp at e⟩
    · cases hs
  rw [if_neg hk26] at hs
  by_cases hk27 : (k : Int) = 27
  · rw [if_pos hk27] at hs
    obtain rfl : k = 27 := by omega
    clear hk27
    cases hs
    refine step_here h hf H f.stk [] (by simp) (by simp [popD]) (fun R' => R' = { R with cv := .slice none 0 0, frs := [] }) 1 (fun W va vc sb hA => doHalt_any hA.m a _) _ ?_
    rintro Q rfl
    exact ⟨by simp [McR.abs], hq⟩
  rw [if_neg hk27] at hs
  cases hs

end Go.Proofs.YtfnehhaecklkhaaDoor
