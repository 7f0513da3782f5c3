import Derived.Test.YtbkmgoffiigdbaaDoorWPc
import Derived.Test.YtbkmgoffiigdbaaDoorWQa
import Derived.Test.YtbkmgoffiigdbaaDoorWLh
namespace Go.Proofs.YtbkmgoffiigdbaaDoor
open Go.RowKit Go.Sort

/-! PLAIN: a record, and a weak object that refers to it (Holds). -/

def HFlat (obs : List Ob) : Prop := ∀ (j : Nat) (o : Ob), obs[j]? = some o → o.1 = 3 ∨ ∀ u : Val, u ∈ o.2 → u.1 ≠ 2

theorem meetA_flat : ∀ (l : List Val) (met : List Nat), (∀ u : Val, u ∈ l → u.1 ≠ 2) → meetA met l = met
  | [], _, _ => rfl
  | v :: l, met, h => by
    rw [meetA, if_neg fun hc => h v (by simp) hc.1]
    exact meetA_flat l met fun u hu => h u (by simp [hu])

theorem walkA_flat {obs : List Ob} (h : HFlat obs) : ∀ (n i : Nat) (met : List Nat), walkA obs n i met = met
  | 0, _, _ => rfl
  | n + 1, i, met => by
    rw [walkA]
    cases hi : met[i]? with
    | none => rfl
    | some j =>
      cases ho : obs[j]? with
      | none => simp only [ho]
      | some o =>
        simp only [ho]
        have e : (if o.1 = 3 then met else meetA met o.2) = met := by
          split
          · rfl
          · rename_i h3
            exact meetA_flat _ _ ((h j o ho).resolve_left h3)
        rw [e]
        exact walkA_flat h n _ met

theorem aliveA_flat {s : McA} (h : HFlat s.obs) (j : Nat) : j ∈ aliveA s ↔ ∃ v, v ∈ valuesA s.frs ∧ v.1 = 2 ∧ v.2.toNat = j := by
  unfold aliveA reachedA
  rw [walkA_flat h, meetA_mem]
  simp

def hRef (a : Nat) : Val := (2, (a : Int))
def hKeep (held : Bool) (a : Nat) : Val := if held then hRef a else (0, 0)

/-- The record alone. -/
structure H1 (a : Nat) (obs : List Ob) : Prop where
  it : obs[a]? = some (1, [])
  others : ∀ (j : Nat) (o : Ob), j ≠ a → obs[j]? = some o → o = (0, [])

/-- The record and the weak object. -/
structure H2 (held : Bool) (a b : Nat) (obs : List Ob) : Prop where
  ne : a ≠ b
  weak : (obs[b]? = some (3, [hRef a]) ∧ obs[a]? = some (1, [])) ∨ (held = false ∧ obs[b]? = some (3, [(0, 0)]))
  others : ∀ (j : Nat) (o : Ob), j ≠ b → obs[j]? = some o → o.1 ≠ 3 ∧ ∀ u : Val, u ∈ o.2 → u.1 ≠ 2

theorem H1.flat {a : Nat} {obs : List Ob} (h : H1 a obs) : HFlat obs := fun j o ho => by
  right
  by_cases e : j = a
  · subst e
    rw [h.it] at ho; cases ho; simp
  · rw [h.others j o e ho]; simp
theorem H2.at_b {held : Bool} {a b : Nat} {obs : List Ob} (h : H2 held a b obs) : ∃ v, obs[b]? = some (3, [v]) := by
  rcases h.weak with h | h
  · exact ⟨_, h.1⟩
  · exact ⟨_, h.2⟩
theorem H2.flat {held : Bool} {a b : Nat} {obs : List Ob} (h : H2 held a b obs) : HFlat obs := fun j o ho => by
  by_cases e : j = b
  · subst e
    obtain ⟨v, hv⟩ := h.at_b
    rw [hv] at ho; cases ho; exact Or.inl rfl
  · exact Or.inr (h.others j o e ho).2

theorem hforget1_other {all : List Ob} {o : Ob} (h : o.1 ≠ 3) : forget1 all o = o := by
  unfold forget1
  rw [if_neg fun hc => h hc.1]

theorem H1.collect {a : Nat} {s : McA} (h : H1 a s.obs) (hr : hRef a ∈ valuesA s.frs) : H1 a (collectA s).obs := by
  have ha : a ∈ aliveA s := (aliveA_flat h.flat a).2 ⟨_, hr, rfl, by simp [hRef]⟩
  refine ⟨?_, fun j o hj ho => ?_⟩
  · show (sweepA s.obs (aliveA s))[a]? = _
    rw [sweepA_get, h.it, Option.map_some, if_pos ha, hforget1_other (by decide)]
  · change (sweepA s.obs (aliveA s))[j]? = _ at ho
    rw [sweepA_get] at ho
    cases hx : s.obs[j]? with
    | none => rw [hx] at ho; cases ho
    | some x =>
      rw [hx, Option.map_some] at ho
      have hx0 := h.others j x hj hx
      subst hx0
      have e : (if j ∈ aliveA s then ((0, []) : Ob) else (0, [])) = (0, []) := by split <;> rfl
      rw [e, hforget1_other (by decide)] at ho
      exact (Option.some.inj ho).symm

theorem H2.collect {held : Bool} {a b : Nat} {s : McA} (h : H2 held a b s.obs) (hb : hRef b ∈ valuesA s.frs) (ha : held = true → hRef a ∈ valuesA s.frs) : H2 held a b (collectA s).obs := by
  have hb' : b ∈ aliveA s := (aliveA_flat h.flat b).2 ⟨_, hb, rfl, by simp [hRef]⟩
  refine ⟨h.ne, ?_, fun j o hj ho => ?_⟩
  · show ((sweepA s.obs (aliveA s))[b]? = _ ∧ (sweepA s.obs (aliveA s))[a]? = _) ∨ (_ ∧ (sweepA s.obs (aliveA s))[b]? = _)
    rw [sweepA_get, sweepA_get]
    rcases h.weak with ⟨h1, h2⟩ | ⟨h1, h2⟩
    · by_cases hal : a ∈ aliveA s
      · left
        rw [h1, h2, Option.map_some, Option.map_some, if_pos hb', if_pos hal, hforget1_other (o := (1, [])) (by decide)]
        refine ⟨?_, rfl⟩
        unfold forget1
        rw [if_neg]
        rintro ⟨_, hl⟩
        have e : (hRef a).2.toNat = a := by simp [hRef]
        simp only [List.headD_cons, lost, e, sweep1_get, h2, Option.map_some, if_pos hal] at hl
        simp [hRef] at hl
      · right
        have hh : held = false := by
          cases held with
          | false => rfl
          | true => exact absurd ((aliveA_flat h.flat a).2 ⟨_, ha rfl, rfl, by simp [hRef]⟩) hal
        refine ⟨hh, ?_⟩
        rw [h1, Option.map_some, if_pos hb']
        unfold forget1
        rw [if_pos]
        · rfl
        · refine ⟨rfl, ?_⟩
          have e : (hRef a).2.toNat = a := by simp [hRef]
          simp only [List.headD_cons, lost, e, sweep1_get, h2, Option.map_some, if_neg hal]
          simp
    · right
      refine ⟨h1, ?_⟩
      rw [h2, Option.map_some, if_pos hb']
      unfold forget1
      split <;> rfl
  · change (sweepA s.obs (aliveA s))[j]? = _ at ho
    rw [sweepA_get] at ho
    cases hx : s.obs[j]? with
    | none => rw [hx] at ho; cases ho
    | some x =>
      rw [hx, Option.map_some] at ho
      have hx0 := h.others j x hj hx
      by_cases hm : j ∈ aliveA s
      · rw [if_pos hm, hforget1_other hx0.1] at ho
        cases ho
        exact hx0
      · rw [if_neg hm, hforget1_other (by decide)] at ho
        cases ho
        simp

/-- A free slot: it is not full. -/
theorem hnot_full {obs : List Ob} {j : Nat} {o : Ob} (ho : obs[j]? = some o) (h0 : o.1 = 0) : takenA obs ≠ obs.length := by
  intro h
  unfold takenA at h
  have := (List.length_filter_eq_length_iff.1 h) o (List.mem_of_getElem? ho)
  simp [h0] at this

theorem third (a b n : Nat) (h : 3 ≤ n) : ∃ j, j < n ∧ j ≠ a ∧ j ≠ b := by
  by_cases h0 : 0 ≠ a ∧ 0 ≠ b
  · exact ⟨0, by omega, h0.1, h0.2⟩
  by_cases h1 : 1 ≠ a ∧ 1 ≠ b
  · exact ⟨1, by omega, h1.1, h1.2⟩
  exact ⟨2, by omega, by omega, by omega⟩

/-- Behind tidying up there is room. -/
theorem H2.room {held : Bool} {a b : Nat} {s : McA} (h : H2 held a b s.obs) (h3 : 3 ≤ s.obs.length) (hv : ∀ v, v ∈ valuesA s.frs → v.1 = 2 → v.2.toNat = a ∨ v.2.toNat = b) : takenA (collectA s).obs ≠ (collectA s).obs.length := by
  obtain ⟨j, hj, hja, hjb⟩ := third a b _ h3
  have hm : j ∉ aliveA s := fun hc => by
    obtain ⟨v, h1, h2, h3⟩ := (aliveA_flat h.flat j).1 hc
    rcases hv v h1 h2 with e | e <;> omega
  refine hnot_full (j := j) (o := (0, [])) ?_ rfl
  show (sweepA s.obs (aliveA s))[j]? = _
  rw [sweepA_get, List.getElem?_eq_getElem hj, Option.map_some, if_neg hm, hforget1_other (by decide)]

theorem hset_get {obs : List Ob} {j i : Nat} {p o : Ob} (h : (obs.set j p)[i]? = some o) (hij : i ≠ j) : obs[i]? = some o := by
  rw [List.getElem?_set_ne (by omega)] at h; exact h

/-- A record more. -/
theorem H2.laid {held : Bool} {a b j : Nat} {obs : List Ob} (h : H2 held a b obs) {x : Ob} (hx : obs[j]? = some x) (h0 : x.1 = 0) : H2 held a b (obs.set j (1, [(0, 0)])) := by
  have hjb : j ≠ b := by
    rintro rfl
    obtain ⟨v, hv⟩ := h.at_b
    rw [hv] at hx; cases hx; simp at h0
  refine ⟨h.ne, ?_, fun i o hi ho => ?_⟩
  · rw [List.getElem?_set_ne hjb]
    rcases h.weak with ⟨h1, h2⟩ | h1
    · have hja : j ≠ a := by
        rintro rfl
        rw [h2] at hx; cases hx; simp at h0
      rw [List.getElem?_set_ne hja]
      exact Or.inl ⟨h1, h2⟩
    · exact Or.inr h1
  · by_cases e : i = j
    · subst e
      rw [List.getElem?_set_self (List.getElem?_eq_some_iff.1 hx).1] at ho
      cases ho
      simp
    · exact h.others i o hi (hset_get ho e)

/-- The weak object comes. -/
theorem H1.weak {held : Bool} {a j : Nat} {obs : List Ob} (h : H1 a obs) {x : Ob} (hx : obs[j]? = some x) (h0 : x.1 = 0) : H2 held a j (obs.set j (3, [hRef a])) := by
  have hja : j ≠ a := by
    rintro rfl
    rw [h.it] at hx; cases hx; simp at h0
  refine ⟨hja.symm, Or.inl ⟨?_, ?_⟩, fun i o hi ho => ?_⟩
  · rw [List.getElem?_set_self (List.getElem?_eq_some_iff.1 hx).1]
  · rw [List.getElem?_set_ne hja]; exact h.it
  · have ho' := hset_get ho hi
    by_cases e : i = a
    · subst e
      rw [h.it] at ho'; cases ho'; simp
    · rw [h.others i o e ho']; simp

end Go.Proofs.YtbkmgoffiigdbaaDoor

namespace Go.Proofs.YtbkmgoffiigdbaaDoor
open Go.RowKit Go.Sort

/-! PLAIN: the run of that program, step by step. -/

def holdOp (held : Bool) : List Int := [16, if held then 4 else 1, 3, 18, 3, 16, 5, 2, 24, 25, 26, 12]
def holdAr : List Int := [0, 0, 1, 0, 0, 1, 0, 0, 0, 0, 0, 5]

structure IsHold (held : Bool) (g : PgR) : Prop where
  op : ∀ i, i < 12 → (g.f 0).op i = (holdOp held).getD i 0
  ar : ∀ i, i < 12 → (g.f 0).ar i = holdAr.getD i 0

/-- Where it stands. -/
def HPhase (held : Bool) (obs : List Ob) (loc stk : List Val) : Nat → Prop
  | 0 => loc = [(0, 0), (0, 0)] ∧ stk = [] ∧ ∀ (j : Nat) (o : Ob), obs[j]? = some o → o = (0, [])
  | 1 => ∃ a, loc = [(0, 0), (0, 0)] ∧ stk = [hRef a] ∧ H1 a obs
  | 2 => ∃ a, loc = [(0, 0), (0, 0)] ∧ stk = [hRef a, hKeep held a] ∧ H1 a obs
  | 3 => ∃ a, loc = [(0, 0), hKeep held a] ∧ stk = [hRef a] ∧ H1 a obs
  | 4 => ∃ a b, loc = [(0, 0), hKeep held a] ∧ stk = [hRef b] ∧ H2 held a b obs
  | 5 => ∃ a b, loc = [hRef b, hKeep held a] ∧ stk = [] ∧ H2 held a b obs
  | 6 => ∃ a b c, loc = [hRef b, hKeep held a] ∧ stk = [hRef c] ∧ H2 held a b obs
  | 7 => ∃ a b, loc = [hRef b, hKeep held a] ∧ stk = [] ∧ H2 held a b obs
  | 8 => ∃ a b, loc = [hRef b, hKeep held a] ∧ stk = [hRef b] ∧ H2 held a b obs
  | 9 => ∃ a b, loc = [hRef b, hKeep held a] ∧ stk = [hKeep held a] ∧ H2 held a b obs
  | 10 => ∃ a b, loc = [hRef b, hKeep held a] ∧ stk = [(1, truthI held)] ∧ H2 held a b obs
  | 11 => ∃ a b, loc = [hRef b, hKeep held a] ∧ stk = [] ∧ H2 held a b obs
  | _ => False

structure HAt (held : Bool) (k pc : Nat) (s : McA) : Prop where
  st : s.st = 0
  out : s.out = List.replicate k (truthI held)
  room : 3 ≤ s.obs.length
  it : ∃ loc stk, s.frs = [⟨0, pc, loc, stk⟩] ∧ HPhase held s.obs loc stk pc

theorem hkeep_true (a : Nat) : hKeep true a = hRef a := rfl
theorem hkeep_false (a : Nat) : hKeep false a = (0, 0) := rfl

theorem values_one (fn pc : Nat) (loc stk : List Val) : valuesA [⟨fn, pc, loc, stk⟩] = loc ++ stk := by simp [valuesA]

theorem HAt.collect {held : Bool} {k pc : Nat} {s : McA} (h : HAt held k pc s) : HAt held k pc (collectA s) := by
  obtain ⟨loc, stk, hf, hp⟩ := h.it
  refine ⟨h.st, h.out, by show 3 ≤ (sweepA _ _).length; rw [sweepA_len]; exact h.room, loc, stk, hf, ?_⟩
  have h2 : ∀ {a b : Nat}, H2 held a b s.obs → hRef b ∈ loc ++ stk → hKeep held a ∈ loc ++ stk → H2 held a b (collectA s).obs := fun {a b} h2 hb ha =>
    h2.collect (by rw [hf, values_one]; exact hb) fun e => by rw [hf, values_one]; rw [e] at ha; exact ha
  have h1 : ∀ {a : Nat}, H1 a s.obs → hRef a ∈ loc ++ stk → H1 a (collectA s).obs := fun {a} h1 ha => h1.collect (by rw [hf, values_one]; exact ha)
  match pc, hp with
  | 0, ⟨e1, e2, e3⟩ =>
    refine ⟨e1, e2, fun j o ho => ?_⟩
    change (sweepA s.obs (aliveA s))[j]? = _ at ho
    rw [sweepA_get] at ho
    cases hx : s.obs[j]? with
    | none => rw [hx] at ho; cases ho
    | some x =>
      rw [hx, Option.map_some, e3 j x hx] at ho
      have e : (if j ∈ aliveA s then ((0, []) : Ob) else (0, [])) = (0, []) := by split <;> rfl
      rw [e, hforget1_other (by decide)] at ho
      exact (Option.some.inj ho).symm
  | 1, ⟨a, e1, e2, e3⟩ => exact ⟨a, e1, e2, h1 e3 (by rw [e1, e2]; simp)⟩
  | 2, ⟨a, e1, e2, e3⟩ => exact ⟨a, e1, e2, h1 e3 (by rw [e1, e2]; simp)⟩
  | 3, ⟨a, e1, e2, e3⟩ => exact ⟨a, e1, e2, h1 e3 (by rw [e1, e2]; simp)⟩
  | 4, ⟨a, b, e1, e2, e3⟩ => exact ⟨a, b, e1, e2, h2 e3 (by rw [e1, e2]; simp) (by rw [e1, e2]; simp)⟩
  | 5, ⟨a, b, e1, e2, e3⟩ => exact ⟨a, b, e1, e2, h2 e3 (by rw [e1, e2]; simp) (by rw [e1, e2]; simp)⟩
  | 6, ⟨a, b, c, e1, e2, e3⟩ => exact ⟨a, b, c, e1, e2, h2 e3 (by rw [e1, e2]; simp) (by rw [e1, e2]; simp)⟩
  | 7, ⟨a, b, e1, e2, e3⟩ => exact ⟨a, b, e1, e2, h2 e3 (by rw [e1, e2]; simp) (by rw [e1, e2]; simp)⟩
  | 8, ⟨a, b, e1, e2, e3⟩ => exact ⟨a, b, e1, e2, h2 e3 (by rw [e1, e2]; simp) (by rw [e1, e2]; simp)⟩
  | 9, ⟨a, b, e1, e2, e3⟩ => exact ⟨a, b, e1, e2, h2 e3 (by rw [e1, e2]; simp) (by rw [e1, e2]; simp)⟩
  | 10, ⟨a, b, e1, e2, e3⟩ => exact ⟨a, b, e1, e2, h2 e3 (by rw [e1, e2]; simp) (by rw [e1, e2]; simp)⟩
  | 11, ⟨a, b, e1, e2, e3⟩ => exact ⟨a, b, e1, e2, h2 e3 (by rw [e1, e2]; simp) (by rw [e1, e2]; simp)⟩

/-- A step, its operation known. -/
theorem hstep {held : Bool} {g : PgR} (hg : IsHold held g) {s : McA} {pc : Nat} {loc stk : List Val} (hf : s.frs = [⟨0, pc, loc, stk⟩]) (hpc : pc < 12) (h14 : (holdOp held).getD pc 0 ≠ 14) :
    stepA g s = doA g ((holdOp held).getD pc 0).toNat (holdAr.getD pc 0) s [] ⟨0, pc, loc, stk⟩ (stk.take (stk.length - (popD ((holdOp held).getD pc 0) 0).toNat)) (stk.drop (stk.length - (popD ((holdOp held).getD pc 0) 0).toNat)) := by
  have e : ∀ q, popD ((holdOp held).getD pc 0) q = popD ((holdOp held).getD pc 0) 0 := fun q => by unfold popD; simp only [if_neg h14]
  unfold stepA
  rw [hf]
  simp only [List.getLast?_singleton, List.dropLast_singleton, hg.op pc hpc, hg.ar pc hpc]
  rw [e]

/-- What comes of laying an object where there is room. -/
theorem hnewA_room {s : McA} {fs : List FrA} {f : FrA} {rest : List Val} {kind : Int} {fl : List Val} (hpos : 0 < s.obs.length) (hr : takenA (roomA s).obs ≠ (roomA s).obs.length) :
    ∃ (j : Nat) (ds : List Int) (x : Ob), (roomA s).obs[j]? = some x ∧ x.1 = 0 ∧ newA s fs f rest kind fl = ⟨0, s.out, fs ++ [⟨f.fn, f.pc + 1, f.loc, rest ++ [hRef j]⟩], (roomA s).obs.set j (kind, fl), ds⟩ := by
  have hl : (roomA s).obs.length = s.obs.length := by unfold roomA; split <;> simp [collectA, sweepA_len]
  obtain ⟨j, hj⟩ := pickA_some (dr := s.dr) (by omega) hr
  obtain ⟨⟨x, hx, h0⟩, _⟩ := pickA_free hj
  refine ⟨j.1, j.2, x, hx, h0, ?_⟩
  unfold newA
  rw [if_neg hr, hj]
  rfl

theorem hroomA_free {s : McA} {j : Nat} {o : Ob} (ho : s.obs[j]? = some o) (h0 : o.1 = 0) : roomA s = s ∧ takenA (roomA s).obs ≠ (roomA s).obs.length := by
  have h := hnot_full ho h0
  have e : roomA s = s := by unfold roomA; rw [if_neg h]
  exact ⟨e, by rw [e]; exact h⟩

theorem hroomA_len (s : McA) : (roomA s).obs.length = s.obs.length := by unfold roomA; split <;> simp [collectA, sweepA_len]

/-- It ends: so much is put out. -/
structure HEnd (held : Bool) (s : McA) : Prop where
  st : s.st = 7
  out : s.out = List.replicate 40 (truthI held)

theorem HEnd.collect {held : Bool} {s : McA} (h : HEnd held s) : HEnd held (collectA s) := ⟨h.st, h.out⟩

def hNext (pc : Nat) : Nat := if pc = 11 then 5 else pc + 1
def hOut (k pc : Nat) : Nat := if pc = 10 then k + 1 else k

set_option maxHeartbeats 1000000 in
theorem HAt.step {held : Bool} {g : PgR} (hg : IsHold held g) {k pc : Nat} {s : McA} (h : HAt held k pc s) (hk : k ≤ 40) :
    HAt held (hOut k pc) (hNext pc) (stepA g s) ∧ (pc = 10 → k < 40) ∨ (k = 40 ∧ pc = 10 ∧ HEnd held (stepA g s)) := by
  obtain ⟨loc, stk, hf, hp⟩ := h.it
  have hpos : 0 < s.obs.length := by have := h.room; omega
  match pc, hp with
  | 0, ⟨e1, e2, e3⟩ =>
    left
    refine ⟨?_, by simp⟩
    subst e1 e2
    obtain ⟨hr, hr'⟩ := hroomA_free (s := s) (List.getElem?_eq_getElem hpos) (by rw [e3 0 _ (List.getElem?_eq_getElem hpos)])
    obtain ⟨j, ds, x, hx, h0, e⟩ := hnewA_room (fs := []) (f := ⟨0, 0, [(0, 0), (0, 0)], []⟩) (rest := []) (kind := 1) (fl := []) hpos hr'
    rw [hr] at hx e
    have e' : stepA g s = newA s [] ⟨0, 0, [(0, 0), (0, 0)], []⟩ [] 1 [] := by rw [hstep hg hf (by decide) (by simp [holdOp])]; rfl
    rw [e', e]
    refine ⟨rfl, h.out, by simpa using h.room, _, _, rfl, j, rfl, rfl, ⟨by rw [List.getElem?_set_self (List.getElem?_eq_some_iff.1 hx).1], fun i o hi ho => e3 i o (hset_get ho hi)⟩⟩
  | 1, ⟨a, e1, e2, e3⟩ =>
    left
    refine ⟨?_, by simp⟩
    subst e1 e2
    rw [hstep hg hf (by decide) (by cases held <;> simp [holdOp])]
    cases held
    · exact ⟨rfl, h.out, h.room, _, _, rfl, a, rfl, rfl, e3⟩
    · exact ⟨rfl, h.out, h.room, _, _, rfl, a, rfl, rfl, e3⟩
  | 2, ⟨a, e1, e2, e3⟩ =>
    left
    refine ⟨?_, by simp⟩
    subst e1 e2
    rw [hstep hg hf (by decide) (by simp [holdOp])]
    exact ⟨rfl, h.out, h.room, _, _, rfl, a, rfl, rfl, e3⟩
  | 3, ⟨a, e1, e2, e3⟩ =>
    left
    refine ⟨?_, by simp⟩
    subst e1 e2
    obtain ⟨j0, hj0, hja, _⟩ := third a a _ h.room
    obtain ⟨hr, hr'⟩ := hroomA_free (s := s) (List.getElem?_eq_getElem hj0) (by rw [e3.others j0 _ hja (List.getElem?_eq_getElem hj0)])
    obtain ⟨j, ds, x, hx, h0, e⟩ := hnewA_room (fs := []) (f := ⟨0, 3, [(0, 0), hKeep held a], [hRef a]⟩) (rest := []) (kind := 3) (fl := [hRef a]) hpos hr'
    rw [hr] at hx e
    have e' : stepA g s = newA s [] ⟨0, 3, [(0, 0), hKeep held a], [hRef a]⟩ [] 3 [hRef a] := by rw [hstep hg hf (by decide) (by simp [holdOp])]; rfl
    rw [e', e]
    exact ⟨rfl, h.out, by simpa using h.room, _, _, rfl, a, j, rfl, rfl, e3.weak hx h0⟩
  | 4, ⟨a, b, e1, e2, e3⟩ =>
    left
    refine ⟨?_, by simp⟩
    subst e1 e2
    rw [hstep hg hf (by decide) (by simp [holdOp])]
    exact ⟨rfl, h.out, h.room, _, _, rfl, a, b, rfl, rfl, e3⟩
  | 5, ⟨a, b, e1, e2, e3⟩ =>
    left
    refine ⟨?_, by simp⟩
    subst e1 e2
    have hv : ∀ v, v ∈ valuesA s.frs → v.1 = 2 → v.2.toNat = a ∨ v.2.toNat = b := fun v hv h2 => by
      rw [hf, values_one] at hv
      simp only [List.append_nil, List.mem_cons, List.not_mem_nil, or_false] at hv
      rcases hv with rfl | rfl
      · right; simp [hRef]
      · cases held
        · simp [hKeep] at h2
        · left; simp [hKeep, hRef]
    have hH : H2 held a b (roomA s).obs ∧ takenA (roomA s).obs ≠ (roomA s).obs.length := by
      unfold roomA
      split
      · exact ⟨e3.collect (by rw [hf, values_one]; simp) (fun e => by rw [hf, values_one, e]; simp [hKeep]), e3.room h.room hv⟩
      · rename_i hn
        exact ⟨e3, hn⟩
    obtain ⟨j, ds, x, hx, h0, e⟩ := hnewA_room (fs := []) (f := ⟨0, 5, [hRef b, hKeep held a], []⟩) (rest := []) (kind := 1) (fl := [(0, 0)]) hpos hH.2
    have e' : stepA g s = newA s [] ⟨0, 5, [hRef b, hKeep held a], []⟩ [] 1 [(0, 0)] := by rw [hstep hg hf (by decide) (by simp [holdOp])]; rfl
    rw [e', e]
    exact ⟨rfl, h.out, by simpa [hroomA_len] using h.room, _, _, rfl, a, b, j, rfl, rfl, hH.1.laid hx h0⟩
  | 6, ⟨a, b, c, e1, e2, e3⟩ =>
    left
    refine ⟨?_, by simp⟩
    subst e1 e2
    rw [hstep hg hf (by decide) (by simp [holdOp])]
    exact ⟨rfl, h.out, h.room, _, _, rfl, a, b, rfl, rfl, e3⟩
  | 7, ⟨a, b, e1, e2, e3⟩ =>
    left
    refine ⟨?_, by simp⟩
    subst e1 e2
    rw [hstep hg hf (by decide) (by simp [holdOp])]
    exact ⟨rfl, h.out, h.room, _, _, rfl, a, b, rfl, rfl, e3⟩
  | 8, ⟨a, b, e1, e2, e3⟩ =>
    left
    refine ⟨?_, by simp⟩
    subst e1 e2
    obtain ⟨v, hv⟩ := e3.at_b
    have hrf : referredA s.obs (hRef b) = (3, [v]) := by
      have : (hRef b).2.toNat = b := by simp [hRef]
      simp [referredA, hRef, List.getD, hv]
    have hs : strongA s v = hKeep held a := by
      have hal : ∀ j, j ∈ aliveA s ↔ _ := aliveA_flat e3.flat
      rcases e3.weak with ⟨h1, _⟩ | ⟨h1, h2⟩
      · obtain rfl : v = hRef a := by rw [hv] at h1; simpa using h1
        have ea : (hRef a).2.toNat = a := by simp [hRef]
        cases held
        · unfold strongA
          rw [if_neg]
          · rfl
          · rintro ⟨_, hm⟩
            rw [ea] at hm
            obtain ⟨u, hu, hu2, hu3⟩ := (hal a).1 hm
            rw [hf, values_one] at hu
            have hne := e3.ne
            simp [hKeep] at hu
            rcases hu with rfl | rfl | rfl
            · simp [hRef] at hu3; omega
            · simp at hu2
            · simp [hRef] at hu3; omega
        · unfold strongA
          rw [if_pos]
          · rfl
          · refine ⟨rfl, ?_⟩
            rw [ea]
            exact (hal a).2 ⟨hRef a, by rw [hf, values_one]; simp [hKeep], rfl, ea⟩
      · subst h1
        obtain rfl : v = (0, 0) := by rw [hv] at h2; simpa using h2
        rfl
    have e' : stepA g s = doA g 24 0 s [] ⟨0, 8, [hRef b, hKeep held a], [hRef b]⟩ [] [hRef b] := by rw [hstep hg hf (by decide) (by simp [holdOp])]; rfl
    rw [e']
    simp only [doA]
    rw [hrf, if_pos rfl]
    simp only [List.headD_cons, hs]
    exact ⟨rfl, h.out, h.room, _, _, rfl, a, b, rfl, rfl, e3⟩
  | 9, ⟨a, b, e1, e2, e3⟩ =>
    left
    refine ⟨?_, by simp⟩
    subst e1 e2
    rw [hstep hg hf (by decide) (by simp [holdOp])]
    cases held
    · exact ⟨rfl, h.out, h.room, _, _, rfl, a, b, rfl, rfl, e3⟩
    · exact ⟨rfl, h.out, h.room, _, _, rfl, a, b, rfl, rfl, e3⟩
  | 10, ⟨a, b, e1, e2, e3⟩ =>
    subst e1 e2
    have e' : stepA g s = doA g 26 0 s [] ⟨0, 10, [hRef b, hKeep held a], [(1, truthI held)]⟩ [] [(1, truthI held)] := by rw [hstep hg hf (by decide) (by simp [holdOp])]; rfl
    have hl : s.out.length = k := by rw [h.out]; simp
    rw [e']
    simp only [doA]
    rw [if_neg (by simp), hl]
    by_cases hk40 : 40 ≤ k
    · right
      have : k = 40 := by omega
      subst this
      rw [if_pos hk40]
      exact ⟨by simp, by simp, rfl, h.out⟩
    · left
      rw [if_neg hk40]
      refine ⟨⟨rfl, ?_, h.room, _, _, rfl, a, b, rfl, rfl, e3⟩, fun _ => by omega⟩
      show s.out ++ [_] = List.replicate (k + 1) _
      rw [h.out, List.replicate_succ']
  | 11, ⟨a, b, e1, e2, e3⟩ =>
    left
    refine ⟨?_, by simp⟩
    subst e1 e2
    rw [hstep hg hf (by decide) (by simp [holdOp])]
    exact ⟨rfl, h.out, h.room, _, _, rfl, a, b, rfl, rfl, e3⟩

end Go.Proofs.YtbkmgoffiigdbaaDoor

namespace Go.Proofs.YtbkmgoffiigdbaaDoor
open Go.RowKit Go.Sort

/-! PLAIN: so many steps of that program. -/

def hPc (t : Nat) : Nat := if t < 5 then t else 5 + (t - 5) % 7
def hK (t : Nat) : Nat := if t < 11 then 0 else 1 + (t - 11) / 7

theorem hPc_next (t : Nat) : hPc (t + 1) = hNext (hPc t) := by unfold hPc hNext; split <;> split <;> split <;> omega
theorem hK_next (t : Nat) : hK (t + 1) = hOut (hK t) (hPc t) := by unfold hK hOut hPc; split <;> split <;> split <;> (try split at *) <;> omega

/-- Behind so many steps. -/
def HSt (held : Bool) (t : Nat) (s : McA) : Prop := (HAt held (hK t) (hPc t) s ∧ hK t ≤ 40) ∨ (HEnd held s ∧ 290 ≤ t)

theorem HSt.collect {held : Bool} {t : Nat} {s : McA} (h : HSt held t s) : HSt held t (collectA s) := by
  rcases h with ⟨h1, h2⟩ | ⟨h1, h2⟩
  · exact Or.inl ⟨h1.collect, h2⟩
  · exact Or.inr ⟨h1.collect, h2⟩

theorem HSt.step {held : Bool} {g : PgR} (hg : IsHold held g) {t : Nat} {s : McA} (h : HSt held t s) (h0 : s.st = 0) : HSt held (t + 1) (stepA g s) := by
  rcases h with ⟨h1, h2⟩ | ⟨h1, _⟩
  · rcases h1.step hg h2 with ⟨h3, h4⟩ | ⟨h3, h4, h5⟩
    · left
      rw [hPc_next, hK_next]
      refine ⟨h3, ?_⟩
      unfold hOut
      split
      · rename_i e; have := h4 e; omega
      · exact h2
    · right
      refine ⟨h5, ?_⟩
      unfold hK at h3
      unfold hPc at h4
      split at h3 <;> split at h4 <;> omega
  · rw [h1.st] at h0; simp at h0

theorem HSt.run {held : Bool} {g : PgR} (hg : IsHold held g) : ∀ (n : Nat) {t : Nat} {s : McA}, HSt held t s → HSt held (t + stepsA g n s) (runA g n s)
  | 0, _, _, h => h
  | n + 1, t, s, h => by
    rw [runA, stepsA]
    by_cases h0 : s.st = 0
    · rw [if_pos h0, if_pos h0]
      have := HSt.run hg n (h.step hg h0)
      rw [show t + (stepsA g n (stepA g s) + 1) = t + 1 + stepsA g n (stepA g s) by omega]
      exact this
    · rw [if_neg h0, if_neg h0]; exact h

theorem HSt.begin {held : Bool} {cap : Nat} (h : 3 ≤ cap) (dr : List Int) : HSt held 0 ⟨0, [], [⟨0, 0, List.replicate 2 (0, 0), []⟩], List.replicate cap (0, []), dr⟩ := by
  refine Or.inl ⟨⟨rfl, rfl, by simpa using h, _, _, rfl, rfl, rfl, fun j o ho => ?_⟩, by decide⟩
  have := List.mem_of_getElem? ho
  exact (List.mem_replicate.1 this).2

theorem HSt.state {held : Bool} {t : Nat} {s : McA} (h : HSt held t s) : s.st = 0 ∨ (s.st = 7 ∧ s.out.length = 40) := by
  rcases h with ⟨h1, _⟩ | ⟨h1, _⟩
  · exact Or.inl h1.st
  · exact Or.inr ⟨h1.st, by rw [h1.out]; simp⟩

theorem HSt.outs {held : Bool} {t : Nat} {s : McA} (h : HSt held t s) : s.out = List.replicate (min (hK t) 40) (truthI held) := by
  rcases h with ⟨h1, h2⟩ | ⟨h1, h2⟩
  · rw [h1.out, Nat.min_eq_left h2]
  · rw [h1.out, Nat.min_eq_right]
    unfold hK
    split <;> omega

theorem stepsA_all (g : PgR) : ∀ (n : Nat) (s : McA), (runA g n s).st = 0 → stepsA g n s = n
  | 0, _, _ => rfl
  | n + 1, s, h => by
    rw [runA] at h
    rw [stepsA]
    by_cases h0 : s.st = 0
    · rw [if_pos h0] at h ⊢
      rw [stepsA_all g n _ h]
    · rw [if_neg h0] at h; exact absurd h h0

end Go.Proofs.YtbkmgoffiigdbaaDoor

namespace Go.Proofs.YtbkmgoffiigdbaaDoor
open Go.RowKit Go.Sort

/-! Draw, Collect. -/

def DrawPost (own : Own) (mb : Nat) (g : PgR) (R : McR) (l : List Int) (w : World) (e : Ending) (w' : World) : Prop :=
  ∃ own' dv, e = .returned (.int .i64 0) ∧ MachAt w' own' mb g { R with dv := dv, dr := R.dr ++ l } ∧ Touched own w own' w'

theorem draws_end {own : Own} {mb : Nat} {g : PgR} {R : McR} {l : List Int} {w W w5 : World} {v : Value} (hm : MachAt w own mb g R) (hB : Below w.heap.size w W) (hgrow : W.grownBy w5 R.dv.ownBlock)
    (hown : w5.ownsRow 0 3 1 v (R.dr.length + l.length) ((R.dr.map fun n => .int .i64 n) ++ l.map fun n => .int .i64 n)) (hat : ∀ gb, v.ownBlock = some gb → R.dv.ownBlock = some gb ∨ gb = W.heap.size) :
    w5.frozen? ⟨mb, 5, none⟩ = false ∧ w5.cell? ⟨mb, 5, none⟩ = some R.dv ∧ mb < w5.heap.size ∧ DrawPost own mb g R l w (.returned (.int .i64 0)) (w5.setCell ⟨mb, 5, none⟩ v) := by
  have hmb : mb < w.heap.size := hm.lt mb _ hm.me
  have hob : ∀ b, R.dv.ownBlock = some b → own b = some .draws := hm.draws.2
  have hnm : R.dv.ownBlock ≠ some mb := fun e => by have := hob mb e; rw [hm.me] at this; cases this
  have hgm : v.ownBlock ≠ some mb := fun e => by
    rcases hat mb e with h1 | h1
    · exact hnm h1
    · have := hB.size; omega
  have hsz : w.heap.size ≤ w5.heap.size := Nat.le_trans hB.size hgrow.size
  have hon : OldOrNew w own v .draws := fun b hb => by
    rcases hat b hb with h1 | h1
    · exact Or.inl (hob b h1)
    · exact Or.inr (by have := hB.size; omega)
  have hblk : ∀ k, k < w.heap.size → own k ≠ some .draws → w5.heap[k]? = w.heap[k]? := fun k hk ho => by
    rw [hgrow.block k (Nat.lt_of_lt_of_le hk hB.size) (fun e => ho (hob k e.symm)), hB.block k hk]
  have hmblk := hblk mb hmb (by rw [hm.me]; simp)
  have hfz : ∀ j, w5.frozen? ⟨mb, j, none⟩ = false := fun j => by rw [World.frozen?_of_block (w := w) (a := ⟨mb, j, none⟩) hmblk]; exact hm.fz j
  have hc5 : w5.cell? ⟨mb, 5, none⟩ = some R.dv := by rw [World.cell?_of_block (w := w) (a := ⟨mb, 5, none⟩) hmblk]; exact hm.c5
  have hmb5 : mb < w5.heap.size := by omega
  have hM : MachAt (w5.setCell ⟨mb, 5, none⟩ v) (own.upd v.ownBlock .draws) mb g { R with dv := v, dr := R.dr ++ l } := by
    refine MachAt.setDraws (v := v) (l := R.dr ++ l) hm (by simpa using hsz) (fun k hk h1 h2 => ?_) (fun j hj => ?_) ?_ (fun j => ?_) ?_ hon
    · rw [heap_setCell_other _ _ _ _ h1]; exact hblk k hk h2
    · rw [← World.cell?_of_block (w := w) (w' := w5) (a := ⟨mb, j, none⟩) hmblk]
      go_simp
    · go_simp
    · have := hfz j
      go_simp
    · have := ownsRow_setCell_other hown (a := ⟨mb, 5, none⟩) hgm v
      simpa using this
  refine ⟨hfz 5, hc5, hmb5, own.upd v.ownBlock .draws, v, rfl, hM, ⟨?_, ?_, ?_, by simpa using hsz, fun k hk hno => ?_, fun k hk => Own.upd_old hon hk⟩⟩
  · exact hgrow.os.trans hB.os
  · exact hgrow.tape.trans hB.tape
  · exact hgrow.output.trans hB.output
  · rw [heap_setCell_other _ _ _ _ (fun e => by rw [e, hm.me] at hno; cases hno)]
    exact hblk k hk (by rw [hno]; simp)

/-- Numbers in memory, at some place. -/
def NumsE (w : World) (a : Option Addr) (l : List Int) : Prop := 0 < l.length → ∃ b o, a = some ⟨b, o, none⟩ ∧ b < w.heap.size ∧ ∀ (i : Nat) (x : Int), l[i]? = some x → w.cell? ⟨b, o + i, none⟩ = some (.int .i64 x)

set_option maxRecDepth 100000 in
set_option maxHeartbeats 2000000 in
theorem addDraws_any {own : Own} {mb : Nat} {g : PgR} {R : McR} {w : World} (h : MachAt w own mb g R) (a : Option Addr) (c : Nat) (l : List Int) (hl : NumsE w a l) (hn : R.dr.length + l.length ≤ 200) :
    Calls Tryd.prog 46 #[.pointer (some ⟨mb, 4, none⟩), .slice a l.length c] w fun e w' => DrawPost own mb g R l w e w' := by
  have c5 := h.c5
  have hmb : mb < w.heap.size := h.lt mb _ h.me
  have hlen : ∃ va' cc, R.dv = .slice va' R.dr.length cc := by
    rcases h.draws.1.2 with ⟨e, e0⟩ | ⟨gb, cap, _, e, _⟩
    · exact ⟨none, 0, by rw [e, e0]⟩
    · exact ⟨_, _, e⟩
  obtain ⟨va', cc, hdv⟩ := hlen
  have HO := hid h.draws.1
  rw [hdv] at c5
  have HDV := hid hdv
  have HH := hid h
  have HNEWS : Hid (∀ W, Below w.heap.size w W → 0 < l.length → ∃ d, a = some d ∧ ∀ j u, (l.map fun n => Value.int .i64 n)[j]? = some u → W.cell? (d.add j) = some u) := fun W hW h0 => by
    obtain ⟨b, o, h1, h2, h3⟩ := hl h0
    refine ⟨_, h1, fun j u hu => ?_⟩
    rw [List.getElem?_map] at hu
    obtain ⟨x, hx, rfl⟩ := Option.map_eq_some_iff.1 hu
    have := (hW.cell (p := ⟨b, o + j, none⟩) h2).trans (h3 j x hx)
    cases j with
    | zero => simpa [Addr.add] using this
    | succ j => simpa [Addr.add] using this
  have hn' : ¬ (200 : Int) < (R.dr.length : Int) + (l.length : Int) := by omega
  have hwr : IntKind.i64.wrap ((R.dr.length : Int) + (l.length : Int)) = (R.dr.length : Int) + (l.length : Int) := Go.IntWalk.i64_in _ (by omega)
  clear h hdv hl
  obtain ⟨i3, hi, hz, hsz, hby⟩ := info_parts info3
  have HI := hid hi
  have HZ := hid hz
  have HSZ := hid hsz
  have HBY := hid hby
  clear hi hz hsz hby
  go_enter Tryd.func46, Tryd.ntmps46
  go_wp2_with (at_builtin; go_must (refine wpList_append_any _ rfl (.tmp 18) (.tmp 19) 31 rfl 0 3 i3 _ 1 8 Tryd.underlying31 HI.out HZ.out HSZ.out HBY.out rfl (by decide) R.dv R.dr.length (R.dr.map fun n => .int .i64 n) (by rw [HDV.out]; rfl) HO.out a l.length c (l.map fun n => .int .i64 n) rfl (by simp) (HNEWS.out _ (Below.refl _ _)) (by intro u hu; obtain ⟨n, _, rfl⟩ := List.mem_map.1 hu; rfl) (by unfold maxLen; omega) (by omega) (Nat.zero_le _) ?_))
  intro v' w5 hown5 hgrow5 hat5
  obtain ⟨y0, y1, y2, hP⟩ := draws_end HH.out (Below.refl _ _) hgrow5 hown5 hat5
  have HP := hid hP
  rw [HDV.out] at y1
  obtain ⟨va5, cc5, hv5⟩ : ∃ va5 cc5, v' = .slice va5 (R.dr.length + l.length) cc5 := by
    rcases hown5.2 with ⟨e, e0⟩ | ⟨gb, cap, _, e, _⟩
    · exact ⟨none, 0, by rw [e, e0]⟩
    · exact ⟨_, _, e⟩
  subst hv5
  clear hown5 hgrow5 hat5 hP
  go_wp2_with fail
  go_ret
  exact HP.out

set_option maxHeartbeats 1000000 in
theorem Draw_any {own : Own} {mb : Nat} {g : PgR} {R : McR} {w : World} (h : MachAt w own mb g R) (a : Option Addr) (c : Nat) (l : List Int) (hl : NumsE w a l) (hn : R.dr.length + l.length ≤ 200) :
    Calls Tryd.prog 27 #[.pointer (some ⟨mb, 0, none⟩), .slice a l.length c] w fun e w' => DrawPost own mb g R l w e w' := by
  have HA := hid (addDraws_any h a c l hl hn)
  have hmb : mb < w.heap.size := h.lt mb _ h.me
  clear h hl
  go_enter Tryd.func27, Tryd.ntmps27
  go_wp2_with (go_at_call 46; refine HA.out.mono ?_; rintro e w2 ⟨own', dv, rfl, hm, ht⟩)
  go_ret
  exact ⟨own', dv, rfl, hm, ht⟩

set_option maxHeartbeats 1000000 in
theorem Collect_any {own : Own} {mb : Nat} {g : PgR} {R : McR} {w : World} (h : MachAt w own mb g R) (ho : HeapOk R) (hal : (aliveA R.abs).length ≤ 1000) :
    Calls Tryd.prog 28 #[.pointer (some ⟨mb, 0, none⟩)] w fun e w' => CollectPost own mb g R w e w' := by
  have HA := hid (collect_any h ho hal)
  have hmb : mb < w.heap.size := h.lt mb _ h.me
  clear h
  go_enter Tryd.func28, Tryd.ntmps28
  go_wp2_with (go_at_call 47; refine HA.out.mono ?_; rintro e w2 ⟨rfl, hm, ht⟩)
  go_ret
  exact ⟨rfl, hm, ht⟩

end Go.Proofs.YtbkmgoffiigdbaaDoor

namespace Go.Proofs.YtbkmgoffiigdbaaDoor
open Go.RowKit Go.Sort

/-! What Holds calls. -/

def holdL (held : Bool) : List (Int × Int) := [(16, 0), (if held then 4 else 1, 0), (3, 1), (18, 0), (3, 0), (16, 1), (5, 0), (2, 0), (24, 0), (25, 0), (26, 0), (12, 5)]
def holdH : List Int := [0, 1, 2, 1, 1, 0, 1, 0, 1, 1, 1, 0]

/-- Whether a program of one function, with so many locals, is taken, by the heights H. -/
def okN (l : Nat) (L : List (Int × Int)) (H : List Int) : Bool :=
  (List.range L.length).all fun a => match L[a]? with
    | none => false
    | some x => legalB 1 (l : Int) L.length x.1 x.2 && decide (x.1 ≠ 14) && decide (popD x.1 0 ≤ H.getD a 0) && decide (H.getD a 0 - popD x.1 0 + pushD x.1 ≤ 10) &&
      (nextD a x.1 x.2).all fun c => decide (c < L.length) && decide (H.getD c 0 = H.getD a 0 - popD x.1 0 + pushD x.1)

theorem okN_check {l : Nat} {L : List (Int × Int)} {H : List Int} {g : PgR} (hg : SProg g l L) (hl : l ≤ 8) (h1 : 1 ≤ L.length) (h60 : L.length ≤ 60) (h0 : H.getD 0 0 = 0) (hok : okN l L H = true) : CheckIs g 0 0 := by
  have ha : ∀ a x, L[a]? = some x → legalB 1 (l : Int) L.length x.1 x.2 = true ∧ x.1 ≠ 14 ∧ popD x.1 0 ≤ H.getD a 0 ∧ H.getD a 0 - popD x.1 0 + pushD x.1 ≤ 10 ∧ ∀ c, c ∈ nextD a x.1 x.2 → c < L.length ∧ H.getD c 0 = H.getD a 0 - popD x.1 0 + pushD x.1 := fun a x hx => by
    have hl := (List.getElem?_eq_some_iff.1 hx).1
    have := List.all_eq_true.1 hok a (List.mem_range.2 hl)
    simp only [hx, Bool.and_eq_true, decide_eq_true_eq, List.all_eq_true] at this
    obtain ⟨⟨⟨⟨q1, q2⟩, q3⟩, q4⟩, q5⟩ := this
    exact ⟨q1, q2, q3, q4, q5⟩
  exact sprog_check hg (by omega) h1 h60 (fun a => H.getD a 0) h0 (fun a x hx => ⟨(ha a x hx).1, (ha a x hx).2.1⟩) (fun a x hx => (ha a x hx).2.2)

theorem hold_check {held : Bool} {g : PgR} (h : SProg g 2 (holdL held)) : CheckIs g 0 0 :=
  okN_check (H := holdH) h (by omega) (by cases held <;> decide) (by cases held <;> decide) rfl (by cases held <;> kernel_rfl)

theorem hold_is {held : Bool} {g : PgR} (h : SProg g 2 (holdL held)) : IsHold held g := by
  refine ⟨fun i hi => ?_, fun i hi => ?_⟩
  · match i, hi with
    | 0, _ => exact (h.code 0 _ rfl).1
    | 1, _ => exact (h.code 1 _ rfl).1
    | 2, _ => exact (h.code 2 _ rfl).1
    | 3, _ => exact (h.code 3 _ rfl).1
    | 4, _ => exact (h.code 4 _ rfl).1
    | 5, _ => exact (h.code 5 _ rfl).1
    | 6, _ => exact (h.code 6 _ rfl).1
    | 7, _ => exact (h.code 7 _ rfl).1
    | 8, _ => exact (h.code 8 _ rfl).1
    | 9, _ => exact (h.code 9 _ rfl).1
    | 10, _ => exact (h.code 10 _ rfl).1
    | 11, _ => exact (h.code 11 _ rfl).1
  · match i, hi with
    | 0, _ => exact (h.code 0 _ rfl).2
    | 1, _ => exact (h.code 1 _ rfl).2
    | 2, _ => exact (h.code 2 _ rfl).2
    | 3, _ => exact (h.code 3 _ rfl).2
    | 4, _ => exact (h.code 4 _ rfl).2
    | 5, _ => exact (h.code 5 _ rfl).2
    | 6, _ => exact (h.code 6 _ rfl).2
    | 7, _ => exact (h.code 7 _ rfl).2
    | 8, _ => exact (h.code 8 _ rfl).2
    | 9, _ => exact (h.code 9 _ rfl).2
    | 10, _ => exact (h.code 10 _ rfl).2
    | 11, _ => exact (h.code 11 _ rfl).2

set_option maxHeartbeats 1000000 in
theorem pick38_any (c : Int) (w : World) (h1 : -9223372036854775808 ≤ c) (h2 : c ≤ 9223372036854775807) :
    Calls Tryd.prog 31 #[.int .i64 c, .int .i64 38] w fun e w' => e = .returned (.int .i64 (pickI c 38)) ∧ w' = w := by
  by_cases hc : c < 0
  · go_enter Tryd.func31, Tryd.ntmps31
    go_wp2
    go_ret
    refine ⟨ret_i64 ?_, rfl⟩
    show -(c + 1).tmod 38 = pickI c 38
    unfold pickI
    rw [if_pos hc, ← Int.neg_tmod]
    exact Int.tmod_eq_emod_of_nonneg (by omega)
  · go_enter Tryd.func31, Tryd.ntmps31
    go_wp2
    go_ret
    refine ⟨ret_i64 ?_, rfl⟩
    show c % 38 = pickI c 38
    unfold pickI
    rw [if_neg (by omega)]

theorem pickI_bd38 (c : Int) : 0 ≤ pickI c 38 ∧ pickI c 38 < 38 := by unfold pickI; split <;> omega

set_option maxHeartbeats 1000000 in
theorem some200_few (a : Option Addr) (n c : Nat) (w : World) (h : ¬ 200 < n) : Calls Tryd.prog 25 #[.slice a n c, .int .i64 200] w fun e w' => e = .returned (.slice a n c) ∧ w' = w := by
  have h' : ¬ (200 : Int) < (n : Int) := by omega
  go_enter Tryd.func25, Tryd.ntmps25
  go_wp2
  go_ret
  exact ⟨rfl, rfl⟩

set_option maxHeartbeats 1000000 in
theorem some200_many (b o n c : Nat) (w : World) (h : 200 < n) (hc : n ≤ c) : Calls Tryd.prog 25 #[.slice (some ⟨b, o, none⟩) n c, .int .i64 200] w fun e w' => e = .returned (.slice (some ⟨b, o, none⟩) 200 c) ∧ w' = w := by
  have h' : (200 : Int) < (n : Int) := by omega
  have h6 : 200 ≤ c := by omega
  go_enter Tryd.func25, Tryd.ntmps25
  go_wp2
  go_ret
  exact ⟨rfl, rfl⟩

/-- The first two hundred numbers. -/
theorem some200_any {B : Nat} {w : World} {a : Option Addr} {n c b o : Nat} {R : Nat → Int} (hr : RawL B w a n b o R) (hB : B ≤ w.heap.size) (hc : n ≤ c) :
    ∃ l : List Int, l.length = min n 200 ∧ NumsE w a l ∧ ∀ W, Calls Tryd.prog 25 #[.slice a n c, .int .i64 200] W fun e w' => e = .returned (.slice a l.length c) ∧ w' = W := by
  refine ⟨(List.range (min n 200)).map R, by simp, fun h0 => ?_, fun W => ?_⟩
  · have h0' : 0 < n := by simp at h0; omega
    obtain ⟨h1, h2, h3⟩ := hr.2 h0'
    refine ⟨b, o, h1, by omega, fun i x hx => ?_⟩
    have hi := (List.getElem?_eq_some_iff.1 hx).1
    simp at hi
    rw [List.getElem?_map, List.getElem?_range (by omega)] at hx
    cases hx
    exact h3 i (by omega)
  · rw [List.length_map, List.length_range]
    by_cases h : 200 < n
    · obtain ⟨rfl, _⟩ := hr.2 (by omega)
      rw [show min n 200 = 200 by omega]
      exact some200_many b o n c W h hc
    · rw [show min n 200 = n by omega]
      exact some200_few a n c W h

/-- Draws more, as the plain machine has it. -/
theorem Draw_is {own : Own} {mb : Nat} {g : PgR} {R : McR} {s : McA} {w : World} (h : MachAt w own mb g R) (his : Is g s R) (a : Option Addr) (c : Nat) (l : List Int) (hl : NumsE w a l) (hn : s.dr.length + l.length ≤ 200) :
    Calls Tryd.prog 27 #[.pointer (some ⟨mb, 0, none⟩), .slice a l.length c] w fun e w' => ∃ own' R', e = .returned (.int .i64 0) ∧ MachAt w' own' mb g R' ∧ Is g { s with dr := s.dr ++ l } R' ∧ Touched own w own' w' := by
  obtain ⟨rfl, hq⟩ := his
  refine (Draw_any h a c l hl hn).mono ?_
  rintro e w' ⟨own', dv, he, hm, ht⟩
  exact ⟨own', _, he, hm, ⟨rfl, hq⟩, ht⟩

theorem Collect_is {own : Own} {mb : Nat} {g : PgR} {R : McR} {s : McA} {w : World} (hp : PgOk g) (h : MachAt w own mb g R) (his : Is g s R) (hi : InvA g s) :
    Calls Tryd.prog 28 #[.pointer (some ⟨mb, 0, none⟩)] w fun e w' => ∃ (n : Int) (R' : McR), e = .returned (.int .i64 n) ∧ MachAt w' own mb g R' ∧ Is g (collectA s) R' ∧ Touched own w own w' := by
  obtain ⟨rfl, hq⟩ := his
  refine (Collect_any h (hi.heapOk hp) hi.alive_len).mono ?_
  rintro e w' ⟨he, hm, ht⟩
  exact ⟨_, swept R, he, hm, ⟨swept_abs R, hq⟩, ht.touched⟩

end Go.Proofs.YtbkmgoffiigdbaaDoor

namespace Go.Proofs.YtbkmgoffiigdbaaDoor
open Go.RowKit Go.Sort

/-! A machine that stands, and what is asked of it, in one piece. -/

structure HM (w0 w : World) (own : Own) (ma : Nat) (g : PgR) (R : McR) (s : McA) : Prop where
  m : MachAt w own ma g R
  is : Is g s R
  inv : InvA g s
  no : ∀ k t, own k = some t → w0.heap.size ≤ k
  bel : Below w0.heap.size w0 w

theorem HM.later {w0 w W : World} {own : Own} {ma : Nat} {g : PgR} {R : McR} {s : McA} (h : HM w0 w own ma g R s) (hB : Below w.heap.size w W) : HM w0 W own ma g R s :=
  ⟨h.m.same hB.size fun k hk => hB.block k hk, h.is, h.inv, h.no, below_via' hB h.bel⟩

theorem HM.touched {w0 w w' : World} {own own' : Own} {ma : Nat} {g : PgR} {R R' : McR} {s s' : McA} (h : HM w0 w own ma g R s) (hm : MachAt w' own' ma g R') (his : Is g s' R') (hi : InvA g s') (ht : Touched own w own' w') : HM w0 w' own' ma g R' s' := by
  refine ⟨hm, his, hi, fun k t hk => ?_, h.bel.trans (ht.below h.bel.size fun k hk => ?_)⟩
  · rcases Nat.lt_or_ge k w.heap.size with hl | hl
    · rw [ht.old k hl] at hk; exact h.no k t hk
    · exact Nat.le_trans h.bel.size hl
  · cases e : own k with
    | none => rfl
    | some t => have := h.no k t e; omega

/-- What is left alone: what lay there and is not the machine's. -/
def Spared (own : Own) (w w' : World) : Prop := w.heap.size ≤ w'.heap.size ∧ ∀ k, k < w.heap.size → own k = none → w'.heap[k]? = w.heap[k]?

theorem HM.run {w0 w : World} {own : Own} {ma : Nat} {g : PgR} {R : McR} {s : McA} (h : HM w0 w own ma g R s) (hp : PgOk g) (f : Nat) (hf : f ≤ 10000) :
    Calls Tryd.prog 16 #[.pointer (some ⟨ma, 0, none⟩), .int .i64 (f : Int)] w fun e w' => e = .returned (.tuple #[.int .i64 (stepsA g f s : Int), .int .i64 0]) ∧ (∃ own' R', HM w0 w' own' ma g R' (runA g f s)) ∧ Spared own w w' := by
  refine (run_total hp h.inv h.is h.m f hf).mono ?_
  rintro e w' ⟨own', R', rfl, hm, his, ht⟩
  exact ⟨rfl, ⟨own', R', h.touched hm his (inv_run hp f h.inv) ht⟩, ht.size, ht.block⟩

theorem HM.status {w0 w : World} {own : Own} {ma : Nat} {g : PgR} {R : McR} {s : McA} (h : HM w0 w own ma g R s) :
    Calls Tryd.prog 18 #[.pointer (some ⟨ma, 0, none⟩)] w fun e w' => e = .returned (.agg #[.int .i64 s.st, .int .i64 (takenA s.obs : Int), .int .i64 (s.dr.length : Int)]) ∧ Below w.heap.size w w' := by
  obtain ⟨rfl, _⟩ := h.is
  have hl : R.abs.obs.length = R.obs.length := by simp [McR.abs]
  have hcp := h.inv.cap
  have := Status_any h.m (by omega) (by omega)
  rw [taken_abs] at this
  exact this

theorem HM.output {w0 w : World} {own : Own} {ma : Nat} {g : PgR} {R : McR} {s : McA} (h : HM w0 w own ma g R s) :
    Calls Tryd.prog 20 #[.pointer (some ⟨ma, 0, none⟩)] w fun e w' => (∃ a c, e = .returned (.slice a s.out.length c) ∧ IntsAt w' a s.out) ∧ Below w.heap.size w w' := by
  obtain ⟨rfl, hnil⟩ := h.is
  have ho := h.inv.out
  have e : R.abs.out = R.out := rfl
  rw [e] at ho
  exact (Output_any h.m (by omega) hnil).mono fun _ _ h => outPost_ints h

theorem HM.collect {w0 w : World} {own : Own} {ma : Nat} {g : PgR} {R : McR} {s : McA} (h : HM w0 w own ma g R s) (hp : PgOk g) :
    Calls Tryd.prog 28 #[.pointer (some ⟨ma, 0, none⟩)] w fun e w' => (∃ n : Int, e = .returned (.int .i64 n)) ∧ (∃ own' R', HM w0 w' own' ma g R' (collectA s)) ∧ Spared own w w' := by
  refine (Collect_is hp h.m h.is h.inv).mono ?_
  rintro e w' ⟨n, R', rfl, hm, his, ht⟩
  exact ⟨⟨n, rfl⟩, ⟨own, R', h.touched hm his (inv_collect h.inv) ht⟩, ht.size, ht.block⟩

theorem HM.draw {w0 w : World} {own : Own} {ma : Nat} {g : PgR} {R : McR} {s : McA} (h : HM w0 w own ma g R s) (a : Option Addr) (c : Nat) (l : List Int) (hl : NumsE w a l) (hn : s.dr.length + l.length ≤ 200) :
    Calls Tryd.prog 27 #[.pointer (some ⟨ma, 0, none⟩), .slice a l.length c] w fun e w' => e = .returned (.int .i64 0) ∧ ∃ own' R', HM w0 w' own' ma g R' { s with dr := s.dr ++ l } := by
  refine (Draw_is h.m h.is a c l hl hn).mono ?_
  rintro e w' ⟨own', R', rfl, hm, his, ht⟩
  have hi := h.inv
  exact ⟨rfl, own', R', h.touched hm his ⟨hi.run, hi.frs, hi.depth, hi.vals, hi.obs, hi.cap, hi.out, by simpa using hn⟩ ht⟩

theorem NumsE.later {w W : World} {a : Option Addr} {l : List Int} (h : NumsE w a l) (hB : Below w.heap.size w W) : NumsE W a l := fun h0 => by
  obtain ⟨b, o, e, hb, hc⟩ := h h0
  exact ⟨b, o, e, Nat.lt_of_lt_of_le hb hB.size, fun i x hx => (hB.cell (p := ⟨b, o + i, none⟩) hb).trans (hc i x hx)⟩

theorem Spared.cell {own : Own} {w w' : World} (h : Spared own w w') {b i : Nat} {v : Value} (hb : b < w.heap.size) (ho : own b = none) (hc : w.cell? ⟨b, i, none⟩ = some v) : w'.cell? ⟨b, i, none⟩ = some v := by
  rw [World.cell?_of_block (w := w) (a := ⟨b, i, none⟩) (h.2 b hb ho)]; exact hc

theorem Is.of_begun {g g' : PgR} {cap : Nat} {R : McR} (hb : Begun g cap R) (l : Nat) (hl : (g.f 0).l = l) : Is g' ⟨0, [], [⟨0, 0, List.replicate l (0, 0), []⟩], List.replicate cap (0, []), []⟩ R := by
  have := begun_is hb
  rw [hl, Int.toNat_natCast] at this
  exact ⟨this.1, this.2⟩

theorem inv_of_begun {g : PgR} (hp : PgOk g) {cap : Nat} (h1 : 1 ≤ cap) (h40 : cap ≤ 40) (l : Nat) (hl : (g.f 0).l = l) : InvA g ⟨0, [], [⟨0, 0, List.replicate l (0, 0), []⟩], List.replicate cap (0, []), []⟩ := by
  have := inv_begin hp h1 h40
  rw [hl, Int.toNat_natCast] at this
  exact this

end Go.Proofs.YtbkmgoffiigdbaaDoor
