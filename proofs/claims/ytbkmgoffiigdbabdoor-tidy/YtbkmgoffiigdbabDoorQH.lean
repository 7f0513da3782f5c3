import Derived.Test.YtbkmgoffiigdbabDoorPU
namespace Go.Proofs.YtbkmgoffiigdbabDoor
open Go.RowKit Go.Sort

/-! PLAIN: a record, and a weak object that refers to it (Holds). -/

def HFlat (obs : List Ob) : Prop := ∀ (j : Nat) (o : Ob), obs[j]? = some o → o.1 = 3 ∨ ∀ u : Val, u ∈ o.2 → u.1 ≠ 2

theorem meetA_flat : ∀ (l : List Val) (met : List Nat), (∀ u : Val, u ∈ l → u.1 ≠ 2) → meetA met l = met
  | [], _, _ => rfl
  | v :: l, met, h => by
    rw [meetA, if_neg fun hc => h v (by simp) hc.1]
    exact meetA_flat l met fun u hu => h u (by simp [hu])

theorem walkA_flat {obs : List Ob} (h : HFlat obs) : ∀ (n i : Nat) (met : List Nat), walkA obs n i met = met
  | 0, _, _ => rfl
  | n + 1, i, met => by
    rw [walkA]
    cases hi : met[i]? with
    | none => rfl
    | some j =>
      cases ho : obs[j]? with
      | none => simp only [ho]
      | some o =>
        simp only [ho]
        have e : (if o.1 = 3 then met else meetA met o.2) = met := by
          split
          · rfl
          · rename_i h3
            exact meetA_flat _ _ ((h j o ho).resolve_left h3)
        rw [e]
        exact walkA_flat h n _ met

theorem aliveA_flat {s : McA} (h : HFlat s.obs) (j : Nat) : j ∈ aliveA s ↔ ∃ v, v ∈ valuesA s.frs ∧ v.1 = 2 ∧ v.2.toNat = j := by
  unfold aliveA reachedA
  rw [walkA_flat h, meetA_mem]
  simp

def hRef (a : Nat) : Val := (2, (a : Int))
def hKeep (held : Bool) (a : Nat) : Val := if held then hRef a else (0, 0)

/-- The record alone. -/
structure H1 (a : Nat) (obs : List Ob) : Prop where
  it : obs[a]? = some (1, [])
  others : ∀ (j : Nat) (o : Ob), j ≠ a → obs[j]? = some o → o = (0, [])

/-- The record and the weak object. -/
structure H2 (held : Bool) (a b : Nat) (obs : List Ob) : Prop where
  ne : a ≠ b
  weak : (obs[b]? = some (3, [hRef a]) ∧ obs[a]? = some (1, [])) ∨ (held = false ∧ obs[b]? = some (3, [(0, 0)]))
  others : ∀ (j : Nat) (o : Ob), j ≠ b → obs[j]? = some o → o.1 ≠ 3 ∧ ∀ u : Val, u ∈ o.2 → u.1 ≠ 2

theorem H1.flat {a : Nat} {obs : List Ob} (h : H1 a obs) : HFlat obs := fun j o ho => by
  right
  by_cases e : j = a
  · subst e
    rw [h.it] at ho; cases ho; simp
  · rw [h.others j o e ho]; simp
theorem H2.at_b {held : Bool} {a b : Nat} {obs : List Ob} (h : H2 held a b obs) : ∃ v, obs[b]? = some (3, [v]) := by
  rcases h.weak with h | h
  · exact ⟨_, h.1⟩
  · exact ⟨_, h.2⟩
theorem H2.flat {held : Bool} {a b : Nat} {obs : List Ob} (h : H2 held a b obs) : HFlat obs := fun j o ho => by
  by_cases e : j = b
  · subst e
    obtain ⟨v, hv⟩ := h.at_b
    rw [hv] at ho; cases ho; exact Or.inl rfl
  · exact Or.inr (h.others j o e ho).2

theorem hforget1_other {all : List Ob} {o : Ob} (h : o.1 ≠ 3) : forget1 all o = o := by
  unfold forget1
  rw [if_neg fun hc => h hc.1]

theorem H1.collect {a : Nat} {s : McA} (h : H1 a s.obs) (hr : hRef a ∈ valuesA s.frs) : H1 a (collectA s).obs := by
  have ha : a ∈ aliveA s := (aliveA_flat h.flat a).2 ⟨_, hr, rfl, by simp [hRef]⟩
  refine ⟨?_, fun j o hj ho => ?_⟩
  · show (sweepA s.obs (aliveA s))[a]? = _
    rw [sweepA_get, h.it, Option.map_some, if_pos ha, hforget1_other (by decide)]
  · change (sweepA s.obs (aliveA s))[j]? = _ at ho
    rw [sweepA_get] at ho
    cases hx : s.obs[j]? with
    | none => rw [hx] at ho; cases ho
    | some x =>
      rw [hx, Option.map_some] at ho
      have hx0 := h.others j x hj hx
      subst hx0
      have e : (if j ∈ aliveA s then ((0, []) : Ob) else (0, [])) = (0, []) := by split <;> rfl
      rw [e, hforget1_other (by decide)] at ho
      exact (Option.some.inj ho).symm

theorem H2.collect {held : Bool} {a b : Nat} {s : McA} (h : H2 held a b s.obs) (hb : hRef b ∈ valuesA s.frs) (ha : held = true → hRef a ∈ valuesA s.frs) : H2 held a b (collectA s).obs := by
  have hb' : b ∈ aliveA s := (aliveA_flat h.flat b).2 ⟨_, hb, rfl, by simp [hRef]⟩
  refine ⟨h.ne, ?_, fun j o hj ho => ?_⟩
  · show ((sweepA s.obs (aliveA s))[b]? = _ ∧ (sweepA s.obs (aliveA s))[a]? = _) ∨ (_ ∧ (sweepA s.obs (aliveA s))[b]? = _)
    rw [sweepA_get, sweepA_get]
    rcases h.weak with ⟨h1, h2⟩ | ⟨h1, h2⟩
    · by_cases hal : a ∈ aliveA s
      · left
        rw [h1, h2, Option.map_some, Option.map_some, if_pos hb', if_pos hal, hforget1_other (o := (1, [])) (by decide)]
        refine ⟨?_, rfl⟩
        unfold forget1
        rw [if_neg]
        rintro ⟨_, hl⟩
        have e : (hRef a).2.toNat = a := by simp [hRef]
        simp only [List.headD_cons, lost, e, sweep1_get, h2, Option.map_some, if_pos hal] at hl
        simp [hRef] at hl
      · right
        have hh : held = false := by
          cases held with
          | false => rfl
          | true => exact absurd ((aliveA_flat h.flat a).2 ⟨_, ha rfl, rfl, by simp [hRef]⟩) hal
        refine ⟨hh, ?_⟩
        rw [h1, Option.map_some, if_pos hb']
        unfold forget1
        rw [if_pos]
        · rfl
        · refine ⟨rfl, ?_⟩
          have e : (hRef a).2.toNat = a := by simp [hRef]
          simp only [List.headD_cons, lost, e, sweep1_get, h2, Option.map_some, if_neg hal]
          simp
    · right
      refine ⟨h1, ?_⟩
      rw [h2, Option.map_some, if_pos hb']
      unfold forget1
      split <;> rfl
  · change (sweepA s.obs (aliveA s))[j]? = _ at ho
    rw [sweepA_get] at ho
    cases hx : s.obs[j]? with
    | none => rw [hx] at ho; cases ho
    | some x =>
      rw [hx, Option.map_some] at ho
      have hx0 := h.others j x hj hx
      by_cases hm : j ∈ aliveA s
      · rw [if_pos hm, hforget1_other hx0.1] at ho
        cases ho
        exact hx0
      · rw [if_neg hm, hforget1_other (by decide)] at ho
        cases ho
        simp

/-- A free slot: it is not full. -/
theorem hnot_full {obs : List Ob} {j : Nat} {o : Ob} (ho : obs[j]? = some o) (h0 : o.1 = 0) : takenA obs ≠ obs.length := by
  intro h
  unfold takenA at h
  have := (List.length_filter_eq_length_iff.1 h) o (List.mem_of_getElem? ho)
  simp [h0] at this

theorem third (a b n : Nat) (h : 3 ≤ n) : ∃ j, j < n ∧ j ≠ a ∧ j ≠ b := by
  by_cases h0 : 0 ≠ a ∧ 0 ≠ b
  · exact ⟨0, by omega, h0.1, h0.2⟩
  by_cases h1 : 1 ≠ a ∧ 1 ≠ b
  · exact ⟨1, by omega, h1.1, h1.2⟩
  exact ⟨2, by omega, by omega, by omega⟩

/-- Behind tidying up there is room. -/
theorem H2.room {held : Bool} {a b : Nat} {s : McA} (h : H2 held a b s.obs) (h3 : 3 ≤ s.obs.length) (hv : ∀ v, v ∈ valuesA s.frs → v.1 = 2 → v.2.toNat = a ∨ v.2.toNat = b) : takenA (collectA s).obs ≠ (collectA s).obs.length := by
  obtain ⟨j, hj, hja, hjb⟩ := third a b _ h3
  have hm : j ∉ aliveA s := fun hc => by
    obtain ⟨v, h1, h2, h3⟩ := (aliveA_flat h.flat j).1 hc
    rcases hv v h1 h2 with e | e <;> omega
  refine hnot_full (j := j) (o := (0, [])) ?_ rfl
  show (sweepA s.obs (aliveA s))[j]? = _
  rw [sweepA_get, List.getElem?_eq_getElem hj, Option.map_some, if_neg hm, hforget1_other (by decide)]

theorem hset_get {obs : List Ob} {j i : Nat} {p o : Ob} (h : (obs.set j p)[i]? = some o) (hij : i ≠ j) : obs[i]? = some o := by
  rw [List.getElem?_set_ne (by omega)] at h; exact h

/-- A record more. -/
theorem H2.laid {held : Bool} {a b j : Nat} {obs : List Ob} (h : H2 held a b obs) {x : Ob} (hx : obs[j]? = some x) (h0 : x.1 = 0) : H2 held a b (obs.set j (1, [(0, 0)])) := by
  have hjb : j ≠ b := by
    rintro rfl
    obtain ⟨v, hv⟩ := h.at_b
    rw [hv] at hx; cases hx; simp at h0
  refine ⟨h.ne, ?_, fun i o hi ho => ?_⟩
  · rw [List.getElem?_set_ne hjb]
    rcases h.weak with ⟨h1, h2⟩ | h1
    · have hja : j ≠ a := by
        rintro rfl
        rw [h2] at hx; cases hx; simp at h0
      rw [List.getElem?_set_ne hja]
      exact Or.inl ⟨h1, h2⟩
    · exact Or.inr h1
  · by_cases e : i = j
    · subst e
      rw [List.getElem?_set_self (List.getElem?_eq_some_iff.1 hx).1] at ho
      cases ho
      simp
    · exact h.others i o hi (hset_get ho e)

/-- The weak object comes. -/
theorem H1.weak {held : Bool} {a j : Nat} {obs : List Ob} (h : H1 a obs) {x : Ob} (hx : obs[j]? = some x) (h0 : x.1 = 0) : H2 held a j (obs.set j (3, [hRef a])) := by
  have hja : j ≠ a := by
    rintro rfl
    rw [h.it] at hx; cases hx; simp at h0
  refine ⟨hja.symm, Or.inl ⟨?_, ?_⟩, fun i o hi ho => ?_⟩
  · rw [List.getElem?_set_self (List.getElem?_eq_some_iff.1 hx).1]
  · rw [List.getElem?_set_ne hja]; exact h.it
  · have ho' := hset_get ho hi
    by_cases e : i = a
    · subst e
      rw [h.it] at ho'; cases ho'; simp
    · rw [h.others i o e ho']; simp

end Go.Proofs.YtbkmgoffiigdbabDoor
