import Derived.Test.YtbkmgoffiigdbabDoorQH
namespace Go.Proofs.YtbkmgoffiigdbabDoor
open Go.RowKit Go.Sort

/-! PLAIN: the run of that program, step by step. -/

def holdOp (held : Bool) : List Int := [16, if held then 4 else 1, 3, 18, 3, 16, 5, 2, 24, 25, 26, 12]
def holdAr : List Int := [0, 0, 1, 0, 0, 1, 0, 0, 0, 0, 0, 5]

structure IsHold (held : Bool) (g : PgR) : Prop where
  op : ∀ i, i < 12 → (g.f 0).op i = (holdOp held).getD i 0
  ar : ∀ i, i < 12 → (g.f 0).ar i = holdAr.getD i 0

/-- Where it stands. -/
def HPhase (held : Bool) (obs : List Ob) (loc stk : List Val) : Nat → Prop
  | 0 => loc = [(0, 0), (0, 0)] ∧ stk = [] ∧ ∀ (j : Nat) (o : Ob), obs[j]? = some o → o = (0, [])
  | 1 => ∃ a, loc = [(0, 0), (0, 0)] ∧ stk = [hRef a] ∧ H1 a obs
  | 2 => ∃ a, loc = [(0, 0), (0, 0)] ∧ stk = [hRef a, hKeep held a] ∧ H1 a obs
  | 3 => ∃ a, loc = [(0, 0), hKeep held a] ∧ stk = [hRef a] ∧ H1 a obs
  | 4 => ∃ a b, loc = [(0, 0), hKeep held a] ∧ stk = [hRef b] ∧ H2 held a b obs
  | 5 => ∃ a b, loc = [hRef b, hKeep held a] ∧ stk = [] ∧ H2 held a b obs
  | 6 => ∃ a b c, loc = [hRef b, hKeep held a] ∧ stk = [hRef c] ∧ H2 held a b obs
  | 7 => ∃ a b, loc = [hRef b, hKeep held a] ∧ stk = [] ∧ H2 held a b obs
  | 8 => ∃ a b, loc = [hRef b, hKeep held a] ∧ stk = [hRef b] ∧ H2 held a b obs
  | 9 => ∃ a b, loc = [hRef b, hKeep held a] ∧ stk = [hKeep held a] ∧ H2 held a b obs
  | 10 => ∃ a b, loc = [hRef b, hKeep held a] ∧ stk = [(1, truthI held)] ∧ H2 held a b obs
  | 11 => ∃ a b, loc = [hRef b, hKeep held a] ∧ stk = [] ∧ H2 held a b obs
  | _ => False

structure HAt (held : Bool) (k pc : Nat) (s : McA) : Prop where
  st : s.st = 0
  out : s.out = List.replicate k (truthI held)
  room : 3 ≤ s.obs.length
  it : ∃ loc stk, s.frs = [⟨0, pc, loc, stk⟩] ∧ HPhase held s.obs loc stk pc

theorem hkeep_true (a : Nat) : hKeep true a = hRef a := rfl
theorem hkeep_false (a : Nat) : hKeep false a = (0, 0) := rfl

theorem values_one (fn pc : Nat) (loc stk : List Val) : valuesA [⟨fn, pc, loc, stk⟩] = loc ++ stk := by simp [valuesA]

theorem HAt.collect {held : Bool} {k pc : Nat} {s : McA} (h : HAt held k pc s) : HAt held k pc (collectA s) := by
  obtain ⟨loc, stk, hf, hp⟩ := h.it
  refine ⟨h.st, h.out, by show 3 ≤ (sweepA _ _).length; rw [sweepA_len]; exact h.room, loc, stk, hf, ?_⟩
  have h2 : ∀ {a b : Nat}, H2 held a b s.obs → hRef b ∈ loc ++ stk → hKeep held a ∈ loc ++ stk → H2 held a b (collectA s).obs := fun {a b} h2 hb ha =>
    h2.collect (by rw [hf, values_one]; exact hb) fun e => by rw [hf, values_one]; rw [e] at ha; exact ha
  have h1 : ∀ {a : Nat}, H1 a s.obs → hRef a ∈ loc ++ stk → H1 a (collectA s).obs := fun {a} h1 ha => h1.collect (by rw [hf, values_one]; exact ha)
  match pc, hp with
  | 0, ⟨e1, e2, e3⟩ =>
    refine ⟨e1, e2, fun j o ho => ?_⟩
    change (sweepA s.obs (aliveA s))[j]? = _ at ho
    rw [sweepA_get] at ho
    cases hx : s.obs[j]? with
    | none => rw [hx] at ho; cases ho
    | some x =>
      rw [hx, Option.map_some, e3 j x hx] at ho
      have e : (if j ∈ aliveA s then ((0, []) : Ob) else (0, [])) = (0, []) := by split <;> rfl
      rw [e, hforget1_other (by decide)] at ho
      exact (Option.some.inj ho).symm
  | 1, ⟨a, e1, e2, e3⟩ => exact ⟨a, e1, e2, h1 e3 (by rw [e1, e2]; simp)⟩
  | 2, ⟨a, e1, e2, e3⟩ => exact ⟨a, e1, e2, h1 e3 (by rw [e1, e2]; simp)⟩
  | 3, ⟨a, e1, e2, e3⟩ => exact ⟨a, e1, e2, h1 e3 (by rw [e1, e2]; simp)⟩
  | 4, ⟨a, b, e1, e2, e3⟩ => exact ⟨a, b, e1, e2, h2 e3 (by rw [e1, e2]; simp) (by rw [e1, e2]; simp)⟩
  | 5, ⟨a, b, e1, e2, e3⟩ => exact ⟨a, b, e1, e2, h2 e3 (by rw [e1, e2]; simp) (by rw [e1, e2]; simp)⟩
  | 6, ⟨a, b, c, e1, e2, e3⟩ => exact ⟨a, b, c, e1, e2, h2 e3 (by rw [e1, e2]; simp) (by rw [e1, e2]; simp)⟩
  | 7, ⟨a, b, e1, e2, e3⟩ => exact ⟨a, b, e1, e2, h2 e3 (by rw [e1, e2]; simp) (by rw [e1, e2]; simp)⟩
  | 8, ⟨a, b, e1, e2, e3⟩ => exact ⟨a, b, e1, e2, h2 e3 (by rw [e1, e2]; simp) (by rw [e1, e2]; simp)⟩
  | 9, ⟨a, b, e1, e2, e3⟩ => exact ⟨a, b, e1, e2, h2 e3 (by rw [e1, e2]; simp) (by rw [e1, e2]; simp)⟩
  | 10, ⟨a, b, e1, e2, e3⟩ => exact ⟨a, b, e1, e2, h2 e3 (by rw [e1, e2]; simp) (by rw [e1, e2]; simp)⟩
  | 11, ⟨a, b, e1, e2, e3⟩ => exact ⟨a, b, e1, e2, h2 e3 (by rw [e1, e2]; simp) (by rw [e1, e2]; simp)⟩

/-- A step, its operation known. -/
theorem hstep {held : Bool} {g : PgR} (hg : IsHold held g) {s : McA} {pc : Nat} {loc stk : List Val} (hf : s.frs = [⟨0, pc, loc, stk⟩]) (hpc : pc < 12) (h14 : (holdOp held).getD pc 0 ≠ 14) :
    stepA g s = doA g ((holdOp held).getD pc 0).toNat (holdAr.getD pc 0) s [] ⟨0, pc, loc, stk⟩ (stk.take (stk.length - (popD ((holdOp held).getD pc 0) 0).toNat)) (stk.drop (stk.length - (popD ((holdOp held).getD pc 0) 0).toNat)) := by
  have e : ∀ q, popD ((holdOp held).getD pc 0) q = popD ((holdOp held).getD pc 0) 0 := fun q => by unfold popD; simp only [if_neg h14]
  unfold stepA
  rw [hf]
  simp only [List.getLast?_singleton, List.dropLast_singleton, hg.op pc hpc, hg.ar pc hpc]
  rw [e]

/-- What comes of laying an object where there is room. -/
theorem hnewA_room {s : McA} {fs : List FrA} {f : FrA} {rest : List Val} {kind : Int} {fl : List Val} (hpos : 0 < s.obs.length) (hr : takenA (roomA s).obs ≠ (roomA s).obs.length) :
    ∃ (j : Nat) (ds : List Int) (x : Ob), (roomA s).obs[j]? = some x ∧ x.1 = 0 ∧ newA s fs f rest kind fl = ⟨0, s.out, fs ++ [⟨f.fn, f.pc + 1, f.loc, rest ++ [hRef j]⟩], (roomA s).obs.set j (kind, fl), ds⟩ := by
  have hl : (roomA s).obs.length = s.obs.length := by unfold roomA; split <;> simp [collectA, sweepA_len]
  obtain ⟨j, hj⟩ := pickA_some (dr := s.dr) (by omega) hr
  obtain ⟨⟨x, hx, h0⟩, _⟩ := pickA_free hj
  refine ⟨j.1, j.2, x, hx, h0, ?_⟩
  unfold newA
  rw [if_neg hr, hj]
  rfl

theorem hroomA_free {s : McA} {j : Nat} {o : Ob} (ho : s.obs[j]? = some o) (h0 : o.1 = 0) : roomA s = s ∧ takenA (roomA s).obs ≠ (roomA s).obs.length := by
  have h := hnot_full ho h0
  have e : roomA s = s := by unfold roomA; rw [if_neg h]
  exact ⟨e, by rw [e]; exact h⟩

theorem hroomA_len (s : McA) : (roomA s).obs.length = s.obs.length := by unfold roomA; split <;> simp [collectA, sweepA_len]

/-- It ends: so much is put out. -/
structure HEnd (held : Bool) (s : McA) : Prop where
  st : s.st = 7
  out : s.out = List.replicate 40 (truthI held)

theorem HEnd.collect {held : Bool} {s : McA} (h : HEnd held s) : HEnd held (collectA s) := ⟨h.st, h.out⟩

def hNext (pc : Nat) : Nat := if pc = 11 then 5 else pc + 1
def hOut (k pc : Nat) : Nat := if pc = 10 then k + 1 else k

set_option maxHeartbeats 1000000 in
theorem HAt.step {held : Bool} {g : PgR} (hg : IsHold held g) {k pc : Nat} {s : McA} (h : HAt held k pc s) (hk : k ≤ 40) :
    HAt held (hOut k pc) (hNext pc) (stepA g s) ∧ (pc = 10 → k < 40) ∨ (k = 40 ∧ pc = 10 ∧ HEnd held (stepA g s)) := by
  obtain ⟨loc, stk, hf, hp⟩ := h.it
  have hpos : 0 < s.obs.length := by have := h.room; omega
  match pc, hp with
  | 0, ⟨e1, e2, e3⟩ =>
    left
    refine ⟨?_, by simp⟩
    subst e1 e2
    obtain ⟨hr, hr'⟩ := hroomA_free (s := s) (List.getElem?_eq_getElem hpos) (by rw [e3 0 _ (List.getElem?_eq_getElem hpos)])
    obtain ⟨j, ds, x, hx, h0, e⟩ := hnewA_room (fs := []) (f := ⟨0, 0, [(0, 0), (0, 0)], []⟩) (rest := []) (kind := 1) (fl := []) hpos hr'
    rw [hr] at hx e
    have e' : stepA g s = newA s [] ⟨0, 0, [(0, 0), (0, 0)], []⟩ [] 1 [] := by rw [hstep hg hf (by decide) (by simp [holdOp])]; rfl
    rw [e', e]
    refine ⟨rfl, h.out, by simpa using h.room, _, _, rfl, j, rfl, rfl, ⟨by rw [List.getElem?_set_self (List.getElem?_eq_some_iff.1 hx).1], fun i o hi ho => e3 i o (hset_get ho hi)⟩⟩
  | 1, ⟨a, e1, e2, e3⟩ =>
    left
    refine ⟨?_, by simp⟩
    subst e1 e2
    rw [hstep hg hf (by decide) (by cases held <;> simp [holdOp])]
    cases held
    · exact ⟨rfl, h.out, h.room, _, _, rfl, a, rfl, rfl, e3⟩
    · exact ⟨rfl, h.out, h.room, _, _, rfl, a, rfl, rfl, e3⟩
  | 2, ⟨a, e1, e2, e3⟩ =>
    left
    refine ⟨?_, by simp⟩
    subst e1 e2
    rw [hstep hg hf (by decide) (by simp [holdOp])]
    exact ⟨rfl, h.out, h.room, _, _, rfl, a, rfl, rfl, e3⟩
  | 3, ⟨a, e1, e2, e3⟩ =>
    left
    refine ⟨?_, by simp⟩
    subst e1 e2
    obtain ⟨j0, hj0, hja, _⟩ := third a a _ h.room
    obtain ⟨hr, hr'⟩ := hroomA_free (s := s) (List.getElem?_eq_getElem hj0) (by rw [e3.others j0 _ hja (List.getElem?_eq_getElem hj0)])
    obtain ⟨j, ds, x, hx, h0, e⟩ := hnewA_room (fs := []) (f := ⟨0, 3, [(0, 0), hKeep held a], [hRef a]⟩) (rest := []) (kind := 3) (fl := [hRef a]) hpos hr'
    rw [hr] at hx e
    have e' : stepA g s = newA s [] ⟨0, 3, [(0, 0), hKeep held a], [hRef a]⟩ [] 3 [hRef a] := by rw [hstep hg hf (by decide) (by simp [holdOp])]; rfl
    rw [e', e]
    exact ⟨rfl, h.out, by simpa using h.room, _, _, rfl, a, j, rfl, rfl, e3.weak hx h0⟩
  | 4, ⟨a, b, e1, e2, e3⟩ =>
    left
    refine ⟨?_, by simp⟩
    subst e1 e2
    rw [hstep hg hf (by decide) (by simp [holdOp])]
    exact ⟨rfl, h.out, h.room, _, _, rfl, a, b, rfl, rfl, e3⟩
  | 5, ⟨a, b, e1, e2, e3⟩ =>
    left
    refine ⟨?_, by simp⟩
    subst e1 e2
    have hv : ∀ v, v ∈ valuesA s.frs → v.1 = 2 → v.2.toNat = a ∨ v.2.toNat = b := fun v hv h2 => by
      rw [hf, values_one] at hv
      simp only [List.append_nil, List.mem_cons, List.not_mem_nil, or_false] at hv
      rcases hv with rfl | rfl
      · right; simp [hRef]
      · cases held
        · simp [hKeep] at h2
        · left; simp [hKeep, hRef]
    have hH : H2 held a b (roomA s).obs ∧ takenA (roomA s).obs ≠ (roomA s).obs.length := by
      unfold roomA
      split
      · exact ⟨e3.collect (by rw [hf, values_one]; simp) (fun e => by rw [hf, values_one, e]; simp [hKeep]), e3.room h.room hv⟩
      · rename_i hn
        exact ⟨e3, hn⟩
    obtain ⟨j, ds, x, hx, h0, e⟩ := hnewA_room (fs := []) (f := ⟨0, 5, [hRef b, hKeep held a], []⟩) (rest := []) (kind := 1) (fl := [(0, 0)]) hpos hH.2
    have e' : stepA g s = newA s [] ⟨0, 5, [hRef b, hKeep held a], []⟩ [] 1 [(0, 0)] := by rw [hstep hg hf (by decide) (by simp [holdOp])]; rfl
    rw [e', e]
    exact ⟨rfl, h.out, by simpa [hroomA_len] using h.room, _, _, rfl, a, b, j, rfl, rfl, hH.1.laid hx h0⟩
  | 6, ⟨a, b, c, e1, e2, e3⟩ =>
    left
    refine ⟨?_, by simp⟩
    subst e1 e2
    rw [hstep hg hf (by decide) (by simp [holdOp])]
    exact ⟨rfl, h.out, h.room, _, _, rfl, a, b, rfl, rfl, e3⟩
  | 7, ⟨a, b, e1, e2, e3⟩ =>
    left
    refine ⟨?_, by simp⟩
    subst e1 e2
    rw [hstep hg hf (by decide) (by simp [holdOp])]
    exact ⟨rfl, h.out, h.room, _, _, rfl, a, b, rfl, rfl, e3⟩
  | 8, ⟨a, b, e1, e2, e3⟩ =>
    left
    refine ⟨?_, by simp⟩
    subst e1 e2
    obtain ⟨v, hv⟩ := e3.at_b
    have hrf : referredA s.obs (hRef b) = (3, [v]) := by
      have : (hRef b).2.toNat = b := by simp [hRef]
      simp [referredA, hRef, List.getD, hv]
    have hs : strongA s v = hKeep held a := by
      have hal : ∀ j, j ∈ aliveA s ↔ _ := aliveA_flat e3.flat
      rcases e3.weak with ⟨h1, _⟩ | ⟨h1, h2⟩
      · obtain rfl : v = hRef a := by rw [hv] at h1; simpa using h1
        have ea : (hRef a).2.toNat = a := by simp [hRef]
        cases held
        · unfold strongA
          rw [if_neg]
          · rfl
          · rintro ⟨_, hm⟩
            rw [ea] at hm
            obtain ⟨u, hu, hu2, hu3⟩ := (hal a).1 hm
            rw [hf, values_one] at hu
            have hne := e3.ne
            simp [hKeep] at hu
            rcases hu with rfl | rfl | rfl
            · simp [hRef] at hu3; omega
            · simp at hu2
            · simp [hRef] at hu3; omega
        · unfold strongA
          rw [if_pos]
          · rfl
          · refine ⟨rfl, ?_⟩
            rw [ea]
            exact (hal a).2 ⟨hRef a, by rw [hf, values_one]; simp [hKeep], rfl, ea⟩
      · subst h1
        obtain rfl : v = (0, 0) := by rw [hv] at h2; simpa using h2
        rfl
    have e' : stepA g s = doA g 24 0 s [] ⟨0, 8, [hRef b, hKeep held a], [hRef b]⟩ [] [hRef b] := by rw [hstep hg hf (by decide) (by simp [holdOp])]; rfl
    rw [e']
    simp only [doA]
    rw [hrf, if_pos rfl]
    simp only [List.headD_cons, hs]
    exact ⟨rfl, h.out, h.room, _, _, rfl, a, b, rfl, rfl, e3⟩
  | 9, ⟨a, b, e1, e2, e3⟩ =>
    left
    refine ⟨?_, by simp⟩
    subst e1 e2
    rw [hstep hg hf (by decide) (by simp [holdOp])]
    cases held
    · exact ⟨rfl, h.out, h.room, _, _, rfl, a, b, rfl, rfl, e3⟩
    · exact ⟨rfl, h.out, h.room, _, _, rfl, a, b, rfl, rfl, e3⟩
  | 10, ⟨a, b, e1, e2, e3⟩ =>
    subst e1 e2
    have e' : stepA g s = doA g 26 0 s [] ⟨0, 10, [hRef b, hKeep held a], [(1, truthI held)]⟩ [] [(1, truthI held)] := by rw [hstep hg hf (by decide) (by simp [holdOp])]; rfl
    have hl : s.out.length = k := by rw [h.out]; simp
    rw [e']
    simp only [doA]
    rw [if_neg (by simp), hl]
    by_cases hk40 : 40 ≤ k
    · right
      have : k = 40 := by omega
      subst this
      rw [if_pos hk40]
      exact ⟨by simp, by simp, rfl, h.out⟩
    · left
      rw [if_neg hk40]
      refine ⟨⟨rfl, ?_, h.room, _, _, rfl, a, b, rfl, rfl, e3⟩, fun _ => by omega⟩
      show s.out ++ [_] = List.replicate (k + 1) _
      rw [h.out, List.replicate_succ']
  | 11, ⟨a, b, e1, e2, e3⟩ =>
    left
    refine ⟨?_, by simp⟩
    subst e1 e2
    rw [hstep hg hf (by decide) (by simp [holdOp])]
    exact ⟨rfl, h.out, h.room, _, _, rfl, a, b, rfl, rfl, e3⟩

end Go.Proofs.YtbkmgoffiigdbabDoor
