import Derived.Test.YtbkmgoffiigdbabGreatDoorVPa
import Derived.Test.YtbkmgoffiigdbabGreatDoorVPc
namespace Go.Proofs.YtbkmgoffiigdbabGreatDoor
open Go.RowKit Go.Sort

/-! PLAIN: what is reached is just what is led to; tidying up twice. -/

inductive Lead (obs : List Ob) (l : List Val) : Nat → Prop
  | root (v : Val) (hv : v ∈ l) (h2 : v.1 = 2) : Lead obs l v.2.toNat
  | field (j : Nat) (o : Ob) (v : Val) (hj : Lead obs l j) (ho : obs[j]? = some o) (h3 : o.1 ≠ 3) (hv : v ∈ o.2) (h2 : v.1 = 2) : Lead obs l v.2.toNat

theorem Reached.of_lead {obs : List Ob} {l : List Val} {met : List Nat} (h : Reached obs l met) {j : Nat} (hl : Lead obs l j) : j ∈ met := by
  induction hl with
  | root v hv h2 => exact h.roots v hv h2
  | field j o v _ ho h3 hv h2 ih => exact h.shut j ih o ho h3 v hv h2

theorem meetA_lead {obs : List Ob} {l k : List Val} {met : List Nat} (hm : ∀ j, j ∈ met → Lead obs l j) (hk : ∀ v, v ∈ k → v.1 = 2 → Lead obs l v.2.toNat) : ∀ j, j ∈ meetA met k → Lead obs l j := by
  intro j hj
  rcases (meetA_mem k met j).1 hj with h | ⟨v, h1, h2, rfl⟩
  · exact hm j h
  · exact hk v h1 h2

theorem walkA_lead {obs : List Ob} {l : List Val} : ∀ (n i : Nat) (met : List Nat), (∀ j, j ∈ met → Lead obs l j) → ∀ j, j ∈ walkA obs n i met → Lead obs l j
  | 0, _, _, hm => hm
  | n + 1, i, met, hm => by
    rw [walkA]
    cases hi : met[i]? with
    | none => exact hm
    | some k =>
      cases ho : obs[k]? with
      | none => simp only [ho]; exact hm
      | some o =>
        simp only [ho]
        refine walkA_lead n (i + 1) _ ?_
        by_cases h3 : o.1 = 3
        · rw [if_pos h3]; exact hm
        · rw [if_neg h3]
          exact meetA_lead hm fun v hv h2 => Lead.field k o v (hm k (List.mem_of_getElem? hi)) ho h3 hv h2

theorem reachedA_lead {obs : List Ob} {l : List Val} : ∀ j, j ∈ reachedA obs l → Lead obs l j :=
  walkA_lead _ _ _ (meetA_lead (by simp) fun v hv h2 => Lead.root v hv h2)

theorem nodup_le : ∀ {a b : List Nat}, a.Nodup → (∀ j, j ∈ a → j ∈ b) → a.length ≤ b.length
  | [], _, _, _ => Nat.zero_le _
  | x :: a, b, h, hs => by
    obtain ⟨h1, h2⟩ := List.nodup_cons.1 h
    have hx := hs x (by simp)
    have := nodup_le (b := b.erase x) h2 fun j hj => (List.mem_erase_of_ne (fun e => h1 (by rw [← e]; exact hj))).2 (hs j (by simp [hj]))
    have hp := List.length_pos_of_mem hx
    rw [List.length_erase_of_mem hx] at this
    simp only [List.length_cons]
    omega

theorem nodup_same {a b : List Nat} (ha : a.Nodup) (hb : b.Nodup) (h : ∀ j, j ∈ a ↔ j ∈ b) : a.length = b.length :=
  Nat.le_antisymm (nodup_le ha fun j hj => (h j).1 hj) (nodup_le hb fun j hj => (h j).2 hj)

/-- Two lists that are reached are as long as one another. -/
theorem Reached.same {obs : List Ob} {l : List Val} {a b : List Nat} (ha : Reached obs l a) (hb : Reached obs l b) (hla : ∀ j, j ∈ a → Lead obs l j) (hlb : ∀ j, j ∈ b → Lead obs l j) : a.length = b.length :=
  nodup_same ha.nodup hb.nodup fun _ => ⟨fun h => hb.of_lead (hla _ h), fun h => ha.of_lead (hlb _ h)⟩

theorem takenA_range (obs : List Ob) : takenA obs = ((List.range obs.length).filter fun j => ((obs[j]?).map fun o => o.1 != 0).getD false).length := by
  unfold takenA
  induction obs with
  | nil => rfl
  | cons o l ih =>
    rw [List.length_cons, List.range_succ_eq_map, List.filter_cons, List.filter_cons, List.filter_map, List.getElem?_cons_zero]
    have e : ((fun j => (((o :: l)[j]?).map fun o => o.1 != 0).getD false) ∘ Nat.succ) = fun j => ((l[j]?).map fun o => o.1 != 0).getD false := by funext j; simp
    rw [e]
    cases h : (o.1 != 0) <;> simp [h, ih]

theorem alive_nonfree {g : PgR} {s : McA} (h : InvA g s) {j : Nat} (hj : j ∈ aliveA s) : ∃ o, s.obs[j]? = some o ∧ o.1 ≠ 0 := by
  have := reachedA_lead j hj
  cases this with
  | root v hv h2 =>
    obtain ⟨f, hf, hv⟩ := mem_valuesA.1 hv
    exact ((h.vals f hf v hv).ref h2).2
  | field k o v _ ho h3 hv h2 => exact (((h.obs o (List.mem_of_getElem? ho)).vals hv).ref h2).2

theorem taken_collect {g : PgR} {s : McA} (h : InvA g s) : takenA (collectA s).obs = (aliveA s).length := by
  rw [takenA_range]
  refine nodup_same (List.nodup_range.filter _) h.alive.nodup fun j => ?_
  rw [List.mem_filter, List.mem_range]
  have e : (collectA s).obs[j]? = (s.obs[j]?).map fun o => forget1 (sweep1 s.obs (aliveA s)) (if j ∈ aliveA s then o else (0, [])) := sweepA_get _ _ _
  constructor
  · rintro ⟨_, h2⟩
    rw [e] at h2
    refine Decidable.byContradiction fun hn => ?_
    cases ho : s.obs[j]? with
    | none => rw [ho] at h2; simp at h2
    | some o => rw [ho, Option.map_some, if_neg hn] at h2; simp [forget1_kind] at h2
  · intro hj
    obtain ⟨o, ho, hne⟩ := alive_nonfree h hj
    have hl := (List.getElem?_eq_some_iff.1 ho).1
    refine ⟨by show j < (sweepA _ _).length; rw [sweepA_len]; exact hl, ?_⟩
    rw [e, ho, Option.map_some, if_pos hj]
    simp [forget1_kind, hne]

theorem lead_collect {g : PgR} {s : McA} (h : InvA g s) (j : Nat) : Lead (collectA s).obs (valuesA s.frs) j ↔ Lead s.obs (valuesA s.frs) j := by
  have e : ∀ j, (collectA s).obs[j]? = (s.obs[j]?).map fun o => forget1 (sweep1 s.obs (aliveA s)) (if j ∈ aliveA s then o else (0, [])) := fun j => sweepA_get _ _ _
  have keep : ∀ {o : Ob}, o.1 ≠ 3 → forget1 (sweep1 s.obs (aliveA s)) o = o := fun h3 => by unfold forget1; rw [if_neg (fun hc => h3 hc.1)]
  constructor
  · intro hl
    induction hl with
    | root v hv h2 => exact Lead.root v hv h2
    | field k o v _ ho h3 hv h2 ih =>
      rw [e] at ho
      obtain ⟨p, hp, rfl⟩ := Option.map_eq_some_iff.1 ho
      rw [if_pos (h.alive.of_lead ih)] at h3 hv
      rw [forget1_kind] at h3
      rw [keep h3] at hv
      exact Lead.field k p v ih hp h3 hv h2
  · intro hl
    induction hl with
    | root v hv h2 => exact Lead.root v hv h2
    | field k o v hk ho h3 hv h2 ih =>
      refine Lead.field k o v ih ?_ h3 hv h2
      rw [e, ho, Option.map_some, if_pos (h.alive.of_lead hk), keep h3]

theorem alive_collect {g : PgR} {s : McA} (h : InvA g s) : (aliveA (collectA s)).length = (aliveA s).length := by
  have h2 := inv_collect h
  exact nodup_same h2.alive.nodup h.alive.nodup fun j => ⟨fun hj => h.alive.of_lead ((lead_collect h j).1 (reachedA_lead j hj)), fun hj => h2.alive.of_lead ((lead_collect h j).2 (reachedA_lead j hj))⟩

/-- Values that stand in a row; those behind the first ones have been looked at. -/
structure Queue (obs : List Ob) (l : List Val) (i : Nat) (met : List Nat) (q : List Val) : Prop where
  nodup : met.Nodup
  lt : ∀ j, j ∈ met → j < obs.length
  lead : ∀ j, j ∈ met → Lead obs l j
  qlead : ∀ v, v ∈ q → v.1 = 2 → Lead obs l v.2.toNat
  pre : ∀ v, v ∈ l → v ∈ q
  done : ∀ k v, k < i → q[k]? = some v → v.1 = 2 → v.2.toNat ∈ met
  fields : ∀ j, j ∈ met → ∀ o, obs[j]? = some o → o.1 ≠ 3 → ∀ v, v ∈ o.2 → v ∈ q
  len : q.length ≤ l.length + met.length * 12

theorem Queue.begin (obs : List Ob) (l : List Val) : Queue obs l 0 [] l :=
  ⟨List.nodup_nil, by simp, by simp, fun v hv h2 => Lead.root v hv h2, fun _ h => h, fun k v hk => by omega, by simp, by simp⟩

theorem Queue.skip {obs : List Ob} {l : List Val} {i : Nat} {met : List Nat} {q : List Val} (h : Queue obs l i met q) {v : Val} (hv : q[i]? = some v) (hm : v.1 = 2 → v.2.toNat ∈ met) : Queue obs l (i + 1) met q :=
  ⟨h.nodup, h.lt, h.lead, h.qlead, h.pre, fun k u hk hu h2 => by
    by_cases e : k = i
    · subst e; rw [hv] at hu; cases hu; exact hm h2
    · exact h.done k u (by omega) hu h2, h.fields, h.len⟩

theorem Queue.meet {obs : List Ob} {l : List Val} {i : Nat} {met : List Nat} {q : List Val} (h : Queue obs l i met q) {v : Val} (hv : q[i]? = some v) (h2 : v.1 = 2) (hn : v.2.toNat ∉ met) {o : Ob} (ho : obs[v.2.toNat]? = some o) (h12 : o.2.length ≤ 12) :
    Queue obs l (i + 1) (met ++ [v.2.toNat]) (q ++ if o.1 = 3 then [] else o.2) := by
  have hvq : v ∈ q := List.mem_of_getElem? hv
  have hlv := h.qlead v hvq h2
  refine ⟨?_, fun j hj => ?_, fun j hj => ?_, fun u hu hu2 => ?_, fun u hu => by simp [h.pre u hu], fun k u hk hu hu2 => ?_, fun j hj p hp h3 u hu => ?_, ?_⟩
  · rw [List.nodup_append]
    exact ⟨h.nodup, by simp, fun a ha b hb => by rw [List.mem_singleton] at hb; rintro rfl; exact hn (hb ▸ ha)⟩
  · rcases List.mem_append.1 hj with hj | hj
    · exact h.lt j hj
    · rw [List.mem_singleton] at hj; subst hj; exact (List.getElem?_eq_some_iff.1 ho).1
  · rcases List.mem_append.1 hj with hj | hj
    · exact h.lead j hj
    · rw [List.mem_singleton] at hj; subst hj; exact hlv
  · rcases List.mem_append.1 hu with hu | hu
    · exact h.qlead u hu hu2
    · split at hu
      · simp at hu
      · rename_i h3; exact Lead.field _ o u hlv ho h3 hu hu2
  · have hil := (List.getElem?_eq_some_iff.1 hv).1
    rw [List.getElem?_append_left (by omega)] at hu
    by_cases e : k = i
    · subst e; rw [hv] at hu; cases hu; simp
    · exact List.mem_append.2 (Or.inl (h.done k u (by omega) hu hu2))
  · rcases List.mem_append.1 hj with hj | hj
    · exact List.mem_append.2 (Or.inl (h.fields j hj p hp h3 u hu))
    · rw [List.mem_singleton] at hj
      subst hj
      rw [ho] at hp
      cases hp
      rw [if_neg h3]
      exact List.mem_append.2 (Or.inr hu)
  · have := h.len
    have h1 : (if o.1 = 3 then [] else o.2 : List Val).length ≤ 12 := by
      split
      · simp
      · exact h12
    simp only [List.length_append, List.length_cons, List.length_nil]
    omega

theorem Queue.whole {obs : List Ob} {l : List Val} {met : List Nat} {q : List Val} (hw : Within obs) (hl : ∀ v, v ∈ l → v.1 = 2 → v.2.toNat < obs.length) (h : Queue obs l q.length met q) : met.length = (reachedA obs l).length := by
  have inq : ∀ v, v ∈ q → v.1 = 2 → v.2.toNat ∈ met := fun v hv h2 => by
    obtain ⟨k, hk⟩ := List.mem_iff_getElem?.1 hv
    exact h.done k v (List.getElem?_eq_some_iff.1 hk).1 hk h2
  refine Reached.same ⟨h.nodup, h.lt, fun j hj o ho h3 v hv h2 => inq v (h.fields j hj o ho h3 v hv) h2, fun v hv h2 => inq v (h.pre v hv) h2⟩ (reachedA_ok hw hl) h.lead (reachedA_lead ·)

theorem room_len (s : McA) : (roomA s).obs.length = s.obs.length := by
  unfold roomA
  split
  · exact sweepA_len _ _
  · rfl
theorem new_len (s : McA) (fs : List FrA) (f : FrA) (rest : List Val) (kind : Int) (fl : List Val) : (newA s fs f rest kind fl).obs.length = s.obs.length := by
  unfold newA
  split
  · exact room_len s
  · split
    · rfl
    · rw [List.length_set, room_len]
theorem get_len (s : McA) (fs : List FrA) (f : FrA) (rest : List Val) (v : Val) (kind : Int) (ix : Val) : (getE s fs f rest v kind ix).obs.length = s.obs.length := by unfold getE; split <;> rfl
theorem set_len (s : McA) (fs : List FrA) (f : FrA) (rest : List Val) (v : Val) (kind : Int) (ix y : Val) : (setE s fs f rest v kind ix y).obs.length = s.obs.length := by
  unfold setE
  split
  · exact List.length_set
  · rfl
theorem reckon_len (s : McA) (fs : List FrA) (f : FrA) (rest : List Val) (x y : Val) (z : Int) : (reckonA s fs f rest x y z).obs.length = s.obs.length := by unfold reckonA; split <;> rfl
theorem call_len (g : PgR) (a : Int) (s : McA) (fs : List FrA) (f : FrA) (rest args : List Val) : (callA g a s fs f rest args).obs.length = s.obs.length := by unfold callA; split <;> rfl
theorem return_len (s : McA) (fs : List FrA) (x : Val) : (returnA s fs x).obs.length = s.obs.length := by unfold returnA; split <;> rfl

theorem do_len (g : PgR) (k : Nat) (a : Int) (s : McA) (fs : List FrA) (f : FrA) (rest args : List Val) : (doA g k a s fs f rest args).obs.length = s.obs.length := by
  unfold doA
  split <;> first | rfl | exact reckon_len .. | exact call_len .. | exact return_len .. | exact new_len .. | exact get_len .. | exact set_len .. | (split <;> first | rfl | exact new_len .. | (split <;> first | rfl | exact new_len ..))

theorem step_len (g : PgR) (s : McA) : (stepA g s).obs.length = s.obs.length := by
  unfold stepA
  split
  · rfl
  · exact do_len ..

theorem run_len (g : PgR) : ∀ (n : Nat) (s : McA), (runA g n s).obs.length = s.obs.length
  | 0, _ => rfl
  | n + 1, s => by
    rw [runA]
    split
    · rw [run_len g n, step_len]
    · rfl

end Go.Proofs.YtbkmgoffiigdbabGreatDoor

namespace Go.Proofs.YtbkmgoffiigdbabGreatDoor
open Go.RowKit Go.Sort

/-! PLAIN: two machines whose objects lie at different places. -/

/-- A value under other places. -/
def ren (r : Nat → Nat) (v : Val) : Val := if v.1 = 2 then (2, (r v.2.toNat : Int)) else v
def renF (r : Nat → Nat) (f : FrA) : FrA := ⟨f.fn, f.pc, f.loc.map (ren r), f.stk.map (ren r)⟩

theorem ren_kind (r : Nat → Nat) (v : Val) : (ren r v).1 = v.1 := by unfold ren; split <;> simp_all
theorem ren_ref {r : Nat → Nat} {v : Val} (h : v.1 = 2) : (ren r v).2.toNat = r v.2.toNat := by unfold ren; rw [if_pos h]; rfl
theorem ren_plain {r : Nat → Nat} {v : Val} (h : v.1 ≠ 2) : ren r v = v := by unfold ren; rw [if_neg h]
theorem valuesA_ren (r : Nat → Nat) (l : List FrA) : valuesA (l.map (renF r)) = (valuesA l).map (ren r) := by
  unfold valuesA
  rw [List.flatMap_map, List.map_flatMap]
  congr 1
  funext f
  simp [renF]

/-- Different places of a set go to different places. -/
def InjOn (r : Nat → Nat) (A : List Nat) : Prop := ∀ i j, i ∈ A → j ∈ A → r i = r j → i = j

theorem mem_map_inj {r : Nat → Nat} {A met : List Nat} (hr : InjOn r A) (hm : ∀ j, j ∈ met → j ∈ A) {j : Nat} (hj : j ∈ A) : r j ∈ met.map r ↔ j ∈ met := by
  rw [List.mem_map]
  constructor
  · rintro ⟨k, hk, e⟩
    rw [hr k j (hm k hk) hj e] at hk
    exact hk
  · intro h
    exact ⟨j, h, rfl⟩

theorem meet_map {r : Nat → Nat} {A : List Nat} (hr : InjOn r A) : ∀ (l : List Val) (met : List Nat), (∀ j, j ∈ met → j ∈ A) → (∀ v, v ∈ l → v.1 = 2 → v.2.toNat ∈ A) → meetA (met.map r) (l.map (ren r)) = (meetA met l).map r
  | [], _, _, _ => rfl
  | v :: l, met, hm, hl => by
    rw [List.map_cons, meetA, meetA]
    by_cases h2 : v.1 = 2
    · have hv := hl v (by simp) h2
      have e : (ren r v).2.toNat = r v.2.toNat := ren_ref h2
      by_cases hin : v.2.toNat ∈ met
      · rw [if_neg (fun h => h.2 (by rw [e]; exact (mem_map_inj hr hm hv).2 hin)), if_neg (fun h => h.2 hin)]
        exact meet_map hr l met hm fun u hu => hl u (by simp [hu])
      · rw [if_pos ⟨by rw [ren_kind]; exact h2, fun h => hin ((mem_map_inj hr hm hv).1 (by rw [← e]; exact h))⟩, if_pos ⟨h2, hin⟩, e]
        have := meet_map hr l (met ++ [v.2.toNat]) (fun j hj => by
          rcases List.mem_append.1 hj with hj | hj
          · exact hm j hj
          · rw [List.mem_singleton] at hj; rw [hj]; exact hv) fun u hu => hl u (by simp [hu])
        rw [List.map_append] at this
        exact this
    · rw [if_neg (fun h => h2 (by rw [← ren_kind r v]; exact h.1)), if_neg (fun h => h2 h.1)]
      exact meet_map hr l met hm fun u hu => hl u (by simp [hu])

/-- How objects lie in the other machine: those that are not weak with all their values, weak ones as weak ones. -/
def Moved (r : Nat → Nat) (A : List Nat) (obs obt : List Ob) : Prop :=
  ∀ j, j ∈ A → ∃ o p, obs[j]? = some o ∧ obt[r j]? = some p ∧ p.1 = o.1 ∧ (o.1 ≠ 3 → p.2 = o.2.map (ren r))

theorem walk_map {r : Nat → Nat} {A : List Nat} {obs obt : List Ob} (hr : InjOn r A) (hmv : Moved r A obs obt) (hs : ∀ j, j ∈ A → ShutAt obs A j) : ∀ (n i : Nat) (met : List Nat), (∀ j, j ∈ met → j ∈ A) → walkA obt n i (met.map r) = (walkA obs n i met).map r
  | 0, _, _, _ => rfl
  | n + 1, i, met, hm => by
    rw [walkA, walkA, List.getElem?_map]
    cases hi : met[i]? with
    | none => rfl
    | some j =>
      have hj := hm j (List.mem_of_getElem? hi)
      obtain ⟨o, p, ho, hp, hk, hf⟩ := hmv j hj
      simp only [Option.map_some, ho, hp]
      by_cases h3 : o.1 = 3
      · rw [if_pos h3, if_pos (by rw [hk]; exact h3)]
        exact walk_map hr hmv hs n (i + 1) met hm
      · rw [if_neg h3, if_neg (by rw [hk]; exact h3), hf h3]
        have hl : ∀ v, v ∈ o.2 → v.1 = 2 → v.2.toNat ∈ A := hs j hj o ho h3
        rw [meet_map hr o.2 met hm hl]
        refine walk_map hr hmv hs n (i + 1) _ fun k hk => ?_
        rcases (meetA_mem o.2 met k).1 hk with h | ⟨v, hv, h2, rfl⟩
        · exact hm k h
        · exact hl v hv h2

theorem reached_map {r : Nat → Nat} {obs obt : List Ob} {l : List Val} {A : List Nat} (hA : Reached obs l A) (hlen : obt.length = obs.length) (hr : InjOn r A) (hmv : Moved r A obs obt) : reachedA obt (l.map (ren r)) = (reachedA obs l).map r := by
  unfold reachedA
  have h0 : ∀ j, j ∈ meetA [] l → j ∈ A := fun j hj => by
    rcases (meetA_mem l [] j).1 hj with h | ⟨v, hv, h2, rfl⟩
    · simp at h
    · exact hA.roots v hv h2
  rw [hlen, show meetA [] (l.map (ren r)) = (meetA [] l).map r from meet_map hr l [] (by simp) hA.roots]
  exact walk_map hr hmv hA.shut _ _ _ h0

/-- What a weak object answers. -/
def WeakOk (r : Nat → Nat) (A T : List Nat) (v u : Val) : Prop := (v.1 = 2 ∧ v.2.toNat ∈ A ∧ u = ren r v) ∨ (¬ (v.1 = 2 ∧ v.2.toNat ∈ A) ∧ ¬ (u.1 = 2 ∧ u.2.toNat ∈ T))

/-- Two machines that can't be told apart. -/
structure Rel (r : Nat → Nat) (s t : McA) : Prop where
  st : t.st = s.st
  out : t.out = s.out
  cap : t.obs.length = s.obs.length
  frs : t.frs = s.frs.map (renF r)
  inj : InjOn r (aliveA s)
  moved : Moved r (aliveA s) s.obs t.obs
  weak : ∀ j o p, j ∈ aliveA s → s.obs[j]? = some o → t.obs[r j]? = some p → o.1 = 3 → WeakOk r (aliveA s) (aliveA t) (o.2.headD (0, 0)) (p.2.headD (0, 0))

theorem Rel.alive {g : PgR} {r : Nat → Nat} {s t : McA} (h : Rel r s t) (hi : InvA g s) : aliveA t = (aliveA s).map r := by
  unfold aliveA
  rw [h.frs, valuesA_ren]
  exact reached_map hi.alive h.cap h.inj h.moved

theorem Rel.len {g : PgR} {r : Nat → Nat} {s t : McA} (h : Rel r s t) (hi : InvA g s) : (aliveA t).length = (aliveA s).length := by rw [h.alive hi, List.length_map]

theorem map_eq_self {A : List Nat} : A.map id = A := by simp
theorem ren_id (v : Val) (h : v.1 = 2 → 0 ≤ v.2) : ren id v = v := by
  unfold ren
  split
  · rename_i h2
    have := h h2
    have e : ((id v.2.toNat : Nat) : Int) = v.2 := by show ((v.2.toNat : Nat) : Int) = v.2; omega
    rw [e, ← h2]
  · rfl

theorem map_ren_id {l : List Val} (h : ∀ v, v ∈ l → v.1 = 2 → 0 ≤ v.2) : l.map (ren id) = l := by
  conv => rhs; rw [← List.map_id l]
  exact List.map_congr_left fun v hv => ren_id v (h v hv)

end Go.Proofs.YtbkmgoffiigdbabGreatDoor

namespace Go.Proofs.YtbkmgoffiigdbabGreatDoor
open Go.RowKit Go.Sort

/-! PLAIN: what keeps two machines alike. -/

theorem renF_comp (q r : Nat → Nat) (f : FrA) : renF q (renF r f) = renF (fun x => q (r x)) f := by
  have e : ∀ v, ren q (ren r v) = ren (fun x => q (r x)) v := fun v => by
    by_cases h : v.1 = 2
    · unfold ren
      rw [if_pos h, if_pos rfl, if_pos h]
      rfl
    · rw [ren_plain h, ren_plain h, ren_plain h]
  simp [renF, e, Function.comp_def]
theorem ren_comp (q r : Nat → Nat) (v : Val) : ren q (ren r v) = ren (fun x => q (r x)) v := by
  by_cases h : v.1 = 2
  · unfold ren
    rw [if_pos h, if_pos rfl, if_pos h]
    rfl
  · rw [ren_plain h, ren_plain h, ren_plain h]

/-- Steps that leave the heap alone, and hand round what is there. -/
theorem Rel.go {g : PgR} {r : Nat → Nat} {s t s' t' : McA} (h : Rel r s t) (hi : InvA g s) (hs : s'.obs = s.obs) (ht : t'.obs = t.obs) (hst : t'.st = s'.st) (hout : t'.out = s'.out) (hfr : t'.frs = s'.frs.map (renF r))
    (hv : ∀ v, v ∈ valuesA s'.frs → v.1 = 2 → v.2.toNat ∈ aliveA s) : Rel r s' t' := by
  have hA' : Reached s'.obs (valuesA s'.frs) (aliveA s') := by
    refine reachedA_ok ?_ fun v hv' h2 => ?_
    · rw [hs]; exact hi.within
    · rw [hs]; exact hi.alive.lt _ (hv v hv' h2)
  have hsub : ∀ j, j ∈ aliveA s' → j ∈ aliveA s := fun j hj => by
    have hl : Lead s'.obs (valuesA s'.frs) j := reachedA_lead j hj
    rw [hs] at hl
    induction hl with
    | root v hv' h2 => exact hv v hv' h2
    | field k o v hk ho h3 hv' h2 ih =>
      have hk' : k ∈ aliveA s' := hA'.of_lead (by rw [hs]; exact hk)
      exact hi.alive.shut k (ih hk') o ho h3 v hv' h2
  have hinj : InjOn r (aliveA s') := fun i j h1 h2 => h.inj i j (hsub i h1) (hsub j h2)
  have hmv : Moved r (aliveA s') s'.obs t'.obs := fun j hj => by rw [hs, ht]; exact h.moved j (hsub j hj)
  have hal : aliveA t' = (aliveA s').map r := by
    unfold aliveA
    rw [hfr, valuesA_ren]
    exact reached_map hA' (by rw [hs, ht]; exact h.cap) hinj hmv
  have hal0 := h.alive hi
  refine ⟨hst, hout, by rw [hs, ht]; exact h.cap, hfr, hinj, hmv, fun j o p hj ho hp h3 => ?_⟩
  rw [hs] at ho
  rw [ht] at hp
  rcases h.weak j o p (hsub j hj) ho hp h3 with ⟨h1, h2, h4⟩ | ⟨h1, h2⟩
  · by_cases hin : (o.2.headD (0, 0)).2.toNat ∈ aliveA s'
    · exact Or.inl ⟨h1, hin, h4⟩
    · refine Or.inr ⟨fun e => hin e.2, fun e => hin ?_⟩
      rw [h4, ren_ref h1, hal] at e
      exact (mem_map_inj h.inj hsub h2).1 e.2
  · refine Or.inr ⟨fun e => h1 ⟨e.1, hsub _ e.2⟩, fun e => h2 ⟨e.1, ?_⟩⟩
    rw [hal] at e
    rw [hal0]
    obtain ⟨k, hk, e'⟩ := List.mem_map.1 e.2
    exact List.mem_map.2 ⟨k, hsub k hk, e'⟩

theorem Rel.trans {g : PgR} {r q : Nat → Nat} {s t u : McA} (h : Rel r s t) (k : Rel q t u) (hi : InvA g s) (_hj : InvA g t) : Rel (fun x => q (r x)) s u := by
  have hal := h.alive hi
  have hin : ∀ j, j ∈ aliveA s → r j ∈ aliveA t := fun j hj => by rw [hal]; exact List.mem_map.2 ⟨j, hj, rfl⟩
  refine ⟨k.st.trans h.st, k.out.trans h.out, k.cap.trans h.cap, ?_, fun i j h1 h2 e => h.inj i j h1 h2 (k.inj _ _ (hin i h1) (hin j h2) e), fun j hj => ?_, fun j o p hj ho hp h3 => ?_⟩
  · rw [k.frs, h.frs, List.map_map]
    exact List.map_congr_left fun f _ => renF_comp q r f
  · obtain ⟨o, p, ho, hp, hk, hf⟩ := h.moved j hj
    obtain ⟨p', x, hp', hx, hk', hf'⟩ := k.moved (r j) (hin j hj)
    rw [hp] at hp'
    cases hp'
    refine ⟨o, x, ho, hx, hk'.trans hk, fun h3 => ?_⟩
    rw [hf' (by rw [hk]; exact h3), hf h3, List.map_map]
    exact List.map_congr_left fun v _ => ren_comp q r v
  · obtain ⟨o', m, ho', hm, hk, hf⟩ := h.moved j hj
    rw [ho] at ho'
    cases ho'
    have w1 := h.weak j o m hj ho hm h3
    have w2 := k.weak (r j) m p (hin j hj) hm hp (by rw [hk]; exact h3)
    rcases w1 with ⟨a1, a2, a3⟩ | ⟨a1, a2⟩
    · rcases w2 with ⟨b1, b2, b3⟩ | ⟨b1, b2⟩
      · exact Or.inl ⟨a1, a2, by rw [b3, a3, ren_comp]⟩
      · exact absurd ⟨by rw [a3, ren_kind]; exact a1, by rw [a3, ren_ref a1]; exact hin _ a2⟩ b1
    · rcases w2 with ⟨b1, b2, b3⟩ | ⟨b1, b2⟩
      · exact absurd ⟨b1, b2⟩ a2
      · exact Or.inr ⟨a1, b2⟩

/-! Tidying up. -/

theorem inv_refs {g : PgR} {s : McA} (h : InvA g s) : ∀ v, v ∈ valuesA s.frs → v.1 = 2 → 0 ≤ v.2 := fun v hv h2 => by
  obtain ⟨f, hf, hv⟩ := mem_valuesA.1 hv
  exact ((h.vals f hf v hv).ref h2).1
theorem inv_ofields {g : PgR} {s : McA} (h : InvA g s) {j : Nat} {o : Ob} (ho : s.obs[j]? = some o) : ∀ v, v ∈ o.2 → v.1 = 2 → 0 ≤ v.2 := fun _ hv h2 => (((h.obs o (List.mem_of_getElem? ho)).vals hv).ref h2).1
theorem frs_id {g : PgR} {s : McA} (h : InvA g s) : s.frs.map (renF id) = s.frs := by
  conv => rhs; rw [← List.map_id s.frs]
  refine List.map_congr_left fun f hf => ?_
  have hv : ∀ v, v ∈ f.loc ++ f.stk → v.1 = 2 → 0 ≤ v.2 := fun v hv h2 => ((h.vals f hf v hv).ref h2).1
  show FrA.mk f.fn f.pc (f.loc.map (ren id)) (f.stk.map (ren id)) = f
  rw [map_ren_id fun v hv' => hv v (by simp [hv']), map_ren_id fun v hv' => hv v (by simp [hv'])]

theorem collect_get {s : McA} {j : Nat} {o : Ob} (ho : s.obs[j]? = some o) (hj : j ∈ aliveA s) : (collectA s).obs[j]? = some (forget1 (sweep1 s.obs (aliveA s)) o) := by
  show (sweepA s.obs (aliveA s))[j]? = _
  rw [sweepA_get, ho, Option.map_some, if_pos hj]
theorem forget1_plain {all : List Ob} {o : Ob} (h : o.1 ≠ 3) : forget1 all o = o := by unfold forget1; rw [if_neg (fun hc => h hc.1)]

theorem lost_iff {g : PgR} {s : McA} (h : InvA g s) (v : Val) : lost (sweep1 s.obs (aliveA s)) v = true ↔ ¬ (v.1 = 2 ∧ v.2.toNat ∈ aliveA s) := by
  unfold lost
  by_cases h2 : v.1 = 2
  · rw [if_pos h2, sweep1_get]
    by_cases hin : v.2.toNat ∈ aliveA s
    · obtain ⟨o, ho, hne⟩ := alive_nonfree h hin
      simp [ho, hin, hne, h2]
    · cases ho : s.obs[v.2.toNat]? with
      | none => simp [hin]
      | some o => simp [hin]
  · simp [h2]

theorem weak_head {all : List Ob} {o : Ob} (h3 : o.1 = 3) (hn : o.2 ≠ []) : (forget1 all o).2.headD (0, 0) = if lost all (o.2.headD (0, 0)) = true then (0, 0) else o.2.headD (0, 0) := by
  unfold forget1
  by_cases hl : lost all (o.2.headD (0, 0)) = true
  · rw [if_pos ⟨h3, hl⟩, if_pos hl]
    cases h : o.2 with
    | nil => exact absurd h hn
    | cons a l => simp
  · rw [if_neg (fun e => hl e.2), if_neg hl]

theorem weak_some {g : PgR} {s : McA} (h : InvA g s) {j : Nat} {o : Ob} (ho : s.obs[j]? = some o) (h3 : o.1 = 3) : o.2 ≠ [] := by
  rcases h.obs o (List.mem_of_getElem? ho) with ⟨e, _⟩ | ⟨e, _⟩ | ⟨e, _⟩ | ⟨_, u, e, _⟩
  · omega
  · omega
  · omega
  · rw [e]; simp

theorem ref_nonneg {g : PgR} {s : McA} (h : InvA g s) {j : Nat} {o : Ob} (ho : s.obs[j]? = some o) (h3 : o.1 = 3) (h2 : (o.2.headD (0, 0)).1 = 2) : 0 ≤ (o.2.headD (0, 0)).2 := by
  have hn := weak_some h ho h3
  cases e : o.2 with
  | nil => exact absurd e hn
  | cons a l =>
    rw [e] at h2
    exact inv_ofields h ho a (by rw [e]; simp) h2

theorem moved_collect {g : PgR} {s : McA} (h : InvA g s) : Moved id (aliveA s) s.obs (collectA s).obs := fun j hj => by
  obtain ⟨o, ho, _⟩ := alive_nonfree h hj
  refine ⟨o, _, ho, collect_get ho hj, forget1_kind _ _, fun h3 => ?_⟩
  rw [forget1_plain h3, map_ren_id (inv_ofields h ho)]

theorem injOn_id (A : List Nat) : InjOn id A := fun _ _ _ _ e => e

theorem alive_collect_list {g : PgR} {s : McA} (h : InvA g s) : aliveA (collectA s) = aliveA s := by
  have e : reachedA (collectA s).obs ((valuesA s.frs).map (ren id)) = (reachedA s.obs (valuesA s.frs)).map id := reached_map h.alive (sweepA_len _ _) (injOn_id _) (moved_collect h)
  rw [map_ren_id (inv_refs h), List.map_id] at e
  exact e

theorem rel_collect {g : PgR} {s : McA} (h : InvA g s) : Rel id s (collectA s) := by
  refine ⟨rfl, rfl, sweepA_len _ _, (frs_id h).symm, injOn_id _, moved_collect h, fun j o p hj ho hp h3 => ?_⟩
  rw [show (id j : Nat) = j from rfl, collect_get ho hj] at hp
  cases hp
  rw [weak_head h3 (weak_some h ho h3), alive_collect_list h]
  by_cases hl : lost (sweep1 s.obs (aliveA s)) (o.2.headD (0, 0)) = true
  · rw [if_pos hl]
    exact Or.inr ⟨(lost_iff h _).1 hl, by simp⟩
  · rw [if_neg hl]
    have := Decidable.not_not.1 fun e => hl ((lost_iff h _).2 e)
    exact Or.inl ⟨this.1, this.2, (ren_id _ fun h2 => ref_nonneg h ho h3 h2).symm⟩

theorem rel_uncollect {g : PgR} {s : McA} (h : InvA g s) : Rel id (collectA s) s := by
  have hal := alive_collect_list h
  refine ⟨rfl, rfl, (sweepA_len _ _).symm, (frs_id (inv_collect h)).symm, injOn_id _, fun j hj => ?_, fun j o p hj ho hp h3 => ?_⟩
  · rw [hal] at hj
    obtain ⟨o, ho, _⟩ := alive_nonfree h hj
    refine ⟨_, o, collect_get ho hj, ho, (forget1_kind _ _).symm, fun h3 => ?_⟩
    rw [forget1_kind] at h3
    rw [forget1_plain h3, map_ren_id (inv_ofields h ho)]
  · rw [hal] at hj ⊢
    rw [show (id j : Nat) = j from rfl] at hp
    rw [collect_get hp hj] at ho
    cases ho
    rw [forget1_kind] at h3
    rw [weak_head h3 (weak_some h hp h3)]
    by_cases hl : lost (sweep1 s.obs (aliveA s)) (p.2.headD (0, 0)) = true
    · rw [if_pos hl]
      exact Or.inr ⟨by simp, (lost_iff h _).1 hl⟩
    · rw [if_neg hl]
      have := Decidable.not_not.1 fun e => hl ((lost_iff h _).2 e)
      exact Or.inl ⟨this.1, this.2, (ren_id _ fun h2 => ref_nonneg h hp h3 h2).symm⟩

theorem Rel.collectR {g : PgR} {r : Nat → Nat} {s t : McA} (h : Rel r s t) (hi : InvA g s) (hj : InvA g t) : ∃ q, Rel q s (collectA t) := ⟨_, h.trans (rel_collect hj) hi hj⟩
theorem Rel.collectL {g : PgR} {r : Nat → Nat} {s t : McA} (h : Rel r s t) (hi : InvA g s) : ∃ q, Rel q (collectA s) t := ⟨_, (rel_uncollect hi).trans h (inv_collect hi) hi⟩

end Go.Proofs.YtbkmgoffiigdbabGreatDoor

namespace Go.Proofs.YtbkmgoffiigdbabGreatDoor
open Go.RowKit Go.Sort

/-! PLAIN: alike machines make alike steps: the operations that leave the heap alone. -/

/-- All references lead to what is alive. -/
def In (s : McA) (l : List Val) : Prop := ∀ v, v ∈ l → v.1 = 2 → v.2.toNat ∈ aliveA s

theorem In.app {s : McA} {l k : List Val} (h : In s l) (h' : In s k) : In s (l ++ k) := fun v hv h2 => by
  rcases List.mem_append.1 hv with hv | hv
  · exact h v hv h2
  · exact h' v hv h2
theorem In.left {s : McA} {l k : List Val} (h : In s (l ++ k)) : In s l := fun v hv => h v (by simp [hv])
theorem In.right {s : McA} {l k : List Val} (h : In s (l ++ k)) : In s k := fun v hv => h v (by simp [hv])
theorem In.one {s : McA} {v : Val} (h : v.1 = 2 → v.2.toNat ∈ aliveA s) : In s [v] := fun u hu => by rw [List.mem_singleton] at hu; subst hu; exact h
theorem In.plain {s : McA} {v : Val} (h : v.1 ≠ 2) : In s [v] := In.one fun h2 => absurd h2 h
theorem In.nil {s : McA} : In s [] := fun v hv => by simp at hv

theorem In.frs {g : PgR} {s : McA} (hi : InvA g s) {f : FrA} (hf : f ∈ s.frs) : In s (f.loc ++ f.stk) := fun v hv h2 => hi.alive.roots v (mem_valuesA.2 ⟨f, hf, hv⟩) h2

/-- Two machines, and the frame that runs. -/
structure At (g : PgR) (r : Nat → Nat) (s t : McA) (fs : List FrA) (f : FrA) (rest args : List Val) : Prop where
  rel : Rel r s t
  inv : InvA g s
  inv' : InvA g t
  frs : s.frs = fs ++ [f]
  stk : f.stk = rest ++ args

theorem At.f_in {g : PgR} {r : Nat → Nat} {s t : McA} {fs : List FrA} {f : FrA} {rest args : List Val} (h : At g r s t fs f rest args) : In s (f.loc ++ f.stk) := In.frs h.inv (by rw [h.frs]; simp)
theorem At.loc {g : PgR} {r : Nat → Nat} {s t : McA} {fs : List FrA} {f : FrA} {rest args : List Val} (h : At g r s t fs f rest args) : In s f.loc := h.f_in.left
theorem At.rest {g : PgR} {r : Nat → Nat} {s t : McA} {fs : List FrA} {f : FrA} {rest args : List Val} (h : At g r s t fs f rest args) : In s rest := by
  have := h.f_in.right
  rw [h.stk] at this
  exact this.left
theorem At.args {g : PgR} {r : Nat → Nat} {s t : McA} {fs : List FrA} {f : FrA} {rest args : List Val} (h : At g r s t fs f rest args) : In s args := by
  have := h.f_in.right
  rw [h.stk] at this
  exact this.right
theorem At.ok {g : PgR} {r : Nat → Nat} {s t : McA} {fs : List FrA} {f : FrA} {rest args : List Val} (h : At g r s t fs f rest args) {v : Val} (hv : v ∈ args) : VOk s.obs v := h.inv.vals f (by rw [h.frs]; simp) v (by rw [h.stk]; simp [hv])

/-- Whatever frames come of it. -/
theorem At.put {g : PgR} {r : Nat → Nat} {s t : McA} {fs : List FrA} {f : FrA} {rest args : List Val} (h : At g r s t fs f rest args) (st : Int) (out : List Int) (fl : List FrA) (hin : ∀ x, x ∈ fl → x ∈ fs ∨ In s (x.loc ++ x.stk)) (d d' : List Int) :
    Rel r ⟨st, out, fl, s.obs, d⟩ ⟨st, out, fl.map (renF r), t.obs, d'⟩ :=
  h.rel.go h.inv rfl rfl rfl rfl rfl fun v hv h2 => by
    obtain ⟨x, hx, hv⟩ := mem_valuesA.1 hv
    rcases hin x hx with hx | hx
    · exact In.frs h.inv (by rw [h.frs]; simp [hx]) v hv h2
    · exact hx v hv h2

theorem At.goA {g : PgR} {r : Nat → Nat} {s t : McA} {fs : List FrA} {f : FrA} {rest args : List Val} (h : At g r s t fs f rest args) (pc : Nat) (l : List Val) (hl : In s l) :
    Rel r (goA s fs f pc l) (goA t (fs.map (renF r)) (renF r f) pc (l.map (ren r))) := by
  have := h.put 0 s.out (fs ++ [⟨f.fn, pc, f.loc, l⟩]) (fun x hx => by
    rcases List.mem_append.1 hx with hx | hx
    · exact Or.inl hx
    · rw [List.mem_singleton] at hx; subst hx; exact Or.inr (h.loc.app hl)) s.dr t.dr
  unfold Go.Proofs.YtbkmgoffiigdbabGreatDoor.goA
  rw [h.rel.out]
  rw [List.map_append] at this
  exact this

theorem At.goE {g : PgR} {r : Nat → Nat} {s t : McA} {fs : List FrA} {f : FrA} {rest args : List Val} (h : At g r s t fs f rest args) (pc : Nat) (l l' : List Val) (hl : In s l) (hl' : l' = l.map (ren r)) :
    ∃ q, Rel q (Go.Proofs.YtbkmgoffiigdbabGreatDoor.goA s fs f pc l) (Go.Proofs.YtbkmgoffiigdbabGreatDoor.goA t (fs.map (renF r)) (renF r f) pc l') := ⟨r, by rw [hl']; exact h.goA pc l hl⟩

theorem At.trap {g : PgR} {r : Nat → Nat} {s t : McA} {fs : List FrA} {f : FrA} {rest args : List Val} (h : At g r s t fs f rest args) (st : Int) : ∃ q, Rel q (trapA s st) (trapA t st) :=
  ⟨r, h.rel.go h.inv rfl rfl rfl h.rel.out h.rel.frs fun v hv h2 => h.inv.alive.roots v hv h2⟩

theorem ren_int (r : Nat → Nat) (z : Int) : ren r (1, z) = (1, z) := ren_plain (show (1 : Int) ≠ 2 by decide)
theorem ren_nil (r : Nat → Nat) : ren r (0, 0) = (0, 0) := ren_plain (by decide)

theorem ren_same {g : PgR} {r : Nat → Nat} {s t : McA} (h : Rel r s t) {x y : Val} (hx : VOk s.obs x) (hy : VOk s.obs y) (ix : x.1 = 2 → x.2.toNat ∈ aliveA s) (iy : y.1 = 2 → y.2.toNat ∈ aliveA s) (_ : InvA g s) :
    ((ren r x).1 == (ren r y).1 && (ren r x).2 == (ren r y).2) = (x.1 == y.1 && x.2 == y.2) := by
  rw [ren_kind, ren_kind]
  by_cases e : x.1 = y.1
  · by_cases h2 : x.1 = 2
    · have h2' : y.1 = 2 := by rw [← e]; exact h2
      have n1 := (hx.ref h2).1
      have n2 := (hy.ref h2').1
      unfold ren
      rw [if_pos h2, if_pos h2', e]
      congr 1
      rw [Bool.eq_iff_iff, beq_iff_eq, beq_iff_eq]
      constructor
      · intro q
        have := h.inj _ _ (ix h2) (iy h2') (by have : ((r x.2.toNat : Nat) : Int) = ((r y.2.toNat : Nat) : Int) := q; omega)
        omega
      · intro q
        rw [q]
    · rw [ren_plain h2, ren_plain (by rw [← e]; exact h2)]
  · have e' : (x.1 == y.1) = false := by simpa using e
    rw [e', Bool.false_and, Bool.false_and]

end Go.Proofs.YtbkmgoffiigdbabGreatDoor

namespace Go.Proofs.YtbkmgoffiigdbabGreatDoor
open Go.RowKit Go.Sort

/-! PLAIN: alike machines make alike steps: fields and places. -/

/-- What a value refers to, in both machines. -/
theorem referred_rel {g : PgR} {r : Nat → Nat} {s t : McA} (h : Rel r s t) (_hi : InvA g s) {v : Val} (hv : v.1 = 2 → v.2.toNat ∈ aliveA s) :
    (referredA t.obs (ren r v)).1 = (referredA s.obs v).1 ∧ ((referredA s.obs v).1 ≠ 3 → (referredA t.obs (ren r v)).2 = (referredA s.obs v).2.map (ren r)) ∧ (v.1 = 2 → s.obs[v.2.toNat]? = some (referredA s.obs v) ∧ t.obs[r v.2.toNat]? = some (referredA t.obs (ren r v))) := by
  by_cases h2 : v.1 = 2
  · obtain ⟨o, p, ho, hp, hk, hf⟩ := h.moved _ (hv h2)
    have e1 : referredA s.obs v = o := by
      unfold referredA
      rw [if_pos h2, List.getD, ho]; rfl
    have e2 : referredA t.obs (ren r v) = p := by
      unfold referredA
      rw [if_pos (by rw [ren_kind]; exact h2), ren_ref h2, List.getD, hp]; rfl
    rw [e1, e2]
    exact ⟨hk, hf, fun _ => ⟨ho, hp⟩⟩
  · have e1 : referredA s.obs v = (0, []) := by unfold referredA; rw [if_neg h2]
    have e2 : referredA t.obs (ren r v) = (0, []) := by unfold referredA; rw [if_neg (by rw [ren_kind]; exact h2)]
    rw [e1, e2]
    exact ⟨rfl, fun _ => rfl, fun e => absurd e h2⟩

theorem reachT_rel {o p : Ob} {kind : Int} (hk3 : kind ≠ 3) {ix ix' : Val} {r : Nat → Nat} (h1 : p.1 = o.1) (h2 : o.1 ≠ 3 → p.2 = o.2.map (ren r)) (hi1 : ix'.1 = ix.1) (hi2 : ix.1 = 1 → ix'.2 = ix.2) : reachT p kind ix' = reachT o kind ix := by
  unfold reachT
  rw [h1, hi1]
  by_cases hc : o.1 ≠ kind ∨ ix.1 ≠ 1
  · rw [if_pos hc, if_pos hc]
  · rw [if_neg hc, if_neg hc]
    have e1 : o.1 = kind := Decidable.not_not.1 fun e => hc (Or.inl e)
    have e2 : ix.1 = 1 := Decidable.not_not.1 fun e => hc (Or.inr e)
    rw [h2 (by rw [e1]; exact hk3), hi2 e2, List.length_map]

theorem getD_map {r : Nat → Nat} (l : List Val) (i : Nat) : (l.map (ren r)).getD i (0, 0) = ren r (l.getD i (0, 0)) := by
  rw [List.getD_eq_getElem?_getD, List.getD_eq_getElem?_getD, List.getElem?_map]
  cases l[i]? with
  | none => exact (ren_nil r).symm
  | some x => rfl

theorem field_in {g : PgR} {s : McA} (hi : InvA g s) {v : Val} (hv : v.1 = 2 → v.2.toNat ∈ aliveA s) (h3 : (referredA s.obs v).1 ≠ 3) (i : Nat) : ((referredA s.obs v).2.getD i (0, 0)).1 = 2 → ((referredA s.obs v).2.getD i (0, 0)).2.toNat ∈ aliveA s := fun h2 => by
  by_cases hr : v.1 = 2
  · have hj := hv hr
    obtain ⟨o, ho, _⟩ := alive_nonfree hi hj
    have e1 : referredA s.obs v = o := by unfold referredA; rw [if_pos hr, List.getD, ho]; rfl
    rw [e1] at h2 h3 ⊢
    rw [List.getD_eq_getElem?_getD] at h2 ⊢
    cases hx : o.2[i]? with
    | none => rw [hx] at h2; simp at h2
    | some x =>
      rw [hx] at h2
      exact hi.alive.shut _ hj o ho h3 x (List.mem_of_getElem? hx) h2
  · have e1 : referredA s.obs v = (0, []) := by unfold referredA; rw [if_neg hr]
    rw [e1] at h2
    simp at h2

theorem At.get {g : PgR} {r : Nat → Nat} {s t : McA} {fs : List FrA} {f : FrA} {rest args : List Val} (h : At g r s t fs f rest args) {v ix ix' : Val} (hv : v ∈ args) (kind : Int) (hk3 : kind ≠ 3) (hi1 : ix'.1 = ix.1) (hi2 : ix.1 = 1 → ix'.2 = ix.2) :
    ∃ q, Rel q (getE s fs f rest v kind ix) (getE t (fs.map (renF r)) (renF r f) (rest.map (ren r)) (ren r v) kind ix') := by
  have hva := h.args v hv
  obtain ⟨e1, e2, _⟩ := referred_rel h.rel h.inv hva
  have hT := reachT_rel hk3 e1 e2 hi1 hi2
  unfold getE
  rw [hT]
  by_cases h0 : reachT (referredA s.obs v) kind ix = 0
  · rw [if_pos h0, if_pos h0]
    obtain ⟨q1, q2, _⟩ := reach_lt h0
    have h3 : (referredA s.obs v).1 ≠ 3 := by rw [q1]; exact hk3
    refine h.goE _ _ _ (h.rest.app (In.one (field_in h.inv hva h3 _))) ?_
    rw [e2 h3, hi2 q2, getD_map, List.map_append]
    rfl
  · rw [if_neg h0, if_neg h0]
    exact h.trap _

theorem strong_rel {g : PgR} {r : Nat → Nat} {s t : McA} (h : Rel r s t) (hi : InvA g s) {v : Val} (hv : v.1 = 2 → v.2.toNat ∈ aliveA s) (h3 : (referredA s.obs v).1 = 3) :
    strongA t ((referredA t.obs (ren r v)).2.headD (0, 0)) = ren r (strongA s ((referredA s.obs v).2.headD (0, 0))) := by
  have hr : v.1 = 2 := Decidable.not_not.1 fun e => by
    have e1 : referredA s.obs v = (0, []) := by unfold referredA; rw [if_neg e]
    rw [e1] at h3
    simp at h3
  obtain ⟨e1, e2, e3⟩ := referred_rel h hi hv
  obtain ⟨ho, hp⟩ := e3 hr
  unfold strongA
  rcases h.weak _ _ _ (hv hr) ho hp h3 with ⟨a1, a2, a3⟩ | ⟨a1, a2⟩
  · rw [if_pos ⟨by rw [a3, ren_kind]; exact a1, by rw [a3, ren_ref a1, h.alive hi]; exact List.mem_map.2 ⟨_, a2, rfl⟩⟩, if_pos ⟨a1, a2⟩]
    exact a3
  · rw [if_neg a2, if_neg a1]
    exact (ren_nil r).symm

theorem strong_in {s : McA} (v : Val) : In s [strongA s v] := In.one fun h2 => by
  unfold strongA at h2 ⊢
  split
  · rename_i h; exact h.2
  · rename_i h; rw [if_neg h] at h2; simp at h2

/-- A field is set, in both. -/
theorem At.set {g : PgR} {r : Nat → Nat} {s t : McA} {fs : List FrA} {f : FrA} {rest args : List Val} (h : At g r s t fs f rest args) {v ix ix' y : Val} (hv : v ∈ args) (hy : y ∈ args) (kind : Int) (hk3 : kind ≠ 3) (hi1 : ix'.1 = ix.1) (hi2 : ix.1 = 1 → ix'.2 = ix.2)
    (hinv : ∀ st, st = setE s fs f rest v kind ix y → InvA g st) :
    ∃ q, Rel q (setE s fs f rest v kind ix y) (setE t (fs.map (renF r)) (renF r f) (rest.map (ren r)) (ren r v) kind ix' (ren r y)) := by
  have hva := h.args v hv
  obtain ⟨e1, e2, e3⟩ := referred_rel h.rel h.inv hva
  have hT := reachT_rel hk3 e1 e2 hi1 hi2
  have hI := hinv _ rfl
  unfold setE at hI ⊢
  rw [hT]
  by_cases h0 : reachT (referredA s.obs v) kind ix = 0
  · rw [if_pos h0] at hI
    rw [if_pos h0, if_pos h0]
    obtain ⟨q1, q2, _, _⟩ := reach_lt h0
    have h3 : (referredA s.obs v).1 ≠ 3 := by rw [q1]; exact hk3
    have hr : v.1 = 2 := Decidable.not_not.1 fun e => by
      have e4 : referredA s.obs v = (0, []) := by unfold referredA; rw [if_neg e]
      obtain ⟨_, _, _, q5⟩ := reach_lt h0
      rw [e4] at q5
      simp at q5
    obtain ⟨ho, hp⟩ := e3 hr
    have hva' := hva hr
    rw [e1, e2 h3, hi2 q2, ren_ref hr]
    generalize hO : referredA s.obs v = o at *
    generalize hj : v.2.toNat = j at *
    generalize ix.2.toNat = i at *
    obtain ⟨s', hs'⟩ : ∃ s' : McA, s' = ⟨0, s.out, fs ++ [⟨f.fn, f.pc + 1, f.loc, rest⟩], s.obs.set j (o.1, o.2.set i y), s.dr⟩ := ⟨_, rfl⟩
    rw [← hs'] at hI ⊢
    have hjl : j < s.obs.length := (List.getElem?_eq_some_iff.1 ho).1
    have hobs : s'.obs = s.obs.set j (o.1, o.2.set i y) := by rw [hs']
    have hget : ∀ k, k ≠ j → s'.obs[k]? = s.obs[k]? := fun k hk => by rw [hobs, List.getElem?_set_ne (Ne.symm hk)]
    have hgetj : s'.obs[j]? = some (o.1, o.2.set i y) := by rw [hobs, List.getElem?_set_self hjl]
    -- what is alive now was alive
    have hvals : ∀ u, u ∈ valuesA s'.frs → u.1 = 2 → u.2.toNat ∈ aliveA s := fun u hu h2 => by
      rw [hs'] at hu
      obtain ⟨x, hx, hu⟩ := mem_valuesA.1 hu
      rcases List.mem_append.1 hx with hx | hx
      · exact In.frs h.inv (by rw [h.frs]; simp [hx]) u hu h2
      · rw [List.mem_singleton] at hx; subst hx; exact (h.loc.app h.rest) u hu h2
    have hsub : ∀ k, k ∈ aliveA s' → k ∈ aliveA s := fun k hk => by
      have hl : Lead s'.obs (valuesA s'.frs) k := reachedA_lead k hk
      clear hk
      induction hl with
      | root u hu h2 => exact hvals u hu h2
      | field m p u hm hp' h3' hu h2 ih =>
        by_cases e : m = j
        · subst e
          rw [hgetj] at hp'
          cases hp'
          rcases List.mem_or_eq_of_mem_set hu with hu | hu
          · exact h.inv.alive.shut _ ih o ho h3' u hu h2
          · subst hu; exact h.args _ hy h2
        · rw [hget m e] at hp'
          exact h.inv.alive.shut m ih p hp' h3' u hu h2
    have hinj : InjOn r (aliveA s') := fun a b h1 h2 => h.rel.inj a b (hsub a h1) (hsub b h2)
    have hne : ∀ k, k ∈ aliveA s → k ≠ j → r k ≠ r j := fun k hk hkj e => hkj (h.rel.inj k j hk hva' e)
    have hrl : r j < t.obs.length := (List.getElem?_eq_some_iff.1 hp).1
    have hmv : Moved r (aliveA s') s'.obs (t.obs.set (r j) (o.1, (o.2.map (ren r)).set i (ren r y))) := fun k hk => by
      by_cases e : k = j
      · subst e
        refine ⟨(o.1, o.2.set i y), (o.1, (o.2.map (ren r)).set i (ren r y)), hgetj, by rw [List.getElem?_set_self hrl], rfl, fun _ => ?_⟩
        show (o.2.map (ren r)).set i (ren r y) = (o.2.set i y).map (ren r)
        rw [List.map_set]
      · obtain ⟨a, b, ha, hb, hk', hf'⟩ := h.rel.moved k (hsub k hk)
        exact ⟨a, b, by rw [hget k e]; exact ha, by rw [List.getElem?_set_ne (Ne.symm (hne k (hsub k hk) e))]; exact hb, hk', hf'⟩
    obtain ⟨t', ht'⟩ : ∃ t' : McA, t' = ⟨0, t.out, fs.map (renF r) ++ [⟨(renF r f).fn, (renF r f).pc + 1, (renF r f).loc, rest.map (ren r)⟩], t.obs.set (r j) (o.1, (o.2.map (ren r)).set i (ren r y)), t.dr⟩ := ⟨_, rfl⟩
    rw [← ht']
    have hfr : t'.frs = s'.frs.map (renF r) := by rw [ht', hs', List.map_append]; rfl
    have hcap : t'.obs.length = s'.obs.length := by rw [ht', hs']; show (t.obs.set _ _).length = (s.obs.set _ _).length; rw [List.length_set, List.length_set]; exact h.rel.cap
    have hal : aliveA t' = (aliveA s').map r := by
      unfold aliveA
      rw [hfr, valuesA_ren]
      refine reached_map hI.alive hcap hinj ?_
      rw [ht']; exact hmv
    have hal0 := h.rel.alive h.inv
    refine ⟨r, by rw [ht', hs'], by rw [ht', hs']; exact h.rel.out, hcap, hfr, hinj, by rw [ht']; exact hmv, fun k a b hk ha hb h3' => ?_⟩
    have hkj : k ≠ j := by
      rintro rfl
      rw [hgetj] at ha
      cases ha
      exact h3 h3'
    rw [hget k hkj] at ha
    rw [ht'] at hb
    have hb' : t.obs[r k]? = some b := by
      rw [show (t.obs.set (r j) (o.1, (o.2.map (ren r)).set i (ren r y)))[r k]? = t.obs[r k]? from List.getElem?_set_ne (Ne.symm (hne k (hsub k hk) hkj))] at hb
      exact hb
    rcases h.rel.weak k a b (hsub k hk) ha hb' h3' with ⟨a1, a2, a3⟩ | ⟨a1, a2⟩
    · by_cases hin : (a.2.headD (0, 0)).2.toNat ∈ aliveA s'
      · exact Or.inl ⟨a1, hin, a3⟩
      · refine Or.inr ⟨fun e => hin e.2, fun e => hin ?_⟩
        rw [a3, ren_ref a1, hal] at e
        exact (mem_map_inj h.rel.inj hsub a2).1 e.2
    · refine Or.inr ⟨fun e => a1 ⟨e.1, hsub _ e.2⟩, fun e => a2 ⟨e.1, ?_⟩⟩
      rw [hal] at e
      rw [hal0]
      obtain ⟨m, hm, e'⟩ := List.mem_map.1 e.2
      exact List.mem_map.2 ⟨m, hsub m hm, e'⟩
  · rw [if_neg h0, if_neg h0]
    exact h.trap _

end Go.Proofs.YtbkmgoffiigdbabGreatDoor

namespace Go.Proofs.YtbkmgoffiigdbabGreatDoor
open Go.RowKit Go.Sort

/-! PLAIN: alike machines make alike steps: new objects. -/

theorem alive_le {g : PgR} {s : McA} (h : InvA g s) : (aliveA s).length ≤ takenA s.obs := by
  rw [takenA_range]
  refine nodup_le h.alive.nodup fun j hj => ?_
  obtain ⟨o, ho, hne⟩ := alive_nonfree h hj
  rw [List.mem_filter, List.mem_range]
  exact ⟨(List.getElem?_eq_some_iff.1 ho).1, by rw [ho]; simp [hne]⟩

theorem taken_leA (obs : List Ob) : takenA obs ≤ obs.length := List.length_filter_le _ _

theorem full_iff {g : PgR} {s : McA} (h : InvA g s) : takenA (roomA s).obs = (roomA s).obs.length ↔ (aliveA s).length = s.obs.length := by
  unfold roomA
  have h1 := alive_le h
  have h2 := taken_leA s.obs
  split
  · rename_i e
    rw [taken_collect h]
    show _ = (sweepA _ _).length ↔ _
    rw [sweepA_len]
  · rename_i e
    constructor
    · intro q; exact absurd q e
    · intro q; exact absurd (by omega) e

theorem room_alive {g : PgR} {s : McA} (h : InvA g s) : aliveA (roomA s) = aliveA s := by
  unfold roomA
  split
  · exact alive_collect_list h
  · rfl

theorem Rel.room {g : PgR} {r : Nat → Nat} {s t : McA} (h : Rel r s t) (hi : InvA g s) (hj : InvA g t) : Rel r (roomA s) (roomA t) := by
  have hR : Rel r s (collectA t) := h.trans (rel_collect hj) hi hj
  have hL : Rel r (collectA s) t := (rel_uncollect hi).trans h (inv_collect hi) hi
  have hB : Rel r (collectA s) (collectA t) := hL.trans (rel_collect hj) (inv_collect hi) hj
  unfold roomA
  split
  · split
    · exact hB
    · exact hL
  · split
    · exact hR
    · exact h

theorem weak_val {g : PgR} {s : McA} (h : InvA g s) {j : Nat} {o : Ob} (ho : s.obs[j]? = some o) (h3 : o.1 = 3) : VOk s.obs (o.2.headD (0, 0)) := by
  rcases h.obs o (List.mem_of_getElem? ho) with ⟨e, _⟩ | ⟨e, _⟩ | ⟨e, _⟩ | ⟨_, u, e, hu, _⟩
  · omega
  · omega
  · omega
  · rw [e]; exact hu

theorem At.new {g : PgR} {r : Nat → Nat} {s t : McA} {fs : List FrA} {f : FrA} {rest args : List Val} (h : At g r s t fs f rest args) (kind : Int) (fl fl' : List Val)
    (hfl : (kind ≠ 3 ∧ (∀ v, v ∈ fl → v.1 ≠ 2) ∧ fl' = fl) ∨ (kind = 3 ∧ ∃ x, x ∈ args ∧ x.1 = 2 ∧ fl = [x] ∧ fl' = [ren r x])) (hI : InvA g (newA s fs f rest kind fl)) :
    ∃ q, Rel q (newA s fs f rest kind fl) (newA t (fs.map (renF r)) (renF r f) (rest.map (ren r)) kind fl') := by
  have hrm := h.rel.room h.inv h.inv'
  have hi1 := inv_room h.inv
  have hj1 := inv_room h.inv'
  have hfull : takenA (roomA t).obs = (roomA t).obs.length ↔ takenA (roomA s).obs = (roomA s).obs.length := by
    rw [full_iff h.inv, full_iff h.inv', h.rel.len h.inv, h.rel.cap]
  have hal1 := room_alive h.inv
  unfold newA at hI ⊢
  by_cases hF : takenA (roomA s).obs = (roomA s).obs.length
  · rw [if_pos hF, if_pos (hfull.2 hF)]
    exact ⟨r, hrm.go hi1 rfl rfl rfl hrm.out hrm.frs fun v hv h2 => hi1.alive.roots v hv h2⟩
  · rw [if_neg hF] at hI
    rw [if_neg hF, if_neg (fun e => hF (hfull.1 e))]
    obtain ⟨⟨j, d⟩, hj⟩ := pickA_some (dr := s.dr) (show 0 < (roomA s).obs.length by have := hi1.cap; omega) hF
    obtain ⟨⟨k, d'⟩, hk⟩ := pickA_some (dr := t.dr) (show 0 < (roomA t).obs.length by have := hj1.cap; omega) (fun e => hF (hfull.1 e))
    rw [hj] at hI
    rw [hj, hk]
    simp only at hI ⊢
    obtain ⟨⟨x, hx, hx0⟩, _⟩ := pickA_free hj
    obtain ⟨⟨y, hy, hy0⟩, _⟩ := pickA_free hk
    have hs1 : (roomA s).frs = s.frs := roomA_frs s
    generalize roomA s = s1 at *
    generalize roomA t = t1 at *
    simp only at hx hy
    have hjl : j < s1.obs.length := (List.getElem?_eq_some_iff.1 hx).1
    have hkl : k < t1.obs.length := (List.getElem?_eq_some_iff.1 hy).1
    have hjn : j ∉ aliveA s1 := fun e => by
      obtain ⟨o, ho, hne⟩ := alive_nonfree hi1 e
      rw [hx] at ho; cases ho; exact hne hx0
    have hkn : k ∉ aliveA t1 := fun e => by
      obtain ⟨o, ho, hne⟩ := alive_nonfree hj1 e
      rw [hy] at ho; cases ho; exact hne hy0
    have halt := hrm.alive hi1
    have hrk : ∀ i, i ∈ aliveA s1 → r i ≠ k := fun i hi e => hkn (by rw [halt]; exact List.mem_map.2 ⟨i, hi, e⟩)
    obtain ⟨r', hr'⟩ : ∃ r' : Nat → Nat, r' = fun z => if z = j then k else r z := ⟨_, rfl⟩
    have rj : r' j = k := by rw [hr']; simp
    have ro : ∀ i, i ∈ aliveA s1 → r' i = r i := fun i hi => by
      have hij : i ≠ j := fun e => hjn (by rw [← e]; exact hi)
      rw [hr']
      show (if i = j then k else r i) = r i
      rw [if_neg hij]
    have rv : ∀ v : Val, (v.1 = 2 → v.2.toNat ∈ aliveA s1) → ren r' v = ren r v := fun v hv => by
      by_cases h2 : v.1 = 2
      · unfold ren; rw [if_pos h2, if_pos h2, ro _ (hv h2)]
      · rw [ren_plain h2, ren_plain h2]
    have rl : ∀ l : List Val, (∀ v, v ∈ l → v.1 = 2 → v.2.toNat ∈ aliveA s1) → l.map (ren r') = l.map (ren r) := fun l hl => List.map_congr_left fun v hv => rv v (hl v hv)
    have inj1 : ∀ a b, (a ∈ aliveA s1 ∨ a = j) → (b ∈ aliveA s1 ∨ b = j) → r' a = r' b → a = b := fun a b ha hb e => by
      rcases ha with ha | rfl
      · rcases hb with hb | rfl
        · rw [ro a ha, ro b hb] at e; exact hrm.inj a b ha hb e
        · rw [ro a ha, rj] at e; exact absurd e (hrk a ha)
      · rcases hb with hb | rfl
        · rw [ro b hb, rj] at e; exact absurd e.symm (hrk b hb)
        · rfl
    have inl : ∀ l : List Val, In s l → ∀ v, v ∈ l → v.1 = 2 → v.2.toNat ∈ aliveA s1 := fun l hl v hv h2 => by rw [hal1]; exact hl v hv h2
    obtain ⟨s2, hs2⟩ : ∃ s2 : McA, s2 = ⟨0, s.out, fs ++ [⟨f.fn, f.pc + 1, f.loc, rest ++ [(2, (j : Int))]⟩], s1.obs.set j (kind, fl), d⟩ := ⟨_, rfl⟩
    rw [← hs2] at hI ⊢
    have hgj : s2.obs[j]? = some (kind, fl) := by rw [hs2]; exact List.getElem?_set_self hjl
    have hg : ∀ i, i ≠ j → s2.obs[i]? = s1.obs[i]? := fun i hi => by rw [hs2]; exact List.getElem?_set_ne (Ne.symm hi)
    have hsub : ∀ i, i ∈ aliveA s2 → i ∈ aliveA s1 ∨ i = j := fun i hi => by
      have hl : Lead s2.obs (valuesA s2.frs) i := reachedA_lead i hi
      clear hi
      induction hl with
      | root u hu h2 =>
        rw [hs2] at hu
        obtain ⟨z, hz, hu⟩ := mem_valuesA.1 hu
        rcases List.mem_append.1 hz with hz | hz
        · exact Or.inl (inl _ (In.frs h.inv (by rw [h.frs]; simp [hz])) u hu h2)
        · rw [List.mem_singleton] at hz
          subst hz
          rcases List.mem_append.1 hu with hu | hu
          · exact Or.inl (inl _ h.loc u hu h2)
          · rcases List.mem_append.1 hu with hu | hu
            · exact Or.inl (inl _ h.rest u hu h2)
            · rw [List.mem_singleton] at hu; subst hu; exact Or.inr (by simp)
      | field m p u hm hp h3 hu h2 ih =>
        rcases ih with ih | rfl
        · rw [hg m (fun e => hjn (e ▸ ih))] at hp
          exact Or.inl (hi1.alive.shut m ih p hp h3 u hu h2)
        · rw [hgj] at hp
          cases hp
          rcases hfl with ⟨_, q, _⟩ | ⟨q, _⟩
          · exact absurd h2 (q u hu)
          · exact absurd q h3
    have hinj : InjOn r' (aliveA s2) := fun a b ha hb => inj1 a b (hsub a ha) (hsub b hb)
    obtain ⟨t2, ht2⟩ : ∃ t2 : McA, t2 = ⟨0, t.out, fs.map (renF r) ++ [⟨(renF r f).fn, (renF r f).pc + 1, (renF r f).loc, rest.map (ren r) ++ [(2, (k : Int))]⟩], t1.obs.set k (kind, fl'), d'⟩ := ⟨_, rfl⟩
    rw [← ht2]
    have hgk : t2.obs[k]? = some (kind, fl') := by rw [ht2]; exact List.getElem?_set_self hkl
    have hgt : ∀ i, i ≠ k → t2.obs[i]? = t1.obs[i]? := fun i hi => by rw [ht2]; exact List.getElem?_set_ne (Ne.symm hi)
    have hfr : t2.frs = s2.frs.map (renF r') := by
      rw [ht2, hs2, List.map_append]
      show fs.map (renF r) ++ [_] = fs.map (renF r') ++ [renF r' _]
      have e1 : fs.map (renF r') = fs.map (renF r) := List.map_congr_left fun z hz => by
        have hz' := inl _ (In.frs h.inv (f := z) (by rw [h.frs]; simp [hz]))
        unfold renF
        rw [rl z.loc fun v hv => hz' v (by simp [hv]), rl z.stk fun v hv => hz' v (by simp [hv])]
      rw [e1]
      congr 1
      unfold renF
      simp only [List.map_append, List.map_cons, List.map_nil]
      rw [rl f.loc (inl _ h.loc), rl rest (inl _ h.rest)]
      have : ren r' (2, (j : Int)) = (2, (k : Int)) := by unfold ren; rw [if_pos rfl]; show (2, ((r' (j : Int).toNat : Nat) : Int)) = _; rw [Int.toNat_natCast, rj]
      rw [this]
    have hcap : t2.obs.length = s2.obs.length := by rw [ht2, hs2]; show (t1.obs.set _ _).length = (s1.obs.set _ _).length; rw [List.length_set, List.length_set]; exact hrm.cap
    have hmv : Moved r' (aliveA s2) s2.obs t2.obs := fun i hi => by
      rcases hsub i hi with hi1' | rfl
      · have hij : i ≠ j := fun e => hjn (e ▸ hi1')
        obtain ⟨o, p, ho, hp, hk', hf'⟩ := hrm.moved i hi1'
        refine ⟨o, p, by rw [hg i hij]; exact ho, by rw [ro i hi1', hgt _ (hrk i hi1')]; exact hp, hk', fun h3 => ?_⟩
        rw [hf' h3]
        exact (rl o.2 (hi1.alive.shut i hi1' o ho h3)).symm
      · refine ⟨(kind, fl), (kind, fl'), hgj, by rw [rj]; exact hgk, rfl, fun h3 => ?_⟩
        rcases hfl with ⟨_, q, e⟩ | ⟨q, _⟩
        · show fl' = fl.map (ren r')
          rw [e]
          conv => lhs; rw [← List.map_id fl]
          exact List.map_congr_left fun v hv => (ren_plain (q v hv)).symm
        · exact absurd q h3
    have hal : aliveA t2 = (aliveA s2).map r' := by
      unfold aliveA
      rw [hfr, valuesA_ren]
      exact reached_map hI.alive hcap hinj hmv
    have hdead : ∀ v : Val, v.1 = 2 → v.2.toNat ∈ aliveA s1 → WeakOk r' (aliveA s2) (aliveA t2) v (ren r v) := fun v h2 hin => by
      by_cases hin2 : v.2.toNat ∈ aliveA s2
      · exact Or.inl ⟨h2, hin2, (rv v fun _ => hin).symm⟩
      · refine Or.inr ⟨fun e => hin2 e.2, fun e => hin2 ?_⟩
        have e2 := e.2
        rw [ren_ref h2, hal] at e2
        obtain ⟨m, hm, e'⟩ := List.mem_map.1 e2
        rw [← ro _ hin] at e'
        rw [← inj1 m _ (hsub m hm) (Or.inl hin) e']
        exact hm
    refine ⟨r', by rw [ht2, hs2], by rw [ht2, hs2]; exact h.rel.out, hcap, hfr, hinj, hmv, fun i o p hi ho hp h3 => ?_⟩
    rcases hsub i hi with hi1' | rfl
    · have hij : i ≠ j := fun e => hjn (e ▸ hi1')
      rw [hg i hij] at ho
      rw [ro i hi1', hgt _ (hrk i hi1')] at hp
      rcases hrm.weak i o p hi1' ho hp h3 with ⟨a1, a2, a3⟩ | ⟨a1, a2⟩
      · rw [a3]; exact hdead _ a1 a2
      · have ov := weak_val hi1 ho h3
        have hp3 : p.1 = 3 := by
          obtain ⟨o', p', ho', hp', hk', _⟩ := hrm.moved i hi1'
          rw [ho] at ho'; cases ho'
          rw [hp] at hp'; cases hp'
          rw [hk']; exact h3
        have pv := weak_val hj1 hp hp3
        refine Or.inr ⟨fun e => ?_, fun e => ?_⟩
        · rcases hsub _ e.2 with q | q
          · exact a1 ⟨e.1, q⟩
          · obtain ⟨_, z, hz, hzn⟩ := ov.ref e.1
            rw [q, hx] at hz; cases hz; exact hzn hx0
        · have e2 := e.2
          rw [hal] at e2
          obtain ⟨m, hm, e'⟩ := List.mem_map.1 e2
          rcases hsub m hm with q | q
          · rw [ro m q] at e'
            exact a2 ⟨e.1, by rw [← e', halt]; exact List.mem_map.2 ⟨m, q, rfl⟩⟩
          · subst q
            rw [rj] at e'
            obtain ⟨_, z, hz, hzn⟩ := pv.ref e.1
            rw [← e', hy] at hz; cases hz; exact hzn hy0
    · rw [hgj] at ho
      rw [rj, hgk] at hp
      cases ho
      cases hp
      rcases hfl with ⟨q, _⟩ | ⟨_, z, hz, hz2, e1, e2⟩
      · exact absurd h3 q
      · rw [e1, e2]
        exact hdead z hz2 (inl _ h.args z hz hz2)

end Go.Proofs.YtbkmgoffiigdbabGreatDoor

namespace Go.Proofs.YtbkmgoffiigdbabGreatDoor
open Go.RowKit Go.Sort

/-! PLAIN: alike machines make alike steps. -/

theorem In.getD {s : McA} {l : List Val} (h : In s l) (i : Nat) : In s [l.getD i (0, 0)] := In.one fun h2 => by
  rw [List.getD_eq_getElem?_getD] at h2 ⊢
  cases hx : l[i]? with
  | none => rw [hx] at h2; simp at h2
  | some x => rw [hx] at h2; exact h x (List.mem_of_getElem? hx) h2
theorem In.set {s : McA} {l : List Val} (h : In s l) (i : Nat) {x : Val} (hx : x.1 = 2 → x.2.toNat ∈ aliveA s) : In s (l.set i x) := fun v hv h2 => by
  rcases List.mem_or_eq_of_mem_set hv with hv | rfl
  · exact h v hv h2
  · exact hx h2
theorem In.nils {s : McA} (n : Nat) : In s (List.replicate n (0, 0)) := fun v hv h2 => by
  rw [(List.mem_replicate.1 hv).2] at h2
  simp at h2
theorem nils_plain (n : Nat) : ∀ v, v ∈ List.replicate n ((0, 0) : Val) → v.1 ≠ 2 := fun v hv => by rw [(List.mem_replicate.1 hv).2]; show (0 : Int) ≠ 2; decide

section
variable {g : PgR} {r : Nat → Nat} {s t : McA} {fs : List FrA} {f : FrA} {rest args : List Val}

theorem At.reckon {x y : Val} (h : At g r s t fs f rest args) (z : Val → Val → Int) : ∃ q, Rel q (reckonA s fs f rest x y (z x y)) (reckonA t (fs.map (renF r)) (renF r f) (rest.map (ren r)) (ren r x) (ren r y) (z (ren r x) (ren r y))) := by
  unfold reckonA
  rw [ren_kind, ren_kind]
  by_cases hc : x.1 = 1 ∧ y.1 = 1
  · have e1 : ren r x = x := ren_plain (by omega)
    have e2 : ren r y = y := ren_plain (by omega)
    rw [if_pos hc, if_pos hc, e1, e2]
    exact h.goE _ _ _ (h.rest.app (In.plain (show (1 : Int) ≠ 2 by decide))) (by rw [List.map_append]; simp [ren_int])
  · rw [if_neg hc, if_neg hc]
    exact h.trap _

theorem At.call (h : At g r s t fs f rest args) (a : Int) (l : List Val) (hl : In s l) : ∃ q, Rel q (callA g a s fs f rest l) (callA g a t (fs.map (renF r)) (renF r f) (rest.map (ren r)) (l.map (ren r))) := by
  unfold callA
  rw [List.length_map, List.length_map]
  by_cases hc : 12 ≤ fs.length + 1
  · rw [if_pos hc, if_pos hc]; exact h.trap _
  · rw [if_neg hc, if_neg hc]
    have := h.put 0 s.out (fs ++ [⟨f.fn, f.pc, f.loc, rest⟩] ++ [⟨a.toNat, 0, l ++ List.replicate ((g.f a.toNat).l.toNat - l.length) (0, 0), []⟩]) (fun x hx => by
      rcases List.mem_append.1 hx with hx | hx
      · rcases List.mem_append.1 hx with hx | hx
        · exact Or.inl hx
        · rw [List.mem_singleton] at hx; subst hx; exact Or.inr (h.loc.app h.rest)
      · rw [List.mem_singleton] at hx; subst hx; exact Or.inr ((hl.app (In.nils _)).app In.nil)) s.dr t.dr
    rw [h.rel.out]
    refine ⟨r, ?_⟩
    have e : (List.replicate ((g.f a.toNat).l.toNat - l.length) ((0, 0) : Val)).map (ren r) = List.replicate ((g.f a.toNat).l.toNat - l.length) (0, 0) := by rw [List.map_replicate, ren_nil]
    simp only [List.map_append, List.map_cons, List.map_nil, renF, e] at this ⊢
    exact this

theorem At.return (h : At g r s t fs f rest args) {x : Val} (hx : x ∈ args) : ∃ q, Rel q (returnA s fs x) (returnA t (fs.map (renF r)) (ren r x)) := by
  unfold returnA
  rw [List.getLast?_map]
  cases hc : fs.getLast? with
  | none =>
    have := h.put 1 s.out [] (fun x hx => by simp at hx) s.dr t.dr
    simp only [Option.map_none]
    rw [h.rel.out]
    exact ⟨r, this⟩
  | some c =>
    have hcm : c ∈ fs := List.mem_of_getLast? hc
    have hin := In.frs h.inv (f := c) (by rw [h.frs]; simp [hcm])
    simp only [Option.map_some]
    have := h.put 0 s.out (fs.dropLast ++ [⟨c.fn, c.pc + 1, c.loc, c.stk ++ [x]⟩]) (fun y hy => by
      rcases List.mem_append.1 hy with hy | hy
      · exact Or.inl (List.dropLast_subset fs hy)
      · rw [List.mem_singleton] at hy; subst hy; exact Or.inr (hin.left.app (hin.right.app (In.one (h.args x hx))))) s.dr t.dr
    unfold Go.Proofs.YtbkmgoffiigdbabGreatDoor.goA
    rw [h.rel.out]
    refine ⟨r, ?_⟩
    rw [← List.map_dropLast]
    simp only [List.map_append, List.map_cons, List.map_nil, renF] at this ⊢
    exact this

theorem goesOn_ren (x : Val) : goesOn (ren r x) = goesOn x := by
  unfold goesOn
  by_cases h2 : x.1 = 2
  · rw [ren_kind]; simp [h2]
  · rw [ren_plain h2]

theorem ix_ren (y : Val) : y.1 = 1 → (ren r y).2 = y.2 := fun h => by rw [ren_plain (by omega)]

end

end Go.Proofs.YtbkmgoffiigdbabGreatDoor

namespace Go.Proofs.YtbkmgoffiigdbabGreatDoor
open Go.RowKit Go.Sort

/-! PLAIN: alike machines make alike steps: each operation, a step, a run. -/

theorem do_rel {g : PgR} (hp : PgOk g) {r : Nat → Nat} {s t : McA} {fs : List FrA} {f : FrA} {rest args : List Val} (h : At g r s t fs f rest args) {k : Nat} {a : Int} (o : OpAt g f k a rest args) :
    ∃ q, Rel q (doA g k a s fs f rest args) (doA g k a t (fs.map (renF r)) (renF r f) (rest.map (ren r)) (args.map (ren r))) := by
  have hI := inv_do hp h.inv h.frs o
  obtain ⟨h1, h2⟩ := h.inv.top h.frs
  obtain ⟨hpc, hl, _, _⟩ := h1.at hp
  have hk := legal_op hl
  rw [o.op] at hk
  have hn := o.pops
  have p1 : ∀ z : Int, In s [(1, z)] := fun z => In.plain (show (1 : Int) ≠ 2 by decide)
  have hcase : k = 0 ∨ k = 1 ∨ k = 2 ∨ k = 3 ∨ k = 4 ∨ k = 5 ∨ k = 6 ∨ k = 7 ∨ k = 8 ∨ k = 9 ∨ k = 10 ∨ k = 11 ∨ k = 12 ∨ k = 13 ∨ k = 14 ∨ k = 15 ∨ k = 16 ∨ k = 17 ∨ k = 18 ∨ k = 19 ∨ k = 20 ∨ k = 21 ∨ k = 22 ∨ k = 23 ∨ k = 24 ∨ k = 25 ∨ k = 26 ∨ k = 27 := by omega
  rcases hcase with rfl | rfl | rfl | rfl | rfl | rfl | rfl | rfl | rfl | rfl | rfl | rfl | rfl | rfl | rfl | rfl | rfl | rfl | rfl | rfl | rfl | rfl | rfl | rfl | rfl | rfl | rfl | rfl
  · obtain rfl := args0 hn rfl
    exact h.goE _ _ _ (h.rest.app (p1 _)) (by rw [List.map_append, List.map_cons, List.map_nil, ren_int])
  · obtain rfl := args0 hn rfl
    exact h.goE _ _ _ (h.rest.app (In.plain (show (0 : Int) ≠ 2 by decide))) (by rw [List.map_append, List.map_cons, List.map_nil, ren_nil])
  · obtain rfl := args0 hn rfl
    exact h.goE _ _ _ (h.rest.app (h.loc.getD _)) (by rw [List.map_append, List.map_cons, List.map_nil, ← getD_map]; rfl)
  · obtain ⟨x, rfl⟩ := args1 hn rfl
    have := h.put 0 s.out (fs ++ [⟨f.fn, f.pc + 1, f.loc.set a.toNat x, rest⟩]) (fun y hy => by
      rcases List.mem_append.1 hy with hy | hy
      · exact Or.inl hy
      · rw [List.mem_singleton] at hy; subst hy; exact Or.inr ((h.loc.set _ (h.args x (by simp))).app h.rest)) s.dr t.dr
    refine ⟨r, ?_⟩
    simp only [List.map_append, List.map_cons, List.map_nil, renF, List.map_set] at this
    show Rel r ⟨0, s.out, fs ++ [⟨f.fn, f.pc + 1, f.loc.set a.toNat x, rest⟩], s.obs, s.dr⟩ ⟨0, t.out, fs.map (renF r) ++ [⟨f.fn, f.pc + 1, (f.loc.map (ren r)).set a.toNat (ren r x), rest.map (ren r)⟩], t.obs, t.dr⟩
    rw [h.rel.out]
    exact this
  · obtain ⟨x, rfl⟩ := args1 hn rfl
    exact h.goE _ _ _ (h.rest.app (fun v hv => h.args v (by simp at hv ⊢; exact hv))) (by rw [List.map_append]; rfl)
  · obtain ⟨x, rfl⟩ := args1 hn rfl
    exact h.goE _ _ _ h.rest rfl
  · obtain ⟨x, y, rfl⟩ := args2 hn rfl
    exact h.goE _ _ _ (h.rest.app (fun v hv => h.args v (by simp at hv ⊢; exact hv.symm))) (by rw [List.map_append]; rfl)
  · obtain ⟨x, y, rfl⟩ := args2 hn rfl
    exact h.reckon fun x y => wrap64 (x.2 + y.2)
  · obtain ⟨x, y, rfl⟩ := args2 hn rfl
    exact h.reckon fun x y => wrap64 (x.2 - y.2)
  · obtain ⟨x, y, rfl⟩ := args2 hn rfl
    exact h.reckon fun x y => wrap64 (x.2 * y.2)
  · obtain ⟨x, y, rfl⟩ := args2 hn rfl
    exact h.reckon fun x y => truthI (decide (x.2 < y.2))
  · obtain ⟨x, y, rfl⟩ := args2 hn rfl
    have e := ren_same h.rel (h.ok (v := x) (by simp)) (h.ok (v := y) (by simp)) (h.args x (by simp)) (h.args y (by simp)) h.inv
    refine h.goE _ _ _ (h.rest.app (p1 _)) ?_
    rw [List.map_append, List.map_cons, List.map_nil, ren_int, e]
  · obtain rfl := args0 hn rfl
    exact h.goE _ _ _ h.rest rfl
  · obtain ⟨x, rfl⟩ := args1 hn rfl
    show ∃ q, Rel q (if goesOn x then goA s fs f (f.pc + 1) rest else goA s fs f a.toNat rest) (if goesOn (ren r x) then goA t (fs.map (renF r)) (renF r f) (f.pc + 1) (rest.map (ren r)) else goA t (fs.map (renF r)) (renF r f) a.toNat (rest.map (ren r)))
    rw [goesOn_ren]
    split
    · exact h.goE _ _ _ h.rest rfl
    · exact h.goE _ _ _ h.rest rfl
  · exact h.call a args h.args
  · obtain ⟨x, rfl⟩ := args1 hn rfl
    exact h.return (by simp)
  · obtain rfl := args0 hn rfl
    exact h.new 1 _ _ (Or.inl ⟨by decide, nils_plain _, rfl⟩) hI
  · obtain ⟨x, rfl⟩ := args1 hn rfl
    have hI' : InvA g (if x.1 ≠ 1 then trapA s 2 else if 0 ≤ x.2 ∧ x.2 ≤ 12 then newA s fs f rest 2 (List.replicate x.2.toNat (0, 0)) else trapA s 4) := hI
    show ∃ q, Rel q (if x.1 ≠ 1 then trapA s 2 else if 0 ≤ x.2 ∧ x.2 ≤ 12 then newA s fs f rest 2 (List.replicate x.2.toNat (0, 0)) else trapA s 4) (if (ren r x).1 ≠ 1 then trapA t 2 else if 0 ≤ (ren r x).2 ∧ (ren r x).2 ≤ 12 then newA t (fs.map (renF r)) (renF r f) (rest.map (ren r)) 2 (List.replicate (ren r x).2.toNat (0, 0)) else trapA t 4)
    by_cases hx1 : x.1 = 1
    · have ex : ren r x = x := ren_plain (by omega)
      rw [if_neg (not_not_intro hx1)] at hI'
      rw [ex, if_neg (not_not_intro hx1), if_neg (not_not_intro hx1)]
      by_cases hc : 0 ≤ x.2 ∧ x.2 ≤ 12
      · rw [if_pos hc] at hI'
        rw [if_pos hc, if_pos hc]
        exact h.new 2 _ _ (Or.inl ⟨by decide, nils_plain _, rfl⟩) hI'
      · rw [if_neg hc, if_neg hc]; exact h.trap _
    · have hx1' : (ren r x).1 ≠ 1 := by rw [ren_kind]; exact hx1
      rw [if_pos hx1, if_pos hx1']; exact h.trap _
  · obtain ⟨x, rfl⟩ := args1 hn rfl
    have hI' : InvA g (if x.1 = 2 then newA s fs f rest 3 [x] else trapA s 2) := hI
    show ∃ q, Rel q (if x.1 = 2 then newA s fs f rest 3 [x] else trapA s 2) (if (ren r x).1 = 2 then newA t (fs.map (renF r)) (renF r f) (rest.map (ren r)) 3 [ren r x] else trapA t 2)
    rw [ren_kind]
    by_cases h1 : x.1 = 2
    · rw [if_pos h1] at hI'
      rw [if_pos h1, if_pos h1]
      exact h.new 3 _ _ (Or.inr ⟨rfl, x, by simp, h1, rfl, rfl⟩) hI'
    · rw [if_neg h1, if_neg h1]; exact h.trap _
  · obtain ⟨x, rfl⟩ := args1 hn rfl
    exact h.get (ix := (1, a)) (ix' := (1, a)) (by simp) 1 (by decide) rfl fun _ => rfl
  · obtain ⟨x, y, rfl⟩ := args2 hn rfl
    exact h.set (ix := (1, a)) (ix' := (1, a)) (by simp) (by simp) 1 (by decide) rfl (fun _ => rfl) fun st e => by rw [e]; exact hI
  · obtain ⟨x, y, rfl⟩ := args2 hn rfl
    exact h.get (ix := y) (ix' := ren r y) (by simp) 2 (by decide) (ren_kind r y) (ix_ren y)
  · obtain ⟨x, y, z, rfl⟩ := args3 hn rfl
    exact h.set (ix := y) (ix' := ren r y) (by simp) (by simp) 2 (by decide) (ren_kind r y) (ix_ren y) fun st e => by rw [e]; exact hI
  · obtain ⟨x, rfl⟩ := args1 hn rfl
    obtain ⟨e1, e2, _⟩ := referred_rel h.rel h.inv (h.args x (by simp))
    show ∃ q, Rel q (if (referredA s.obs x).1 = 1 ∨ (referredA s.obs x).1 = 2 then goA s fs f (f.pc + 1) (rest ++ [(1, ((referredA s.obs x).2.length : Int))]) else trapA s 2) (if (referredA t.obs (ren r x)).1 = 1 ∨ (referredA t.obs (ren r x)).1 = 2 then goA t (fs.map (renF r)) (renF r f) (f.pc + 1) (rest.map (ren r) ++ [(1, ((referredA t.obs (ren r x)).2.length : Int))]) else trapA t 2)
    rw [e1]
    by_cases hc : (referredA s.obs x).1 = 1 ∨ (referredA s.obs x).1 = 2
    · rw [if_pos hc, if_pos hc, e2 (by omega), List.length_map]
      exact h.goE _ _ _ (h.rest.app (p1 _)) (by rw [List.map_append, List.map_cons, List.map_nil, ren_int])
    · rw [if_neg hc, if_neg hc]; exact h.trap _
  · obtain ⟨x, rfl⟩ := args1 hn rfl
    obtain ⟨e1, _, _⟩ := referred_rel h.rel h.inv (h.args x (by simp))
    show ∃ q, Rel q (if (referredA s.obs x).1 = 3 then goA s fs f (f.pc + 1) (rest ++ [strongA s ((referredA s.obs x).2.headD (0, 0))]) else trapA s 2) (if (referredA t.obs (ren r x)).1 = 3 then goA t (fs.map (renF r)) (renF r f) (f.pc + 1) (rest.map (ren r) ++ [strongA t ((referredA t.obs (ren r x)).2.headD (0, 0))]) else trapA t 2)
    rw [e1]
    by_cases hc : (referredA s.obs x).1 = 3
    · rw [if_pos hc, if_pos hc]
      exact h.goE _ _ _ (h.rest.app (strong_in _)) (by rw [List.map_append, List.map_cons, List.map_nil, strong_rel h.rel h.inv (h.args x (by simp)) hc])
    · rw [if_neg hc, if_neg hc]; exact h.trap _
  · obtain ⟨x, rfl⟩ := args1 hn rfl
    refine h.goE _ _ _ (h.rest.app (p1 _)) ?_
    rw [List.map_append, List.map_cons, List.map_nil, ren_int, ren_kind]
  · obtain ⟨x, rfl⟩ := args1 hn rfl
    show ∃ q, Rel q (if x.1 ≠ 1 then trapA s 2 else if 40 ≤ s.out.length then trapA s 7 else ⟨0, s.out ++ [x.2], fs ++ [⟨f.fn, f.pc + 1, f.loc, rest⟩], s.obs, s.dr⟩) (if (ren r x).1 ≠ 1 then trapA t 2 else if 40 ≤ t.out.length then trapA t 7 else ⟨0, t.out ++ [(ren r x).2], fs.map (renF r) ++ [⟨f.fn, f.pc + 1, f.loc.map (ren r), rest.map (ren r)⟩], t.obs, t.dr⟩)
    by_cases hx1 : x.1 = 1
    · have ex : ren r x = x := ren_plain (by omega)
      rw [ex, h.rel.out, if_neg (not_not_intro hx1), if_neg (not_not_intro hx1)]
      by_cases hc : 40 ≤ s.out.length
      · rw [if_pos hc, if_pos hc]; exact h.trap _
      · rw [if_neg hc, if_neg hc]
        have := h.put 0 (s.out ++ [x.2]) (fs ++ [⟨f.fn, f.pc + 1, f.loc, rest⟩]) (fun y hy => by
          rcases List.mem_append.1 hy with hy | hy
          · exact Or.inl hy
          · rw [List.mem_singleton] at hy; subst hy; exact Or.inr (h.loc.app h.rest)) s.dr t.dr
        simp only [List.map_append, List.map_cons, List.map_nil, renF] at this
        exact ⟨r, this⟩
    · have hx1' : (ren r x).1 ≠ 1 := by rw [ren_kind]; exact hx1
      rw [if_pos hx1, if_pos hx1']; exact h.trap _
  · obtain rfl := args0 hn rfl
    have := h.put 1 s.out [] (fun x hx => by simp at hx) s.dr t.dr
    refine ⟨r, ?_⟩
    show Rel r ⟨1, s.out, [], s.obs, s.dr⟩ ⟨1, t.out, [], t.obs, t.dr⟩
    rw [h.rel.out]
    exact this

theorem step_rel {g : PgR} (hp : PgOk g) {r : Nat → Nat} {s t : McA} (h : Rel r s t) (hi : InvA g s) (hj : InvA g t) (h0 : s.st = 0) : ∃ q, Rel q (stepA g s) (stepA g t) := by
  have hne := hi.run h0
  obtain ⟨fs, f, hf⟩ : ∃ fs f, s.frs = fs ++ [f] := ⟨_, _, (List.dropLast_concat_getLast hne).symm⟩
  obtain ⟨k, a, rest, args, _, o, e⟩ := hi.opAt hp hf
  have hT : stepA g t = doA g k a t (fs.map (renF r)) (renF r f) (rest.map (ren r)) (args.map (ren r)) := by
    have hft : t.frs = fs.map (renF r) ++ [renF r f] := by rw [h.frs, hf, List.map_append]; rfl
    have e1 : t.frs.getLast? = some (renF r f) := by rw [hft]; simp
    have e2 : t.frs.dropLast = fs.map (renF r) := by rw [hft]; simp
    have hs : (renF r f).stk = rest.map (ren r) ++ args.map (ren r) := by show f.stk.map (ren r) = _; rw [o.stk, List.map_append]
    unfold stepA
    rw [e1, e2]
    simp only
    rw [show (g.f (renF r f).fn).op (renF r f).pc = (k : Int) from o.op, show (g.f (renF r f).fn).ar (renF r f).pc = a from o.ar, o.pops, hs]
    have e3 : (rest.map (ren r) ++ args.map (ren r)).length - ((args.length : Nat) : Int).toNat = (rest.map (ren r)).length := by simp
    rw [e3, List.take_left, List.drop_left]
    rfl
  rw [e, hT]
  exact do_rel hp ⟨h, hi, hj, hf, o.stk⟩ o

theorem run_rel {g : PgR} (hp : PgOk g) : ∀ (n : Nat) {r : Nat → Nat} {s t : McA}, Rel r s t → InvA g s → InvA g t → (∃ q, Rel q (runA g n s) (runA g n t)) ∧ stepsA g n t = stepsA g n s
  | 0, r, _, _, h, _, _ => ⟨⟨r, h⟩, rfl⟩
  | n + 1, r, s, t, h, hi, hj => by
    rw [runA, runA, stepsA, stepsA, h.st]
    by_cases h0 : s.st = 0
    · rw [if_pos h0, if_pos h0, if_pos h0, if_pos h0]
      obtain ⟨q, hq⟩ := step_rel hp h hi hj h0
      obtain ⟨h1, h2⟩ := run_rel hp n hq (inv_step hp hi h0) (inv_step hp hj (by rw [h.st]; exact h0))
      exact ⟨h1, by rw [h2]⟩
    · rw [if_neg h0, if_neg h0, if_neg h0, if_neg h0]
      exact ⟨⟨r, h⟩, rfl⟩

end Go.Proofs.YtbkmgoffiigdbabGreatDoor

namespace Go.Proofs.YtbkmgoffiigdbabGreatDoor
open Go.RowKit Go.Sort

/-! PLAIN: what of a machine is saved: its objects by the numbers of the walk. -/

/-- Where a number stands in a list, if it does. -/
def ixA : List Nat → Nat → Option Nat
  | [], _ => none
  | a :: l, x => if a = x then some 0 else (ixA l x).map (· + 1)

theorem ixA_none {l : List Nat} {x : Nat} (h : x ∉ l) : ixA l x = none := by
  induction l with
  | nil => rfl
  | cons a l ih =>
    rw [ixA, if_neg (fun e => h (by simp [e])), ih (fun e => h (by simp [e]))]
    rfl

theorem ixA_map {r : Nat → Nat} {A : List Nat} (hr : InjOn r A) {x : Nat} (hx : x ∈ A) : ∀ {l : List Nat}, (∀ j, j ∈ l → j ∈ A) → ixA (l.map r) (r x) = ixA l x
  | [], _ => rfl
  | a :: l, hl => by
    rw [List.map_cons, ixA, ixA]
    by_cases e : a = x
    · rw [if_pos e, if_pos (by rw [e])]
    · rw [if_neg e, if_neg (fun q => e (hr a x (hl a (by simp)) hx q)), ixA_map hr hx fun j hj => hl j (by simp [hj])]

/-- A value by numbers. -/
def packV (al : List Nat) (v : Val) : Val := if v.1 = 2 then (match ixA al v.2.toNat with | some i => (2, (i : Int)) | none => (0, 0)) else v
def packF (al : List Nat) (f : FrA) : FrA := ⟨f.fn, f.pc, f.loc.map (packV al), f.stk.map (packV al)⟩
def packO (s : McA) (j : Nat) : Ob := match s.obs[j]? with | some o => (o.1, o.2.map (packV (aliveA s))) | none => (0, [])

/-- The machine with those objects alone that are alive, each in the slot of its number. -/
def packA (s : McA) : McA := ⟨s.st, s.out, s.frs.map (packF (aliveA s)), (aliveA s).map (packO s), []⟩

theorem packV_ren {g : PgR} {r : Nat → Nat} {s t : McA} (h : Rel r s t) (hi : InvA g s) {v : Val} (hv : v.1 = 2 → v.2.toNat ∈ aliveA s) : packV (aliveA t) (ren r v) = packV (aliveA s) v := by
  unfold packV
  rw [ren_kind]
  by_cases h2 : v.1 = 2
  · rw [if_pos h2, if_pos h2, ren_ref h2, h.alive hi, ixA_map h.inj (hv h2) fun _ hj => hj]
  · rw [if_neg h2, if_neg h2, ren_plain h2]

theorem packV_dead {al : List Nat} {v : Val} (h : ¬ (v.1 = 2 ∧ v.2.toNat ∈ al)) (h0 : v.1 ≠ 2 → v = (0, 0)) : packV al v = (0, 0) := by
  unfold packV
  by_cases h2 : v.1 = 2
  · rw [if_pos h2, ixA_none fun e => h ⟨h2, e⟩]
  · rw [if_neg h2]; exact h0 h2

theorem weak_form {g : PgR} {s : McA} (h : InvA g s) {j : Nat} {o : Ob} (ho : s.obs[j]? = some o) (h3 : o.1 = 3) : o.2 = [o.2.headD (0, 0)] ∧ (o.2.headD (0, 0)).1 ≠ 1 ∧ ((o.2.headD (0, 0)).1 ≠ 2 → o.2.headD (0, 0) = (0, 0)) := by
  rcases h.obs o (List.mem_of_getElem? ho) with ⟨e, _⟩ | ⟨e, _⟩ | ⟨e, _⟩ | ⟨_, u, e, hu, h1⟩
  · omega
  · omega
  · omega
  · rw [e]
    refine ⟨rfl, h1, fun h2 => ?_⟩
    rcases hu with hu | hu | hu
    · exact hu
    · exact absurd hu h1
    · exact absurd hu.1 h2

/-- Alike machines are saved alike. -/
theorem pack_rel {g : PgR} {r : Nat → Nat} {s t : McA} (h : Rel r s t) (hi : InvA g s) (hj : InvA g t) : packA t = packA s := by
  unfold packA
  rw [h.st, h.out, h.frs, List.map_map]
  have e1 : s.frs.map (packF (aliveA t) ∘ renF r) = s.frs.map (packF (aliveA s)) := List.map_congr_left fun f hf => by
    have hin := In.frs hi hf
    show FrA.mk f.fn f.pc ((f.loc.map (ren r)).map (packV (aliveA t))) ((f.stk.map (ren r)).map (packV (aliveA t))) = FrA.mk f.fn f.pc (f.loc.map (packV (aliveA s))) (f.stk.map (packV (aliveA s)))
    rw [List.map_map, List.map_map]
    congr 1
    · exact List.map_congr_left fun v hv => packV_ren h hi (hin v (by simp [hv]))
    · exact List.map_congr_left fun v hv => packV_ren h hi (hin v (by simp [hv]))
  have e2 : (aliveA t).map (packO t) = (aliveA s).map (packO s) := by
    rw [h.alive hi, List.map_map]
    refine List.map_congr_left fun j hj' => ?_
    obtain ⟨o, p, ho, hp, hk, hf⟩ := h.moved j hj'
    show packO t (r j) = packO s j
    unfold packO
    rw [ho, hp]
    show (p.1, p.2.map (packV (aliveA t))) = (o.1, o.2.map (packV (aliveA s)))
    rw [hk]
    congr 1
    by_cases h3 : o.1 = 3
    · obtain ⟨f1, _, f3⟩ := weak_form hi ho h3
      obtain ⟨g1, _, g3⟩ := weak_form hj hp (by rw [hk]; exact h3)
      rw [f1, g1]
      rcases h.weak j o p hj' ho hp h3 with ⟨a1, a2, a3⟩ | ⟨a1, a2⟩
      · show [packV (aliveA t) (p.2.headD (0, 0))] = [packV (aliveA s) (o.2.headD (0, 0))]
        rw [a3, packV_ren h hi fun _ => a2]
      · show [packV (aliveA t) (p.2.headD (0, 0))] = [packV (aliveA s) (o.2.headD (0, 0))]
        rw [packV_dead a1 f3, packV_dead a2 g3]
    · rw [hf h3, List.map_map]
      exact List.map_congr_left fun v hv => packV_ren h hi (hi.alive.shut j hj' o ho h3 v hv)
  rw [e1, e2]

/-! Draws. -/

theorem rel_draws {g : PgR} {s : McA} (h : InvA g s) (d : List Int) : Rel id s { s with dr := d } := by
  have hal : aliveA { s with dr := d } = aliveA s := rfl
  refine ⟨rfl, rfl, rfl, (frs_id h).symm, injOn_id _, fun j hj => ?_, fun j o p hj ho hp h3 => ?_⟩
  · obtain ⟨o, ho, _⟩ := alive_nonfree h hj
    exact ⟨o, o, ho, ho, rfl, fun _ => (map_ren_id (inv_ofields h ho)).symm⟩
  · rw [show (id j : Nat) = j from rfl, show ({ s with dr := d } : McA).obs = s.obs from rfl, ho] at hp
    cases hp
    rw [hal]
    by_cases hin : (o.2.headD (0, 0)).1 = 2 ∧ (o.2.headD (0, 0)).2.toNat ∈ aliveA s
    · exact Or.inl ⟨hin.1, hin.2, (ren_id _ fun h2 => ref_nonneg h ho h3 h2).symm⟩
    · exact Or.inr ⟨hin, hin⟩

end Go.Proofs.YtbkmgoffiigdbabGreatDoor
