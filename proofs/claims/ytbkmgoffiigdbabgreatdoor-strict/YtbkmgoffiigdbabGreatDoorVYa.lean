import Derived.Test.YtbkmgoffiigdbabGreatDoorVR
import Derived.Test.YtbkmgoffiigdbabGreatDoorVUc
import Derived.Test.YtbkmgoffiigdbabGreatDoorVXb
import Derived.Test.YtbkmgoffiigdbabGreatDoorVXf
namespace Go.Proofs.YtbkmgoffiigdbabGreatDoor
open Go.RowKit Go.Sort

/-! PLAIN: two machines that can't be told apart, but for the size of the heap. -/

theorem walk_more {obs : List Ob} : ∀ (n i : Nat) (met : List Nat) (k : Nat), (walkA obs n i met).length ≤ n + i → walkA obs (n + k) i met = walkA obs n i met
  | 0, i, met, k, h => by
    rw [walkA] at h ⊢
    cases k with
    | zero => rfl
    | succ k =>
      rw [Nat.zero_add, walkA, List.getElem?_eq_none_iff.2 (by omega)]
  | n + 1, i, met, k, h => by
    have e : n + 1 + k = (n + k) + 1 := by omega
    rw [walkA] at h
    rw [e, walkA, walkA]
    cases hi : met[i]? with
    | none => rfl
    | some j =>
      rw [hi] at h
      simp only at h ⊢
      cases ho : obs[j]? with
      | none => rfl
      | some o =>
        rw [ho] at h
        simp only at h ⊢
        exact walk_more n (i + 1) _ k (by omega)

theorem walk_le {obs : List Ob} {n m : Nat} {i : Nat} {met : List Nat} (hnm : n ≤ m) (h : (walkA obs n i met).length ≤ n + i) : walkA obs m i met = walkA obs n i met := by
  obtain ⟨k, rfl⟩ := Nat.exists_eq_add_of_le hnm
  exact walk_more n i met k h

theorem walk_pre {obs : List Ob} : ∀ (n i : Nat) (met : List Nat) (k : Nat), walkA obs n i met <+: walkA obs (n + k) i met
  | 0, i, met, k => by
    rw [walkA]
    cases k with
    | zero => exact List.prefix_refl _
    | succ k =>
      rw [Nat.zero_add, walkA]
      split
      · exact List.prefix_refl _
      · split
        · exact List.prefix_refl _
        · rename_i o _
          have h1 := walk_pre (obs := obs) 0 (i + 1) (if o.1 = 3 then met else meetA met o.2) k
          rw [walkA, Nat.zero_add] at h1
          refine List.IsPrefix.trans ?_ h1
          split
          · exact List.prefix_refl _
          · exact meetA_prefix _ _
  | n + 1, i, met, k => by
    have e : n + 1 + k = (n + k) + 1 := by omega
    rw [e, walkA, walkA]
    cases met[i]? with
    | none => exact List.prefix_refl _
    | some j =>
      simp only
      cases obs[j]? with
      | none => exact List.prefix_refl _
      | some o => exact walk_pre n (i + 1) _ k

theorem reached_map0 {r : Nat → Nat} {obs obt : List Ob} {l : List Val} {A : List Nat} (hA : Reached obs l A) (hlen : A.length ≤ obt.length) (hr : InjOn r A) (hmv : Moved r A obs obt) (hsub : ∀ n j, j ∈ walkA obs n 0 (meetA [] l) → j ∈ A) (hnd : ∀ n, (walkA obs n 0 (meetA [] l)).Nodup) : reachedA obt (l.map (ren r)) = (reachedA obs l).map r := by
  unfold reachedA
  have h0 : ∀ j, j ∈ meetA [] l → j ∈ A := fun j hj => by
    rcases (meetA_mem l [] j).1 hj with h | ⟨v, hv, h2, rfl⟩
    · cases h
    · exact hA.roots v hv h2
  have e := meet_map hr l [] (by simp) fun v hv h2 => hA.roots v hv h2
  rw [show ([] : List Nat).map r = [] from rfl] at e
  rw [e, walk_map hr hmv hA.shut _ _ _ h0]
  congr 1
  have hb : ∀ n, (walkA obs n 0 (meetA [] l)).length ≤ A.length := fun n => nodup_le (hnd n) (hsub n)
  have hAo : A.length ≤ obs.length := nodup_len hA.nodup hA.lt
  rcases Nat.le_total obt.length obs.length with h | h
  · exact (walk_le h (by have := hb obt.length; omega)).symm
  · exact walk_le h (by have := hb obs.length; omega)

/-- Two machines that can't be told apart, but for the size of the heap. -/
structure Rel0 (r : Nat → Nat) (s t : McA) : Prop where
  st : t.st = s.st
  out : t.out = s.out
  cap : (aliveA s).length ≤ t.obs.length
  frs : t.frs = s.frs.map (renF r)
  inj : InjOn r (aliveA s)
  moved : Moved r (aliveA s) s.obs t.obs

theorem walk_nodup {obs : List Ob} (hw : Within obs) {l : List Val} (hl : ∀ v, v ∈ l → v.1 = 2 → v.2.toNat < obs.length) : ∀ n, (walkA obs n 0 (meetA [] l)).Nodup := by
  intro n
  suffices ∀ (n i : Nat) (met : List Nat), Walked obs i met → (walkA obs n i met).Nodup from this n 0 _ ⟨meetA_nodup _ _ List.nodup_nil, meetA_lt (by simp) hl, fun k j hk _ => by omega⟩
  intro n
  induction n with
  | zero => intro i met h; exact h.nodup
  | succ n ih =>
    intro i met h
    rw [walkA]
    cases hi : met[i]? with
    | none => exact h.nodup
    | some j =>
      obtain ⟨o, ho⟩ : ∃ o, obs[j]? = some o := ⟨_, List.getElem?_eq_getElem (h.lt j (List.mem_of_getElem? hi))⟩
      simp only [ho]
      exact ih _ _ (h.next hw hi ho)

theorem Rel0.alive {g : PgR} {r : Nat → Nat} {s t : McA} (h : Rel0 r s t) (hi : InvA g s) : aliveA t = (aliveA s).map r := by
  unfold aliveA
  rw [h.frs, valuesA_ren]
  have hl : ∀ v, v ∈ valuesA s.frs → v.1 = 2 → v.2.toNat < s.obs.length := fun v hv h2 => hi.alive.lt _ (hi.alive.roots v hv h2)
  refine reached_map0 hi.alive h.cap h.inj h.moved (fun n j hj => ?_) (walk_nodup hi.within hl)
  have : Lead s.obs (valuesA s.frs) j := walkA_lead n 0 _ (meetA_lead (by simp) fun v hv h2 => Lead.root v hv h2) j hj
  exact hi.alive.of_lead this

def RelW (r : Nat → Nat) (s t : McA) : Prop := ∀ j o p, j ∈ aliveA s → s.obs[j]? = some o → t.obs[r j]? = some p → o.1 = 3 → WeakOk r (aliveA s) (aliveA t) (o.2.headD (0, 0)) (p.2.headD (0, 0))

theorem Rel0.rel {r : Nat → Nat} {s t : McA} (h : Rel0 r s t) (hw : RelW r s t) (hc : t.obs.length = s.obs.length) : Rel r s t := ⟨h.st, h.out, hc, h.frs, h.inj, h.moved, hw⟩

theorem packV_ren0 {g : PgR} {r : Nat → Nat} {s t : McA} (h : Rel0 r s t) (hi : InvA g s) {v : Val} (hv : v.1 = 2 → v.2.toNat ∈ aliveA s) : packV (aliveA t) (ren r v) = packV (aliveA s) v := by
  unfold packV
  rw [ren_kind]
  by_cases h2 : v.1 = 2
  · rw [if_pos h2, if_pos h2, ren_ref h2, h.alive hi, ixA_map h.inj (hv h2) fun _ hj => hj]
  · rw [if_neg h2, if_neg h2, ren_plain h2]

/-- They are saved alike. -/
theorem pack_rel0 {g : PgR} {r : Nat → Nat} {s t : McA} (h : Rel0 r s t) (hw : RelW r s t) (hi : InvA g s) (hj : InvA g t) : packA t = packA s := by
  unfold packA
  rw [h.st, h.out, h.frs, List.map_map]
  have e1 : s.frs.map (packF (aliveA t) ∘ renF r) = s.frs.map (packF (aliveA s)) := List.map_congr_left fun f hf => by
    have hin := In.frs hi hf
    show FrA.mk f.fn f.pc ((f.loc.map (ren r)).map (packV (aliveA t))) ((f.stk.map (ren r)).map (packV (aliveA t))) = FrA.mk f.fn f.pc (f.loc.map (packV (aliveA s))) (f.stk.map (packV (aliveA s)))
    rw [List.map_map, List.map_map]
    congr 1
    · exact List.map_congr_left fun v hv => packV_ren0 h hi (hin v (by simp [hv]))
    · exact List.map_congr_left fun v hv => packV_ren0 h hi (hin v (by simp [hv]))
  have e2 : (aliveA t).map (packO t) = (aliveA s).map (packO s) := by
    rw [h.alive hi, List.map_map]
    refine List.map_congr_left fun j hj' => ?_
    obtain ⟨o, p, ho, hp, hk, hf⟩ := h.moved j hj'
    show packO t (r j) = packO s j
    unfold packO
    rw [ho, hp]
    show (p.1, p.2.map (packV (aliveA t))) = (o.1, o.2.map (packV (aliveA s)))
    rw [hk]
    congr 1
    by_cases h3 : o.1 = 3
    · obtain ⟨f1, _, f3⟩ := weak_form hi ho h3
      obtain ⟨g1, _, g3⟩ := weak_form hj hp (by rw [hk]; exact h3)
      rw [f1, g1]
      rcases hw j o p hj' ho hp h3 with ⟨a1, a2, a3⟩ | ⟨a1, a2⟩
      · show [packV (aliveA t) (p.2.headD (0, 0))] = [packV (aliveA s) (o.2.headD (0, 0))]
        rw [a3, packV_ren0 h hi fun _ => a2]
      · show [packV (aliveA t) (p.2.headD (0, 0))] = [packV (aliveA s) (o.2.headD (0, 0))]
        rw [packV_dead a1 f3, packV_dead a2 g3]
    · rw [hf h3, List.map_map]
      exact List.map_congr_left fun v hv => packV_ren0 h hi (hi.alive.shut j hj' o ho h3 v hv)
  rw [e1, e2]

end Go.Proofs.YtbkmgoffiigdbabGreatDoor

namespace Go.Proofs.YtbkmgoffiigdbabGreatDoor
open Go.RowKit Go.Sort

/-! PLAIN: what is packed, and laid into a heap again. -/

theorem ixA_get : ∀ {l : List Nat} {x i : Nat}, ixA l x = some i → l[i]? = some x
  | [], _, _, h => by cases h
  | a :: l, x, i, h => by
    rw [ixA] at h
    by_cases e : a = x
    · rw [if_pos e] at h
      injection h with h
      subst h
      rw [e]
      rfl
    · rw [if_neg e] at h
      cases q : ixA l x with
      | none => rw [q] at h; cases h
      | some k =>
        rw [q] at h
        injection h with h
        subst h
        rw [List.getElem?_cons_succ]
        exact ixA_get q
theorem ixA_mem {l : List Nat} {x : Nat} (h : x ∈ l) : ∃ i, ixA l x = some i := by
  induction l with
  | nil => cases h
  | cons a l ih =>
    rw [ixA]
    by_cases e : a = x
    · rw [if_pos e]; exact ⟨0, rfl⟩
    · rw [if_neg e]
      obtain ⟨i, hi⟩ := ih (by rcases List.mem_cons.1 h with h | h; exact absurd h.symm e; exact h)
      rw [hi]
      exact ⟨i + 1, rfl⟩
theorem nodup_at {l : List Nat} (hn : l.Nodup) {i j x : Nat} (hi : l[i]? = some x) (hj : l[j]? = some x) : i = j := by
  obtain ⟨hil, e1⟩ := List.getElem?_eq_some_iff.1 hi
  obtain ⟨hjl, e2⟩ := List.getElem?_eq_some_iff.1 hj
  have hp := List.pairwise_iff_getElem.1 (show List.Pairwise (· ≠ ·) l from hn)
  rcases Nat.lt_trichotomy i j with h | h | h
  · exact absurd (e1.trans e2.symm) (hp i j hil hjl h)
  · exact h
  · exact absurd (e2.trans e1.symm) (hp j i hjl hil h)
theorem ixA_of {l : List Nat} (hn : l.Nodup) {i x : Nat} (hi : l[i]? = some x) : ixA l x = some i := by
  obtain ⟨k, hk⟩ := ixA_mem (List.mem_of_getElem? hi)
  rw [hk, nodup_at hn (ixA_get hk) hi]

/-- Where the object of a number lies. -/
def atL (laid : List Nat) (i : Nat) : Nat := laid.getD i 0
/-- Where an object lies now. -/
def nowL (al laid : List Nat) (j : Nat) : Nat := atL laid ((ixA al j).getD 0)

theorem ren_pack {al laid : List Nat} {v : Val} (h : v.1 = 2 → v.2.toNat ∈ al) : ren (atL laid) (packV al v) = ren (nowL al laid) v := by
  unfold packV
  by_cases h2 : v.1 = 2
  · obtain ⟨i, hi⟩ := ixA_mem (h h2)
    rw [if_pos h2, hi]
    unfold ren
    rw [if_pos rfl, if_pos h2]
    unfold nowL
    rw [hi]
    rfl
  · rw [if_neg h2, ren_plain h2, ren_plain h2]

/-- The machine of these objects, the object of number k in slot laid[k]. -/
structure Laid (os obs : List Ob) (laid : List Nat) : Prop where
  len : laid.length = os.length
  nodup : laid.Nodup
  at_ : ∀ (k : Nat) o, os[k]? = some o → ∃ j, laid[k]? = some j ∧ obs[j]? = some o
  free : ∀ (j : Nat) o, obs[j]? = some o → j ∉ laid → o = (0, [])

def wakeA (p : McA) (obs : List Ob) (laid : List Nat) (dr : List Int) : McA := ⟨p.st, p.out, p.frs.map (renF (atL laid)), obs.map fun o => (o.1, o.2.map (ren (atL laid))), dr⟩

section
variable {g : PgR} {s : McA} {obs : List Ob} {laid : List Nat} {dr : List Int}

theorem packA_at {k : Nat} {j : Nat} (hj : (aliveA s)[k]? = some j) {o : Ob} (ho : s.obs[j]? = some o) : (packA s).obs[k]? = some (o.1, o.2.map (packV (aliveA s))) := by
  show ((aliveA s).map (packO s))[k]? = _
  rw [List.getElem?_map, hj]
  show some (packO s j) = _
  unfold packO
  rw [ho]

theorem woken_at (h : Laid (packA s).obs obs laid) (hi : InvA g s) {j : Nat} (hj : j ∈ aliveA s) : ∃ (o : Ob) (k : Nat), s.obs[j]? = some o ∧ o.1 ≠ 0 ∧ (aliveA s)[k]? = some j ∧ laid[k]? = some (nowL (aliveA s) laid j) ∧ obs[nowL (aliveA s) laid j]? = some (o.1, o.2.map (packV (aliveA s))) := by
  obtain ⟨o, ho, hne⟩ := alive_nonfree hi hj
  obtain ⟨k, hk⟩ := ixA_mem hj
  have hk' := ixA_get hk
  obtain ⟨i, h1, h2⟩ := h.at_ k _ (packA_at hk' ho)
  have e : nowL (aliveA s) laid j = i := by
    unfold nowL atL
    rw [hk]
    show laid.getD k 0 = i
    rw [List.getD_eq_getElem?_getD, h1]
    rfl
  rw [e]
  exact ⟨o, k, ho, hne, hk', h1, h2⟩

theorem wake_rel0 (h : Laid (packA s).obs obs laid) (hi : InvA g s) (hlt : ∀ j, j ∈ laid → j < obs.length) : Rel0 (nowL (aliveA s) laid) s (wakeA (packA s) obs laid dr) := by
  refine ⟨rfl, rfl, ?_, ?_, fun i j h1 h2 e => ?_, fun j hj => ?_⟩
  · show _ ≤ (obs.map _).length
    rw [List.length_map]
    have : laid.length = (aliveA s).length := by rw [h.len]; exact List.length_map _
    rw [← this]
    exact nodup_len h.nodup hlt
  · show (s.frs.map (packF (aliveA s))).map (renF (atL laid)) = _
    rw [List.map_map]
    refine List.map_congr_left fun f hf => ?_
    have hin := In.frs hi hf
    show FrA.mk f.fn f.pc ((f.loc.map _).map _) ((f.stk.map _).map _) = FrA.mk f.fn f.pc _ _
    rw [List.map_map, List.map_map]
    congr 1
    · exact List.map_congr_left fun v hv => ren_pack (hin v (by simp [hv]))
    · exact List.map_congr_left fun v hv => ren_pack (hin v (by simp [hv]))
  · obtain ⟨_, k, _, _, hk, hl, _⟩ := woken_at h hi h1
    obtain ⟨_, k', _, _, hk', hl', _⟩ := woken_at h hi h2
    rw [← e] at hl'
    obtain rfl := nodup_at h.nodup hl hl'
    rw [hk] at hk'
    exact Option.some.inj hk'
  · obtain ⟨o, k, ho, hne, hk, hl, hob⟩ := woken_at h hi hj
    refine ⟨o, (o.1, (o.2.map (packV (aliveA s))).map (ren (atL laid))), ho, ?_, rfl, fun h3 => ?_⟩
    · show (obs.map _)[_]? = _
      rw [List.getElem?_map, hob]
      rfl
    · show (o.2.map (packV (aliveA s))).map (ren (atL laid)) = _
      rw [List.map_map]
      exact List.map_congr_left fun v hv => ren_pack (hi.alive.shut j hj o ho h3 v hv)

theorem wake_relW (h : Laid (packA s).obs obs laid) (hi : InvA g s) : RelW (nowL (aliveA s) laid) s (wakeA (packA s) obs laid dr) := by
  intro j o p hj ho hp h3
  obtain ⟨o', k, ho', hne, hk, hl, hob⟩ := woken_at h hi hj
  rw [ho] at ho'
  cases ho'
  have hp' : p = (o.1, (o.2.map (packV (aliveA s))).map (ren (atL laid))) := by
    have : (obs.map fun o => ((o.1, o.2.map (ren (atL laid))) : Ob))[nowL (aliveA s) laid j]? = some p := hp
    rw [List.getElem?_map, hob] at this
    exact (Option.some.inj this).symm
  obtain ⟨f1, f2, f3⟩ := weak_form hi ho h3
  rw [hp', f1]
  show WeakOk _ _ _ (o.2.headD (0, 0)) (ren (atL laid) (packV (aliveA s) (o.2.headD (0, 0))))
  generalize o.2.headD (0, 0) = v at f2 f3 ⊢
  by_cases hc : v.1 = 2 ∧ v.2.toNat ∈ aliveA s
  · exact Or.inl ⟨hc.1, hc.2, ren_pack fun _ => hc.2⟩
  · refine Or.inr ⟨hc, ?_⟩
    rw [packV_dead hc f3, ren_nil]
    simp

end

end Go.Proofs.YtbkmgoffiigdbabGreatDoor

namespace Go.Proofs.YtbkmgoffiigdbabGreatDoor
open Go.RowKit Go.Sort

/-! PLAIN: the objects are laid one by one; the machine that is woken is sound. -/

def layA : List Ob → List Ob → List Int → List Nat → List Ob × List Int × List Nat
  | [], obs, dr, laid => (obs, dr, laid)
  | o :: l, obs, dr, laid => match pickA obs dr with
    | none => (obs, dr, laid)
    | some j => layA l (obs.set j.1 o) j.2 (laid ++ [j.1])

theorem Laid.none (c : Nat) : Laid [] (List.replicate c (0, [])) [] := by
  refine ⟨rfl, List.nodup_nil, fun k o ho => by simp at ho, fun j o ho _ => ?_⟩
  exact (List.mem_replicate.1 (List.mem_of_getElem? ho)).2

theorem Laid.free_at {os obs : List Ob} {laid : List Nat} (h : Laid os obs laid) (hk : ∀ o, o ∈ os → o.1 ≠ 0) {j : Nat} {o : Ob} (ho : obs[j]? = some o) (h0 : o.1 = 0) : j ∉ laid := fun hj => by
  obtain ⟨k, hk'⟩ := List.mem_iff_getElem?.1 hj
  have hkl := (List.getElem?_eq_some_iff.1 hk').1
  rw [h.len] at hkl
  obtain ⟨j', h1, h2⟩ := h.at_ k _ (List.getElem?_eq_getElem hkl)
  rw [hk'] at h1
  cases h1
  rw [ho] at h2
  injection h2 with h2
  exact hk _ (List.getElem_mem hkl) (by rw [← h2]; exact h0)

theorem Laid.put {os obs : List Ob} {laid : List Nat} (h : Laid os obs laid) {j : Nat} (hj : j ∉ laid) (hl : j < obs.length) (o : Ob) : Laid (os ++ [o]) (obs.set j o) (laid ++ [j]) := by
  refine ⟨by rw [List.length_append, List.length_append, h.len]; rfl, ?_, fun k x hx => ?_, fun i x hx hn => ?_⟩
  · rw [List.nodup_append]
    refine ⟨h.nodup, by simp, fun a ha b hb => ?_⟩
    rw [List.mem_singleton] at hb
    rintro rfl
    exact hj (hb ▸ ha)
  · by_cases hk : k < os.length
    · rw [List.getElem?_append_left hk] at hx
      obtain ⟨i, h1, h2⟩ := h.at_ k x hx
      refine ⟨i, by rw [List.getElem?_append_left (by rw [h.len]; exact hk)]; exact h1, ?_⟩
      rw [List.getElem?_set_ne (fun e => hj (by rw [e]; exact List.mem_of_getElem? h1))]
      exact h2
    · have hkl := (List.getElem?_eq_some_iff.1 hx).1
      rw [List.length_append] at hkl
      simp at hkl
      obtain rfl : k = os.length := by omega
      rw [List.getElem?_append_right (Nat.le_refl _)] at hx
      simp at hx
      subst hx
      refine ⟨j, by rw [← h.len, List.getElem?_append_right (Nat.le_refl _)]; simp, ?_⟩
      rw [List.getElem?_set_self hl]
  · rw [List.mem_append, List.mem_singleton] at hn
    have hne : j ≠ i := fun e => hn (Or.inr e.symm)
    rw [List.getElem?_set_ne hne] at hx
    exact h.free i x hx fun e => hn (Or.inl e)

theorem Laid.room {os obs : List Ob} {laid : List Nat} (h : Laid os obs laid) (hlt : os.length < obs.length) : takenA obs ≠ obs.length := fun e => by
  have hall : ∀ o, o ∈ obs → (o.1 != 0) = true := List.length_filter_eq_length_iff.1 e
  have hsub : ∀ j, j ∈ List.range obs.length → j ∈ laid := fun j hj => by
    have hj' := List.mem_range.1 hj
    refine Decidable.byContradiction fun hn => ?_
    have h1 := h.free j _ (List.getElem?_eq_getElem hj') hn
    have h2 := hall _ (List.getElem_mem hj')
    rw [h1] at h2
    exact absurd h2 (by decide)
  have := nodup_le List.nodup_range hsub
  rw [List.length_range, h.len] at this
  omega

theorem lay_laid : ∀ (rest os obs : List Ob) (dr : List Int) (laid : List Nat), Laid os obs laid → (∀ j, j ∈ laid → j < obs.length) → (∀ o, o ∈ os ++ rest → o.1 ≠ 0) → (os ++ rest).length ≤ obs.length →
    Laid (os ++ rest) (layA rest obs dr laid).1 (layA rest obs dr laid).2.2 ∧ (layA rest obs dr laid).1.length = obs.length ∧ (∀ j, j ∈ (layA rest obs dr laid).2.2 → j < obs.length) ∧ (layA rest obs dr laid).2.1.length ≤ dr.length
  | [], os, obs, dr, laid, h, hlt, _, _ => by
    rw [List.append_nil]
    exact ⟨h, rfl, hlt, Nat.le_refl _⟩
  | o :: rest, os, obs, dr, laid, h, hlt, hk, hc => by
    have hc' := hc
    rw [List.length_append, List.length_cons] at hc'
    obtain ⟨j, hj⟩ := pickA_some (dr := dr) (show 0 < obs.length by omega) (h.room (by omega))
    obtain ⟨⟨x, hx, h0⟩, hdr⟩ := pickA_free hj
    have hjl := (List.getElem?_eq_some_iff.1 hx).1
    have hnot := h.free_at (fun y hy => hk y (by simp [hy])) hx h0
    rw [layA, hj]
    simp only
    have e : os ++ o :: rest = (os ++ [o]) ++ rest := by simp
    obtain ⟨a1, a2, a3, a4⟩ := lay_laid rest (os ++ [o]) (obs.set j.1 o) j.2 (laid ++ [j.1]) (h.put hnot hjl o) (fun i hi => by
      rw [List.length_set]
      rcases List.mem_append.1 hi with hi | hi
      · exact hlt i hi
      · rw [List.mem_singleton] at hi; rw [hi]; exact hjl) (by rw [← e]; exact hk) (by rw [← e, List.length_set]; exact hc)
    rw [List.length_set] at a2 a3
    rw [e]
    exact ⟨a1, a2, a3, Nat.le_trans a4 hdr⟩

theorem layA_pick {o : Ob} {l obs : List Ob} {dr : List Int} {laid : List Nat} {j : Nat × List Int} (h : pickA obs dr = some j) : layA (o :: l) obs dr laid = layA l (obs.set j.1 o) j.2 (laid ++ [j.1]) := by rw [layA, h]

/-! Frames of the same measures. -/

structure Meas (φ : FrA → FrA) : Prop where
  fn : ∀ f, (φ f).fn = f.fn
  pc : ∀ f, (φ f).pc = f.pc
  loc : ∀ f, (φ f).loc.length = f.loc.length
  stk : ∀ f, (φ f).stk.length = f.stk.length

theorem Meas.frOk {φ : FrA → FrA} (h : Meas φ) {g : PgR} {f : FrA} {q : Int} (hf : FrOk g f q) : FrOk g (φ f) q := by
  refine ⟨by rw [h.fn]; exact hf.fn, by rw [h.loc, h.fn]; exact hf.loc, ?_⟩
  rw [h.fn, h.pc, h.stk]
  exact hf.reach
theorem Meas.lower {φ : FrA → FrA} (h : Meas φ) {g : PgR} : ∀ (l : List FrA) (fn : Nat), Lower g fn l → Lower g fn (l.map φ)
  | [], _, hl => hl
  | c :: r, fn, ⟨h1, h2, h3, h4⟩ => by
    refine ⟨h.frOk h1, by rw [h.fn, h.pc]; exact h2, by rw [h.fn, h.pc]; exact h3, ?_⟩
    rw [h.fn]
    exact h.lower r c.fn h4
theorem Meas.frames {φ : FrA → FrA} (h : Meas φ) {g : PgR} {l : List FrA} (hf : Frames g l) : Frames g (l.map φ) := by
  cases l with
  | nil => trivial
  | cons f r =>
    refine ⟨h.frOk hf.1, ?_⟩
    show Lower g (φ f).fn (r.map φ)
    rw [h.fn]
    exact h.lower r f.fn hf.2
theorem meas_ren (r : Nat → Nat) : Meas (renF r) := ⟨fun _ => rfl, fun _ => rfl, fun _ => List.length_map _, fun _ => List.length_map _⟩
theorem meas_pack (al : List Nat) : Meas (packF al) := ⟨fun _ => rfl, fun _ => rfl, fun _ => List.length_map _, fun _ => List.length_map _⟩

section
variable {g : PgR} {s : McA} {obs : List Ob} {laid : List Nat} {dr : List Int}

theorem wake_vok (h : Laid (packA s).obs obs laid) (hi : InvA g s) {v : Val} (hv : VOk s.obs v) : VOk (wakeA (packA s) obs laid dr).obs (ren (atL laid) (packV (aliveA s) v)) := by
  rcases hv with rfl | h1 | ⟨h2, h0, _⟩
  · have e : packV (aliveA s) (0, 0) = (0, 0) := rfl
    rw [e, ren_nil]
    exact Or.inl rfl
  · have e : packV (aliveA s) v = v := by unfold packV; rw [if_neg (by omega)]
    rw [e, ren_plain (by omega)]
    exact Or.inr (Or.inl h1)
  · by_cases hin : v.2.toNat ∈ aliveA s
    · rw [ren_pack fun _ => hin]
      obtain ⟨o, k, _, hne, _, _, hob⟩ := woken_at h hi hin
      unfold ren
      rw [if_pos h2]
      refine Or.inr (Or.inr ⟨rfl, Int.natCast_nonneg _, (o.1, (o.2.map (packV (aliveA s))).map (ren (atL laid))), ?_, hne⟩)
      show (obs.map _)[_]? = _
      rw [List.getElem?_map, Int.toNat_natCast, hob]
      rfl
    · rw [packV_dead (fun e => hin e.2) (fun e => absurd h2 e), ren_nil]
      exact Or.inl rfl

theorem wake_inv (h : Laid (packA s).obs obs laid) (hi : InvA g s) (h1 : 1 ≤ obs.length) (h40 : obs.length ≤ 40) (hdr : dr.length ≤ 200) : InvA g (wakeA (packA s) obs laid dr) := by
  refine ⟨fun h0 => ?_, ?_, ?_, fun f hf v hv => ?_, fun o ho => ?_, ?_, hi.out, hdr⟩
  · have := hi.run h0
    show (s.frs.map _).map _ ≠ []
    simpa using this
  · show Frames g ((s.frs.map _).map _).reverse
    rw [← List.map_reverse, ← List.map_reverse]
    exact (meas_ren _).frames ((meas_pack _).frames hi.frs)
  · show ((s.frs.map _).map _).length ≤ 12
    rw [List.length_map, List.length_map]
    exact hi.depth
  · have hf' : f ∈ (s.frs.map (packF (aliveA s))).map (renF (atL laid)) := hf
    rw [List.map_map] at hf'
    obtain ⟨f', hm, rfl⟩ := List.mem_map.1 hf'
    have hv' : v ∈ (f'.loc.map (packV (aliveA s))).map (ren (atL laid)) ++ (f'.stk.map (packV (aliveA s))).map (ren (atL laid)) := hv
    rw [List.map_map, List.map_map, ← List.map_append] at hv'
    obtain ⟨u, hu, rfl⟩ := List.mem_map.1 hv'
    exact wake_vok h hi (hi.vals f' hm u hu)
  · have ho' : o ∈ obs.map fun o => ((o.1, o.2.map (ren (atL laid))) : Ob) := ho
    obtain ⟨x, hx, rfl⟩ := List.mem_map.1 ho'
    obtain ⟨j, hj⟩ := List.mem_iff_getElem?.1 hx
    by_cases hin : j ∈ laid
    · obtain ⟨k, hk⟩ := List.mem_iff_getElem?.1 hin
      have hkl := (List.getElem?_eq_some_iff.1 hk).1
      have hkl' : k < (aliveA s).length := by
        have e : (packA s).obs.length = (aliveA s).length := List.length_map _
        rw [h.len, e] at hkl
        exact hkl
      obtain ⟨o', hm, hne⟩ := alive_nonfree hi (List.getElem_mem hkl')
      obtain ⟨j', q1, q2⟩ := h.at_ k _ (packA_at (List.getElem?_eq_getElem hkl') hm)
      rw [hk] at q1
      cases q1
      rw [hj] at q2
      injection q2 with q2
      subst q2
      have hv : ∀ v, v ∈ o'.2 → VOk s.obs v → VOk (wakeA (packA s) obs laid dr).obs (ren (atL laid) (packV (aliveA s) v)) := fun v _ hv => wake_vok h hi hv
      rcases hi.obs o' (List.mem_of_getElem? hm) with ⟨e, _⟩ | ⟨e, e2, e3⟩ | ⟨e, e2, e3⟩ | ⟨e, u, e2, e3, e4⟩
      · exact absurd e hne
      · refine Or.inr (Or.inl ⟨e, by simpa using e2, fun v hv' => ?_⟩)
        have hv' : v ∈ (o'.2.map (packV (aliveA s))).map (ren (atL laid)) := hv'
        rw [List.map_map] at hv'
        obtain ⟨u, hu, rfl⟩ := List.mem_map.1 hv'
        exact hv u hu (e3 u hu)
      · refine Or.inr (Or.inr (Or.inl ⟨e, by simpa using e2, fun v hv' => ?_⟩))
        have hv' : v ∈ (o'.2.map (packV (aliveA s))).map (ren (atL laid)) := hv'
        rw [List.map_map] at hv'
        obtain ⟨u, hu, rfl⟩ := List.mem_map.1 hv'
        exact hv u hu (e3 u hu)
      · refine Or.inr (Or.inr (Or.inr ⟨e, ren (atL laid) (packV (aliveA s) u), ?_, hv u (by rw [e2]; simp) e3, ?_⟩))
        · show (o'.2.map _).map _ = _
          rw [e2]
          rfl
        · rw [ren_kind]
          unfold packV
          split
          · split
            · show (2 : Int) ≠ 1; decide
            · show (0 : Int) ≠ 1; decide
          · exact e4
    · rw [h.free j x hj hin]
      exact Or.inl ⟨rfl, rfl⟩
  · show 1 ≤ (obs.map _).length ∧ (obs.map _).length ≤ 40
    rw [List.length_map]
    exact ⟨h1, h40⟩

theorem atL_lt {c : Nat} (hc : 1 ≤ c) (hlt : ∀ j, j ∈ laid → j < c) (i : Nat) : atL laid i < c := by
  unfold atL
  rw [List.getD_eq_getElem?_getD]
  cases q : laid[i]? with
  | none => show 0 < c; omega
  | some x => exact hlt x (List.mem_of_getElem? q)

theorem ren_i64 {r : Nat → Nat} (hr : ∀ i, r i < 1000) {v : Val} (hv : I64 v.2) : I64 (ren r v).2 := by
  unfold ren
  split
  · have := hr v.2.toNat
    exact i64_small (by show (-1000000 : Int) ≤ ((r v.2.toNat : Nat) : Int); omega) (by show ((r v.2.toNat : Nat) : Int) ≤ (1000000 : Int); omega)
  · exact hv

theorem wake_ints (hI : IntsA s) (hi : InvA g s) (h : Laid (packA s).obs obs laid) (h1 : 1 ≤ obs.length) (h40 : obs.length ≤ 40) (hlt : ∀ j, j ∈ laid → j < obs.length) : IntsA (wakeA (packA s) obs laid dr) := by
  have hal : (aliveA s).length ≤ 40 := by
    have := nodup_len hi.alive.nodup hi.alive.lt
    have := hi.cap.2
    omega
  have hv : ∀ v, I64 v.2 → I64 (ren (atL laid) (packV (aliveA s) v)).2 := fun v hv => ren_i64 (fun i => by have := atL_lt h1 hlt i; omega) (packV_small hal hv).1
  refine ⟨hI.st, hI.out, fun f hf v hv' => ?_, fun o ho v hv' => ?_⟩
  · have hf' : f ∈ (s.frs.map (packF (aliveA s))).map (renF (atL laid)) := hf
    rw [List.map_map] at hf'
    obtain ⟨f', hm, rfl⟩ := List.mem_map.1 hf'
    have hv' : v ∈ (f'.loc.map (packV (aliveA s))).map (ren (atL laid)) ++ (f'.stk.map (packV (aliveA s))).map (ren (atL laid)) := hv'
    rw [List.map_map, List.map_map, ← List.map_append] at hv'
    obtain ⟨u, hu, rfl⟩ := List.mem_map.1 hv'
    exact hv u (hI.frs f' hm u hu)
  · have ho' : o ∈ obs.map fun o => ((o.1, o.2.map (ren (atL laid))) : Ob) := ho
    obtain ⟨x, hx, rfl⟩ := List.mem_map.1 ho'
    obtain ⟨j, hj⟩ := List.mem_iff_getElem?.1 hx
    by_cases hin : j ∈ laid
    · obtain ⟨k, hk⟩ := List.mem_iff_getElem?.1 hin
      have hkl := (List.getElem?_eq_some_iff.1 hk).1
      have hkl' : k < (aliveA s).length := by
        have e : (packA s).obs.length = (aliveA s).length := List.length_map _
        rw [h.len, e] at hkl
        exact hkl
      obtain ⟨o', hm, hne⟩ := alive_nonfree hi (List.getElem_mem hkl')
      obtain ⟨j', q1, q2⟩ := h.at_ k _ (packA_at (List.getElem?_eq_getElem hkl') hm)
      rw [hk] at q1
      cases q1
      rw [hj] at q2
      injection q2 with q2
      subst q2
      have hv' : v ∈ (o'.2.map (packV (aliveA s))).map (ren (atL laid)) := hv'
      rw [List.map_map] at hv'
      obtain ⟨u, hu, rfl⟩ := List.mem_map.1 hv'
      exact hv u (hI.obs o' (List.mem_of_getElem? hm) u hu)
    · rw [h.free j x hj hin] at hv'
      cases hv'

theorem wake_taken (h : Laid (packA s).obs obs laid) (hi : InvA g s) (hlt : ∀ j, j ∈ laid → j < obs.length) : takenA (wakeA (packA s) obs laid dr).obs = (aliveA s).length := by
  have e : (packA s).obs.length = (aliveA s).length := List.length_map _
  rw [takenA_range, ← e, ← h.len]
  have hk : ∀ o, o ∈ (packA s).obs → o.1 ≠ 0 := fun o ho => by
    obtain ⟨j, hj, rfl⟩ := List.mem_map.1 (show o ∈ (aliveA s).map (packO s) from ho)
    obtain ⟨x, hx, hne⟩ := alive_nonfree hi hj
    unfold packO
    rw [hx]
    exact hne
  refine nodup_same (List.Pairwise.filter _ List.nodup_range) h.nodup fun j => ?_
  rw [List.mem_filter, List.mem_range]
  show (j < (obs.map _).length ∧ (((obs.map _)[j]?).map _).getD false = true) ↔ _
  rw [List.length_map, List.getElem?_map]
  constructor
  · rintro ⟨h1, h2⟩
    rw [List.getElem?_eq_getElem h1] at h2
    refine Decidable.byContradiction fun hn => ?_
    have := h.free j _ (List.getElem?_eq_getElem h1) hn
    rw [this] at h2
    exact absurd (show ((0 : Int) != 0) = true from h2) (by decide)
  · intro hj
    have hl := hlt j hj
    refine ⟨hl, ?_⟩
    rw [List.getElem?_eq_getElem hl]
    have hne : (obs[j]).1 ≠ 0 := fun e => h.free_at hk (List.getElem?_eq_getElem hl) e hj
    show ((obs[j]).1 != 0) = true
    simpa using hne

theorem packA_kinds (hi : InvA g s) : ∀ o, o ∈ (packA s).obs → o.1 ≠ 0 := fun o ho => by
  obtain ⟨j, hj, rfl⟩ := List.mem_map.1 (show o ∈ (aliveA s).map (packO s) from ho)
  obtain ⟨x, hx, hne⟩ := alive_nonfree hi hj
  unfold packO
  rw [hx]
  exact hne

theorem laid_self (os : List Ob) : Laid os os (List.range os.length) := by
  refine ⟨List.length_range, List.nodup_range, fun k o ho => ⟨k, ?_, ho⟩, fun j o ho hn => ?_⟩
  · have := (List.getElem?_eq_some_iff.1 ho).1
    rw [List.getElem?_range this]
  · exact absurd (List.mem_range.2 (List.getElem?_eq_some_iff.1 ho).1) hn

theorem ren_pack_self {al : List Nat} {n : Nat} (hn : al.length = n) (v : Val) : ren (atL (List.range n)) (packV al v) = packV al v := by
  unfold packV
  by_cases h2 : v.1 = 2
  · rw [if_pos h2]
    cases q : ixA al v.2.toNat with
    | none => exact ren_nil _
    | some i =>
      have hl := ixA_lt q
      show ren _ (2, (i : Int)) = (2, (i : Int))
      unfold ren
      rw [if_pos rfl]
      show (2, ((atL (List.range n) (i : Int).toNat : Nat) : Int)) = _
      rw [Int.toNat_natCast]
      unfold atL
      rw [List.getD_eq_getElem?_getD, List.getElem?_range (by omega)]
      rfl
  · rw [if_neg h2]
    exact ren_plain h2

theorem wake_self (s : McA) : wakeA (packA s) (packA s).obs (List.range (packA s).obs.length) [] = packA s := by
  have e : (packA s).obs.length = (aliveA s).length := List.length_map _
  rw [e]
  have hl : ∀ l : List Val, (l.map (packV (aliveA s))).map (ren (atL (List.range (aliveA s).length))) = l.map (packV (aliveA s)) := fun l => by
    rw [List.map_map]
    exact List.map_congr_left fun v _ => ren_pack_self rfl v
  unfold wakeA
  show McA.mk s.st s.out ((s.frs.map _).map _) (((aliveA s).map _).map _) [] = McA.mk s.st s.out _ _ []
  congr 1
  · rw [List.map_map]
    refine List.map_congr_left fun f _ => ?_
    show FrA.mk f.fn f.pc ((f.loc.map _).map _) ((f.stk.map _).map _) = FrA.mk f.fn f.pc _ _
    rw [hl, hl]
  · rw [List.map_map]
    refine List.map_congr_left fun j _ => ?_
    show ((packO s j).1, (packO s j).2.map _) = packO s j
    unfold packO
    cases s.obs[j]? with
    | none => rfl
    | some o =>
      show (o.1, (o.2.map _).map _) = (o.1, _)
      rw [hl]

/-- What is packed lies in the order of the walk. -/
theorem pack_alive (hi : InvA g s) : aliveA (packA s) = List.range (packA s).obs.length := by
  have e : (packA s).obs.length = (aliveA s).length := List.length_map _
  have h := wake_rel0 (dr := []) (laid_self (packA s).obs) hi (fun j hj => List.mem_range.1 hj)
  rw [wake_self] at h
  rw [h.alive hi]
  refine List.ext_getElem? fun k => ?_
  rw [List.getElem?_map]
  by_cases hk : k < (aliveA s).length
  · rw [List.getElem?_eq_getElem hk, List.getElem?_range (by rw [e]; exact hk)]
    show some (nowL _ _ _) = some k
    unfold nowL
    rw [ixA_of hi.alive.nodup (List.getElem?_eq_getElem hk)]
    show some (atL _ k) = some k
    unfold atL
    rw [List.getD_eq_getElem?_getD, List.getElem?_range (by rw [e]; exact hk)]
    rfl
  · rw [List.getElem?_eq_none_iff.2 (by omega), List.getElem?_eq_none_iff.2 (by rw [List.length_range, e]; omega)]
    rfl

/-- Its references lead to its objects. -/
theorem pack_refs (s : McA) : (∀ f, f ∈ (packA s).frs → ∀ v, v ∈ f.loc ++ f.stk → v.1 = 2 → 0 ≤ v.2 ∧ v.2.toNat < (packA s).obs.length) ∧ ∀ o, o ∈ (packA s).obs → ∀ v, v ∈ o.2 → v.1 = 2 → 0 ≤ v.2 ∧ v.2.toNat < (packA s).obs.length := by
  have e : (packA s).obs.length = (aliveA s).length := List.length_map _
  have hv : ∀ v, (packV (aliveA s) v).1 = 2 → 0 ≤ (packV (aliveA s) v).2 ∧ (packV (aliveA s) v).2.toNat < (packA s).obs.length := fun v h2 => by
    rw [e]
    unfold packV at h2 ⊢
    by_cases h : v.1 = 2
    · rw [if_pos h] at h2 ⊢
      cases q : ixA (aliveA s) v.2.toNat with
      | none => rw [q] at h2; exact absurd h2 (by decide)
      | some i =>
        have := ixA_lt q
        show 0 ≤ (i : Int) ∧ (i : Int).toNat < _
        omega
    · rw [if_neg h] at h2
      exact absurd h2 h
  constructor
  · intro f hf v hv'
    obtain ⟨f', _, rfl⟩ := List.mem_map.1 (show f ∈ s.frs.map (packF (aliveA s)) from hf)
    have hv' : v ∈ f'.loc.map (packV (aliveA s)) ++ f'.stk.map (packV (aliveA s)) := hv'
    rw [← List.map_append] at hv'
    obtain ⟨u, _, rfl⟩ := List.mem_map.1 hv'
    exact hv u
  · intro o ho v hv'
    obtain ⟨j, _, rfl⟩ := List.mem_map.1 (show o ∈ (aliveA s).map (packO s) from ho)
    unfold packO at hv'
    cases q : s.obs[j]? with
    | none => rw [q] at hv'; cases hv'
    | some x =>
      rw [q] at hv'
      obtain ⟨u, _, rfl⟩ := List.mem_map.1 hv'
      exact hv u

end

end Go.Proofs.YtbkmgoffiigdbabGreatDoor

namespace Go.Proofs.YtbkmgoffiigdbabGreatDoor
open Go.RowKit Go.Sort

/-! PLAIN: two programs that are alike as far as they go. -/

def Alike (g g' : PgR) : Prop := g'.n = g.n ∧ ∀ i, i < g.n → (g'.f i).p = (g.f i).p ∧ (g'.f i).l = (g.f i).l ∧ (g'.f i).n = (g.f i).n ∧ ∀ j, j < (g.f i).n → (g'.f i).op j = (g.f i).op j ∧ (g'.f i).ar j = (g.f i).ar j

structure FlowNear (F F' : Flow) : Prop where
  n : F'.n = F.n
  pop : ∀ a, a < F.n → F'.pop a = F.pop a
  push : ∀ a, a < F.n → F'.push a = F.push a
  next : ∀ a, a < F.n → F'.next a = F.next a

theorem FlowNear.reach {F F' : Flow} (h : FlowNear F F') (hF : F.Fits) {a : Nat} {b : Int} (hr : F.Reach a b) : F'.Reach a b := by
  have key : F.Reach a b ∧ F'.Reach a b := by
    refine hr (fun a b => F.Reach a b ∧ F'.Reach a b) ⟨Flow.reach_first F, Flow.reach_first F'⟩ ?_
    rintro a b c ⟨h1, h2⟩ hc
    refine ⟨Flow.reach_next h1 hc, ?_⟩
    have ha := (hF.1 a b h1).1
    have h3 := Flow.reach_next h2 (c := c) (by rw [h.next a ha]; exact hc)
    have e : F'.behind a b = F.behind a b := by
      unfold Flow.behind
      rw [h.pop a ha, h.push a ha]
    rw [e] at h3
    exact h3
  exact key.2
theorem FlowNear.back {F F' : Flow} (h : FlowNear F F') (hF : F.Fits) {a : Nat} {b : Int} (hr : F'.Reach a b) : F.Reach a b := by
  refine hr (fun a b => F.Reach a b) (Flow.reach_first F) ?_
  intro a b c h1 hc
  have ha := (hF.1 a b h1).1
  have h3 := Flow.reach_next h1 (c := c) (by rw [← h.next a ha]; exact hc)
  have e : F'.behind a b = F.behind a b := by
    unfold Flow.behind
    rw [h.pop a ha, h.push a ha]
  rw [e]
  exact h3
theorem FlowNear.fits {F F' : Flow} (h : FlowNear F F') (hF : F.Fits) : F'.Fits := by
  refine ⟨fun a b hr => ?_, fun a b b' h1 h2 => hF.2 a b b' (h.back hF h1) (h.back hF h2)⟩
  have h1 := h.back hF hr
  obtain ⟨q1, q2, q3⟩ := hF.1 a b h1
  refine ⟨by rw [h.n]; exact q1, by rw [h.pop a q1]; exact q2, ?_⟩
  unfold Flow.behind at q3 ⊢
  rw [h.pop a q1, h.push a q1]
  exact q3

theorem Alike.flow {g g' : PgR} (hp : PgOk g) (h : Alike g g') {i : Nat} (hi : i < g.n) : FlowNear (flowOf g (g.f i)) (flowOf g' (g'.f i)) := by
  obtain ⟨_, hj⟩ := h
  obtain ⟨q1, q2, q3, q4⟩ := hj i hi
  refine ⟨q3, fun a ha => ?_, fun a ha => by show pushD ((g'.f i).op a) = pushD ((g.f i).op a); rw [(q4 a ha).1], fun a ha => by show nextD a ((g'.f i).op a) ((g'.f i).ar a) = nextD a ((g.f i).op a) ((g.f i).ar a); rw [(q4 a ha).1, (q4 a ha).2]⟩
  show popD ((g'.f i).op a) (g'.f ((g'.f i).ar a).toNat).p = popD ((g.f i).op a) (g.f ((g.f i).ar a).toNat).p
  rw [(q4 a ha).1, (q4 a ha).2]
  by_cases h14 : (g.f i).op a = 14
  · have hl : legalB g.n (g.f i).l (g.f i).n ((g.f i).op a) ((g.f i).ar a) = true := hp.legal i hi a ha
    have hc := legal_call hl h14
    rw [(hj ((g.f i).ar a).toNat (by omega)).1]
  · unfold popD
    rw [if_neg h14, if_neg h14]

theorem Alike.pgOk {g g' : PgR} (hp : PgOk g) (h : Alike g g') : PgOk g' := by
  have hn := h.1
  refine ⟨⟨by rw [hn]; exact hp.sized.1, by rw [hn]; exact hp.sized.2.1, fun i hi => ?_⟩, fun i hi j hj => ?_, fun i hi => ?_⟩
  · rw [hn] at hi
    obtain ⟨q1, q2, q3, q4⟩ := h.2 i hi
    rw [q1, q2, q3]
    exact hp.sized.2.2 i hi
  · rw [hn] at hi
    obtain ⟨q1, q2, q3, q4⟩ := h.2 i hi
    rw [q3] at hj
    have := hp.legal i hi j hj
    unfold legalAt at this ⊢
    rw [hn, q2, q3, (q4 j hj).1, (q4 j hj).2]
    exact this
  · rw [hn] at hi
    exact (h.flow hp hi).fits (hp.fits i hi)

theorem FrOk.pc_lt {g : PgR} (hp : PgOk g) {f : FrA} {q : Int} (hf : FrOk g f q) : f.pc < (g.f f.fn).n := ((hp.fits _ hf.fn).1 _ _ hf.reach).1

theorem Alike.frOk {g g' : PgR} (hp : PgOk g) (h : Alike g g') {f : FrA} {q : Int} (hf : FrOk g f q) : FrOk g' f q := by
  obtain ⟨q1, q2, q3, q4⟩ := h.2 f.fn hf.fn
  exact ⟨by rw [h.1]; exact hf.fn, by rw [q2]; exact hf.loc, (h.flow hp hf.fn).reach (hp.fits _ hf.fn) hf.reach⟩

theorem Alike.lower {g g' : PgR} (hp : PgOk g) (h : Alike g g') : ∀ (l : List FrA) (fn : Nat), fn < g.n → Lower g fn l → Lower g' fn l
  | [], _, _, hl => hl
  | c :: r, fn, hfn, hl => by
    obtain ⟨h1, h2, h3, h4⟩ := hl
    obtain ⟨q1, q2, q3, q4⟩ := h.2 c.fn h1.fn
    have hpc := h1.pc_lt hp
    refine ⟨?_, by rw [(q4 _ hpc).1]; exact h2, by rw [(q4 _ hpc).2]; exact h3, h.lower hp r c.fn h1.fn h4⟩
    rw [(h.2 fn hfn).1]
    exact h.frOk hp h1

theorem Alike.inv {g g' : PgR} (hp : PgOk g) (h : Alike g g') {s : McA} (hi : InvA g s) : InvA g' s := by
  refine ⟨hi.run, ?_, hi.depth, hi.vals, hi.obs, hi.cap, hi.out, hi.dr⟩
  have := hi.frs
  revert this
  cases s.frs.reverse with
  | nil => exact fun _ => trivial
  | cons f r => exact fun hf => ⟨h.frOk hp hf.1, h.lower hp r f.fn hf.1.fn hf.2⟩

theorem flatMap_congr' {α β : Type} {l : List α} {f g : α → List β} (h : ∀ x, x ∈ l → f x = g x) : l.flatMap f = l.flatMap g := by
  induction l with
  | nil => rfl
  | cons a l ih => rw [List.flatMap_cons, List.flatMap_cons, h a (by simp), ih fun x hx => h x (by simp [hx])]

theorem Alike.progB {g g' : PgR} (h : Alike g g') : progB g' = progB g := by
  unfold YtbkmgoffiigdbabGreatDoor.progB fnsB
  rw [h.1]
  congr 1
  refine flatMap_congr' fun i hi => ?_
  obtain ⟨q1, q2, q3, q4⟩ := h.2 i (List.mem_range.1 hi)
  unfold fnB codeB
  rw [q1, q2, q3]
  congr 1
  refine flatMap_congr' fun j hj => ?_
  unfold inB
  rw [(q4 j (List.mem_range.1 hj)).1, (q4 j (List.mem_range.1 hj)).2]
theorem Alike.machB {g g' : PgR} (h : Alike g g') (s : McA) : machB g' s = machB g s := by
  unfold YtbkmgoffiigdbabGreatDoor.machB
  rw [h.progB]
theorem Alike.arI {g g' : PgR} (h : Alike g g') (ha : ArI g) : ArI g' := fun i hi j hj => by
  rw [h.1] at hi
  obtain ⟨q1, q2, q3, q4⟩ := h.2 i hi
  rw [q3] at hj
  rw [(q4 j hj).2]
  exact ha i hi j hj

theorem checkIs_ok {g : PgR} (hp : PgOk g) : CheckIs g 0 0 :=
  Or.inr ⟨Or.inl ⟨rfl, rfl, hp.sized.1, hp.sized.2.1, hp.sized.2.2⟩, Or.inr ⟨Or.inl ⟨rfl, rfl, hp.legal⟩, Or.inr ⟨Or.inl ⟨rfl, rfl, hp.fits⟩, rfl, rfl⟩⟩⟩

/-- The functions of a program, as they are read. -/
def fnL (f : FnR) : FnL := (f.p, f.l, (List.range f.n).map fun j => (f.op j, f.ar j))
def pgL (g : PgR) : List FnL := (List.range g.n).map fun i => fnL (g.f i)

theorem PgIs.alike {g g' : PgR} (h : PgIs g' (pgL g)) : Alike g g' := by
  have hn : g'.n = g.n := by rw [h.n]; unfold pgL; rw [List.length_map, List.length_range]
  refine ⟨hn, fun i hi => ?_⟩
  have e : (pgL g)[i]? = some (fnL (g.f i)) := by unfold pgL; rw [List.getElem?_map, List.getElem?_range hi]; rfl
  obtain ⟨q1, q2, q3, q4⟩ := h.f i _ e
  refine ⟨q1, q2, by rw [q3]; show ((List.range _).map _).length = _; rw [List.length_map, List.length_range], fun j hj => ?_⟩
  have := q4 j ((g.f i).op j, (g.f i).ar j) (by show ((List.range _).map _)[j]? = _; rw [List.getElem?_map, List.getElem?_range hj]; rfl)
  exact this

/-- The program in memory, beyond its ends as another. -/
def fixG (g g' : PgR) : PgR := { g' with f := fun i => { g'.f i with op := (g.f i).op, ar := (g.f i).ar } }
theorem Alike.same {g g' : PgR} (h : Alike g g') : Same g (fixG g g') := ⟨h.1, fun j hj => ⟨(h.2 j hj).1, (h.2 j hj).2.1, (h.2 j hj).2.2.1, rfl, rfl⟩⟩

end Go.Proofs.YtbkmgoffiigdbabGreatDoor

namespace Go.Proofs.YtbkmgoffiigdbabGreatDoor
open Go.RowKit Go.Sort

/-! PLAIN: what was written is read: lists, the program, what was put out, objects. -/

def Rest (bs : List Int) (p : Nat) (r : List Int) : Prop := p ≤ bs.length ∧ bs.drop p = r

theorem Enc.run {α : Type} {bs : List Int} {rd : Rs → α × Rs} {x : α} {e post : List Int} (h : Enc bs rd x e) {p : Nat} (hr : Rest bs p (e ++ post)) : rd ⟨p, false⟩ = (x, ⟨p + e.length, false⟩) ∧ Rest bs (p + e.length) post := by
  obtain ⟨hp, hd⟩ := hr
  have hb : bs = bs.take p ++ (e ++ post) := by rw [← hd, List.take_append_drop]
  have hl : (bs.take p).length = p := by rw [List.length_take]; omega
  have := h (bs.take p) post hb
  rw [hl] at this
  refine ⟨this, ?_, ?_⟩
  · have := congrArg List.length hd
    rw [List.length_drop, List.length_append] at this
    omega
  · rw [← List.drop_drop, hd, List.drop_left]

theorem Rest.of {bs pre r : List Int} (h : bs = pre ++ r) : Rest bs pre.length r := by
  subst h
  exact ⟨by simp, by simp⟩

theorem listN_enc {α : Type} {bs : List Int} {rd : Rs → α × Rs} {e : α → List Int} (l : List α) (h : ∀ x, x ∈ l → Enc bs rd x (e x) ∧ 1 ≤ (e x).length) : Enc bs (rList rd (bs.length + 2) (l.length : Int) []) l (l.flatMap e) := by
  intro pre post hb
  have hl : l.length ≤ (l.flatMap e).length := by
    clear hb
    induction l with
    | nil => simp
    | cons a l ih =>
      have h1 := ih fun x hx => h x (by simp [hx])
      have h2 := (h a (by simp)).2
      rw [List.flatMap_cons, List.length_append, List.length_cons]
      omega
  have hbl : (l.flatMap e).length ≤ bs.length := by rw [hb]; simp; omega
  have := list_enc l [] (bs.length + 2) pre post (fun x hx => (h x hx).1) hb (by omega)
  simpa using this

theorem valB_pos (v : Val) : 1 ≤ (valB v).length := by unfold valB; rw [List.length_cons]; omega
theorem vals_enc (bs : List Int) {l : List Val} (h : ∀ v, v ∈ l → VGood v) {n : Int} (hn : n = l.length) : Enc bs (rVals bs n) l (valsB l) := by
  subst hn
  exact listN_enc l fun x hx => ⟨value_enc bs (h x hx), valB_pos x⟩
theorem ints_enc (bs : List Int) {l : List Int} (h : ∀ v, v ∈ l → I64 v) {n : Int} (hn : n = l.length) : Enc bs (rInts bs n) l (intsB l) := by
  subst hn
  exact listN_enc l fun x hx => ⟨int_enc bs (h x hx), numB_pos _⟩

theorem out_enc (bs : List Int) {l : List Int} (h : ∀ v, v ∈ l → I64 v) (h40 : l.length ≤ 40) : Enc bs (rOut bs) l (outB l) := by
  intro pre post hb
  unfold outB at hb ⊢
  rw [List.append_assoc] at hb
  obtain ⟨e1, r1⟩ := (upTo_enc bs (m := l.length) (most := 40) (by omega) (by omega)).run (Rest.of hb)
  obtain ⟨e2, _⟩ := (ints_enc bs h rfl).run r1
  unfold rOut
  rw [e1]
  simp only
  rw [e2, List.length_append, Nat.add_assoc]

def instrB (x : Int × Int) : List Int := numB x.1.toNat ++ intB x.2
theorem instr_enc (bs : List Int) {x : Int × Int} (h0 : 0 ≤ x.1) (h28 : x.1 < 28) (hi : I64 x.2) : Enc bs (rInstr bs) x (instrB x) := by
  intro pre post hb
  unfold instrB at hb ⊢
  rw [List.append_assoc] at hb
  obtain ⟨e1, r1⟩ := (count_enc bs (m := x.1.toNat) (by omega)).run (Rest.of hb)
  obtain ⟨e2, _⟩ := (int_enc bs hi).run r1
  unfold rInstr
  rw [e1]
  simp only
  rw [e2, List.length_append, Nat.add_assoc]
  have : ((x.1.toNat : Nat) : Int) = x.1 := by omega
  rw [this]

theorem func_enc (bs : List Int) {f : FnR} (h : FnSmall f) : Enc bs (rFunc bs) (fnL f) (fnB f) := by
  intro pre post hb
  have hp := h.p
  have hl := h.l
  have hn := h.n
  have ec : codeB f f.n = ((List.range f.n).map fun j => (f.op j, f.ar j)).flatMap instrB := by
    unfold codeB
    rw [List.flatMap_map]
    rfl
  have hb' : bs = pre ++ (numB f.p.toNat ++ (numB f.l.toNat ++ (numB f.n ++ (((List.range f.n).map fun j => (f.op j, f.ar j)).flatMap instrB ++ post)))) := by
    rw [hb]
    unfold fnB
    rw [ec]
    simp only [List.append_assoc]
  obtain ⟨e1, r1⟩ := (count_enc bs (m := f.p.toNat) (by omega)).run (Rest.of hb')
  obtain ⟨e2, r2⟩ := (count_enc bs (m := f.l.toNat) (by omega)).run r1
  obtain ⟨e3, r3⟩ := (count_enc bs (m := f.n) (by omega)).run r2
  have hN := listN_enc (bs := bs) (rd := rInstr bs) (e := instrB) ((List.range f.n).map fun j => (f.op j, f.ar j)) (fun x hx => by
    obtain ⟨j, hj, rfl⟩ := List.mem_map.1 hx
    have hj := List.mem_range.1 hj
    refine ⟨instr_enc bs (h.op j hj).1 (h.op j hj).2 (h.ar j hj), ?_⟩
    unfold instrB
    rw [List.length_append]
    have := numB_pos ((f.op j, f.ar j).1).toNat
    omega)
  rw [List.length_map, List.length_range] at hN
  obtain ⟨e4, _⟩ := hN.run r3
  have e4' : rInstrs bs (f.n : Int) ⟨pre.length + (numB f.p.toNat).length + (numB f.l.toNat).length + (numB f.n).length, false⟩ = _ := e4
  unfold rFunc
  rw [e1]
  simp only
  rw [e2]
  simp only
  rw [e3]
  simp only
  rw [e4']
  simp only
  have q1 : ((f.p.toNat : Nat) : Int) = f.p := by omega
  have q2 : ((f.l.toNat : Nat) : Int) = f.l := by omega
  rw [q1, q2]
  unfold fnL fnB
  rw [ec]
  simp only [List.length_append, Nat.add_assoc]

theorem fnB_pos (f : FnR) : 1 ≤ (fnB f).length := by
  unfold fnB
  simp only [List.length_append]
  have := numB_pos f.p.toNat
  omega

theorem prog_enc (bs : List Int) {g : PgR} (h : PgSmall g) : Enc bs (rProg bs) (pgL g) (progB g) := by
  intro pre post hb
  have ec : fnsB g g.n = ((List.range g.n).map fun i => g.f i).flatMap fnB := by
    unfold fnsB
    rw [List.flatMap_map]
  have hn := h.n
  have hb' : bs = pre ++ (numB g.n ++ (fnsB g g.n ++ post)) := by
    rw [hb]
    unfold progB
    simp only [List.append_assoc]
  obtain ⟨e1, r1⟩ := (count_enc bs (m := g.n) (by omega)).run (Rest.of hb')
  have key : Enc bs (rList (rFunc bs) (bs.length + 2) ((pgL g).length : Int) []) (pgL g) (fnsB g g.n) := by
    intro pre post hb
    have hlen : (pgL g).length = g.n := by unfold pgL; rw [List.length_map, List.length_range]
    have hsub : ∀ k, k ≤ g.n → ∀ (acc : List FnL) (pre post : List Int) (F : Nat), bs = pre ++ (((List.range g.n).drop (g.n - k)).flatMap (fun i => fnB (g.f i)) ++ post) → k < F → rList (rFunc bs) F ((acc.length + k : Nat) : Int) acc ⟨pre.length, false⟩ = (acc ++ ((List.range g.n).drop (g.n - k)).map (fun i => fnL (g.f i)), ⟨pre.length + (((List.range g.n).drop (g.n - k)).flatMap (fun i => fnB (g.f i))).length, false⟩) := by
      intro k
      induction k with
      | zero =>
        intro _ acc pre post F hb hF
        have : (List.range g.n).drop (g.n - 0) = [] := by rw [List.drop_eq_nil_iff, List.length_range]; omega
        rw [this]
        cases F with
        | zero => omega
        | succ F =>
          rw [rList_end (by simp)]
          simp
      | succ k ih =>
        intro hk acc pre post F hb hF
        have hd : (List.range g.n).drop (g.n - (k + 1)) = (g.n - (k + 1)) :: (List.range g.n).drop (g.n - k) := by
          rw [List.drop_eq_getElem_cons (by rw [List.length_range]; omega), List.getElem_range]
          congr 2
          omega
        rw [hd] at hb ⊢
        rw [List.flatMap_cons, List.append_assoc] at hb
        cases F with
        | zero => omega
        | succ F =>
          rw [rList_go ⟨by omega, rfl⟩]
          obtain ⟨e1, _⟩ := (func_enc bs (h.f (g.n - (k + 1)) (by omega))).run (Rest.of hb)
          rw [e1]
          simp only
          have := ih (by omega) (acc ++ [fnL (g.f (g.n - (k + 1)))]) (pre ++ fnB (g.f (g.n - (k + 1)))) post F (by rw [hb]; simp) (by omega)
          rw [List.length_append, List.length_append, List.length_singleton] at this
          have en : acc.length + 1 + k = acc.length + (k + 1) := by omega
          rw [en] at this
          rw [this]
          simp only [List.map_cons, List.flatMap_cons, List.length_append, List.append_assoc, Nat.add_assoc]
          rfl
    have hz : (List.range g.n).drop (g.n - g.n) = List.range g.n := by rw [Nat.sub_self]; rfl
    have hF : g.n < bs.length + 2 := by
      have h1 : g.n ≤ (fnsB g g.n).length := by
        have : ∀ k, k ≤ (fnsB g k).length := fun k => by
          induction k with
          | zero => exact Nat.zero_le _
          | succ k ih =>
            rw [fnsB_succ, List.length_append]
            have := fnB_pos (g.f k)
            omega
        exact this g.n
      rw [hb]
      simp
      omega
    have := hsub g.n (Nat.le_refl _) [] pre post (bs.length + 2) (by rw [hz]; exact hb) hF
    rw [hz] at this
    rw [hlen]
    simpa [pgL, fnsB] using this
  obtain ⟨e2, _⟩ := key.run r1
  have hlen : (pgL g).length = g.n := by unfold pgL; rw [List.length_map, List.length_range]
  rw [hlen] at e2
  unfold rProg rFuncs
  rw [e1]
  simp only
  rw [e2]
  unfold progB
  rw [List.length_append, Nat.add_assoc]

/-- An object as images have it. -/
def ObGood (o : Ob) : Prop := (∀ v, v ∈ o.2 → VGood v) ∧ ((o.1 = 1 ∧ o.2.length ≤ 8) ∨ (o.1 = 2 ∧ o.2.length ≤ 12) ∨ (o.1 = 3 ∧ o.2.length = 1 ∧ ∀ v, v ∈ o.2 → v.1 ≠ 1))

theorem obj_enc (bs : List Int) {o : Ob} (h : ObGood o) : Enc bs (rObj bs) o (obB o) := by
  intro pre post hb
  obtain ⟨hv, hk⟩ := h
  obtain ⟨k, l⟩ := o
  simp only at hv hk
  unfold obB at hb ⊢
  simp only [List.append_assoc] at hb ⊢
  rcases hk with ⟨rfl, hl⟩ | ⟨rfl, hl⟩ | ⟨rfl, hl, h1⟩
  · rw [if_neg (by decide)] at hb ⊢
    obtain ⟨e1, r1⟩ := (upTo_enc bs (m := 1) (most := 3) (by decide) (by decide)).run (Rest.of hb)
    obtain ⟨e2, r2⟩ := (upTo_enc bs (m := l.length) (most := 8) (by omega) (by omega)).run r1
    obtain ⟨e3, r3⟩ := (vals_enc bs hv rfl).run r2
    unfold rObj
    rw [e1]
    simp only
    have es : rSize bs ((1 : Nat) : Int) ⟨pre.length + (numB 1).length, false⟩ = rUpTo bs 8 ⟨pre.length + (numB 1).length, false⟩ := rfl
    rw [es, e2]
    simp only
    rw [e3]
    simp only [List.length_append, Nat.add_assoc]
    rfl
  · rw [if_neg (by decide)] at hb ⊢
    obtain ⟨e1, r1⟩ := (upTo_enc bs (m := 2) (most := 3) (by decide) (by decide)).run (Rest.of hb)
    obtain ⟨e2, r2⟩ := (upTo_enc bs (m := l.length) (most := 12) (by omega) (by omega)).run r1
    obtain ⟨e3, r3⟩ := (vals_enc bs hv rfl).run r2
    unfold rObj
    rw [e1]
    simp only
    have es : rSize bs ((2 : Nat) : Int) ⟨pre.length + (numB 2).length, false⟩ = rUpTo bs 12 ⟨pre.length + (numB 2).length, false⟩ := rfl
    rw [es, e2]
    simp only
    rw [e3]
    simp only [List.length_append, Nat.add_assoc]
    rfl
  · rw [if_pos rfl, List.nil_append] at hb
    rw [if_pos rfl, List.nil_append]
    obtain ⟨e1, r1⟩ := (upTo_enc bs (m := 3) (most := 3) (by decide) (by decide)).run (Rest.of hb)
    obtain ⟨e3, r3⟩ := (vals_enc bs hv (n := 1) (by rw [hl]; rfl)).run r1
    have hany : l.any isI = false := by
      rw [List.any_eq_false]
      intro v hv'
      have := h1 v hv'
      unfold isI
      simpa using this
    unfold rObj
    rw [e1]
    simp only
    have es : rSize bs ((3 : Nat) : Int) ⟨pre.length + (numB 3).length, false⟩ = (1, ⟨pre.length + (numB 3).length, false⟩) := rfl
    rw [es]
    simp only
    rw [e3]
    simp only [List.length_append, Nat.add_assoc]
    rw [hany]
    rfl

theorem obB_pos (o : Ob) : 1 ≤ (obB o).length := by
  unfold obB
  simp only [List.length_append]
  have := numB_pos o.1.toNat
  omega
theorem heap_enc (bs : List Int) {l : List Ob} (h : ∀ o, o ∈ l → ObGood o) (h40 : l.length ≤ 40) : Enc bs (rHeap bs) l (objectsB l) := by
  intro pre post hb
  unfold objectsB at hb ⊢
  rw [List.append_assoc] at hb
  obtain ⟨e1, r1⟩ := (upTo_enc bs (m := l.length) (most := 40) (by omega) (by omega)).run (Rest.of hb)
  have hN := listN_enc (bs := bs) (rd := rObj bs) (e := obB) l fun x hx => ⟨obj_enc bs (h x hx), obB_pos x⟩
  obtain ⟨e2, _⟩ := hN.run r1
  unfold rHeap
  rw [e1]
  simp only
  have e2' : rObjs bs (l.length : Int) ⟨pre.length + (numB l.length).length, false⟩ = _ := e2
  rw [e2', List.length_append, Nat.add_assoc]
  rfl

end Go.Proofs.YtbkmgoffiigdbabGreatDoor

namespace Go.Proofs.YtbkmgoffiigdbabGreatDoor
open Go.RowKit Go.Sort

/-! PLAIN: what was written is read: frames, the machine. -/

structure FrGood (f : FrA) : Prop where
  fn : f.fn < 1000
  pc : f.pc < 1000
  loc : ∀ v, v ∈ f.loc → VGood v
  stk : ∀ v, v ∈ f.stk → VGood v

theorem frTop_enc (bs : List Int) {g : PgR} (hp : PgOk g) {f : FrA} {q : Int} (hf : FrOk g f q) (hq : 0 ≤ q) (hs : FrGood f) : Enc bs (rFrTop bs g f.fn) (f.pc : Int) (numB f.fn ++ numB f.pc) := by
  intro pre post hb
  rw [List.append_assoc] at hb
  have hpc := hf.pc_lt hp
  have h1 := hs.fn
  have h2 := hs.pc
  obtain ⟨e1, r1⟩ := (count_enc bs (m := f.fn) (by omega)).run (Rest.of hb)
  obtain ⟨e2, r2⟩ := (upTo_enc bs (m := f.pc) (most := (((g.f f.fn).n - 1 : Nat) : Int)) (by omega) (by omega)).run r1
  have hh := heightA_reach (hp.fits _ hf.fn) hf.reach
  unfold rFrTop
  rw [e1]
  simp only
  have em : rMust ⟨pre.length + (numB f.fn).length, false⟩ (((f.fn : Nat) : Int) == ((f.fn : Nat) : Int)) = ⟨pre.length + (numB f.fn).length, false⟩ := by simp [rMust]
  rw [em, e2]
  simp only
  rw [Int.toNat_natCast, hh]
  have e3 : ((f.stk.length : Int) + q != -1) = true := by
    have : (f.stk.length : Int) + q ≠ -1 := by omega
    simpa using this
  rw [e3, List.length_append, Nat.add_assoc]
  rfl

theorem frVals_enc (bs : List Int) {f : FrA} {l h pc : Int} (hl : l = f.loc.length) (hh : h = f.stk.length) (hs : FrGood f) : Enc bs (rFrVals bs l h pc) (pc, f.loc, f.stk) (valsB f.loc ++ valsB f.stk) := by
  intro pre post hb
  rw [List.append_assoc] at hb
  obtain ⟨e1, r1⟩ := (vals_enc bs hs.loc hl).run (Rest.of hb)
  obtain ⟨e2, r2⟩ := (vals_enc bs hs.stk hh).run r1
  unfold rFrVals
  rw [e1]
  simp only
  rw [e2, List.length_append, Nat.add_assoc]

theorem frame_enc (bs : List Int) {g : PgR} (hp : PgOk g) {f : FrA} {q : Int} (hf : FrOk g f q) (hq : 0 ≤ q) (hs : FrGood f) {calls : Bool} (hc : calls = true → (g.f f.fn).op f.pc = 14 ∧ q = (g.f ((g.f f.fn).ar f.pc).toNat).p) (hd : calls = false → q = 0) : Enc bs (rFrame bs g f.fn calls) ((f.pc : Int), f.loc, f.stk) (frB f) := by
  intro pre post hb
  unfold frB at hb ⊢
  rw [List.append_assoc (numB f.fn ++ numB f.pc)] at hb ⊢
  rw [List.append_assoc] at hb
  obtain ⟨e1, r1⟩ := (frTop_enc bs hp hf hq hs).run (Rest.of hb)
  have hh := heightA_reach (hp.fits _ hf.fn) hf.reach
  have hl : (g.f f.fn).l = f.loc.length := hf.loc.symm
  unfold rFrame
  rw [e1]
  simp only
  rw [Int.toNat_natCast, hh]
  cases calls with
  | false =>
    obtain ⟨e2, _⟩ := (frVals_enc bs (f := f) (pc := (f.pc : Int)) hl (h := (f.stk.length : Int) + q) (by rw [hd rfl]; omega) hs).run r1
    rw [if_neg (by decide), e2]
    simp only [List.length_append, Nat.add_assoc]
  | true =>
    obtain ⟨h14, hq2⟩ := hc rfl
    obtain ⟨e2, _⟩ := (frVals_enc bs (f := f) (pc := (f.pc : Int)) hl (h := (f.stk.length : Int) + q - popD 14 (g.f ((g.f f.fn).ar f.pc).toNat).p) (by
      have : popD 14 (g.f ((g.f f.fn).ar f.pc).toNat).p = (g.f ((g.f f.fn).ar f.pc).toNat).p := rfl
      rw [this, ← hq2]; omega) hs).run r1
    have em : rMust ⟨pre.length + (numB f.fn ++ numB f.pc).length, false⟩ ((14 : Int) == 14) = ⟨pre.length + (numB f.fn ++ numB f.pc).length, false⟩ := rfl
    rw [if_pos rfl, h14, em, e2]
    simp only [List.length_append, Nat.add_assoc]

/-- The frames from the first one up. -/
def Up (g : PgR) : Nat → List FrA → Prop
  | _, [] => True
  | fn, [f] => f.fn = fn ∧ FrOk g f 0
  | fn, f :: c :: r => f.fn = fn ∧ FrOk g f (g.f c.fn).p ∧ (g.f f.fn).op f.pc = 14 ∧ (g.f f.fn).ar f.pc = c.fn ∧ Up g c.fn (c :: r)

theorem up_lower {g : PgR} : ∀ (l : List FrA) (f : FrA) (rest : List FrA), Lower g f.fn l → Up g f.fn (f :: rest) → Up g 0 (l.reverse ++ f :: rest)
  | [], f, rest, hl, hu => by
    have hl : f.fn = 0 := hl
    rw [hl] at hu
    exact hu
  | c :: r, f, rest, ⟨h1, h2, h3, h4⟩, hu => by
    rw [List.reverse_cons, List.append_assoc]
    exact up_lower r c (f :: rest) h4 ⟨rfl, h1, h2, h3, hu⟩

theorem up_frames {g : PgR} {l : List FrA} (h : Frames g l.reverse) : Up g 0 l := by
  rw [← List.reverse_reverse l]
  cases q : l.reverse with
  | nil => trivial
  | cons f r =>
    rw [q] at h
    rw [List.reverse_cons]
    exact up_lower r f [] h.2 ⟨rfl, h.1⟩

theorem frs_enc (bs : List Int) {g : PgR} (hp : PgOk g) : ∀ (l : List FrA) (fn : Nat) (acc : List FrA), Up g fn l → (∀ f, f ∈ l → FrGood f) → Enc bs (rFrs bs g l.length (fn : Int) acc) (acc ++ l) (frsB l)
  | [], fn, acc, _, _ => by
    intro pre post hb
    show rFrs bs g 0 _ _ _ = _
    rw [rFrs]
    simp [frsB]
  | [f], fn, acc, ⟨hfn, h⟩, hs => by
    subst hfn
    intro pre post hb
    have hb' : bs = pre ++ (frB f ++ post) := by rw [hb]; simp [frsB]
    obtain ⟨e1, r1⟩ := (frame_enc bs hp h (Int.le_refl 0) (hs f (by simp)) (calls := false) (fun e => by cases e) (fun _ => rfl)).run (Rest.of hb')
    have := rFrs_go (n := 1) (by decide) f.fn acc (s := ⟨pre.length, false⟩) rfl (show rFrame bs g f.fn (decide ((1 : Int) < ((1 : Nat) : Int))) ⟨pre.length, false⟩ = _ from e1)
    show rFrs bs g 1 _ _ _ = _
    rw [this]
    show rFrs bs g 0 _ _ _ = _
    rw [rFrs]
    simp [frsB]
  | f :: c :: r, fn, acc, ⟨hfn, h, h14, har, hu⟩, hs => by
    subst hfn
    intro pre post hb
    have hb' : bs = pre ++ (frB f ++ (frsB (c :: r) ++ post)) := by rw [hb]; simp [frsB, List.flatMap_cons]
    have hcf : c.fn < g.n := by
      have : FrOk g c 0 ∨ ∃ q, FrOk g c q := by
        cases r with
        | nil => exact Or.inl hu.2
        | cons d r => exact Or.inr ⟨_, hu.2.1⟩
      rcases this with h | ⟨_, h⟩
      · exact h.fn
      · exact h.fn
    have hq : 0 ≤ (g.f c.fn).p := by have := hp.sized.bd hcf; omega
    have hdec : decide ((1 : Int) < (((f :: c :: r).length : Nat) : Int)) = true := by
      apply decide_eq_true
      simp
      omega
    obtain ⟨e1, r1⟩ := (frame_enc bs hp h hq (hs f (by simp)) (calls := true) (fun _ => ⟨h14, by rw [har, Int.toNat_natCast]⟩) (fun e => by cases e)).run (Rest.of hb')
    rw [← hdec] at e1
    have := rFrs_go (n := (f :: c :: r).length) (by simp) f.fn acc (s := ⟨pre.length, false⟩) rfl e1
    rw [this]
    have hlen : (f :: c :: r).length - 1 = (c :: r).length := rfl
    rw [hlen, Int.toNat_natCast, har]
    have ih := frs_enc bs hp (c :: r) c.fn (acc ++ [⟨f.fn, f.pc, f.loc, f.stk⟩]) hu (fun x hx => hs x (by simp at hx ⊢; exact Or.inr hx))
    obtain ⟨e2, _⟩ := ih.run r1
    rw [e2]
    simp only [List.append_assoc, List.singleton_append]
    congr 2
    show _ = pre.length + ((f :: c :: r).flatMap frB).length
    rw [List.flatMap_cons, List.length_append]
    show pre.length + (frB f).length + ((c :: r).flatMap frB).length = _
    omega

theorem frames_enc (bs : List Int) {g : PgR} (hp : PgOk g) {l : List FrA} (hu : Up g 0 l) (hs : ∀ f, f ∈ l → FrGood f) (h12 : l.length ≤ 12) : Enc bs (rFrames bs g) l (framesB l) := by
  intro pre post hb
  unfold framesB at hb ⊢
  rw [List.append_assoc] at hb
  obtain ⟨e1, r1⟩ := (upTo_enc bs (m := l.length) (most := 12) (by omega) (by omega)).run (Rest.of hb)
  obtain ⟨e2, _⟩ := (frs_enc bs hp l 0 [] hu hs).run r1
  unfold rFrames
  rw [e1]
  simp only
  rw [Int.toNat_natCast]
  have e2' : rFrs bs g l.length 0 [] ⟨pre.length + (numB l.length).length, false⟩ = _ := e2
  rw [e2', List.length_append, Nat.add_assoc]
  rfl

/-- A machine has ended just if it has no frames. -/
def HaltA (s : McA) : Prop := s.st = 1 ↔ s.frs = []

structure PackGood (g : PgR) (p : McA) : Prop where
  st : 0 ≤ p.st ∧ p.st ≤ 7
  out : p.out.length ≤ 40 ∧ ∀ z, z ∈ p.out → I64 z
  up : Up g 0 p.frs
  frs : p.frs.length ≤ 12 ∧ ∀ f, f ∈ p.frs → FrGood f
  obs : p.obs.length ≤ 40 ∧ ∀ o, o ∈ p.obs → ObGood o
  halt : HaltA p

theorem mach_enc {bs pre : List Int} {g : PgR} (hp : PgOk g) (hs : PgSmall g) {p : McA} (h : PackGood g p) (hb : bs = pre ++ machB g p) :
    (rProg bs ⟨pre.length, false⟩).1 = pgL g ∧ (rM1 bs ⟨pre.length, false⟩).1 = p.st ∧ (rM2 bs ⟨pre.length, false⟩).1 = p.out ∧ (rM3 bs g ⟨pre.length, false⟩).1 = p.frs ∧ (rM5 bs g ⟨pre.length, false⟩).1 = p.obs ∧ rM6 bs g ⟨pre.length, false⟩ = ⟨bs.length, false⟩ := by
  have hst := h.st
  have hb' : bs = pre ++ (progB g ++ (numB p.st.toNat ++ (outB p.out ++ (framesB p.frs ++ (objectsB p.obs ++ []))))) := by
    rw [hb]
    unfold machB
    simp only [List.append_assoc, List.append_nil]
  obtain ⟨e0, r0⟩ := (prog_enc bs hs).run (Rest.of hb')
  obtain ⟨e1, r1⟩ := (upTo_enc bs (m := p.st.toNat) (most := 7) (by omega) (by omega)).run r0
  obtain ⟨e2, r2⟩ := (out_enc bs h.out.2 h.out.1).run r1
  obtain ⟨e3, r3⟩ := (frames_enc bs hp h.up h.frs.2 h.frs.1).run r2
  obtain ⟨e5, r5⟩ := (heap_enc bs h.obs.2 h.obs.1).run r3
  have hend := r5.2
  have q1 : ((p.st.toNat : Nat) : Int) = p.st := by omega
  rw [q1] at e1
  have m1 : rM1 bs ⟨pre.length, false⟩ = (p.st, ⟨pre.length + (progB g).length + (numB p.st.toNat).length, false⟩) := by unfold rM1; rw [e0]; exact e1
  have m2 : rM2 bs ⟨pre.length, false⟩ = (p.out, ⟨pre.length + (progB g).length + (numB p.st.toNat).length + (outB p.out).length, false⟩) := by unfold rM2; rw [m1]; exact e2
  have m3 : rM3 bs g ⟨pre.length, false⟩ = (p.frs, ⟨pre.length + (progB g).length + (numB p.st.toNat).length + (outB p.out).length + (framesB p.frs).length, false⟩) := by unfold rM3; rw [m2]; exact e3
  have hh : ((p.st == 1) == (p.frs.length == 0)) = true := by
    by_cases h1 : p.st = 1
    · rw [h1, h.halt.1 h1]; rfl
    · have h2 : p.frs ≠ [] := fun e => h1 (h.halt.2 e)
      have h3 : p.frs.length ≠ 0 := by simpa using h2
      have e1 : (p.st == 1) = false := by simpa using h1
      have e2 : (p.frs.length == 0) = false := by simpa using h3
      rw [e1, e2]; rfl
  have m4 : rM4 bs g ⟨pre.length, false⟩ = ⟨pre.length + (progB g).length + (numB p.st.toNat).length + (outB p.out).length + (framesB p.frs).length, false⟩ := by
    unfold rM4
    rw [m3, m1]
    simp only
    rw [hh]
    rfl
  have m5 : rM5 bs g ⟨pre.length, false⟩ = (p.obs, ⟨pre.length + (progB g).length + (numB p.st.toNat).length + (outB p.out).length + (framesB p.frs).length + (objectsB p.obs).length, false⟩) := by unfold rM5; rw [m4]; exact e5
  have hlen : pre.length + (progB g).length + (numB p.st.toNat).length + (outB p.out).length + (framesB p.frs).length + (objectsB p.obs).length = bs.length := by
    rw [hb']
    simp only [List.length_append, List.length_nil]
    omega
  refine ⟨by rw [e0], by rw [m1], by rw [m2], by rw [m3], by rw [m5], ?_⟩
  unfold rM6
  rw [m5]
  simp only
  rw [hlen]
  simp [rMust]

end Go.Proofs.YtbkmgoffiigdbabGreatDoor

namespace Go.Proofs.YtbkmgoffiigdbabGreatDoor
open Go.RowKit Go.Sort

/-! PLAIN: what a sound machine saves can be read. -/

theorem halt_do (g : PgR) (k : Nat) (a : Int) (s : McA) (fs : List FrA) (f : FrA) (rest args : List Val) (h0 : s.st = 0) (hf : s.frs = fs ++ [f]) : HaltA (doA g k a s fs f rest args) := by
  have hne : ∀ x : FrA, fs ++ [x] ≠ [] := fun x => by simp
  have hs : HaltA s := ⟨fun e => by omega, fun e => by rw [hf] at e; exact absurd e (hne f)⟩
  have hgo : ∀ (pc : Nat) (l : List Val), HaltA (goA s fs f pc l) := fun pc l => ⟨fun e => absurd (show (0 : Int) = 1 from e) (by decide), fun e => absurd (show fs ++ [_] = [] from e) (hne _)⟩
  have htr : ∀ st : Int, st ≠ 1 → HaltA (trapA s st) := fun st h1 => ⟨fun e => absurd (show st = 1 from e) h1, fun e => by rw [show (trapA s st).frs = fs ++ [f] from hf] at e; exact absurd e (hne f)⟩
  have hrt : ∀ (o : Ob) (kind : Int) (ix : Val), reachT o kind ix ≠ 1 := fun o kind ix => by
    unfold reachT
    split
    · decide
    · split <;> decide
  have hget : ∀ (v : Val) (kind : Int) (ix : Val), HaltA (getE s fs f rest v kind ix) := fun v kind ix => by
    unfold getE
    split
    · exact hgo _ _
    · exact htr _ (hrt _ _ _)
  have hset : ∀ (v : Val) (kind : Int) (ix y : Val), HaltA (setE s fs f rest v kind ix y) := fun v kind ix y => by
    unfold setE
    split
    · exact ⟨fun e => absurd (show (0 : Int) = 1 from e) (by decide), fun e => absurd (show fs ++ [_] = [] from e) (hne _)⟩
    · exact htr _ (hrt _ _ _)
  have hroom : (roomA s).frs = fs ++ [f] := by unfold roomA; split <;> exact hf
  have hnew : ∀ (kind : Int) (fl : List Val), HaltA (newA s fs f rest kind fl) := fun kind fl => by
    unfold newA
    split
    · exact ⟨fun e => absurd (show (6 : Int) = 1 from e) (by decide), fun e => by rw [show ({ roomA s with st := 6 } : McA).frs = fs ++ [f] from hroom] at e; exact absurd e (hne f)⟩
    · split
      · exact hs
      · exact ⟨fun e => absurd (show (0 : Int) = 1 from e) (by decide), fun e => absurd (show fs ++ [_] = [] from e) (hne _)⟩
  have hrk : ∀ (x y : Val) (z : Int), HaltA (reckonA s fs f rest x y z) := fun x y z => by
    unfold reckonA
    split
    · exact hgo _ _
    · exact htr 2 (by decide)
  have hone : ∀ (out : List Int) (x : FrA) (obs : List Ob) (dr : List Int), HaltA ⟨0, out, fs ++ [x], obs, dr⟩ := fun out x obs dr => ⟨fun e => absurd (show (0 : Int) = 1 from e) (by decide), fun e => absurd (show fs ++ [_] = [] from e) (hne _)⟩
  have hend : HaltA ⟨1, s.out, [], s.obs, s.dr⟩ := ⟨fun _ => rfl, fun _ => rfl⟩
  unfold doA
  split
  · exact hgo _ _
  · exact hgo _ _
  · exact hgo _ _
  · exact hone _ _ _ _
  · exact hgo _ _
  · exact hgo _ _
  · exact hgo _ _
  · exact hrk _ _ _
  · exact hrk _ _ _
  · exact hrk _ _ _
  · exact hrk _ _ _
  · exact hgo _ _
  · exact hgo _ _
  · split
    · exact hgo _ _
    · exact hgo _ _
  · unfold callA
    split
    · exact htr 5 (by decide)
    · exact ⟨fun e => absurd (show (0 : Int) = 1 from e) (by decide), fun e => absurd (show fs ++ [_] ++ [_] = [] from e) (by simp)⟩
  · unfold returnA
    split
    · exact hend
    · exact ⟨fun e => absurd (show (0 : Int) = 1 from e) (by decide), fun e => absurd (show fs.dropLast ++ [_] = [] from e) (by simp)⟩
  · exact hnew _ _
  · split
    · exact htr 2 (by decide)
    · split
      · exact hnew _ _
      · exact htr 4 (by decide)
  · split
    · exact hnew _ _
    · exact htr 2 (by decide)
  · exact hget _ _ _
  · exact hset _ _ _ _
  · exact hget _ _ _
  · exact hset _ _ _ _
  · split
    · exact hgo _ _
    · exact htr 2 (by decide)
  · split
    · exact hgo _ _
    · exact htr 2 (by decide)
  · exact hgo _ _
  · split
    · exact htr 2 (by decide)
    · split
      · exact htr 7 (by decide)
      · exact hone _ _ _ _
  · exact hend
  · exact hs

theorem halt_step {g : PgR} {s : McA} (hi : InvA g s) (h0 : s.st = 0) : HaltA (stepA g s) := by
  have hne := hi.run h0
  have hf : s.frs = s.frs.dropLast ++ [s.frs.getLast hne] := (List.dropLast_concat_getLast hne).symm
  unfold stepA
  rw [List.getLast?_eq_some_getLast hne]
  exact halt_do g _ _ s _ _ _ _ h0 hf

theorem halt_run {g : PgR} (hp : PgOk g) : ∀ (n : Nat) {s : McA}, InvA g s → HaltA s → HaltA (runA g n s)
  | 0, _, _, h => h
  | n + 1, s, hi, h => by
    rw [runA]
    by_cases h0 : s.st = 0
    · rw [if_pos h0]
      exact halt_run hp n (inv_step hp hi h0) (halt_step hi h0)
    · rw [if_neg h0]
      exact h

theorem packV_good {obs : List Ob} {al : List Nat} (hal : al.length ≤ 40) {v : Val} (hv : VOk obs v) (hi : I64 v.2) : VGood (packV al v) := by
  refine ⟨packV_small hal hi, ?_⟩
  unfold packV
  by_cases h2 : v.1 = 2
  · rw [if_pos h2]
    split
    · exact Or.inr (Or.inr rfl)
    · exact Or.inl rfl
  · rw [if_neg h2]
    rcases hv with h | h | h
    · exact Or.inl h
    · exact Or.inr (Or.inl h)
    · exact absurd h.1 h2

theorem pack_good {g : PgR} (hp : PgOk g) {s : McA} (hi : InvA g s) (hz : IntsA s) (hh : HaltA s) : PackGood g (packA s) := by
  have hsm := pack_small hp hi hz
  have hal : (aliveA s).length ≤ 40 := by
    have := nodup_len hi.alive.nodup hi.alive.lt
    have := hi.cap.2
    omega
  refine ⟨hsm.st, hsm.out, ?_, ⟨hsm.frs.1, fun f hf => ?_⟩, ⟨hsm.obs.1, fun o ho => ?_⟩, ?_⟩
  · refine up_frames ?_
    show Frames g (s.frs.map _).reverse
    rw [← List.map_reverse]
    exact (meas_pack _).frames hi.frs
  · have hs := hsm.frs.2 f hf
    obtain ⟨f', hf', rfl⟩ := List.mem_map.1 (show f ∈ s.frs.map (packF (aliveA s)) from hf)
    refine ⟨hs.fn, hs.pc, fun v hv => ?_, fun v hv => ?_⟩
    · obtain ⟨u, hu, rfl⟩ := List.mem_map.1 (show v ∈ f'.loc.map (packV (aliveA s)) from hv)
      exact packV_good hal (hi.vals f' hf' u (by simp [hu])) (hz.frs f' hf' u (by simp [hu]))
    · obtain ⟨u, hu, rfl⟩ := List.mem_map.1 (show v ∈ f'.stk.map (packV (aliveA s)) from hv)
      exact packV_good hal (hi.vals f' hf' u (by simp [hu])) (hz.frs f' hf' u (by simp [hu]))
  · obtain ⟨j, hj, rfl⟩ := List.mem_map.1 (show o ∈ (aliveA s).map (packO s) from ho)
    obtain ⟨x, hx, hne⟩ := alive_nonfree hi hj
    have hx' := List.mem_of_getElem? hx
    have e : packO s j = (x.1, x.2.map (packV (aliveA s))) := by unfold packO; rw [hx]
    rw [e]
    refine ⟨fun v hv => ?_, ?_⟩
    · obtain ⟨u, hu, rfl⟩ := List.mem_map.1 (show v ∈ x.2.map (packV (aliveA s)) from hv)
      exact packV_good hal ((hi.obs x hx').vals hu) (hz.obs x hx' u hu)
    · rcases hi.obs x hx' with ⟨q, _⟩ | ⟨q, q2, _⟩ | ⟨q, q2, _⟩ | ⟨q, u, q2, _, q4⟩
      · exact absurd q hne
      · exact Or.inl ⟨q, by rw [List.length_map]; exact q2⟩
      · exact Or.inr (Or.inl ⟨q, by rw [List.length_map]; exact q2⟩)
      · refine Or.inr (Or.inr ⟨q, by rw [List.length_map, q2]; rfl, fun v hv => ?_⟩)
        have hv : v ∈ x.2.map (packV (aliveA s)) := hv
        rw [q2] at hv
        have hv : v = packV (aliveA s) u := by simpa using hv
        rw [hv]
        unfold packV
        split
        · split
          · show (2 : Int) ≠ 1; decide
          · show (0 : Int) ≠ 1; decide
        · exact q4
  · show s.st = 1 ↔ s.frs.map _ = []
    rw [List.map_eq_nil_iff]
    exact hh


end Go.Proofs.YtbkmgoffiigdbabGreatDoor

namespace Go.Proofs.YtbkmgoffiigdbabGreatDoor
open Go.RowKit Go.Sort

/-! PLAIN: what a sound machine saves is packed. -/

theorem valAt_abs {R : McR} {s : McA} (h : R.abs = s) {q : Nat} {v : Value} {l : List Val} {t : Tag} (hv : ValAt R q v l t) : (∃ f, f ∈ s.frs ∧ (l = f.loc ∨ l = f.stk)) ∨ ∃ o, o ∈ s.obs ∧ l = o.2 := by
  subst h
  rcases hv with ⟨i, f, hf, _, _, rfl, _⟩ | ⟨i, f, hf, _, _, rfl, _⟩ | ⟨j, o, ho, _, _, rfl, _⟩
  · exact Or.inl ⟨f.abs, List.mem_map.2 ⟨f, List.mem_of_getElem? hf, rfl⟩, Or.inl rfl⟩
  · exact Or.inl ⟨f.abs, List.mem_map.2 ⟨f, List.mem_of_getElem? hf, rfl⟩, Or.inr rfl⟩
  · exact Or.inr ⟨o.abs, List.mem_map.2 ⟨o, List.mem_of_getElem? ho, rfl⟩, rfl⟩

theorem isPacked_of {g : PgR} {R : McR} {s : McA} (h : R.abs = packA s) (hi : InvA g s) : IsPacked R := by
  have hlen : R.obs.length = (packA s).obs.length := by rw [← h]; exact (List.length_map _).symm
  have hal : aliveA R.abs = List.range R.obs.length := by rw [h, pack_alive hi, hlen]
  refine ⟨fun q v l t hv x hx h2 => ?_, ?_, fun i x y h1 h2 => ?_⟩
  · rw [hlen]
    rcases valAt_abs h hv with ⟨f, hf, hl⟩ | ⟨o, ho, hl⟩
    · exact (pack_refs s).1 f hf x (by rcases hl with rfl | rfl <;> simp [hx]) h2
    · exact (pack_refs s).2 o ho x (by rw [← hl]; exact hx) h2
  · rw [hal, List.length_range]
  · rw [hal] at h1 h2
    have l1 := (List.getElem?_eq_some_iff.1 h1).1
    have l2 := (List.getElem?_eq_some_iff.1 h2).1
    rw [List.length_range] at l1 l2
    rw [List.getElem?_range l1] at h1
    rw [List.getElem?_range l2] at h2
    cases h1
    cases h2
    omega

end Go.Proofs.YtbkmgoffiigdbabGreatDoor

namespace Go.Proofs.YtbkmgoffiigdbabGreatDoor
open Go.RowKit Go.Sort

/-! PLAIN: what is written are bytes. -/

def Byt (l : List Int) : Prop := ∀ x, x ∈ l → 0 ≤ x ∧ x < 256
theorem Byt.app {l k : List Int} (h : Byt l) (h' : Byt k) : Byt (l ++ k) := fun x hx => by
  rcases List.mem_append.1 hx with hx | hx
  · exact h x hx
  · exact h' x hx
theorem Byt.flat {α : Type} {l : List α} {f : α → List Int} (h : ∀ a, a ∈ l → Byt (f a)) : Byt (l.flatMap f) := fun x hx => by
  obtain ⟨a, ha, hx⟩ := List.mem_flatMap.1 hx
  exact h a ha x hx

theorem byt_num : ∀ (n : Nat), Byt (numB n) := fun n => by
  induction n using Nat.strongRecOn with
  | ind n ih =>
    rw [numB]
    split
    · intro x hx
      rw [List.mem_singleton] at hx
      subst hx
      omega
    · intro x hx
      rcases List.mem_cons.1 hx with hx | hx
      · subst hx; omega
      · exact ih (n / 128) (by omega) x hx
theorem byt_int (z : Int) : Byt (intB z) := byt_num _
theorem byt_val {v : Val} (h : VGood v) : Byt (valB v) := fun x hx => by
  unfold valB at hx
  rcases List.mem_cons.1 hx with hx | hx
  · subst hx
    rcases h.2 with h | h | h
    · rw [h]; exact ⟨Int.le_refl _, by decide⟩
    · omega
    · omega
  · split at hx
    · exact byt_int _ x hx
    · split at hx
      · exact byt_num _ x hx
      · cases hx
theorem byt_vals {l : List Val} (h : ∀ v, v ∈ l → VGood v) : Byt (valsB l) := Byt.flat fun v hv => byt_val (h v hv)
theorem byt_prog (g : PgR) : Byt (progB g) := by
  unfold progB fnsB
  refine (byt_num _).app (Byt.flat fun i _ => ?_)
  unfold fnB codeB
  refine (((byt_num _).app (byt_num _)).app (byt_num _)).app (Byt.flat fun j _ => ?_)
  unfold inB
  exact (byt_num _).app (byt_int _)
theorem byt_mach {g : PgR} {p : McA} (h : PackGood g p) : Byt (machB g p) := by
  unfold machB outB framesB objectsB intsB frsB obsB
  refine ((((byt_prog g).app (byt_num _)).app ((byt_num _).app (Byt.flat fun z _ => byt_int z))).app ((byt_num _).app (Byt.flat fun f hf => ?_))).app ((byt_num _).app (Byt.flat fun o ho => ?_))
  · have := h.frs.2 f hf
    unfold frB
    exact (((byt_num _).app (byt_num _)).app (byt_vals this.loc)).app (byt_vals this.stk)
  · have := h.obs.2 o ho
    unfold obB
    refine ((byt_num _).app ?_).app (byt_vals this.1)
    split
    · intro x hx; cases hx
    · exact byt_num _

end Go.Proofs.YtbkmgoffiigdbabGreatDoor
