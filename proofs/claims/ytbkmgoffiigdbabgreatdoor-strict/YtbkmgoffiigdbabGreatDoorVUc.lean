import Derived.Test.YtbkmgoffiigdbabGreatDoorVR
import Derived.Test.YtbkmgoffiigdbabGreatDoorVS
import Derived.Test.YtbkmgoffiigdbabGreatDoorVUb
import Derived.Test.YtbkmgoffiigdbabGreatDoorVT
import Derived.Lib.SlBytesConst
namespace Go.Proofs.YtbkmgoffiigdbabGreatDoor
open Go.RowKit Go.Sort

/-! PLAIN: every number of a machine is one of Go's ints; a packed machine is small. -/

structure IntsA (s : McA) : Prop where
  st : 0 ≤ s.st ∧ s.st ≤ 7
  out : ∀ z, z ∈ s.out → I64 z
  frs : ∀ f, f ∈ s.frs → ∀ v, v ∈ f.loc ++ f.stk → I64 v.2
  obs : ∀ o, o ∈ s.obs → ∀ v, v ∈ o.2 → I64 v.2

def VsI (l : List Val) : Prop := ∀ v, v ∈ l → I64 v.2

theorem i64_small {z : Int} (h1 : -1000000 ≤ z) (h2 : z ≤ 1000000) : I64 z := by unfold I64; omega
theorem VsI.app {l k : List Val} (h : VsI l) (h' : VsI k) : VsI (l ++ k) := fun v hv => by
  rcases List.mem_append.1 hv with hv | hv
  · exact h v hv
  · exact h' v hv
theorem VsI.left {l k : List Val} (h : VsI (l ++ k)) : VsI l := fun v hv => h v (by simp [hv])
theorem VsI.right {l k : List Val} (h : VsI (l ++ k)) : VsI k := fun v hv => h v (by simp [hv])
theorem VsI.one {v : Val} (h : I64 v.2) : VsI [v] := fun u hu => by rw [List.mem_singleton] at hu; subst hu; exact h
theorem VsI.nil : VsI [] := fun v hv => by simp at hv
theorem VsI.nils (n : Nat) : VsI (List.replicate n (0, 0)) := fun v hv => by rw [(List.mem_replicate.1 hv).2]; exact i64_small (by decide) (by decide)
theorem VsI.getD {l : List Val} (h : VsI l) (i : Nat) : I64 (l.getD i (0, 0)).2 := by
  rw [List.getD_eq_getElem?_getD]
  cases e : l[i]? with
  | none => exact i64_small (by decide) (by decide)
  | some x => exact h x (List.mem_of_getElem? e)
theorem VsI.headD {l : List Val} (h : VsI l) : I64 (l.headD (0, 0)).2 := by
  cases l with
  | nil => exact i64_small (by decide) (by decide)
  | cons x l => exact h x (by simp)
theorem VsI.set {l : List Val} (h : VsI l) (i : Nat) {x : Val} (hx : I64 x.2) : VsI (l.set i x) := fun v hv => by
  rcases List.mem_or_eq_of_mem_set hv with hv | rfl
  · exact h v hv
  · exact hx
theorem i64_wrap (z : Int) : I64 (wrap64 z) := by unfold I64 wrap64; omega
theorem i64_truth (b : Bool) : I64 (truthI b) := by cases b <;> exact i64_small (by decide) (by decide)

theorem IntsA.put {s : McA} (h : IntsA s) (st : Int) (h0 : 0 ≤ st) (h7 : st ≤ 7) (frs : List FrA) (hfr : ∀ x, x ∈ frs → x ∈ s.frs ∨ VsI (x.loc ++ x.stk)) (dr : List Int) : IntsA ⟨st, s.out, frs, s.obs, dr⟩ :=
  ⟨⟨h0, h7⟩, h.out, fun f hf v hv => by
    rcases hfr f hf with h1 | h1
    · exact h.frs f h1 v hv
    · exact h1 v hv, h.obs⟩

theorem ints_go {s : McA} (h : IntsA s) {fs : List FrA} {f : FrA} (hf : s.frs = fs ++ [f]) (pc : Nat) {l : List Val} (hl : VsI l) : IntsA (goA s fs f pc l) := by
  refine h.put 0 (by decide) (by decide) _ (fun x hx => ?_) _
  rcases List.mem_append.1 hx with hx | hx
  · exact Or.inl (by rw [hf]; simp [hx])
  · rw [List.mem_singleton] at hx
    subst hx
    exact Or.inr (VsI.app (fun v hv => h.frs f (by rw [hf]; simp) v (by simp [hv])) hl)

theorem ints_trap {s : McA} (h : IntsA s) {t : Int} (h0 : 0 ≤ t) (h7 : t ≤ 7) : IntsA (trapA s t) := ⟨⟨h0, h7⟩, h.out, h.frs, h.obs⟩

theorem ints_collect {s : McA} (h : IntsA s) : IntsA (collectA s) := by
  refine ⟨h.st, h.out, h.frs, fun o ho v hv => ?_⟩
  obtain ⟨j, hj⟩ := List.mem_iff_getElem?.1 (show o ∈ sweepA s.obs (aliveA s) from ho)
  rw [sweepA_get] at hj
  obtain ⟨p, hp, rfl⟩ := Option.map_eq_some_iff.1 hj
  have hp' : VsI p.2 := h.obs p (List.mem_of_getElem? hp)
  have hq : VsI (if j ∈ aliveA s then p else (0, [])).2 := by
    split
    · exact hp'
    · exact VsI.nil
  generalize (if j ∈ aliveA s then p else (0, [])) = q at *
  unfold forget1 at hv
  split at hv
  · exact hq.set 0 (x := (0, 0)) (i64_small (by decide) (by decide)) v hv
  · exact hq v hv
theorem ints_room {s : McA} (h : IntsA s) : IntsA (roomA s) := by
  unfold roomA
  split
  · exact ints_collect h
  · exact h

theorem ints_new {g : PgR} {s : McA} (h : IntsA s) (hi : InvA g s) {fs : List FrA} {f : FrA} (hf : s.frs = fs ++ [f]) {rest : List Val} (hr : VsI rest) (kind : Int) {fl : List Val} (hfl : VsI fl) : IntsA (newA s fs f rest kind fl) := by
  have h' := ints_room h
  unfold newA
  split
  · exact ⟨⟨by show (0 : Int) ≤ 6; decide, by show (6 : Int) ≤ 7; decide⟩, h'.out, h'.frs, h'.obs⟩
  · split
    · exact h
    · rename_i j hj
      obtain ⟨⟨o, ho, _⟩, _⟩ := pickA_free hj
      have hl := (List.getElem?_eq_some_iff.1 ho).1
      rw [room_len] at hl
      have hc := hi.cap
      refine ⟨⟨by show (0 : Int) ≤ 0; decide, by show (0 : Int) ≤ 7; decide⟩, h.out, fun x hx v hv => ?_, fun o ho v hv => ?_⟩
      · rcases List.mem_append.1 hx with hx | hx
        · exact h.frs x (by rw [hf]; simp [hx]) v hv
        · rw [List.mem_singleton] at hx
          subst hx
          exact VsI.app (fun v hv => h.frs f (by rw [hf]; simp) v (by simp [hv])) (hr.app (VsI.one (i64_small (by show (-1000000 : Int) ≤ (j.1 : Int); omega) (by show (j.1 : Int) ≤ 1000000; omega)))) v hv
      · rcases List.mem_or_eq_of_mem_set ho with ho | rfl
        · exact h'.obs o ho v hv
        · exact hfl v hv

theorem referred_ints {s : McA} (h : IntsA s) (v : Val) : VsI (referredA s.obs v).2 := by
  unfold referredA
  split
  · rw [List.getD_eq_getElem?_getD]
    cases e : s.obs[v.2.toNat]? with
    | none => exact VsI.nil
    | some o => exact h.obs o (List.mem_of_getElem? e)
  · exact VsI.nil

theorem reachT_bd (o : Ob) (kind : Int) (ix : Val) : 0 ≤ reachT o kind ix ∧ reachT o kind ix ≤ 7 := by
  unfold reachT
  repeat' split
  all_goals decide

theorem ints_get {s : McA} (h : IntsA s) {fs : List FrA} {f : FrA} (hf : s.frs = fs ++ [f]) {rest : List Val} (hr : VsI rest) (v : Val) (kind : Int) (ix : Val) : IntsA (getE s fs f rest v kind ix) := by
  unfold getE
  split
  · exact ints_go h hf _ (hr.app (VsI.one ((referred_ints h v).getD _)))
  · exact ints_trap h (reachT_bd _ _ _).1 (reachT_bd _ _ _).2

theorem ints_set {s : McA} (h : IntsA s) {fs : List FrA} {f : FrA} (hf : s.frs = fs ++ [f]) {rest : List Val} (hr : VsI rest) (v : Val) (kind : Int) (ix : Val) {y : Val} (hy : I64 y.2) : IntsA (setE s fs f rest v kind ix y) := by
  unfold setE
  split
  · have h1 := ints_go h hf (f.pc + 1) hr
    refine ⟨h1.st, h1.out, h1.frs, fun o ho u hu => ?_⟩
    rcases List.mem_or_eq_of_mem_set ho with ho | rfl
    · exact h.obs o ho u hu
    · exact (referred_ints h v).set _ hy u hu
  · exact ints_trap h (reachT_bd _ _ _).1 (reachT_bd _ _ _).2

theorem ints_reckon {s : McA} (h : IntsA s) {fs : List FrA} {f : FrA} (hf : s.frs = fs ++ [f]) {rest : List Val} (hr : VsI rest) (x y : Val) {z : Int} (hz : I64 z) : IntsA (reckonA s fs f rest x y z) := by
  unfold reckonA
  split
  · exact ints_go h hf _ (hr.app (VsI.one hz))
  · exact ints_trap h (by decide) (by decide)

theorem ints_call {g : PgR} {s : McA} (h : IntsA s) {fs : List FrA} {f : FrA} (hf : s.frs = fs ++ [f]) {rest args : List Val} (hr : VsI rest) (ha : VsI args) (a : Int) : IntsA (callA g a s fs f rest args) := by
  unfold callA
  split
  · exact ints_trap h (by decide) (by decide)
  · refine h.put 0 (by decide) (by decide) _ (fun x hx => ?_) _
    rcases List.mem_append.1 hx with hx | hx
    · rcases List.mem_append.1 hx with hx | hx
      · exact Or.inl (by rw [hf]; simp [hx])
      · rw [List.mem_singleton] at hx
        subst hx
        exact Or.inr (VsI.app (fun v hv => h.frs f (by rw [hf]; simp) v (by simp [hv])) hr)
    · rw [List.mem_singleton] at hx
      subst hx
      exact Or.inr (VsI.app (VsI.app ha (VsI.nils _)) VsI.nil)

theorem ints_return {s : McA} (h : IntsA s) {fs : List FrA} {f : FrA} (hf : s.frs = fs ++ [f]) {x : Val} (hx : I64 x.2) : IntsA (returnA s fs x) := by
  unfold returnA
  split
  · exact h.put 1 (by decide) (by decide) _ (fun x hx => by cases hx) _
  · rename_i c hc
    have hm : c ∈ fs := List.mem_of_getLast? hc
    have hcv : VsI (c.loc ++ c.stk) := h.frs c (by rw [hf]; simp [hm])
    refine h.put 0 (by decide) (by decide) _ (fun y hy => ?_) _
    rcases List.mem_append.1 hy with hy | hy
    · exact Or.inl (by rw [hf]; simp [(List.dropLast_sublist fs).subset hy])
    · rw [List.mem_singleton] at hy
      subst hy
      exact Or.inr (VsI.app hcv.left (VsI.app hcv.right (VsI.one hx)))

theorem ints_do {g : PgR} {s : McA} (h : IntsA s) (hi : InvA g s) {fs : List FrA} {f : FrA} (hf : s.frs = fs ++ [f]) {k : Nat} {a : Int} {rest args : List Val} (hr : VsI rest) (ha : VsI args) (h64 : I64 a) : IntsA (doA g k a s fs f rest args) := by
  have hloc : VsI f.loc := fun v hv => h.frs f (by rw [hf]; simp) v (by simp [hv])
  unfold doA
  split
  · exact ints_go h hf _ (hr.app (VsI.one h64))
  · exact ints_go h hf _ (hr.app (VsI.one (i64_small (by decide) (by decide))))
  · exact ints_go h hf _ (hr.app (VsI.one (hloc.getD _)))
  · rename_i x
    refine h.put 0 (by decide) (by decide) _ (fun y hy => ?_) _
    rcases List.mem_append.1 hy with hy | hy
    · exact Or.inl (by rw [hf]; simp [hy])
    · rw [List.mem_singleton] at hy
      subst hy
      exact Or.inr (VsI.app (hloc.set _ (ha x (by simp))) hr)
  · rename_i x
    exact ints_go h hf _ (hr.app (fun v hv => ha v (by simpa using hv)))
  · exact ints_go h hf _ hr
  · rename_i x y
    exact ints_go h hf _ (hr.app (fun v hv => ha v (by simp at hv ⊢; exact hv.symm)))
  · exact ints_reckon h hf hr _ _ (i64_wrap _)
  · exact ints_reckon h hf hr _ _ (i64_wrap _)
  · exact ints_reckon h hf hr _ _ (i64_wrap _)
  · exact ints_reckon h hf hr _ _ (i64_truth _)
  · exact ints_go h hf _ (hr.app (VsI.one (i64_truth _)))
  · exact ints_go h hf _ hr
  · split
    · exact ints_go h hf _ hr
    · exact ints_go h hf _ hr
  · exact ints_call h hf hr ha _
  · rename_i x
    exact ints_return h hf (ha x (by simp))
  · exact ints_new h hi hf hr _ (VsI.nils _)
  · split
    · exact ints_trap h (by decide) (by decide)
    · split
      · exact ints_new h hi hf hr _ (VsI.nils _)
      · exact ints_trap h (by decide) (by decide)
  · split
    · exact ints_new h hi hf hr _ ha
    · exact ints_trap h (by decide) (by decide)
  · exact ints_get h hf hr _ _ _
  · rename_i x y
    exact ints_set h hf hr _ _ _ (ha y (by simp))
  · exact ints_get h hf hr _ _ _
  · rename_i x y z
    exact ints_set h hf hr _ _ _ (ha z (by simp))
  · rename_i x
    split
    · have := (referred_ok' hi (v := x)).len
      exact ints_go h hf _ (hr.app (VsI.one (i64_small (by show (-1000000 : Int) ≤ ((referredA s.obs x).2.length : Int); omega) (by show ((referredA s.obs x).2.length : Int) ≤ 1000000; omega))))
    · exact ints_trap h (by decide) (by decide)
  · rename_i x
    split
    · refine ints_go h hf _ (hr.app (VsI.one ?_))
      unfold strongA
      split
      · exact (referred_ints h x).headD
      · exact i64_small (by decide) (by decide)
    · exact ints_trap h (by decide) (by decide)
  · exact ints_go h hf _ (hr.app (VsI.one (i64_truth _)))
  · rename_i x
    split
    · exact ints_trap h (by decide) (by decide)
    · split
      · exact ints_trap h (by decide) (by decide)
      · have h1 := ints_go h hf (f.pc + 1) hr
        refine ⟨h1.st, fun z hz => ?_, h1.frs, h1.obs⟩
        rcases List.mem_append.1 hz with hz | hz
        · exact h.out z hz
        · rw [List.mem_singleton] at hz
          subst hz
          exact ha x (by simp)
  · exact h.put 1 (by decide) (by decide) _ (fun x hx => by cases hx) _
  · exact h

/-- The program's own numbers. -/
def ArI (g : PgR) : Prop := ∀ i, i < g.n → ∀ j, j < (g.f i).n → I64 ((g.f i).ar j)

theorem ints_step {g : PgR} (hp : PgOk g) (ha : ArI g) {s : McA} (h : IntsA s) (hi : InvA g s) (h0 : s.st = 0) : IntsA (stepA g s) := by
  have hne := hi.run h0
  have hf := (List.dropLast_concat_getLast hne).symm
  obtain ⟨k, a, rest, args, _, o, e⟩ := hi.opAt hp hf
  obtain ⟨h1, _⟩ := hi.top hf
  obtain ⟨hpc, _, _, _⟩ := h1.at hp
  have hs : VsI (s.frs.getLast hne).stk := fun v hv => h.frs _ (List.getLast_mem hne) v (by simp [hv])
  rw [o.stk] at hs
  rw [e]
  exact ints_do h hi hf hs.left hs.right (by rw [← o.ar]; exact ha _ h1.fn _ hpc)

theorem ints_run {g : PgR} (hp : PgOk g) (ha : ArI g) : ∀ (n : Nat) {s : McA}, IntsA s → InvA g s → IntsA (runA g n s)
  | 0, _, h, _ => h
  | n + 1, s, h, hi => by
    rw [runA]
    split
    · rename_i h0; exact ints_run hp ha n (ints_step hp ha h hi h0) (inv_step hp hi h0)
    · exact h

theorem ints_begin (l cap : Nat) (d : List Int) : IntsA ⟨0, [], [⟨0, 0, List.replicate l (0, 0), []⟩], List.replicate cap (0, []), d⟩ := by
  refine ⟨⟨by show (0 : Int) ≤ 0; decide, by show (0 : Int) ≤ 7; decide⟩, fun z hz => (by cases hz), fun f hf v hv => ?_, fun o ho v hv => ?_⟩
  · have hf := List.mem_singleton.1 hf
    subst hf
    rw [List.append_nil] at hv
    exact VsI.nils l v hv
  · have ho := (List.mem_replicate.1 ho).2
    subst ho
    cases hv

/-! Small. -/

theorem reach_ten {F : Flow} (hF : F.Fits) {a : Nat} {b : Int} (h : F.Reach a b) : b ≤ 10 := by
  have : F.Reach a b ∧ b ≤ 10 := by
    refine h (fun a b => F.Reach a b ∧ b ≤ 10) ⟨Flow.reach_first F, by decide⟩ ?_
    rintro a b c ⟨h1, _⟩ hc
    exact ⟨Flow.reach_next h1 hc, (hF.1 a b h1).2.2⟩
  exact this.2

theorem ixA_lt : ∀ {l : List Nat} {x i : Nat}, ixA l x = some i → i < l.length
  | [], _, _, h => by cases h
  | a :: l, x, i, h => by
    rw [ixA] at h
    split at h
    · cases h; simp
    · obtain ⟨j, hj, rfl⟩ := Option.map_eq_some_iff.1 h
      have := ixA_lt hj
      simp only [List.length_cons]
      omega

theorem packV_small {al : List Nat} (hal : al.length ≤ 40) {v : Val} (hv : I64 v.2) : VI64 (packV al v) := by
  unfold packV
  split
  · split
    · rename_i i hi
      have := ixA_lt hi
      exact ⟨i64_small (by show (-1000000 : Int) ≤ (i : Int); omega) (by show (i : Int) ≤ 1000000; omega), fun _ => by show (0 : Int) ≤ (i : Int); omega⟩
    · exact ⟨i64_small (by decide) (by decide), fun _ => by decide⟩
  · rename_i h2
    exact ⟨hv, fun e => absurd e h2⟩

theorem pack_small {g : PgR} (hp : PgOk g) {s : McA} (hi : InvA g s) (h : IntsA s) : McSmall (packA s) := by
  have hal : (aliveA s).length ≤ 40 := by
    have := nodup_len hi.alive.nodup hi.alive.lt
    have := hi.cap
    omega
  have hmap : ∀ {l : List Val}, VsI l → ∀ v, v ∈ l.map (packV (aliveA s)) → VI64 v := fun hl v hv => by
    obtain ⟨u, hu, rfl⟩ := List.mem_map.1 hv
    exact packV_small hal (hl u hu)
  refine ⟨h.st, ⟨hi.out, h.out⟩, ⟨by show (s.frs.map _).length ≤ 12; rw [List.length_map]; exact hi.depth, fun f hf => ?_⟩, ⟨by show ((aliveA s).map _).length ≤ 40; rw [List.length_map]; exact hal, fun o ho => ?_⟩⟩
  · obtain ⟨q, hq, rfl⟩ := List.mem_map.1 hf
    obtain ⟨r, hr0, hr⟩ := frames_all hp hi.frs q (List.mem_reverse.2 hq)
    have hbd := hr.bd hp hr0
    have h10 := reach_ten (hp.fits _ hr.fn) hr.reach
    have hfn := hr.fn
    have hg8 := hp.sized.2.1
    have hv : VsI (q.loc ++ q.stk) := h.frs q hq
    refine ⟨by show q.fn < 1000; omega, by show q.pc < 1000; omega, by show (q.loc.map _).length + (q.stk.map _).length ≤ 18; rw [List.length_map, List.length_map]; omega, hmap hv.left, hmap hv.right⟩
  · obtain ⟨j, hj, rfl⟩ := List.mem_map.1 ho
    unfold packO
    cases e : s.obs[j]? with
    | none => exact ⟨⟨by show (0 : Int) ≤ 0; decide, by show (0 : Int) < 256; decide⟩, by simp, fun v hv => (by cases hv)⟩
    | some o =>
      have hk := hi.obs o (List.mem_of_getElem? e)
      refine ⟨?_, by show (o.2.map _).length ≤ 12; rw [List.length_map]; exact hk.len, hmap (h.obs o (List.mem_of_getElem? e))⟩
      show 0 ≤ o.1 ∧ o.1 < 256
      rcases hk with hk | hk | hk | hk
      · omega
      · omega
      · omega
      · omega

theorem pg_small {g : PgR} (hp : PgOk g) (ha : ArI g) : PgSmall g :=
  ⟨hp.sized.2.1, fun i hi => by
    have hb := hp.sized.bd hi
    exact ⟨by omega, by omega, by omega, fun j hj => by have := legal_op (hp.legal i hi j hj); omega, ha i hi⟩⟩

theorem Same.arI {g g' : PgR} (h : Same g g') (ha : ArI g) : ArI g' := fun i hi j hj => by
  rw [h.1] at hi
  obtain ⟨_, _, q3, _, q5⟩ := h.2 i hi
  rw [q3] at hj
  rw [q5]
  exact ha i hi j hj

theorem Same.progB {g g' : PgR} (h : Same g g') : progB g' = progB g := by
  have hc : ∀ i, i < g.n → fnB (g'.f i) = fnB (g.f i) := fun i hi => by
    obtain ⟨q1, q2, q3, q4, q5⟩ := h.2 i hi
    have hin : inB (g'.f i) = inB (g.f i) := by funext j; unfold inB; rw [q4, q5]
    unfold fnB codeB
    rw [q1, q2, q3, hin]
  have hf : ∀ k, k ≤ g.n → fnsB g' k = fnsB g k := fun k => by
    induction k with
    | zero => intro _; rfl
    | succ k ih => intro hk; rw [fnsB_succ, fnsB_succ, ih (by omega), hc k (by omega)]
  unfold Go.Proofs.YtbkmgoffiigdbabGreatDoor.progB
  rw [h.1, hf g.n (Nat.le_refl _)]

theorem Same.machB {g g' : PgR} (h : Same g g') (s : McA) : machB g' s = machB g s := by
  unfold Go.Proofs.YtbkmgoffiigdbabGreatDoor.machB
  rw [h.progB]

end Go.Proofs.YtbkmgoffiigdbabGreatDoor

namespace Go.Proofs.YtbkmgoffiigdbabGreatDoor
open Go.RowKit Go.Sort

/-! Save: a machine as bytes. -/

def headB : List Int := [83, 76, 77, 2]
def coreB (g : PgR) (s : McA) : List Int := headB ++ machB g s
/-- The image of a machine. -/
def imgB (g : PgR) (s : McA) : List Int := coreB g s ++ sumB (coreB g s)

theorem sumB_len (l : List Int) : (sumB l).length = 4 := rfl
theorem machB_len {g : PgR} {s : McA} (hg : PgSmall g) (hs : McSmall s) : (machB g s).length ≤ 18990 := by
  have h1 := progB_len hg
  have h2 := numB_ten (n := s.st.toNat) (by have := hs.st; omega)
  have h3 := outB_len hs
  have h4 := framesB_len hs
  have h5 := obsB_len hs.obs.2
  have h6 := numB_ten (n := s.obs.length) (by have := hs.obs.1; omega)
  have h7 : s.obs.length * 152 ≤ 40 * 152 := Nat.mul_le_mul_right _ hs.obs.1
  unfold machB objectsB
  simp only [List.length_append]
  omega
theorem coreB_len {g : PgR} {s : McA} (hg : PgSmall g) (hs : McSmall s) : (coreB g s).length ≤ 18994 := by
  have := machB_len hg hs
  unfold coreB headB
  rw [List.length_append]
  simp only [List.length_cons, List.length_nil]
  omega
theorem imgB_len (g : PgR) (s : McA) : 8 ≤ (imgB g s).length := by
  unfold imgB coreB headB
  rw [List.length_append, List.length_append, sumB_len]
  simp only [List.length_cons, List.length_nil]
  omega
theorem imgB_le {g : PgR} {s : McA} (hg : PgSmall g) (hs : McSmall s) : (imgB g s).length ≤ 18998 := by
  have := coreB_len hg hs
  unfold imgB
  rw [List.length_append, sumB_len]
  omega
theorem Same.imgB {g g' : PgR} (h : Same g g') (s : McA) : imgB g' s = imgB g s := by
  unfold Go.Proofs.YtbkmgoffiigdbabGreatDoor.imgB coreB
  rw [h.machB]

theorem wrote_below {w W W' : World} {wb ab : Nat} (hB : Below w.heap.size w W) (hw : Wrote wb ab W W') (h1 : w.heap.size ≤ wb) (h2 : w.heap.size ≤ ab) : Below w.heap.size w W' :=
  ⟨hw.os.trans hB.os, hw.tape.trans hB.tape, hw.output.trans hB.output, Nat.le_trans hB.size hw.size, fun k hk => (hw.block k (Nat.lt_of_lt_of_le hk hB.size) (by omega) (by omega)).trans (hB.block k hk)⟩

theorem WrAt.bytes {W : World} {wb ab : Nat} {bs : List Int} (h : WrAt W wb ab bs) (hn : bs.length ≤ 20000) : BytesAt W (some ⟨ab, 0, none⟩) bs := fun _ => by
  obtain ⟨rest, hr⟩ := h.row
  refine ⟨ab, 0, rfl, h.alt, fun i x hx => ?_⟩
  have hi := (List.getElem?_eq_some_iff.1 hx).1
  rw [Nat.zero_add, hr.cellAt i (by omega), List.getElem?_append_left (by rw [bytesV_len]; exact hi)]
  unfold bytesV
  rw [List.getElem?_map, hx]
  rfl

theorem BytesAt.later {W V : World} {a : Option Addr} {l : List Int} (h : BytesAt W a l) (hB : Below W.heap.size W V) : BytesAt V a l := fun h0 => by
  obtain ⟨b, o, e, hb, hc⟩ := h h0
  exact ⟨b, o, e, Nat.lt_of_lt_of_le hb hB.size, fun i x hx => (hB.cell (p := ⟨b, o + i, none⟩) hb).trans (hc i x hx)⟩

def SavePost (bs : List Int) (w : World) (e : Ending) (w' : World) : Prop := ∃ gb cap, e = .returned (.slice (some ⟨gb, 0, none⟩) bs.length cap) ∧ BytesAt w' (some ⟨gb, 0, none⟩) bs ∧ Below w.heap.size w w'
def SavePost2 (bs : List Int) (w : World) (e : Ending) (w' : World) : Prop := ∃ gb cap, e = .returned (.slice (some ⟨gb, 0, none⟩) bs.length cap) ∧ BytesAt w' (some ⟨gb, 0, none⟩) bs ∧ Below w.heap.size w w' ∧ w'.ownsRow w.heap.size 5 1 (.slice (some ⟨gb, 0, none⟩) bs.length cap) bs.length (bytesV bs)

/-- Bytes of a new list are put. -/
theorem putNew {W : World} {wb ab k n : Nat} {bs : List Int} (h : WrAt W wb ab bs) (hk : W.heap.size = k) (l : List Int) (hl : l.length = n) (cs : Array Value) (hcs : cs.toList = bytesV l) (hn : bs.length + n < 20000) (c : Nat) (fr : Nat × Nat) :
    Calls Tryz.prog 44 #[.pointer (some ⟨wb, 0, none⟩), .slice (some ⟨k, 0, none⟩) n c] (W.alloc (.cells cs 5 fr)) fun e w' => PutPost wb ab (bs ++ l) W e w' := by
  subst hk hl
  have hB : Below W.heap.size W (W.alloc (.cells cs 5 fr)) := Below.alloc (Below.refl _ _) (Nat.le_refl _) _
  refine (put_any (h.later hB) _ c l (fun _ => ⟨W.heap.size, 0, rfl, by simp, ?_, ?_, fun i x hx => ?_⟩) hn).mono ?_
  · have := h.wlt; omega
  · have := h.alt; omega
  · have hb : (W.alloc (.cells cs 5 fr)).heap[W.heap.size]? = some (.cells cs 5 fr) := blk_new rfl
    have := World.news_of_block hb i (.int .u8 x) (by rw [hcs]; unfold bytesV; rw [List.getElem?_map, hx]; rfl)
    rw [Go.WideShapes.add_plain] at this
    exact this
  · rintro e w' ⟨rfl, h4, h5⟩
    exact ⟨rfl, h4, (Wrote.of_below hB).trans h5⟩

set_option maxRecDepth 100000 in
set_option maxHeartbeats 8000000 in
theorem save2_any {own : Own} {mb : Nat} {g : PgR} {R : McR} {w : World} (h : MachAt w own mb g R) (hp : PgOk g) (hi : InvA g R.abs) (hints : IntsA R.abs) (ha : ArI g) :
    Calls Tryz.prog 29 #[.pointer (some ⟨mb, 0, none⟩)] w fun e w' => SavePost2 (imgB g (packA R.abs)) w e w' := by
  have hs := pack_small hp hi hints
  have hg := pg_small hp ha
  have hcl := coreB_len hg hs
  have HW := hid (newWriter_any w)
  have HPK : Hid (∀ W, Below w.heap.size w W → Calls Tryz.prog 46 #[.pointer (some ⟨mb, 0, none⟩)] W fun e w' => PackPost own g R W e w') := fun W hW => packed_any (h.same hW.size fun k hk => hW.block k hk) hp hi
  have HNEW : Hid (∀ k, w.heap.size ≤ k → own k = none) := fun k hk => h.new hk
  have HBLK : Hid (∀ k, w.heap.size ≤ k → ¬ g.blk k) := fun k hk hb => by have := h.pg.blk_lt hb; omega
  have HS := hid hs
  have HG := hid hg
  have HCORE : Hid (coreB g (packA R.abs) = [83, 76, 77, 2] ++ machB g (packA R.abs)) := hid rfl
  have HIMG : Hid (imgB g (packA R.abs) = coreB g (packA R.abs) ++ sumB (coreB g (packA R.abs))) := hid rfl
  generalize coreB g (packA R.abs) = core at *
  generalize imgB g (packA R.abs) = img at *
  obtain ⟨s, hsq⟩ : ∃ s, packA R.abs = s := ⟨_, rfl⟩
  rw [hsq] at HS HCORE
  have HSQ := hid hsq
  clear h hp hi hints ha hs hg hsq
  have kc := fun (w : World) (C : Array Value) (n c : Nat) => Go.Lib.run_convert_bytes_const (P := Tryz.prog) w 33 5 C n c Tryz.underlying33 Tryz.underlying5
  go_enter Tryz.func29, Tryz.ntmps29
  go_wp2_with fail
  refine HW.out.mono ?_
  rintro e w1 ⟨wb, ab, rfl, hwr, hwb, hab, hb1⟩
  have H1 := hid hwr
  have HB1 := hid hb1
  have l1 := hwr.wlt
  have s1 := hb1.size
  clear hwr hb1 HW
  go_wp2_with fail
  refine (putNew H1.out rfl [83, 76, 77] rfl _ rfl (by simp) _ _).mono ?_
  rintro e w2 ⟨rfl, h2, hw2⟩
  have H2 := hid h2
  have HB2 := hid (wrote_below HB1.out hw2 hwb hab)
  have l2 := h2.wlt
  clear h2 hw2 H1 HB1
  go_wp2_with fail
  refine (putNew H2.out rfl [2] rfl _ rfl (by simp) _ _).mono ?_
  rintro e w3 ⟨rfl, h3, hw3⟩
  have H3 := hid h3
  have HB3 := hid (wrote_below HB2.out hw3 hwb hab)
  have l3 := h3.wlt
  have a3 := h3.alt
  clear h3 hw3 H2 HB2
  go_wp2_with fail
  refine (HPK.out _ HB3.out).mono ?_
  rintro e w4 ⟨pb, rfl, hb4, hpk⟩
  have hpa := hpk wb ab l3 a3 (HNEW.out _ hwb) (HNEW.out _ hab) (HBLK.out _ hwb) (HBLK.out _ hab)
  rw [HSQ.out] at hpa
  have HPA := hid hpa
  clear hpa
  have H4 := hid (H3.out.later hb4)
  have HB4 := hid (below_via' hb4 HB3.out)
  clear hb4 hpk H3 HB3 l3 a3
  go_wp2_with fail
  refine (wmachine_any H4.out g s HPA.out HG.out HS.out (by simp)).mono ?_
  rintro e w5 ⟨rfl, h5, hw5⟩
  have h5' : WrAt w5 wb ab core := by rw [HCORE.out]; exact h5
  have H5 := hid h5'
  have HB5 := hid (wrote_below HB4.out hw5 hwb hab)
  have l5 := h5'.wlt
  clear h5 h5' hw5 H4 HB4 HPA
  go_wp2_with fail
  refine (passed_any H5.out (by omega)).mono ?_
  rintro e w6 ⟨rfl, hl6⟩
  have H6 := hid (H5.out.later hl6.below)
  have HB6 := hid (below_via' hl6.below HB5.out)
  clear hl6 H5 HB5
  go_wp2_with fail
  refine (sumOf_any (some ⟨ab, 0, none⟩) 20000 core (H6.out.bytes (by omega)) (by omega)).mono ?_
  rintro e w7 ⟨rfl, rfl⟩
  go_wp2_with fail
  refine (putNew H6.out rfl (sumB core) rfl _ (by simp) (by rw [sumB_len]; omega) 4 _).mono ?_
  rintro e w8 ⟨rfl, h8, hw8⟩
  have h8' : WrAt w8 wb ab img := by rw [HIMG.out]; exact h8
  have hil : img.length = core.length + 4 := by rw [HIMG.out, List.length_append]; rfl
  have hil1 : img.length ≤ 18998 := by omega
  have hil0 : 0 < img.length := by omega
  have H8 := hid h8'
  clear hil
  have HB8 := hid (wrote_below HB6.out hw8 hwb hab)
  have l8 := h8'.wlt
  clear h8 h8' hw8 H6 HB6
  go_wp2_with fail
  refine (passed_any H8.out (by omega)).mono ?_
  rintro e w9 ⟨rfl, hl9⟩
  have H9 := hid (H8.out.later hl9.below)
  have HB9 := hid (below_via' hl9.below HB8.out)
  have a9 := H9.out.alt
  clear hl9 H8 HB8
  go_wp2_with fail
  refine (clone_byte ab 0 img.length 20000 (bytesV img) _ (by omega) (by omega) (by rw [bytesV_len]; omega) (fun j u hu => ?_) (fun u hu => ?_) a9).mono ?_
  · have hj := (List.getElem?_eq_some_iff.1 hu).1
    rw [bytesV_len] at hj
    obtain ⟨b, o, e, _, hc⟩ := H9.out.bytes (by omega) (by omega)
    cases e
    unfold bytesV at hu
    rw [List.getElem?_map] at hu
    obtain ⟨x, hx, rfl⟩ := Option.map_eq_some_iff.1 hu
    exact hc j x hx
  · obtain ⟨x, _, rfl⟩ := List.mem_map.1 hu
    rfl
  rintro e w10 ⟨gb, cap, rfl, hown, hb10⟩
  have HP : Hid (SavePost2 img w (.returned (.slice (some ⟨gb, 0, none⟩) img.length cap)) w10) := ⟨gb, cap, rfl, fun _ => ⟨gb, 0, rfl, (hown.lt gb rfl).2, fun i x hx => by
    have hi := (List.getElem?_eq_some_iff.1 hx).1
    rw [Nat.zero_add, hown.cellAt i (by omega)]
    unfold bytesV
    rw [List.getElem?_map, hx]
    rfl⟩, below_via' hb10 HB9.out, by simpa using owns_base hown HB9.out.size⟩
  clear hown hb10
  go_wp2_with fail
  go_ret
  exact HP.out

set_option maxHeartbeats 1000000 in
theorem Save2_any {own : Own} {mb : Nat} {g : PgR} {R : McR} {w : World} (h : MachAt w own mb g R) (hp : PgOk g) (hi : InvA g R.abs) (hints : IntsA R.abs) (ha : ArI g) :
    Calls Tryz.prog 10 #[.pointer (some ⟨mb, 0, none⟩)] w fun e w' => SavePost2 (imgB g (packA R.abs)) w e w' := by
  have H := hid (save2_any h hp hi hints ha)
  clear h hp hi hints ha
  go_enter Tryz.func10, Tryz.ntmps10
  go_wp2_with (go_at_call 29; refine H.out.mono ?_; rintro e w2 ⟨gb, cap, rfl, hb2, hb3⟩)
  go_ret
  exact ⟨gb, cap, rfl, hb2, hb3⟩

theorem Save_any {own : Own} {mb : Nat} {g : PgR} {R : McR} {w : World} (h : MachAt w own mb g R) (hp : PgOk g) (hi : InvA g R.abs) (hints : IntsA R.abs) (ha : ArI g) :
    Calls Tryz.prog 10 #[.pointer (some ⟨mb, 0, none⟩)] w fun e w' => SavePost (imgB g (packA R.abs)) w e w' :=
  (Save2_any h hp hi hints ha).mono fun _ _ ⟨gb, cap, h1, h2, h3, _⟩ => ⟨gb, cap, h1, h2, h3⟩

end Go.Proofs.YtbkmgoffiigdbabGreatDoor
