import Derived.Test.YtbkmgoffiigdbaaDoorNR
namespace Go.Proofs.YtbkmgoffiigdbaaDoor
open Go.RowKit Go.Sort

/-- A program of one function. -/
structure SProg (g : PgR) (l : Nat) (L : List (Int × Int)) : Prop where
  n : g.n = 1
  p : (g.f 0).p = 0
  l : (g.f 0).l = l
  len : (g.f 0).n = L.length
  code : ∀ j x, L[j]? = some x → (g.f 0).op j = x.1 ∧ (g.f 0).ar j = x.2

theorem SProg.same {g g' : PgR} {l : Nat} {L : List (Int × Int)} (h : SProg g l L) (hs : Same g g') : SProg g' l L := by
  obtain ⟨h1, h2⟩ := hs
  obtain ⟨p, q, r, s, t⟩ := h2 0 (by rw [h.n]; omega)
  exact ⟨h1.trans h.n, p.trans h.p, q.trans h.l, r.trans h.len, fun j x hx => by rw [s, t]; exact h.code j x hx⟩

def TopQ (R : McR) (fs : List FrR) (f : FrR) (pc : Nat) (l : List Val) (Q : McR) : Prop := ∃ sv, Q = { R with frs := fs ++ [{ f with pc := pc, sv := sv, stk := l }] }

theorem TopPost'.toDo {own : Own} {mb : Nat} {g : PgR} {R : McR} {fs : List FrR} {f : FrR} {pc : Nat} {l : List Val} {st : Int} {w : World} {e : Ending} {w' : World} (h : TopPost' own mb g R fs f pc l (.int .i64 st) w e w') : DoPost own mb g (TopQ R fs f pc l) st w e w' := by
  obtain ⟨own', sv', he, hm, ht⟩ := h
  exact ⟨own', _, he, hm, ⟨sv', rfl⟩, ht⟩

theorem step_to {own : Own} {mb : Nat} {g : PgR} {R : McR} {fs : List FrR} {f : FrR} {w : World} (h : MachAt w own mb g R) (hf : R.frs = fs ++ [f]) (k : Nat) (a : Int) (rest args : List Val) (hst : f.stk = rest ++ args) (hx : Next g f k a args.length) (hn : fs.length ≤ 1000) (hs : f.stk.length ≤ 1000) (hpc : f.pc ≤ 1000) (hgn : g.n ≤ 1000) (hcn : (g.f f.fn).n ≤ 1000)
    (P : McR → Prop) (st : Int) (HD : ∀ W va vc sb, AtOp W own mb g R fs f rest args va sb → Calls Tryd.prog (doT k) #[.pointer (some ⟨mb, 0, none⟩), .int .i64 a, .slice va args.length vc] W fun e w' => DoPost own mb g P st W e w') (S : McR → Prop) (himp : ∀ Q, P Q → S { Q with st := st }) :
    Calls Tryd.prog 59 #[.pointer (some ⟨mb, 0, none⟩)] w fun e w' => StepPost own mb g S w e w' := by
  refine (step_any h hf k a rest args hst hx hn hs hpc hgn hcn P st (fun W va vc sb _ hA => HD W va vc sb hA)).mono ?_
  rintro e w' ⟨own', R', he, hm, ⟨Q, hQ, rfl⟩, ht⟩
  exact ⟨own', _, he, hm, himp Q hQ, ht⟩

/-- A machine of one frame, in the middle of a straight program. -/
structure Mid (cap i : Nat) (stk : List Val) (out : List Int) (R : McR) : Prop where
  st : R.st = 0
  out : R.out = out
  frs : ∃ lv sv, R.frs = [⟨0, i, lv, sv, [], stk⟩]
  obs : R.obs.length = cap

structure Ended (cap : Nat) (out : List Int) (R : McR) : Prop where
  st : R.st = 1
  out : R.out = out
  obs : R.obs.length = cap

theorem sprog_next {g : PgR} {l : Nat} {L : List (Int × Int)} (h : SProg g l L) {f : FrR} (hf : f.fn = 0) {k : Nat} {a : Int} {n : Nat} (hL : L[f.pc]? = some ((k : Int), a)) (hk : k < 28) (hk14 : k ≠ 14) (hn : popD k 0 = n) : Next g f k a n := by
  obtain ⟨q1, q2⟩ := h.code f.pc _ hL
  refine ⟨by rw [hf, h.n]; omega, by rw [hf, h.len]; exact (List.getElem?_eq_some_iff.1 hL).1, by rw [hf]; exact q1, by rw [hf]; exact q2, hk, ?_, fun e => by omega⟩
  rw [← hn]
  unfold popD
  rw [if_neg (show ¬ (k : Int) = 14 by omega), if_neg (show ¬ (k : Int) = 14 by omega)]

/-- Int. -/
theorem mid_int {g : PgR} {L : List (Int × Int)} (hg : SProg g 0 L) (hL60 : L.length ≤ 60) {own : Own} {mb cap i : Nat} {stk : List Val} {out : List Int} {R : McR} {w : World} {x : Int} (hm : MachAt w own mb g R) (hR : Mid cap i stk out R) (hL : L[i]? = some (0, x)) (hs : stk.length ≤ 100) :
    Calls Tryd.prog 59 #[.pointer (some ⟨mb, 0, none⟩)] w fun e w' => StepPost own mb g (Mid cap (i + 1) (stk ++ [(1, x)]) out) w e w' := by
  obtain ⟨lv, sv, hf⟩ := hR.frs
  have hi := (List.getElem?_eq_some_iff.1 hL).1
  refine step_to (fs := []) hm hf 0 x stk [] (by simp) (sprog_next hg rfl hL (by omega) (by omega) rfl) (by simp) (by simpa using (by omega : stk.length ≤ 1000)) (by simpa using (by omega : i ≤ 1000)) (by rw [hg.n]; omega) (by show (g.f 0).n ≤ 1000; rw [hg.len]; omega)
    (TopQ R [] ⟨0, i, lv, sv, [], stk⟩ (i + 1) (stk ++ [(1, x)])) 0 (fun W va vc sb hA => (doInt_any hA x vc).mono fun _ _ h => h.toDo) _ ?_
  rintro Q ⟨sv', rfl⟩
  exact ⟨rfl, hR.out, ⟨lv, sv', rfl⟩, hR.obs⟩

/-- An operation of two ints. -/
def Ari (k : Nat) (x y z : Int) : Prop := (k = 7 ∧ z = wrap64 (x + y)) ∨ (k = 8 ∧ z = wrap64 (x - y)) ∨ (k = 9 ∧ z = wrap64 (x * y)) ∨ (k = 10 ∧ z = truthI (decide (x < y))) ∨ (k = 11 ∧ z = truthI (x == y))

theorem mid_ari {g : PgR} {L : List (Int × Int)} (hg : SProg g 0 L) (hL60 : L.length ≤ 60) {own : Own} {mb cap i k : Nat} {stk : List Val} {out : List Int} {R : McR} {w : World} {x y z : Int} (hz : Ari k x y z) (hm : MachAt w own mb g R) (hR : Mid cap i (stk ++ [(1, x), (1, y)]) out R) (hL : L[i]? = some ((k : Int), 0)) (hs : stk.length ≤ 100) :
    Calls Tryd.prog 59 #[.pointer (some ⟨mb, 0, none⟩)] w fun e w' => StepPost own mb g (Mid cap (i + 1) (stk ++ [(1, z)]) out) w e w' := by
  obtain ⟨lv, sv, hf⟩ := hR.frs
  have hi := (List.getElem?_eq_some_iff.1 hL).1
  have hk : k < 28 ∧ k ≠ 14 ∧ popD k 0 = 2 := by
    rcases hz with ⟨rfl, _⟩ | ⟨rfl, _⟩ | ⟨rfl, _⟩ | ⟨rfl, _⟩ | ⟨rfl, _⟩ <;> exact ⟨by omega, by omega, by simp [popD]⟩
  refine step_to (fs := []) hm hf k 0 stk [(1, x), (1, y)] rfl (sprog_next hg rfl hL hk.1 hk.2.1 hk.2.2) (by simp) (by simp; omega) (by simpa using (by omega : i ≤ 1000)) (by rw [hg.n]; omega) (by show (g.f 0).n ≤ 1000; rw [hg.len]; omega)
    (TopQ R [] ⟨0, i, lv, sv, [], stk ++ [(1, x), (1, y)]⟩ (i + 1) (stk ++ [(1, z)])) 0 (fun W va vc sb hA => ?_) _ ?_
  · rcases hz with ⟨rfl, rfl⟩ | ⟨rfl, rfl⟩ | ⟨rfl, rfl⟩ | ⟨rfl, rfl⟩ | ⟨rfl, rfl⟩
    · exact (do_add hA 0 vc).mono fun _ _ h => h.toDo
    · exact (do_sub hA 0 vc).mono fun _ _ h => h.toDo
    · exact (do_mul hA 0 vc).mono fun _ _ h => h.toDo
    · exact (do_less hA 0 vc).mono fun _ _ h => h.toDo
    · have := doSame_any hA 0 vc
      simp only [beq_self_eq_true, Bool.true_and] at this
      exact this.mono fun _ _ h => h.toDo
  · rintro Q ⟨sv', rfl⟩
    exact ⟨rfl, hR.out, ⟨lv, sv', rfl⟩, hR.obs⟩

theorem mid_print {g : PgR} {L : List (Int × Int)} (hg : SProg g 0 L) (hL60 : L.length ≤ 60) {own : Own} {mb cap i : Nat} {stk : List Val} {out : List Int} {R : McR} {w : World} {z : Int} (hm : MachAt w own mb g R) (hR : Mid cap i (stk ++ [(1, z)]) out R) (hL : L[i]? = some (26, 0)) (hs : stk.length ≤ 100) (ho : out.length < 40) :
    Calls Tryd.prog 59 #[.pointer (some ⟨mb, 0, none⟩)] w fun e w' => StepPost own mb g (Mid cap (i + 1) stk (out ++ [z])) w e w' := by
  obtain ⟨lv, sv, hf⟩ := hR.frs
  have hi := (List.getElem?_eq_some_iff.1 hL).1
  refine step_to (fs := []) hm hf 26 0 stk [(1, z)] rfl (sprog_next hg rfl hL (by omega) (by omega) (by simp [popD])) (by simp) (by simp; omega) (by simpa using (by omega : i ≤ 1000)) (by rw [hg.n]; omega) (by show (g.f 0).n ≤ 1000; rw [hg.len]; omega)
    (Printed R [] ⟨0, i, lv, sv, [], stk ++ [(1, z)]⟩ stk z) 0 (fun W va vc sb hA => doPrint_any hA (by rw [hR.out]; exact ho) 0 vc) _ ?_
  rintro Q ⟨ov', sv', rfl⟩
  exact ⟨rfl, by simp [hR.out], ⟨lv, sv', rfl⟩, hR.obs⟩

theorem mid_halt {g : PgR} {L : List (Int × Int)} (hg : SProg g 0 L) (hL60 : L.length ≤ 60) {own : Own} {mb cap i : Nat} {stk : List Val} {out : List Int} {R : McR} {w : World} (hm : MachAt w own mb g R) (hR : Mid cap i stk out R) (hL : L[i]? = some (27, 0)) (hs : stk.length ≤ 100) :
    Calls Tryd.prog 59 #[.pointer (some ⟨mb, 0, none⟩)] w fun e w' => StepPost own mb g (Ended cap out) w e w' := by
  obtain ⟨lv, sv, hf⟩ := hR.frs
  have hi := (List.getElem?_eq_some_iff.1 hL).1
  refine step_to (fs := []) hm hf 27 0 stk [] (by simp) (sprog_next hg rfl hL (by omega) (by omega) (by simp [popD])) (by simp) (by simpa using (by omega : stk.length ≤ 1000)) (by simpa using (by omega : i ≤ 1000)) (by rw [hg.n]; omega) (by show (g.f 0).n ≤ 1000; rw [hg.len]; omega)
    (fun R' => R' = { R with cv := .slice none 0 0, frs := [] }) 1 (fun W va vc sb hA => doHalt_any hA.m 0 _) _ ?_
  rintro Q rfl
  exact ⟨rfl, hR.out, hR.obs⟩

end Go.Proofs.YtbkmgoffiigdbaaDoor
