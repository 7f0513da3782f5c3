import Derived.Test.YtbkmgoffiigdbaaDoorNI
import Derived.Lib.QuietBelow
import Derived.Test.YtbkmgoffiigdbaaDoorE
namespace Go.Proofs.YtbkmgoffiigdbaaDoor
open Go.RowKit Go.Sort

theorem below_via' {w W w2 : World} (h2 : Below W.heap.size W w2) (h1 : Below w.heap.size w W) : Below w.heap.size w w2 := below_via h2 h1 h1.size

theorem callFunc_enter {P : Program} {f : FuncId} (h : (P.funcs[f]?).map (fun fn => (fn.name == "runtime.NumGoroutine", fn.body.isNone)) = some (false, false)) (args : Array Value) (w : World) :
    Sem.run P (callFunc f args) w = .ok (.enter f args) w := by
  obtain ⟨fn, hf, hq⟩ := Option.map_eq_some_iff.1 h
  simp only [Prod.mk.injEq] at hq
  obtain ⟨h1, h2⟩ := hq
  have e : Sem.run P program w = .ok P w := rfl
  simp only [callFunc, Sem.run_bind, e, Result.andThen_ok, hf, h1, h2]
  rfl
theorem doT_enter : (List.range 28).all (fun k => (Tryd.prog.funcs[doT k]?).map (fun fn => (fn.name == "runtime.NumGoroutine", fn.body.isNone)) == some (false, false)) = true := by kernel_rfl
theorem doT_calls {k : Nat} (hk : k < 28) : ∀ (args : Array Value) (w : World), Sem.run Tryd.prog (callFunc (doT k) args) w = .ok (.enter (doT k) args) w :=
  callFunc_enter (beq_iff_eq.1 (List.all_eq_true.1 doT_enter k (List.mem_range.2 hk)))

/-- What a step comes to. -/
def StepPost (own : Own) (mb : Nat) (g : PgR) (P : McR → Prop) (w : World) (e : Ending) (w' : World) : Prop :=
  ∃ own' R', e = .returned (.tuple #[]) ∧ MachAt w' own' mb g R' ∧ P R' ∧ Touched own w own' w'

/-- The instruction that comes next. -/
structure Next (g : PgR) (f : FrR) (k : Nat) (a : Int) (n : Nat) : Prop where
  fn : f.fn < g.n
  pc : f.pc < (g.f f.fn).n
  op : (g.f f.fn).op f.pc = k
  ar : (g.f f.fn).ar f.pc = a
  k28 : k < 28
  pops : popD k (g.f a.toNat).p = n
  call : (k : Int) = 14 → 0 ≤ a ∧ a < g.n

theorem AtOp.later {w W : World} {own : Own} {mb : Nat} {g : PgR} {R : McR} {fs : List FrR} {f : FrR} {rest args : List Val} {va : Option Addr} {sb : Nat} (h : AtOp w own mb g R fs f rest args va sb) (hB : Below w.heap.size w W) : AtOp W own mb g R fs f rest args va sb :=
  ⟨h.m.same hB.size fun k hk => hB.block k hk, h.hf, h.hst, fun h0 => by
    obtain ⟨q1, q2, q3⟩ := h.hva h0
    refine ⟨q1, q2, fun j x hx => ?_⟩
    rw [hB.cell (p := ⟨sb, _, none⟩) (h.m.lt sb _ q2), hB.cell (p := ⟨sb, _, none⟩) (h.m.lt sb _ q2)]
    exact q3 j x hx, h.hn, h.hs, h.hpc⟩

/-- The values that are to be popped are looked at. -/
def TopRes (w : World) (own : Own) (mb : Nat) (g : PgR) (R : McR) (fs : List FrR) (f : FrR) (rest args : List Val) (e : Ending) (w' : World) : Prop :=
  ∃ va vc sb, e = .returned (.slice va args.length vc) ∧ AtOp w' own mb g R fs f rest args va sb ∧ Below w.heap.size w w'

theorem top_any {own : Own} {mb : Nat} {g : PgR} {R : McR} {fs : List FrR} {f : FrR} {w : World} (h : MachAt w own mb g R) (hf : R.frs = fs ++ [f]) (rest args : List Val) (hst : f.stk = rest ++ args) (hn : fs.length ≤ 1000) (hs : f.stk.length ≤ 1000) (hpc : f.pc ≤ 1000) :
    Calls Tryd.prog 76 #[.pointer (some ⟨mb, 3, none⟩), .int .i64 (args.length : Int)] w fun e w' => TopRes w own mb g R fs f rest args e w' := by
  obtain ⟨cb, cc, hv, hocb, hcb, hfz, x0, x1, x2, x3⟩ := h.top hf
  have c3 := h.c3
  rw [hv] at c3
  have hrow := h.stk fs.length f (by rw [hf]; simp)
  have hlen : f.stk.length = rest.length + args.length := by rw [hst]; simp
  rcases id hrow.1.2 with ⟨e0, e1⟩ | ⟨sb, sc, cur, e0, _, hg, hsc, _⟩
  · have ha : args = [] := List.length_eq_zero_iff.1 (by omega)
    subst ha
    rw [e0] at x3
    refine (top_nil mb cb fs.length cc w hn c3 x3).mono ?_
    rintro e w' ⟨rfl, m, rfl⟩
    have hB : Below w.heap.size w (w.drewN m) := Below.drewQ (Below.refl _ _) _
    exact ⟨none, 0, 0, rfl, ⟨h.same hB.size fun k hk => hB.block k hk, hf, hst, fun h0 => by simp at h0, hn, hs, hpc⟩, hB⟩
  · rw [e0] at x3 hrow
    refine (top_own mb cb fs.length cc sb f.stk.length sc args.length w hn hs hsc (by omega) c3 x3).mono ?_
    rintro e w' ⟨va, vc, rfl, hva, m, rfl⟩
    have hB : Below w.heap.size w (w.drewN m) := Below.drewQ (Below.refl _ _) _
    refine ⟨va, vc, sb, rfl, ⟨h.same hB.size fun k hk => hB.block k hk, hf, hst, fun h0 => ⟨?_, hrow.2 sb rfl, fun j x hx => ?_⟩, hn, hs, hpc⟩, hB⟩
    · rw [hva h0, hlen, Nat.add_sub_cancel]
    · have hj : j < args.length := (List.getElem?_eq_some_iff.1 hx).1
      have hx' : f.stk[rest.length + j]? = some x := by rw [hst, List.getElem?_append_right (by omega), Nat.add_sub_cancel_left]; exact hx
      have e2 : ∀ i, i < 2 → w.cell? ⟨sb, (rest.length + j) * 2 + i, none⟩ = (vcells x)[i]? := fun i hi => by
        rw [hrow.1.cellAt _ (by omega)]; exact flat_get vcells_len hx' hi
      have e3 := e2 0 (by omega)
      have e4 := e2 1 (by omega)
      rw [show (rest.length + j) * 2 = rest.length * 2 + j * 2 by omega] at e3 e4
      exact ⟨e3, e4⟩

end Go.Proofs.YtbkmgoffiigdbaaDoor
