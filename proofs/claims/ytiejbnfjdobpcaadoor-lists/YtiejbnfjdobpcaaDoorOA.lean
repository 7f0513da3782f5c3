import Derived.Test.YtiejbnfjdobpcaaDoorNK
namespace Go.Proofs.YtiejbnfjdobpcaaDoor
open Go.RowKit Go.Sort

theorem frame_set1 {fs : List FrR} {f : FrR} (pc : Nat) (v : Value) (l : List Val) :
    (fs ++ [{ f with pc := pc, sv := v, stk := l }]).flatMap FrR.cells = (((fs ++ [f]).flatMap FrR.cells).set (fs.length * 4 + 3) v).set (fs.length * 4 + 1) (.int .i64 pc) := by
  have := frame_set (fs := fs) (f := f) pc v v l
  rwa [List.set_set] at this

set_option maxHeartbeats 1000000 in
theorem goTo_any {own : Own} {mb : Nat} {g : PgR} {R : McR} {fs : List FrR} {f : FrR} {w : World} (h : MachAt w own mb g R) (hf : R.frs = fs ++ [f]) (k : Nat) (hk : k ≤ f.stk.length) (pc : Nat)
    (hn : fs.length ≤ 1000) (hs : f.stk.length ≤ 1000) :
    Calls Tryd.prog 145 #[.pointer (some ⟨mb, 3, none⟩), .int .i64 (k : Int), .int .i64 (pc : Int)] w fun e w' => TopPost' own mb g R fs f pc (f.stk.take (f.stk.length - k)) (.tuple #[]) w e w' := by
  obtain ⟨cb, cc, hv, hocb, hcb, hfz, x0, x1, x2, x3⟩ := h.top hf
  have hc := h.c3
  rw [hv] at hc
  have hrow := h.topRow hf hv
  have hmb : mb < w.heap.size := h.lt mb _ h.me
  have hmc : mb ≠ cb := fun e => by have := h.me; rw [e, hocb] at this; cases this
  have hstk := h.stk fs.length f (by rw [hf]; simp)
  have hsb : ∀ b, f.sv.ownBlock = some b → b ≠ cb ∧ own b = some (.stk fs.length) := fun b hb => by
    have hb' := hstk.2 b hb
    exact ⟨fun e => (by rw [e, hocb] at hb'; cases hb'), hb'⟩
  have hfz3 := hfz (fs.length * 4 + 3)
  have hfz1 := hfz (fs.length * 4 + 1)
  go_enter Tryd.func145, Tryd.ntmps145
  go_wp2_with fail
  refine (drop_any mb cb fs.length cc f.sv f.stk.length k _ w hn hs hk hc x3 hfz3 hstk.1).mono ?_
  rintro e w1 ⟨m1, sv1, rfl, hw1, hb1, hown1⟩
  have hne1 : sv1.ownBlock ≠ some cb := fun e => (hsb cb (hb1 ▸ e)).1 rfl
  have d0 : w1.cell? ⟨mb, 3, none⟩ = some (.slice (some ⟨cb, 0, none⟩) (fs.length + 1) cc) := by rw [hw1]; go_simp
  have d1 : w1.cell? ⟨cb, fs.length * 4 + 1, none⟩ = some (.int .i64 (f.pc : Int)) := by rw [hw1]; go_simp
  have z1 : w1.frozen? ⟨cb, fs.length * 4 + 1, none⟩ = false := by rw [hw1]; go_simp
  have o1 : w1.ownsRow 0 101 2 sv1 (f.stk.length - k) (vflat (f.stk.take (f.stk.length - k))) := by
    rw [hw1, vflat, flat_take vcells_len]
    exact ownsRow_setCell_other (own_dr hown1 m1) hne1 _
  have r1 : w1.ownsRow 0 98 4 (.slice (some ⟨cb, 0, none⟩) (fs.length + 1) cc) (fs.length + 1) (((fs ++ [f]).flatMap FrR.cells).set (fs.length * 4 + 3) sv1) := by
    rw [hw1]; exact (World.ownsRow.stored (own_dr hrow m1) _ sv1).1
  have s1 : w1.heap.size = w.heap.size := by rw [hw1]; simp
  have k1 : ∀ b, b ≠ cb → w1.heap[b]? = w.heap[b]? := fun b hb => by rw [hw1]; exact heap_setCell_other _ _ _ _ hb
  have e1 : w1.os = w.os ∧ w1.tape = w.tape ∧ w1.output = w.output := by rw [hw1]; exact ⟨rfl, rfl, rfl⟩
  have hlt1 : cb < w1.heap.size := by omega
  have HPOST : Hid (∀ q, TopPost' own mb g R fs f pc (f.stk.take (f.stk.length - k)) (.tuple #[]) w (.returned (.tuple #[])) ((w1.drewN q).setCell ⟨cb, fs.length * 4 + 1, none⟩ (.int .i64 (pc : Int)))) := by
    intro q
    have hon : OldOrNew w own sv1 (.stk fs.length) := fun b hb => Or.inl (hsb b (hb1 ▸ hb)).2
    have hlen : (f.stk.take (f.stk.length - k)).length = f.stk.length - k := by simp
    have r2 := (World.ownsRow.stored (own_dr r1 q) (fs.length * 4 + 1) (.int .i64 (pc : Int))).1
    rw [← frame_set1 pc sv1 (f.stk.take (f.stk.length - k))] at r2
    refine ⟨_, sv1, rfl, MachAt.setTop (f' := { f with pc := pc, sv := sv1, stk := f.stk.take (f.stk.length - k) }) h hf rfl rfl (by simp [s1]) (fun j hj h1 h2 => ?_) (by rw [hv]; exact r2) (by rw [hlen]; exact ownsRow_setCell_other (own_dr o1 q) hne1 _) hon, ?_⟩
    · have hkc : j ≠ cb := fun e => h1 (by rw [e]; exact hocb)
      rw [heap_setCell_other _ _ _ _ hkc]; exact k1 j hkc
    · refine ⟨e1.1, e1.2.1, e1.2.2, by simp [s1], fun j hj hno => ?_, fun j hj => Own.upd_old hon hj⟩
      have hkc : j ≠ cb := fun e => by rw [e, hocb] at hno; cases hno
      rw [heap_setCell_other _ _ _ _ hkc]; exact k1 j hkc
  clear hw1 x0 x1 x2 x3 hc hfz3 hfz1 hfz hrow hstk hown1 h hf hv hsb hb1 hne1 o1 r1 s1 k1 e1 hocb
  go_wp2_with (go_at_call 70; refine (running_any mb cb fs.length cc _ hn d0).mono ?_; rintro e w2 ⟨rfl, m2, rfl⟩)
  go_end0
  exact HPOST.out _

theorem AtOp.goTo {w W : World} {own : Own} {mb : Nat} {g : PgR} {R : McR} {fs : List FrR} {f : FrR} {rest args : List Val} {va : Option Addr} {sb : Nat} (h : AtOp w own mb g R fs f rest args va sb) (hB : Below w.heap.size w W) (k : Nat) (hk : args.length = k) (pc : Nat) :
    Calls Tryd.prog 145 #[.pointer (some ⟨mb, 3, none⟩), .int .i64 (k : Int), .int .i64 (pc : Int)] W fun e w' => TopPost' own mb g R fs f pc rest (.tuple #[]) w e w' := by
  subst hk
  have hl : args.length ≤ f.stk.length := by rw [h.hst]; simp
  refine (goTo_any (h.m.same hB.size fun k hk => hB.block k hk) h.hf args.length hl pc h.hn h.hs).mono ?_
  rintro e w' ⟨own', sv', rfl, hm', ht⟩
  have he : f.stk.take (f.stk.length - args.length) = rest := by rw [h.hst]; simp
  rw [he] at hm'
  exact ⟨own', sv', rfl, hm', (Touched.of_below hB).trans ht⟩

set_option maxHeartbeats 1000000 in
theorem doJump_any {own : Own} {mb : Nat} {g : PgR} {R : McR} {fs : List FrR} {f : FrR} {rest args : List Val} {va : Option Addr} {sb : Nat} {w : World} (h : AtOp w own mb g R fs f rest args va sb) (pc vc : Nat) :
    Calls Tryd.prog 118 #[.pointer (some ⟨mb, 0, none⟩), .int .i64 (pc : Int), .slice va args.length vc] w fun e w' => TopPost' own mb g R fs f pc rest (.int .i64 0) w e w' := by
  have HG := hid (h.goTo (Below.refl _ _) args.length rfl pc)
  clear h
  go_enter Tryd.func118, Tryd.ntmps118
  go_wp2_with (go_at_call 145; refine HG.out.mono ?_; rintro e w' ⟨own', sv', rfl, hm, ht⟩)
  go_ret
  exact ⟨own', sv', rfl, hm, ht⟩

def goesOn (x : Val) : Bool := x.1 == 2 || x.2 != 0

set_option maxHeartbeats 1000000 in
theorem doJumpNot_on {own : Own} {mb : Nat} {g : PgR} {R : McR} {fs : List FrR} {f : FrR} {rest : List Val} {x : Val} {va : Option Addr} {sb : Nat} {w : World} (h : AtOp w own mb g R fs f rest [x] va sb) (hx : goesOn x = true) (pc vc : Nat) :
    Calls Tryd.prog 119 #[.pointer (some ⟨mb, 0, none⟩), .int .i64 (pc : Int), .slice va 1 vc] w fun e w' => TopPost' own mb g R fs f (f.pc + 1) rest (.int .i64 0) w e w' := by
  obtain ⟨o, rfl, hsb, c0, c1⟩ := h.one
  obtain ⟨x1, x2⟩ := x
  simp only at c0 c1
  have HH := hid h
  clear h
  cases h1 : (x1 == 2)
  · have h2 : (x2 != 0) = true := by simpa [goesOn, h1] using hx
    clear hx
    go_enter Tryd.func119, Tryd.ntmps119
    go_wp2_with (first | (go_at_call 146; refine (isRef_any _ _ _).mono ?_; rintro e w' ⟨rfl, o3, rfl⟩) | (go_at_call 137; refine (HH.out.answer (by repeat (first | exact Below.refl _ _ | refine Below.drew ?_ | refine Below.alloc ?_ (by first | (simp; done) | (simp; omega)) _)) vc _ [] (pushed_nil _ _) (by simp) 1 rfl).mono ?_; rintro e w' ⟨own', sv', rfl, hm, ht⟩))
    go_ret
    exact ⟨own', sv', rfl, by rw [List.append_nil] at hm; exact hm, ht⟩
  · clear hx
    go_enter Tryd.func119, Tryd.ntmps119
    go_wp2_with (first | (go_at_call 146; refine (isRef_any _ _ _).mono ?_; rintro e w' ⟨rfl, o3, rfl⟩) | (go_at_call 137; refine (HH.out.answer (by repeat (first | exact Below.refl _ _ | refine Below.drew ?_ | refine Below.alloc ?_ (by first | (simp; done) | (simp; omega)) _)) vc _ [] (pushed_nil _ _) (by simp) 1 rfl).mono ?_; rintro e w' ⟨own', sv', rfl, hm, ht⟩))
    go_ret
    exact ⟨own', sv', rfl, by rw [List.append_nil] at hm; exact hm, ht⟩

set_option maxHeartbeats 1000000 in
theorem doJumpNot_off {own : Own} {mb : Nat} {g : PgR} {R : McR} {fs : List FrR} {f : FrR} {rest : List Val} {x : Val} {va : Option Addr} {sb : Nat} {w : World} (h : AtOp w own mb g R fs f rest [x] va sb) (hx : goesOn x = false) (pc vc : Nat) :
    Calls Tryd.prog 119 #[.pointer (some ⟨mb, 0, none⟩), .int .i64 (pc : Int), .slice va 1 vc] w fun e w' => TopPost' own mb g R fs f pc rest (.int .i64 0) w e w' := by
  obtain ⟨o, rfl, hsb, c0, c1⟩ := h.one
  obtain ⟨x1, x2⟩ := x
  simp only at c0 c1
  have HJ : Hid (∀ W, Below w.heap.size w W → Calls Tryd.prog 118 #[.pointer (some ⟨mb, 0, none⟩), .int .i64 (pc : Int), .slice (some ⟨sb, o, none⟩) 1 vc] W fun e w' => TopPost' own mb g R fs f pc rest (.int .i64 0) W e w') := fun W hW => doJump_any (h.later hW) pc vc
  clear h
  have h1 : (x1 == 2) = false := by
    cases e : (x1 == 2)
    · rfl
    · simp [goesOn, e] at hx
  have h2 : (x2 != 0) = false := by
    cases e : (x2 != 0)
    · rfl
    · simp [goesOn, e] at hx
  clear hx
  go_enter Tryd.func119, Tryd.ntmps119
  go_wp2_with (first | (go_at_call 146; refine (isRef_any _ _ _).mono ?_; rintro e w' ⟨rfl, o3, rfl⟩) | (go_at_call 118; refine (HJ.out _ ?_).mono ?_; exact (by repeat (first | exact Below.refl _ _ | refine Below.drew ?_ | refine Below.alloc ?_ (by first | (simp; done) | (simp; omega)) _)); rintro e w' ⟨own', sv', rfl, hm, ht⟩; have HT : Hid (Touched own w own' w') := (Touched.of_below (by repeat (first | exact Below.refl _ _ | refine Below.drew ?_ | refine Below.alloc ?_ (by first | (simp; done) | (simp; omega)) _))).trans ht))
  go_ret
  exact ⟨own', sv', rfl, hm, HT.out⟩

end Go.Proofs.YtiejbnfjdobpcaaDoor
