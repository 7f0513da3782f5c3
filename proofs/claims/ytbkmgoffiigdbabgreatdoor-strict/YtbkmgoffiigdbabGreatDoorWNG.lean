import Derived.Test.YtbkmgoffiigdbabGreatDoorWNF
namespace Go.Proofs.YtbkmgoffiigdbabGreatDoor
open Go.RowKit

/-- A trap: the machine is as it was. -/
def TrapPost (st : Int) (w : World) (e : Ending) (w' : World) : Prop := e = .returned (.int .i64 st) ∧ Below w.heap.size w w'

set_option maxHeartbeats 400000 in
theorem add_any (x y : Int) (w : World) : Calls Tryz.prog 207 #[.int .i64 x, .int .i64 y] w fun e w' => e = .returned (.agg #[.int .u8 1, .int .i64 (wrap64 (x + y))]) ∧ ∃ o o', w' = (w.alloc o).alloc o' := by
  go_enter Tryz.func207, Tryz.ntmps207
  go_wp2_with (go_at_call 152; refine (number_any _ _).mono ?_; rintro e w' ⟨rfl, o, rfl⟩)
  exact bodyPost_ret (v := .agg #[.int .u8 1, .int .i64 (wrap64 (x + y))]) (by simp [results, Tryz.results207, go_sem]) rfl ⟨rfl, _, _, rfl⟩

set_option maxHeartbeats 2000000 in
theorem reckon_add {own : Own} {mb : Nat} {g : PgR} {R : McR} {fs : List FrR} {f : FrR} {rest : List Val} {va : Option Addr} {sb : Nat} {w : World} {x y : Int} (h : AtOp w own mb g R fs f rest [(1, x), (1, y)] va sb) (vc : Nat) :
    Calls Tryz.prog 206 #[.pointer (some ⟨mb, 0, none⟩), .slice va 2 vc, .func (.func 207) #[] #[]] w fun e w' => TopPost' own mb g R fs f (f.pc + 1) (rest ++ [(1, wrap64 (x + y))]) (.int .i64 0) w e w' := by
  obtain ⟨o, rfl, hsb, c0, c1, c2, c3⟩ := h.two
  simp only at c0 c1 c2 c3
  have HH := hid h
  clear h
  go_enter Tryz.func206, Tryz.ntmps206
  go_wp2_with (first | (go_at_call 140; refine (isInt_any _ _ _).mono ?_; rintro e w' ⟨rfl, o4, rfl⟩) | (go_at_call 207; refine (add_any _ _ _).mono ?_; rintro e w' ⟨rfl, o1, o2, rfl⟩))
  go_region_with (first | (go_at_call 205; refine (HH.out.answer (by repeat (first | exact Below.refl _ _ | refine Below.drew ?_ | refine Below.drewQ ?_ _ | refine Below.alloc ?_ (by first | (simp; done) | (simp; omega)) _)) vc _ [(1, wrap64 (x + y))] (pushed_one HH.out.m (by first | omega | (simp; omega)) (by first | exact blk_new (by simp) | exact blk_new1 (by simp) | exact blk_newN (by simp))) (by simp) 2 rfl).mono ?_; rintro e w' ⟨own', sv', rfl, hm, ht⟩) | (first | (go_at_call 140; refine (isInt_any _ _ _).mono ?_; rintro e w' ⟨rfl, o4, rfl⟩) | (go_at_call 207; refine (add_any _ _ _).mono ?_; rintro e w' ⟨rfl, o1, o2, rfl⟩)))
  all_goals go_wp2_with fail
  all_goals go_ret
  all_goals exact ⟨own', sv', rfl, hm, ht⟩

set_option maxHeartbeats 2000000 in
theorem reckon_add_bad {own : Own} {mb : Nat} {g : PgR} {R : McR} {fs : List FrR} {f : FrR} {rest : List Val} {va : Option Addr} {sb : Nat} {w : World} {x y : Val} (h : AtOp w own mb g R fs f rest [x, y] va sb) (hk : ¬ (x.1 = 1 ∧ y.1 = 1)) (vc : Nat) :
    Calls Tryz.prog 206 #[.pointer (some ⟨mb, 0, none⟩), .slice va 2 vc, .func (.func 207) #[] #[]] w fun e w' => TrapPost 2 w e w' := by
  obtain ⟨o, rfl, hsb, c0, c1, c2, c3⟩ := h.two
  obtain ⟨x1, x2⟩ := x
  obtain ⟨y1, y2⟩ := y
  simp only at c0 c1 c2 c3 hk
  clear h
  cases h1 : (x1 == 1)
  · clear hk
    go_enter Tryz.func206, Tryz.ntmps206
    go_wp2_with (first | (go_at_call 140; refine (isInt_any _ _ _).mono ?_; rintro e w' ⟨rfl, o4, rfl⟩) | (go_at_call 207; refine (add_any _ _ _).mono ?_; rintro e w' ⟨rfl, o1, o2, rfl⟩))
    go_ret
    exact ⟨rfl, (by repeat (first | exact Below.refl _ _ | refine Below.drew ?_ | refine Below.drewQ ?_ _ | refine Below.alloc ?_ (by first | (simp; done) | (simp; omega)) _))⟩
  · have h2 : (y1 == 1) = false := beq_eq_false_iff_ne.2 fun e => hk ⟨beq_iff_eq.1 h1, e⟩
    clear hk
    go_enter Tryz.func206, Tryz.ntmps206
    go_wp2_with (first | (go_at_call 140; refine (isInt_any _ _ _).mono ?_; rintro e w' ⟨rfl, o4, rfl⟩) | (go_at_call 207; refine (add_any _ _ _).mono ?_; rintro e w' ⟨rfl, o1, o2, rfl⟩))
    go_ret
    exact ⟨rfl, (by repeat (first | exact Below.refl _ _ | refine Below.drew ?_ | refine Below.drewQ ?_ _ | refine Below.alloc ?_ (by first | (simp; done) | (simp; omega)) _))⟩

set_option maxHeartbeats 1000000 in
theorem do_add {own : Own} {mb : Nat} {g : PgR} {R : McR} {fs : List FrR} {f : FrR} {rest : List Val} {va : Option Addr} {sb : Nat} {w : World} {x y : Int} (h : AtOp w own mb g R fs f rest [(1, x), (1, y)] va sb) (a : Int) (vc : Nat) :
    Calls Tryz.prog 180 #[.pointer (some ⟨mb, 0, none⟩), .int .i64 a, .slice va 2 vc] w fun e w' => TopPost' own mb g R fs f (f.pc + 1) (rest ++ [(1, wrap64 (x + y))]) (.int .i64 0) w e w' := by
  have HR := hid (reckon_add h vc)
  clear h
  go_enter Tryz.func180, Tryz.ntmps180
  go_wp2_with (go_at_call 206; refine HR.out.mono ?_; rintro e w' ⟨own', sv', rfl, hm, ht⟩)
  go_ret
  exact ⟨own', sv', rfl, hm, ht⟩

set_option maxHeartbeats 1000000 in
theorem do_add_bad {own : Own} {mb : Nat} {g : PgR} {R : McR} {fs : List FrR} {f : FrR} {rest : List Val} {va : Option Addr} {sb : Nat} {w : World} {x y : Val} (h : AtOp w own mb g R fs f rest [x, y] va sb) (hk : ¬ (x.1 = 1 ∧ y.1 = 1)) (a : Int) (vc : Nat) :
    Calls Tryz.prog 180 #[.pointer (some ⟨mb, 0, none⟩), .int .i64 a, .slice va 2 vc] w fun e w' => TrapPost 2 w e w' := by
  have HR := hid (reckon_add_bad h hk vc)
  clear h hk
  go_enter Tryz.func180, Tryz.ntmps180
  go_wp2_with (go_at_call 206; refine HR.out.mono ?_; rintro e w' ⟨rfl, hb⟩)
  go_ret
  exact ⟨rfl, hb⟩

set_option maxHeartbeats 400000 in
theorem sub_any (x y : Int) (w : World) : Calls Tryz.prog 208 #[.int .i64 x, .int .i64 y] w fun e w' => e = .returned (.agg #[.int .u8 1, .int .i64 (wrap64 (x - y))]) ∧ ∃ o o', w' = (w.alloc o).alloc o' := by
  go_enter Tryz.func208, Tryz.ntmps208
  go_wp2_with (go_at_call 152; refine (number_any _ _).mono ?_; rintro e w' ⟨rfl, o, rfl⟩)
  exact bodyPost_ret (v := .agg #[.int .u8 1, .int .i64 (wrap64 (x - y))]) (by simp [results, Tryz.results208, go_sem]) rfl ⟨rfl, _, _, rfl⟩

set_option maxHeartbeats 2000000 in
theorem reckon_sub {own : Own} {mb : Nat} {g : PgR} {R : McR} {fs : List FrR} {f : FrR} {rest : List Val} {va : Option Addr} {sb : Nat} {w : World} {x y : Int} (h : AtOp w own mb g R fs f rest [(1, x), (1, y)] va sb) (vc : Nat) :
    Calls Tryz.prog 206 #[.pointer (some ⟨mb, 0, none⟩), .slice va 2 vc, .func (.func 208) #[] #[]] w fun e w' => TopPost' own mb g R fs f (f.pc + 1) (rest ++ [(1, wrap64 (x - y))]) (.int .i64 0) w e w' := by
  obtain ⟨o, rfl, hsb, c0, c1, c2, c3⟩ := h.two
  simp only at c0 c1 c2 c3
  have HH := hid h
  clear h
  go_enter Tryz.func206, Tryz.ntmps206
  go_wp2_with (first | (go_at_call 140; refine (isInt_any _ _ _).mono ?_; rintro e w' ⟨rfl, o4, rfl⟩) | (go_at_call 208; refine (sub_any _ _ _).mono ?_; rintro e w' ⟨rfl, o1, o2, rfl⟩))
  go_region_with (first | (go_at_call 205; refine (HH.out.answer (by repeat (first | exact Below.refl _ _ | refine Below.drew ?_ | refine Below.drewQ ?_ _ | refine Below.alloc ?_ (by first | (simp; done) | (simp; omega)) _)) vc _ [(1, wrap64 (x - y))] (pushed_one HH.out.m (by first | omega | (simp; omega)) (by first | exact blk_new (by simp) | exact blk_new1 (by simp) | exact blk_newN (by simp))) (by simp) 2 rfl).mono ?_; rintro e w' ⟨own', sv', rfl, hm, ht⟩) | (first | (go_at_call 140; refine (isInt_any _ _ _).mono ?_; rintro e w' ⟨rfl, o4, rfl⟩) | (go_at_call 208; refine (sub_any _ _ _).mono ?_; rintro e w' ⟨rfl, o1, o2, rfl⟩)))
  all_goals go_wp2_with fail
  all_goals go_ret
  all_goals exact ⟨own', sv', rfl, hm, ht⟩

set_option maxHeartbeats 2000000 in
theorem reckon_sub_bad {own : Own} {mb : Nat} {g : PgR} {R : McR} {fs : List FrR} {f : FrR} {rest : List Val} {va : Option Addr} {sb : Nat} {w : World} {x y : Val} (h : AtOp w own mb g R fs f rest [x, y] va sb) (hk : ¬ (x.1 = 1 ∧ y.1 = 1)) (vc : Nat) :
    Calls Tryz.prog 206 #[.pointer (some ⟨mb, 0, none⟩), .slice va 2 vc, .func (.func 208) #[] #[]] w fun e w' => TrapPost 2 w e w' := by
  obtain ⟨o, rfl, hsb, c0, c1, c2, c3⟩ := h.two
  obtain ⟨x1, x2⟩ := x
  obtain ⟨y1, y2⟩ := y
  simp only at c0 c1 c2 c3 hk
  clear h
  cases h1 : (x1 == 1)
  · clear hk
    go_enter Tryz.func206, Tryz.ntmps206
    go_wp2_with (first | (go_at_call 140; refine (isInt_any _ _ _).mono ?_; rintro e w' ⟨rfl, o4, rfl⟩) | (go_at_call 208; refine (sub_any _ _ _).mono ?_; rintro e w' ⟨rfl, o1, o2, rfl⟩))
    go_ret
    exact ⟨rfl, (by repeat (first | exact Below.refl _ _ | refine Below.drew ?_ | refine Below.drewQ ?_ _ | refine Below.alloc ?_ (by first | (simp; done) | (simp; omega)) _))⟩
  · have h2 : (y1 == 1) = false := beq_eq_false_iff_ne.2 fun e => hk ⟨beq_iff_eq.1 h1, e⟩
    clear hk
    go_enter Tryz.func206, Tryz.ntmps206
    go_wp2_with (first | (go_at_call 140; refine (isInt_any _ _ _).mono ?_; rintro e w' ⟨rfl, o4, rfl⟩) | (go_at_call 208; refine (sub_any _ _ _).mono ?_; rintro e w' ⟨rfl, o1, o2, rfl⟩))
    go_ret
    exact ⟨rfl, (by repeat (first | exact Below.refl _ _ | refine Below.drew ?_ | refine Below.drewQ ?_ _ | refine Below.alloc ?_ (by first | (simp; done) | (simp; omega)) _))⟩

set_option maxHeartbeats 1000000 in
theorem do_sub {own : Own} {mb : Nat} {g : PgR} {R : McR} {fs : List FrR} {f : FrR} {rest : List Val} {va : Option Addr} {sb : Nat} {w : World} {x y : Int} (h : AtOp w own mb g R fs f rest [(1, x), (1, y)] va sb) (a : Int) (vc : Nat) :
    Calls Tryz.prog 181 #[.pointer (some ⟨mb, 0, none⟩), .int .i64 a, .slice va 2 vc] w fun e w' => TopPost' own mb g R fs f (f.pc + 1) (rest ++ [(1, wrap64 (x - y))]) (.int .i64 0) w e w' := by
  have HR := hid (reckon_sub h vc)
  clear h
  go_enter Tryz.func181, Tryz.ntmps181
  go_wp2_with (go_at_call 206; refine HR.out.mono ?_; rintro e w' ⟨own', sv', rfl, hm, ht⟩)
  go_ret
  exact ⟨own', sv', rfl, hm, ht⟩

set_option maxHeartbeats 1000000 in
theorem do_sub_bad {own : Own} {mb : Nat} {g : PgR} {R : McR} {fs : List FrR} {f : FrR} {rest : List Val} {va : Option Addr} {sb : Nat} {w : World} {x y : Val} (h : AtOp w own mb g R fs f rest [x, y] va sb) (hk : ¬ (x.1 = 1 ∧ y.1 = 1)) (a : Int) (vc : Nat) :
    Calls Tryz.prog 181 #[.pointer (some ⟨mb, 0, none⟩), .int .i64 a, .slice va 2 vc] w fun e w' => TrapPost 2 w e w' := by
  have HR := hid (reckon_sub_bad h hk vc)
  clear h hk
  go_enter Tryz.func181, Tryz.ntmps181
  go_wp2_with (go_at_call 206; refine HR.out.mono ?_; rintro e w' ⟨rfl, hb⟩)
  go_ret
  exact ⟨rfl, hb⟩

set_option maxHeartbeats 400000 in
theorem mul_any (x y : Int) (w : World) : Calls Tryz.prog 209 #[.int .i64 x, .int .i64 y] w fun e w' => e = .returned (.agg #[.int .u8 1, .int .i64 (wrap64 (x * y))]) ∧ ∃ o o', w' = (w.alloc o).alloc o' := by
  go_enter Tryz.func209, Tryz.ntmps209
  go_wp2_with (go_at_call 152; refine (number_any _ _).mono ?_; rintro e w' ⟨rfl, o, rfl⟩)
  exact bodyPost_ret (v := .agg #[.int .u8 1, .int .i64 (wrap64 (x * y))]) (by simp [results, Tryz.results209, go_sem]) rfl ⟨rfl, _, _, rfl⟩

set_option maxHeartbeats 2000000 in
theorem reckon_mul {own : Own} {mb : Nat} {g : PgR} {R : McR} {fs : List FrR} {f : FrR} {rest : List Val} {va : Option Addr} {sb : Nat} {w : World} {x y : Int} (h : AtOp w own mb g R fs f rest [(1, x), (1, y)] va sb) (vc : Nat) :
    Calls Tryz.prog 206 #[.pointer (some ⟨mb, 0, none⟩), .slice va 2 vc, .func (.func 209) #[] #[]] w fun e w' => TopPost' own mb g R fs f (f.pc + 1) (rest ++ [(1, wrap64 (x * y))]) (.int .i64 0) w e w' := by
  obtain ⟨o, rfl, hsb, c0, c1, c2, c3⟩ := h.two
  simp only at c0 c1 c2 c3
  have HH := hid h
  clear h
  go_enter Tryz.func206, Tryz.ntmps206
  go_wp2_with (first | (go_at_call 140; refine (isInt_any _ _ _).mono ?_; rintro e w' ⟨rfl, o4, rfl⟩) | (go_at_call 209; refine (mul_any _ _ _).mono ?_; rintro e w' ⟨rfl, o1, o2, rfl⟩))
  go_region_with (first | (go_at_call 205; refine (HH.out.answer (by repeat (first | exact Below.refl _ _ | refine Below.drew ?_ | refine Below.drewQ ?_ _ | refine Below.alloc ?_ (by first | (simp; done) | (simp; omega)) _)) vc _ [(1, wrap64 (x * y))] (pushed_one HH.out.m (by first | omega | (simp; omega)) (by first | exact blk_new (by simp) | exact blk_new1 (by simp) | exact blk_newN (by simp))) (by simp) 2 rfl).mono ?_; rintro e w' ⟨own', sv', rfl, hm, ht⟩) | (first | (go_at_call 140; refine (isInt_any _ _ _).mono ?_; rintro e w' ⟨rfl, o4, rfl⟩) | (go_at_call 209; refine (mul_any _ _ _).mono ?_; rintro e w' ⟨rfl, o1, o2, rfl⟩)))
  all_goals go_wp2_with fail
  all_goals go_ret
  all_goals exact ⟨own', sv', rfl, hm, ht⟩

set_option maxHeartbeats 2000000 in
theorem reckon_mul_bad {own : Own} {mb : Nat} {g : PgR} {R : McR} {fs : List FrR} {f : FrR} {rest : List Val} {va : Option Addr} {sb : Nat} {w : World} {x y : Val} (h : AtOp w own mb g R fs f rest [x, y] va sb) (hk : ¬ (x.1 = 1 ∧ y.1 = 1)) (vc : Nat) :
    Calls Tryz.prog 206 #[.pointer (some ⟨mb, 0, none⟩), .slice va 2 vc, .func (.func 209) #[] #[]] w fun e w' => TrapPost 2 w e w' := by
  obtain ⟨o, rfl, hsb, c0, c1, c2, c3⟩ := h.two
  obtain ⟨x1, x2⟩ := x
  obtain ⟨y1, y2⟩ := y
  simp only at c0 c1 c2 c3 hk
  clear h
  cases h1 : (x1 == 1)
  · clear hk
    go_enter Tryz.func206, Tryz.ntmps206
    go_wp2_with (first | (go_at_call 140; refine (isInt_any _ _ _).mono ?_; rintro e w' ⟨rfl, o4, rfl⟩) | (go_at_call 209; refine (mul_any _ _ _).mono ?_; rintro e w' ⟨rfl, o1, o2, rfl⟩))
    go_ret
    exact ⟨rfl, (by repeat (first | exact Below.refl _ _ | refine Below.drew ?_ | refine Below.drewQ ?_ _ | refine Below.alloc ?_ (by first | (simp; done) | (simp; omega)) _))⟩
  · have h2 : (y1 == 1) = false := beq_eq_false_iff_ne.2 fun e => hk ⟨beq_iff_eq.1 h1, e⟩
    clear hk
    go_enter Tryz.func206, Tryz.ntmps206
    go_wp2_with (first | (go_at_call 140; refine (isInt_any _ _ _).mono ?_; rintro e w' ⟨rfl, o4, rfl⟩) | (go_at_call 209; refine (mul_any _ _ _).mono ?_; rintro e w' ⟨rfl, o1, o2, rfl⟩))
    go_ret
    exact ⟨rfl, (by repeat (first | exact Below.refl _ _ | refine Below.drew ?_ | refine Below.drewQ ?_ _ | refine Below.alloc ?_ (by first | (simp; done) | (simp; omega)) _))⟩

set_option maxHeartbeats 1000000 in
theorem do_mul {own : Own} {mb : Nat} {g : PgR} {R : McR} {fs : List FrR} {f : FrR} {rest : List Val} {va : Option Addr} {sb : Nat} {w : World} {x y : Int} (h : AtOp w own mb g R fs f rest [(1, x), (1, y)] va sb) (a : Int) (vc : Nat) :
    Calls Tryz.prog 182 #[.pointer (some ⟨mb, 0, none⟩), .int .i64 a, .slice va 2 vc] w fun e w' => TopPost' own mb g R fs f (f.pc + 1) (rest ++ [(1, wrap64 (x * y))]) (.int .i64 0) w e w' := by
  have HR := hid (reckon_mul h vc)
  clear h
  go_enter Tryz.func182, Tryz.ntmps182
  go_wp2_with (go_at_call 206; refine HR.out.mono ?_; rintro e w' ⟨own', sv', rfl, hm, ht⟩)
  go_ret
  exact ⟨own', sv', rfl, hm, ht⟩

set_option maxHeartbeats 1000000 in
theorem do_mul_bad {own : Own} {mb : Nat} {g : PgR} {R : McR} {fs : List FrR} {f : FrR} {rest : List Val} {va : Option Addr} {sb : Nat} {w : World} {x y : Val} (h : AtOp w own mb g R fs f rest [x, y] va sb) (hk : ¬ (x.1 = 1 ∧ y.1 = 1)) (a : Int) (vc : Nat) :
    Calls Tryz.prog 182 #[.pointer (some ⟨mb, 0, none⟩), .int .i64 a, .slice va 2 vc] w fun e w' => TrapPost 2 w e w' := by
  have HR := hid (reckon_mul_bad h hk vc)
  clear h hk
  go_enter Tryz.func182, Tryz.ntmps182
  go_wp2_with (go_at_call 206; refine HR.out.mono ?_; rintro e w' ⟨rfl, hb⟩)
  go_ret
  exact ⟨rfl, hb⟩

set_option maxHeartbeats 400000 in
theorem less_any (x y : Int) (w : World) : Calls Tryz.prog 210 #[.int .i64 x, .int .i64 y] w fun e w' => e = .returned (.agg #[.int .u8 1, .int .i64 (truthI (decide (x < y)))]) ∧ ∃ o o' o'', w' = ((w.alloc o).alloc o').alloc o'' := by
  go_enter Tryz.func210, Tryz.ntmps210
  go_wp2_with (go_at_call 211; refine (truth_any _ _).mono ?_; rintro e w' ⟨rfl, o, o', rfl⟩)
  exact bodyPost_ret (v := .agg #[.int .u8 1, .int .i64 (truthI (decide (x < y)))]) (by simp [results, Tryz.results210, go_sem]) rfl ⟨rfl, _, _, _, rfl⟩

set_option maxHeartbeats 2000000 in
theorem reckon_less {own : Own} {mb : Nat} {g : PgR} {R : McR} {fs : List FrR} {f : FrR} {rest : List Val} {va : Option Addr} {sb : Nat} {w : World} {x y : Int} (h : AtOp w own mb g R fs f rest [(1, x), (1, y)] va sb) (vc : Nat) :
    Calls Tryz.prog 206 #[.pointer (some ⟨mb, 0, none⟩), .slice va 2 vc, .func (.func 210) #[] #[]] w fun e w' => TopPost' own mb g R fs f (f.pc + 1) (rest ++ [(1, truthI (decide (x < y)))]) (.int .i64 0) w e w' := by
  obtain ⟨o, rfl, hsb, c0, c1, c2, c3⟩ := h.two
  simp only at c0 c1 c2 c3
  have HH := hid h
  clear h
  go_enter Tryz.func206, Tryz.ntmps206
  go_wp2_with (first | (go_at_call 140; refine (isInt_any _ _ _).mono ?_; rintro e w' ⟨rfl, o4, rfl⟩) | (go_at_call 210; refine (less_any _ _ _).mono ?_; rintro e w' ⟨rfl, o1, o2, o3, rfl⟩))
  go_region_with (first | (go_at_call 205; refine (HH.out.answer (by repeat (first | exact Below.refl _ _ | refine Below.drew ?_ | refine Below.drewQ ?_ _ | refine Below.alloc ?_ (by first | (simp; done) | (simp; omega)) _)) vc _ [(1, truthI (decide (x < y)))] (pushed_one HH.out.m (by first | omega | (simp; omega)) (by first | exact blk_new (by simp) | exact blk_new1 (by simp) | exact blk_newN (by simp))) (by simp) 2 rfl).mono ?_; rintro e w' ⟨own', sv', rfl, hm, ht⟩) | (first | (go_at_call 140; refine (isInt_any _ _ _).mono ?_; rintro e w' ⟨rfl, o4, rfl⟩) | (go_at_call 210; refine (less_any _ _ _).mono ?_; rintro e w' ⟨rfl, o1, o2, o3, rfl⟩)))
  all_goals go_wp2_with fail
  all_goals go_ret
  all_goals exact ⟨own', sv', rfl, hm, ht⟩

set_option maxHeartbeats 2000000 in
theorem reckon_less_bad {own : Own} {mb : Nat} {g : PgR} {R : McR} {fs : List FrR} {f : FrR} {rest : List Val} {va : Option Addr} {sb : Nat} {w : World} {x y : Val} (h : AtOp w own mb g R fs f rest [x, y] va sb) (hk : ¬ (x.1 = 1 ∧ y.1 = 1)) (vc : Nat) :
    Calls Tryz.prog 206 #[.pointer (some ⟨mb, 0, none⟩), .slice va 2 vc, .func (.func 210) #[] #[]] w fun e w' => TrapPost 2 w e w' := by
  obtain ⟨o, rfl, hsb, c0, c1, c2, c3⟩ := h.two
  obtain ⟨x1, x2⟩ := x
  obtain ⟨y1, y2⟩ := y
  simp only at c0 c1 c2 c3 hk
  clear h
  cases h1 : (x1 == 1)
  · clear hk
    go_enter Tryz.func206, Tryz.ntmps206
    go_wp2_with (first | (go_at_call 140; refine (isInt_any _ _ _).mono ?_; rintro e w' ⟨rfl, o4, rfl⟩) | (go_at_call 210; refine (less_any _ _ _).mono ?_; rintro e w' ⟨rfl, o1, o2, o3, rfl⟩))
    go_ret
    exact ⟨rfl, (by repeat (first | exact Below.refl _ _ | refine Below.drew ?_ | refine Below.drewQ ?_ _ | refine Below.alloc ?_ (by first | (simp; done) | (simp; omega)) _))⟩
  · have h2 : (y1 == 1) = false := beq_eq_false_iff_ne.2 fun e => hk ⟨beq_iff_eq.1 h1, e⟩
    clear hk
    go_enter Tryz.func206, Tryz.ntmps206
    go_wp2_with (first | (go_at_call 140; refine (isInt_any _ _ _).mono ?_; rintro e w' ⟨rfl, o4, rfl⟩) | (go_at_call 210; refine (less_any _ _ _).mono ?_; rintro e w' ⟨rfl, o1, o2, o3, rfl⟩))
    go_ret
    exact ⟨rfl, (by repeat (first | exact Below.refl _ _ | refine Below.drew ?_ | refine Below.drewQ ?_ _ | refine Below.alloc ?_ (by first | (simp; done) | (simp; omega)) _))⟩

set_option maxHeartbeats 1000000 in
theorem do_less {own : Own} {mb : Nat} {g : PgR} {R : McR} {fs : List FrR} {f : FrR} {rest : List Val} {va : Option Addr} {sb : Nat} {w : World} {x y : Int} (h : AtOp w own mb g R fs f rest [(1, x), (1, y)] va sb) (a : Int) (vc : Nat) :
    Calls Tryz.prog 183 #[.pointer (some ⟨mb, 0, none⟩), .int .i64 a, .slice va 2 vc] w fun e w' => TopPost' own mb g R fs f (f.pc + 1) (rest ++ [(1, truthI (decide (x < y)))]) (.int .i64 0) w e w' := by
  have HR := hid (reckon_less h vc)
  clear h
  go_enter Tryz.func183, Tryz.ntmps183
  go_wp2_with (go_at_call 206; refine HR.out.mono ?_; rintro e w' ⟨own', sv', rfl, hm, ht⟩)
  go_ret
  exact ⟨own', sv', rfl, hm, ht⟩

set_option maxHeartbeats 1000000 in
theorem do_less_bad {own : Own} {mb : Nat} {g : PgR} {R : McR} {fs : List FrR} {f : FrR} {rest : List Val} {va : Option Addr} {sb : Nat} {w : World} {x y : Val} (h : AtOp w own mb g R fs f rest [x, y] va sb) (hk : ¬ (x.1 = 1 ∧ y.1 = 1)) (a : Int) (vc : Nat) :
    Calls Tryz.prog 183 #[.pointer (some ⟨mb, 0, none⟩), .int .i64 a, .slice va 2 vc] w fun e w' => TrapPost 2 w e w' := by
  have HR := hid (reckon_less_bad h hk vc)
  clear h hk
  go_enter Tryz.func183, Tryz.ntmps183
  go_wp2_with (go_at_call 206; refine HR.out.mono ?_; rintro e w' ⟨rfl, hb⟩)
  go_ret
  exact ⟨rfl, hb⟩

end Go.Proofs.YtbkmgoffiigdbabGreatDoor
