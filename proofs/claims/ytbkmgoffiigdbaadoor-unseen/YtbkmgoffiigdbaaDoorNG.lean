import Derived.Test.YtbkmgoffiigdbaaDoorNF
namespace Go.Proofs.YtbkmgoffiigdbaaDoor
open Go.RowKit

/-- A trap: the machine is as it was. -/
def TrapPost (st : Int) (w : World) (e : Ending) (w' : World) : Prop := e = .returned (.int .i64 st) ∧ Below w.heap.size w w'

set_option maxHeartbeats 400000 in
theorem add_any (x y : Int) (w : World) : Calls Tryd.prog 176 #[.int .i64 x, .int .i64 y] w fun e w' => e = .returned (.agg #[.int .u8 1, .int .i64 (wrap64 (x + y))]) ∧ ∃ o o', w' = (w.alloc o).alloc o' := by
  go_enter Tryd.func176, Tryd.ntmps176
  go_wp2_with (go_at_call 174; refine (number_any _ _).mono ?_; rintro e w' ⟨rfl, o, rfl⟩)
  exact bodyPost_ret (v := .agg #[.int .u8 1, .int .i64 (wrap64 (x + y))]) (by simp [results, Tryd.results176, go_sem]) rfl ⟨rfl, _, _, rfl⟩

set_option maxHeartbeats 2000000 in
theorem reckon_add {own : Own} {mb : Nat} {g : PgR} {R : McR} {fs : List FrR} {f : FrR} {rest : List Val} {va : Option Addr} {sb : Nat} {w : World} {x y : Int} (h : AtOp w own mb g R fs f rest [(1, x), (1, y)] va sb) (vc : Nat) :
    Calls Tryd.prog 175 #[.pointer (some ⟨mb, 0, none⟩), .slice va 2 vc, .func (.func 176) #[] #[]] w fun e w' => TopPost' own mb g R fs f (f.pc + 1) (rest ++ [(1, wrap64 (x + y))]) (.int .i64 0) w e w' := by
  obtain ⟨o, rfl, hsb, c0, c1, c2, c3⟩ := h.two
  simp only at c0 c1 c2 c3
  have HH := hid h
  clear h
  go_enter Tryd.func175, Tryd.ntmps175
  go_wp2_with (first | (go_at_call 185; refine (isInt_any _ _ _).mono ?_; rintro e w' ⟨rfl, o4, rfl⟩) | (go_at_call 176; refine (add_any _ _ _).mono ?_; rintro e w' ⟨rfl, o1, o2, rfl⟩))
  go_region_with (first | (go_at_call 173; refine (HH.out.answer (by repeat (first | exact Below.refl _ _ | refine Below.drew ?_ | refine Below.drewQ ?_ _ | refine Below.alloc ?_ (by first | (simp; done) | (simp; omega)) _)) vc _ [(1, wrap64 (x + y))] (pushed_one HH.out.m (by first | omega | (simp; omega)) (by first | exact blk_new (by simp) | exact blk_new1 (by simp) | exact blk_newN (by simp))) (by simp) 2 rfl).mono ?_; rintro e w' ⟨own', sv', rfl, hm, ht⟩) | (first | (go_at_call 185; refine (isInt_any _ _ _).mono ?_; rintro e w' ⟨rfl, o4, rfl⟩) | (go_at_call 176; refine (add_any _ _ _).mono ?_; rintro e w' ⟨rfl, o1, o2, rfl⟩)))
  all_goals go_wp2_with fail
  all_goals go_ret
  all_goals exact ⟨own', sv', rfl, hm, ht⟩

set_option maxHeartbeats 2000000 in
theorem reckon_add_bad {own : Own} {mb : Nat} {g : PgR} {R : McR} {fs : List FrR} {f : FrR} {rest : List Val} {va : Option Addr} {sb : Nat} {w : World} {x y : Val} (h : AtOp w own mb g R fs f rest [x, y] va sb) (hk : ¬ (x.1 = 1 ∧ y.1 = 1)) (vc : Nat) :
    Calls Tryd.prog 175 #[.pointer (some ⟨mb, 0, none⟩), .slice va 2 vc, .func (.func 176) #[] #[]] w fun e w' => TrapPost 2 w e w' := by
  obtain ⟨o, rfl, hsb, c0, c1, c2, c3⟩ := h.two
  obtain ⟨x1, x2⟩ := x
  obtain ⟨y1, y2⟩ := y
  simp only at c0 c1 c2 c3 hk
  clear h
  cases h1 : (x1 == 1)
  · clear hk
    go_enter Tryd.func175, Tryd.ntmps175
    go_wp2_with (first | (go_at_call 185; refine (isInt_any _ _ _).mono ?_; rintro e w' ⟨rfl, o4, rfl⟩) | (go_at_call 176; refine (add_any _ _ _).mono ?_; rintro e w' ⟨rfl, o1, o2, rfl⟩))
    go_ret
    exact ⟨rfl, (by repeat (first | exact Below.refl _ _ | refine Below.drew ?_ | refine Below.drewQ ?_ _ | refine Below.alloc ?_ (by first | (simp; done) | (simp; omega)) _))⟩
  · have h2 : (y1 == 1) = false := beq_eq_false_iff_ne.2 fun e => hk ⟨beq_iff_eq.1 h1, e⟩
    clear hk
    go_enter Tryd.func175, Tryd.ntmps175
    go_wp2_with (first | (go_at_call 185; refine (isInt_any _ _ _).mono ?_; rintro e w' ⟨rfl, o4, rfl⟩) | (go_at_call 176; refine (add_any _ _ _).mono ?_; rintro e w' ⟨rfl, o1, o2, rfl⟩))
    go_ret
    exact ⟨rfl, (by repeat (first | exact Below.refl _ _ | refine Below.drew ?_ | refine Below.drewQ ?_ _ | refine Below.alloc ?_ (by first | (simp; done) | (simp; omega)) _))⟩

set_option maxHeartbeats 1000000 in
theorem do_add {own : Own} {mb : Nat} {g : PgR} {R : McR} {fs : List FrR} {f : FrR} {rest : List Val} {va : Option Addr} {sb : Nat} {w : World} {x y : Int} (h : AtOp w own mb g R fs f rest [(1, x), (1, y)] va sb) (a : Int) (vc : Nat) :
    Calls Tryd.prog 148 #[.pointer (some ⟨mb, 0, none⟩), .int .i64 a, .slice va 2 vc] w fun e w' => TopPost' own mb g R fs f (f.pc + 1) (rest ++ [(1, wrap64 (x + y))]) (.int .i64 0) w e w' := by
  have HR := hid (reckon_add h vc)
  clear h
  go_enter Tryd.func148, Tryd.ntmps148
  go_wp2_with (go_at_call 175; refine HR.out.mono ?_; rintro e w' ⟨own', sv', rfl, hm, ht⟩)
  go_ret
  exact ⟨own', sv', rfl, hm, ht⟩

set_option maxHeartbeats 1000000 in
theorem do_add_bad {own : Own} {mb : Nat} {g : PgR} {R : McR} {fs : List FrR} {f : FrR} {rest : List Val} {va : Option Addr} {sb : Nat} {w : World} {x y : Val} (h : AtOp w own mb g R fs f rest [x, y] va sb) (hk : ¬ (x.1 = 1 ∧ y.1 = 1)) (a : Int) (vc : Nat) :
    Calls Tryd.prog 148 #[.pointer (some ⟨mb, 0, none⟩), .int .i64 a, .slice va 2 vc] w fun e w' => TrapPost 2 w e w' := by
  have HR := hid (reckon_add_bad h hk vc)
  clear h hk
  go_enter Tryd.func148, Tryd.ntmps148
  go_wp2_with (go_at_call 175; refine HR.out.mono ?_; rintro e w' ⟨rfl, hb⟩)
  go_ret
  exact ⟨rfl, hb⟩

set_option maxHeartbeats 400000 in
theorem sub_any (x y : Int) (w : World) : Calls Tryd.prog 177 #[.int .i64 x, .int .i64 y] w fun e w' => e = .returned (.agg #[.int .u8 1, .int .i64 (wrap64 (x - y))]) ∧ ∃ o o', w' = (w.alloc o).alloc o' := by
  go_enter Tryd.func177, Tryd.ntmps177
  go_wp2_with (go_at_call 174; refine (number_any _ _).mono ?_; rintro e w' ⟨rfl, o, rfl⟩)
  exact bodyPost_ret (v := .agg #[.int .u8 1, .int .i64 (wrap64 (x - y))]) (by simp [results, Tryd.results177, go_sem]) rfl ⟨rfl, _, _, rfl⟩

set_option maxHeartbeats 2000000 in
theorem reckon_sub {own : Own} {mb : Nat} {g : PgR} {R : McR} {fs : List FrR} {f : FrR} {rest : List Val} {va : Option Addr} {sb : Nat} {w : World} {x y : Int} (h : AtOp w own mb g R fs f rest [(1, x), (1, y)] va sb) (vc : Nat) :
    Calls Tryd.prog 175 #[.pointer (some ⟨mb, 0, none⟩), .slice va 2 vc, .func (.func 177) #[] #[]] w fun e w' => TopPost' own mb g R fs f (f.pc + 1) (rest ++ [(1, wrap64 (x - y))]) (.int .i64 0) w e w' := by
  obtain ⟨o, rfl, hsb, c0, c1, c2, c3⟩ := h.two
  simp only at c0 c1 c2 c3
  have HH := hid h
  clear h
  go_enter Tryd.func175, Tryd.ntmps175
  go_wp2_with (first | (go_at_call 185; refine (isInt_any _ _ _).mono ?_; rintro e w' ⟨rfl, o4, rfl⟩) | (go_at_call 177; refine (sub_any _ _ _).mono ?_; rintro e w' ⟨rfl, o1, o2, rfl⟩))
  go_region_with (first | (go_at_call 173; refine (HH.out.answer (by repeat (first | exact Below.refl _ _ | refine Below.drew ?_ | refine Below.drewQ ?_ _ | refine Below.alloc ?_ (by first | (simp; done) | (simp; omega)) _)) vc _ [(1, wrap64 (x - y))] (pushed_one HH.out.m (by first | omega | (simp; omega)) (by first | exact blk_new (by simp) | exact blk_new1 (by simp) | exact blk_newN (by simp))) (by simp) 2 rfl).mono ?_; rintro e w' ⟨own', sv', rfl, hm, ht⟩) | (first | (go_at_call 185; refine (isInt_any _ _ _).mono ?_; rintro e w' ⟨rfl, o4, rfl⟩) | (go_at_call 177; refine (sub_any _ _ _).mono ?_; rintro e w' ⟨rfl, o1, o2, rfl⟩)))
  all_goals go_wp2_with fail
  all_goals go_ret
  all_goals exact ⟨own', sv', rfl, hm, ht⟩

set_option maxHeartbeats 2000000 in
theorem reckon_sub_bad {own : Own} {mb : Nat} {g : PgR} {R : McR} {fs : List FrR} {f : FrR} {rest : List Val} {va : Option Addr} {sb : Nat} {w : World} {x y : Val} (h : AtOp w own mb g R fs f rest [x, y] va sb) (hk : ¬ (x.1 = 1 ∧ y.1 = 1)) (vc : Nat) :
    Calls Tryd.prog 175 #[.pointer (some ⟨mb, 0, none⟩), .slice va 2 vc, .func (.func 177) #[] #[]] w fun e w' => TrapPost 2 w e w' := by
  obtain ⟨o, rfl, hsb, c0, c1, c2, c3⟩ := h.two
  obtain ⟨x1, x2⟩ := x
  obtain ⟨y1, y2⟩ := y
  simp only at c0 c1 c2 c3 hk
  clear h
  cases h1 : (x1 == 1)
  · clear hk
    go_enter Tryd.func175, Tryd.ntmps175
    go_wp2_with (first | (go_at_call 185; refine (isInt_any _ _ _).mono ?_; rintro e w' ⟨rfl, o4, rfl⟩) | (go_at_call 177; refine (sub_any _ _ _).mono ?_; rintro e w' ⟨rfl, o1, o2, rfl⟩))
    go_ret
    exact ⟨rfl, (by repeat (first | exact Below.refl _ _ | refine Below.drew ?_ | refine Below.drewQ ?_ _ | refine Below.alloc ?_ (by first | (simp; done) | (simp; omega)) _))⟩
  · have h2 : (y1 == 1) = false := beq_eq_false_iff_ne.2 fun e => hk ⟨beq_iff_eq.1 h1, e⟩
    clear hk
    go_enter Tryd.func175, Tryd.ntmps175
    go_wp2_with (first | (go_at_call 185; refine (isInt_any _ _ _).mono ?_; rintro e w' ⟨rfl, o4, rfl⟩) | (go_at_call 177; refine (sub_any _ _ _).mono ?_; rintro e w' ⟨rfl, o1, o2, rfl⟩))
    go_ret
    exact ⟨rfl, (by repeat (first | exact Below.refl _ _ | refine Below.drew ?_ | refine Below.drewQ ?_ _ | refine Below.alloc ?_ (by first | (simp; done) | (simp; omega)) _))⟩

set_option maxHeartbeats 1000000 in
theorem do_sub {own : Own} {mb : Nat} {g : PgR} {R : McR} {fs : List FrR} {f : FrR} {rest : List Val} {va : Option Addr} {sb : Nat} {w : World} {x y : Int} (h : AtOp w own mb g R fs f rest [(1, x), (1, y)] va sb) (a : Int) (vc : Nat) :
    Calls Tryd.prog 149 #[.pointer (some ⟨mb, 0, none⟩), .int .i64 a, .slice va 2 vc] w fun e w' => TopPost' own mb g R fs f (f.pc + 1) (rest ++ [(1, wrap64 (x - y))]) (.int .i64 0) w e w' := by
  have HR := hid (reckon_sub h vc)
  clear h
  go_enter Tryd.func149, Tryd.ntmps149
  go_wp2_with (go_at_call 175; refine HR.out.mono ?_; rintro e w' ⟨own', sv', rfl, hm, ht⟩)
  go_ret
  exact ⟨own', sv', rfl, hm, ht⟩

set_option maxHeartbeats 1000000 in
theorem do_sub_bad {own : Own} {mb : Nat} {g : PgR} {R : McR} {fs : List FrR} {f : FrR} {rest : List Val} {va : Option Addr} {sb : Nat} {w : World} {x y : Val} (h : AtOp w own mb g R fs f rest [x, y] va sb) (hk : ¬ (x.1 = 1 ∧ y.1 = 1)) (a : Int) (vc : Nat) :
    Calls Tryd.prog 149 #[.pointer (some ⟨mb, 0, none⟩), .int .i64 a, .slice va 2 vc] w fun e w' => TrapPost 2 w e w' := by
  have HR := hid (reckon_sub_bad h hk vc)
  clear h hk
  go_enter Tryd.func149, Tryd.ntmps149
  go_wp2_with (go_at_call 175; refine HR.out.mono ?_; rintro e w' ⟨rfl, hb⟩)
  go_ret
  exact ⟨rfl, hb⟩

set_option maxHeartbeats 400000 in
theorem mul_any (x y : Int) (w : World) : Calls Tryd.prog 178 #[.int .i64 x, .int .i64 y] w fun e w' => e = .returned (.agg #[.int .u8 1, .int .i64 (wrap64 (x * y))]) ∧ ∃ o o', w' = (w.alloc o).alloc o' := by
  go_enter Tryd.func178, Tryd.ntmps178
  go_wp2_with (go_at_call 174; refine (number_any _ _).mono ?_; rintro e w' ⟨rfl, o, rfl⟩)
  exact bodyPost_ret (v := .agg #[.int .u8 1, .int .i64 (wrap64 (x * y))]) (by simp [results, Tryd.results178, go_sem]) rfl ⟨rfl, _, _, rfl⟩

set_option maxHeartbeats 2000000 in
theorem reckon_mul {own : Own} {mb : Nat} {g : PgR} {R : McR} {fs : List FrR} {f : FrR} {rest : List Val} {va : Option Addr} {sb : Nat} {w : World} {x y : Int} (h : AtOp w own mb g R fs f rest [(1, x), (1, y)] va sb) (vc : Nat) :
    Calls Tryd.prog 175 #[.pointer (some ⟨mb, 0, none⟩), .slice va 2 vc, .func (.func 178) #[] #[]] w fun e w' => TopPost' own mb g R fs f (f.pc + 1) (rest ++ [(1, wrap64 (x * y))]) (.int .i64 0) w e w' := by
  obtain ⟨o, rfl, hsb, c0, c1, c2, c3⟩ := h.two
  simp only at c0 c1 c2 c3
  have HH := hid h
  clear h
  go_enter Tryd.func175, Tryd.ntmps175
  go_wp2_with (first | (go_at_call 185; refine (isInt_any _ _ _).mono ?_; rintro e w' ⟨rfl, o4, rfl⟩) | (go_at_call 178; refine (mul_any _ _ _).mono ?_; rintro e w' ⟨rfl, o1, o2, rfl⟩))
  go_region_with (first | (go_at_call 173; refine (HH.out.answer (by repeat (first | exact Below.refl _ _ | refine Below.drew ?_ | refine Below.drewQ ?_ _ | refine Below.alloc ?_ (by first | (simp; done) | (simp; omega)) _)) vc _ [(1, wrap64 (x * y))] (pushed_one HH.out.m (by first | omega | (simp; omega)) (by first | exact blk_new (by simp) | exact blk_new1 (by simp) | exact blk_newN (by simp))) (by simp) 2 rfl).mono ?_; rintro e w' ⟨own', sv', rfl, hm, ht⟩) | (first | (go_at_call 185; refine (isInt_any _ _ _).mono ?_; rintro e w' ⟨rfl, o4, rfl⟩) | (go_at_call 178; refine (mul_any _ _ _).mono ?_; rintro e w' ⟨rfl, o1, o2, rfl⟩)))
  all_goals go_wp2_with fail
  all_goals go_ret
  all_goals exact ⟨own', sv', rfl, hm, ht⟩

set_option maxHeartbeats 2000000 in
theorem reckon_mul_bad {own : Own} {mb : Nat} {g : PgR} {R : McR} {fs : List FrR} {f : FrR} {rest : List Val} {va : Option Addr} {sb : Nat} {w : World} {x y : Val} (h : AtOp w own mb g R fs f rest [x, y] va sb) (hk : ¬ (x.1 = 1 ∧ y.1 = 1)) (vc : Nat) :
    Calls Tryd.prog 175 #[.pointer (some ⟨mb, 0, none⟩), .slice va 2 vc, .func (.func 178) #[] #[]] w fun e w' => TrapPost 2 w e w' := by
  obtain ⟨o, rfl, hsb, c0, c1, c2, c3⟩ := h.two
  obtain ⟨x1, x2⟩ := x
  obtain ⟨y1, y2⟩ := y
  simp only at c0 c1 c2 c3 hk
  clear h
  cases h1 : (x1 == 1)
  · clear hk
    go_enter Tryd.func175, Tryd.ntmps175
    go_wp2_with (first | (go_at_call 185; refine (isInt_any _ _ _).mono ?_; rintro e w' ⟨rfl, o4, rfl⟩) | (go_at_call 178; refine (mul_any _ _ _).mono ?_; rintro e w' ⟨rfl, o1, o2, rfl⟩))
    go_ret
    exact ⟨rfl, (by repeat (first | exact Below.refl _ _ | refine Below.drew ?_ | refine Below.drewQ ?_ _ | refine Below.alloc ?_ (by first | (simp; done) | (simp; omega)) _))⟩
  · have h2 : (y1 == 1) = false := beq_eq_false_iff_ne.2 fun e => hk ⟨beq_iff_eq.1 h1, e⟩
    clear hk
    go_enter Tryd.func175, Tryd.ntmps175
    go_wp2_with (first | (go_at_call 185; refine (isInt_any _ _ _).mono ?_; rintro e w' ⟨rfl, o4, rfl⟩) | (go_at_call 178; refine (mul_any _ _ _).mono ?_; rintro e w' ⟨rfl, o1, o2, rfl⟩))
    go_ret
    exact ⟨rfl, (by repeat (first | exact Below.refl _ _ | refine Below.drew ?_ | refine Below.drewQ ?_ _ | refine Below.alloc ?_ (by first | (simp; done) | (simp; omega)) _))⟩

set_option maxHeartbeats 1000000 in
theorem do_mul {own : Own} {mb : Nat} {g : PgR} {R : McR} {fs : List FrR} {f : FrR} {rest : List Val} {va : Option Addr} {sb : Nat} {w : World} {x y : Int} (h : AtOp w own mb g R fs f rest [(1, x), (1, y)] va sb) (a : Int) (vc : Nat) :
    Calls Tryd.prog 150 #[.pointer (some ⟨mb, 0, none⟩), .int .i64 a, .slice va 2 vc] w fun e w' => TopPost' own mb g R fs f (f.pc + 1) (rest ++ [(1, wrap64 (x * y))]) (.int .i64 0) w e w' := by
  have HR := hid (reckon_mul h vc)
  clear h
  go_enter Tryd.func150, Tryd.ntmps150
  go_wp2_with (go_at_call 175; refine HR.out.mono ?_; rintro e w' ⟨own', sv', rfl, hm, ht⟩)
  go_ret
  exact ⟨own', sv', rfl, hm, ht⟩

set_option maxHeartbeats 1000000 in
theorem do_mul_bad {own : Own} {mb : Nat} {g : PgR} {R : McR} {fs : List FrR} {f : FrR} {rest : List Val} {va : Option Addr} {sb : Nat} {w : World} {x y : Val} (h : AtOp w own mb g R fs f rest [x, y] va sb) (hk : ¬ (x.1 = 1 ∧ y.1 = 1)) (a : Int) (vc : Nat) :
    Calls Tryd.prog 150 #[.pointer (some ⟨mb, 0, none⟩), .int .i64 a, .slice va 2 vc] w fun e w' => TrapPost 2 w e w' := by
  have HR := hid (reckon_mul_bad h hk vc)
  clear h hk
  go_enter Tryd.func150, Tryd.ntmps150
  go_wp2_with (go_at_call 175; refine HR.out.mono ?_; rintro e w' ⟨rfl, hb⟩)
  go_ret
  exact ⟨rfl, hb⟩

set_option maxHeartbeats 400000 in
theorem less_any (x y : Int) (w : World) : Calls Tryd.prog 179 #[.int .i64 x, .int .i64 y] w fun e w' => e = .returned (.agg #[.int .u8 1, .int .i64 (truthI (decide (x < y)))]) ∧ ∃ o o' o'', w' = ((w.alloc o).alloc o').alloc o'' := by
  go_enter Tryd.func179, Tryd.ntmps179
  go_wp2_with (go_at_call 180; refine (truth_any _ _).mono ?_; rintro e w' ⟨rfl, o, o', rfl⟩)
  exact bodyPost_ret (v := .agg #[.int .u8 1, .int .i64 (truthI (decide (x < y)))]) (by simp [results, Tryd.results179, go_sem]) rfl ⟨rfl, _, _, _, rfl⟩

set_option maxHeartbeats 2000000 in
theorem reckon_less {own : Own} {mb : Nat} {g : PgR} {R : McR} {fs : List FrR} {f : FrR} {rest : List Val} {va : Option Addr} {sb : Nat} {w : World} {x y : Int} (h : AtOp w own mb g R fs f rest [(1, x), (1, y)] va sb) (vc : Nat) :
    Calls Tryd.prog 175 #[.pointer (some ⟨mb, 0, none⟩), .slice va 2 vc, .func (.func 179) #[] #[]] w fun e w' => TopPost' own mb g R fs f (f.pc + 1) (rest ++ [(1, truthI (decide (x < y)))]) (.int .i64 0) w e w' := by
  obtain ⟨o, rfl, hsb, c0, c1, c2, c3⟩ := h.two
  simp only at c0 c1 c2 c3
  have HH := hid h
  clear h
  go_enter Tryd.func175, Tryd.ntmps175
  go_wp2_with (first | (go_at_call 185; refine (isInt_any _ _ _).mono ?_; rintro e w' ⟨rfl, o4, rfl⟩) | (go_at_call 179; refine (less_any _ _ _).mono ?_; rintro e w' ⟨rfl, o1, o2, o3, rfl⟩))
  go_region_with (first | (go_at_call 173; refine (HH.out.answer (by repeat (first | exact Below.refl _ _ | refine Below.drew ?_ | refine Below.drewQ ?_ _ | refine Below.alloc ?_ (by first | (simp; done) | (simp; omega)) _)) vc _ [(1, truthI (decide (x < y)))] (pushed_one HH.out.m (by first | omega | (simp; omega)) (by first | exact blk_new (by simp) | exact blk_new1 (by simp) | exact blk_newN (by simp))) (by simp) 2 rfl).mono ?_; rintro e w' ⟨own', sv', rfl, hm, ht⟩) | (first | (go_at_call 185; refine (isInt_any _ _ _).mono ?_; rintro e w' ⟨rfl, o4, rfl⟩) | (go_at_call 179; refine (less_any _ _ _).mono ?_; rintro e w' ⟨rfl, o1, o2, o3, rfl⟩)))
  all_goals go_wp2_with fail
  all_goals go_ret
  all_goals exact ⟨own', sv', rfl, hm, ht⟩

set_option maxHeartbeats 2000000 in
theorem reckon_less_bad {own : Own} {mb : Nat} {g : PgR} {R : McR} {fs : List FrR} {f : FrR} {rest : List Val} {va : Option Addr} {sb : Nat} {w : World} {x y : Val} (h : AtOp w own mb g R fs f rest [x, y] va sb) (hk : ¬ (x.1 = 1 ∧ y.1 = 1)) (vc : Nat) :
    Calls Tryd.prog 175 #[.pointer (some ⟨mb, 0, none⟩), .slice va 2 vc, .func (.func 179) #[] #[]] w fun e w' => TrapPost 2 w e w' := by
  obtain ⟨o, rfl, hsb, c0, c1, c2, c3⟩ := h.two
  obtain ⟨x1, x2⟩ := x
  obtain ⟨y1, y2⟩ := y
  simp only at c0 c1 c2 c3 hk
  clear h
  cases h1 : (x1 == 1)
  · clear hk
    go_enter Tryd.func175, Tryd.ntmps175
    go_wp2_with (first | (go_at_call 185; refine (isInt_any _ _ _).mono ?_; rintro e w' ⟨rfl, o4, rfl⟩) | (go_at_call 179; refine (less_any _ _ _).mono ?_; rintro e w' ⟨rfl, o1, o2, o3, rfl⟩))
    go_ret
    exact ⟨rfl, (by repeat (first | exact Below.refl _ _ | refine Below.drew ?_ | refine Below.drewQ ?_ _ | refine Below.alloc ?_ (by first | (simp; done) | (simp; omega)) _))⟩
  · have h2 : (y1 == 1) = false := beq_eq_false_iff_ne.2 fun e => hk ⟨beq_iff_eq.1 h1, e⟩
    clear hk
    go_enter Tryd.func175, Tryd.ntmps175
    go_wp2_with (first | (go_at_call 185; refine (isInt_any _ _ _).mono ?_; rintro e w' ⟨rfl, o4, rfl⟩) | (go_at_call 179; refine (less_any _ _ _).mono ?_; rintro e w' ⟨rfl, o1, o2, o3, rfl⟩))
    go_ret
    exact ⟨rfl, (by repeat (first | exact Below.refl _ _ | refine Below.drew ?_ | refine Below.drewQ ?_ _ | refine Below.alloc ?_ (by first | (simp; done) | (simp; omega)) _))⟩

set_option maxHeartbeats 1000000 in
theorem do_less {own : Own} {mb : Nat} {g : PgR} {R : McR} {fs : List FrR} {f : FrR} {rest : List Val} {va : Option Addr} {sb : Nat} {w : World} {x y : Int} (h : AtOp w own mb g R fs f rest [(1, x), (1, y)] va sb) (a : Int) (vc : Nat) :
    Calls Tryd.prog 151 #[.pointer (some ⟨mb, 0, none⟩), .int .i64 a, .slice va 2 vc] w fun e w' => TopPost' own mb g R fs f (f.pc + 1) (rest ++ [(1, truthI (decide (x < y)))]) (.int .i64 0) w e w' := by
  have HR := hid (reckon_less h vc)
  clear h
  go_enter Tryd.func151, Tryd.ntmps151
  go_wp2_with (go_at_call 175; refine HR.out.mono ?_; rintro e w' ⟨own', sv', rfl, hm, ht⟩)
  go_ret
  exact ⟨own', sv', rfl, hm, ht⟩

set_option maxHeartbeats 1000000 in
theorem do_less_bad {own : Own} {mb : Nat} {g : PgR} {R : McR} {fs : List FrR} {f : FrR} {rest : List Val} {va : Option Addr} {sb : Nat} {w : World} {x y : Val} (h : AtOp w own mb g R fs f rest [x, y] va sb) (hk : ¬ (x.1 = 1 ∧ y.1 = 1)) (a : Int) (vc : Nat) :
    Calls Tryd.prog 151 #[.pointer (some ⟨mb, 0, none⟩), .int .i64 a, .slice va 2 vc] w fun e w' => TrapPost 2 w e w' := by
  have HR := hid (reckon_less_bad h hk vc)
  clear h hk
  go_enter Tryd.func151, Tryd.ntmps151
  go_wp2_with (go_at_call 175; refine HR.out.mono ?_; rintro e w' ⟨rfl, hb⟩)
  go_ret
  exact ⟨rfl, hb⟩

end Go.Proofs.YtbkmgoffiigdbaaDoor
