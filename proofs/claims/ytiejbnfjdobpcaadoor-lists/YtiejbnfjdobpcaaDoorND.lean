import Derived.Test.YtiejbnfjdobpcaaDoorNC
namespace Go.Proofs.YtiejbnfjdobpcaaDoor
open Go.RowKit

theorem hid {p : Prop} (h : p) : Hid p := h

set_option maxHeartbeats 400000 in
theorem number_any (n : Int) (w : World) : Calls Tryd.prog 138 #[.int .i64 n] w fun e w' => e = .returned (.agg #[.int .u8 1, .int .i64 n]) ∧ ∃ o, w' = w.alloc o := by
  go_enter Tryd.func138, Tryd.ntmps138
  go_wp2
  exact bodyPost_ret (v := .agg #[.int .u8 1, .int .i64 n]) (by simp [results, Tryd.results138, go_sem]) rfl ⟨rfl, _, rfl⟩

set_option maxHeartbeats 400000 in
theorem isInt_any (k n : Int) (w : World) : Calls Tryd.prog 150 #[.agg #[.int .u8 k, .int .i64 n]] w fun e w' => e = .returned (.bool (k == 1)) ∧ ∃ o, w' = w.alloc o := by
  go_enter Tryd.func150, Tryd.ntmps150
  go_wp2
  go_ret
  exact ⟨rfl, _, rfl⟩

set_option maxHeartbeats 400000 in
theorem isRef_any (k n : Int) (w : World) : Calls Tryd.prog 146 #[.agg #[.int .u8 k, .int .i64 n]] w fun e w' => e = .returned (.bool (k == 2)) ∧ ∃ o, w' = w.alloc o := by
  go_enter Tryd.func146, Tryd.ntmps146
  go_wp2
  go_ret
  exact ⟨rfl, _, rfl⟩

def truthI (b : Bool) : Int := if b then 1 else 0

set_option maxHeartbeats 400000 in
theorem truth_any (b : Bool) (w : World) : Calls Tryd.prog 144 #[.bool b] w fun e w' => e = .returned (.agg #[.int .u8 1, .int .i64 (truthI b)]) ∧ ∃ o o', w' = (w.alloc o).alloc o' := by
  cases b
  all_goals
    go_enter Tryd.func144, Tryd.ntmps144
    go_wp2_with (go_at_call 138; refine (number_any _ _).mono ?_; rintro e w' ⟨rfl, o, rfl⟩)
    exact bodyPost_ret (v := .agg #[.int .u8 1, .int .i64 (truthI _)]) (by simp [results, Tryd.results144, go_sem, truthI]) rfl ⟨rfl, _, _, rfl⟩

set_option maxHeartbeats 1000000 in
theorem answer_any {own : Own} {mb : Nat} {g : PgR} {R : McR} {fs : List FrR} {f : FrR} {w : World} (h : MachAt w own mb g R) (hf : R.frs = fs ++ [f]) (va : Option Addr) (k vc : Nat) (hk : k ≤ f.stk.length) (pv : Value) (ps : List Val) (hp : Pushed w own pv ps)
    (hn : fs.length ≤ 1000) (hs : f.stk.length ≤ 1000) (hpl : ps.length ≤ 100) (hpc : f.pc ≤ 1000) :
    Calls Tryd.prog 137 #[.pointer (some ⟨mb, 0, none⟩), .slice va k vc, pv] w fun e w' => TopPost' own mb g R fs f (f.pc + 1) (f.stk.take (f.stk.length - k) ++ ps) (.int .i64 0) w e w' := by
  have HG := hid (goOn_any h hf k hk pv ps hp hn hs hpl hpc)
  clear h hf hp
  go_enter Tryd.func137, Tryd.ntmps137
  go_wp2_with (go_at_call 154; refine HG.out.mono ?_; rintro e w' ⟨own', sv', rfl, hm, ht⟩)
  go_ret
  exact ⟨own', sv', rfl, hm, ht⟩

end Go.Proofs.YtiejbnfjdobpcaaDoor
