import Derived.Test.YtbkmgoffiigdbabGreatDoorWNC
namespace Go.Proofs.YtbkmgoffiigdbabGreatDoor
open Go.RowKit
set_option maxHeartbeats 1000000
theorem hid {p:Prop} (h:p):Hid p:=h
theorem N4 (n:Int) (w:World):Calls Tryz.prog 152 #[.int .i64 n] w fun e w'=>e=.returned (.agg #[.int .u8 1,.int .i64 n])∧∃o,w'=w.alloc o:=by
 go_enter Tryz.func152,Tryz.ntmps152;go_wp2
 exact bodyPost_ret (v:=.agg #[.int .u8 1,.int .i64 n]) (by simp [results,Tryz.results152,go_sem]) rfl ⟨rfl,_,rfl⟩
theorem D4 (k n:Int) (w:World):Calls Tryz.prog 140 #[.agg #[.int .u8 k,.int .i64 n]] w fun e w'=>e=.returned (.bool (k == 1))∧∃o,w'=w.alloc o:=by
 go_enter Tryz.func140,Tryz.ntmps140;go_wp2
 go_ret;exact⟨rfl,_,rfl⟩
theorem L0 (k n:Int) (w:World):Calls Tryz.prog 102 #[.agg #[.int .u8 k,.int .i64 n]] w fun e w'=>e=.returned (.bool (k == 2))∧∃o,w'=w.alloc o:=by
 go_enter Tryz.func102,Tryz.ntmps102;go_wp2
 go_ret;exact⟨rfl,_,rfl⟩
def Z3 (b:Bool):Int:=if b then 1 else 0
theorem nN (b:Bool) (w:World):Calls Tryz.prog 211 #[.bool b] w fun e w'=>e=.returned (.agg #[.int .u8 1,.int .i64 (Z3 b)])∧∃o o',w'=(w.alloc o).alloc o':=by
 cases b
 all_goals
  go_enter Tryz.func211,Tryz.ntmps211;go_wp2_with (go_at_call 152;refine (N4 _ _).mono ?_;rintro e w' ⟨rfl,o,rfl⟩)
  exact bodyPost_ret (v:=.agg #[.int .u8 1,.int .i64 (Z3 _)]) (by simp [results,Tryz.results211,go_sem,Z3]) rfl ⟨rfl,_,_,rfl⟩
theorem a0Z {own:Own} {mb:Nat} {g:PgR} {R:McR} {fs:List FrR} {f:FrR} {w:World} (h:A3 w own mb g R) (hf:R.frs=fs++[f]) (va:Option Addr) (k vc:Nat) (hk:k≤f.stk.length) (pv:Value) (ps:List Val) (hp:gR w own pv ps)
  (hn:fs.length≤1000) (hs:f.stk.length≤1000) (hpl:ps.length≤100) (hpc:f.pc≤1000) :
  Calls Tryz.prog 205 #[.pointer (some ⟨mb,0,none⟩),.slice va k vc,pv] w fun e w'=>D0 own mb g R fs f (f.pc+1) (f.stk.take (f.stk.length - k)++ps) (.int .i64 0) w e w':=by
 have HG:=hid (zK h hf k hk pv ps hp hn hs hpl hpc);clear h hf hp;go_enter Tryz.func205,Tryz.ntmps205;go_wp2_with (go_at_call 219;refine HG.out.mono ?_;rintro e w' ⟨own',sv',rfl,hm,ht⟩)
 go_ret;exact⟨own',sv',rfl,hm,ht⟩
end Go.Proofs.YtbkmgoffiigdbabGreatDoor
