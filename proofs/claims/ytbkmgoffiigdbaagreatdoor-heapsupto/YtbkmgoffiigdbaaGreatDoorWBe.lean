import Derived.Test.YtbkmgoffiigdbaaGreatDoorWBd
namespace Go.Proofs.YtbkmgoffiigdbaaGreatDoor
open Go.RowKit Go.Sort Go.Proofs.Tryz
set_option maxHeartbeats 2000000
set_option maxRecDepth 100000
section
variable {R:RfR} {W:World} {g:PgR} {mb:Nat} {own:Own}
theorem aY {M:World} {own':Own} {R':RfR} (h0:A8 W own mb g R) (hda:∀b o,R'.da=some ⟨b,o,none⟩->b < W.heap.size) (hM:A8 M own' mb g R') (ht:A2 own W own' M) (D:Nat) (hDW:W.heap.size<=D) (hD:own' D=none) (v0 v1 v2 v3:Value) :
  A8 ((((M.setCell ⟨D,0,none⟩ v0).setCell ⟨D,1,none⟩ v1).setCell ⟨D,2,none⟩ v2).setCell ⟨D,3,none⟩ v3) own' mb g R'/\A2 own W own' ((((M.setCell ⟨D,0,none⟩ v0).setCell ⟨D,1,none⟩ v1).setCell ⟨D,2,none⟩ v2).setCell ⟨D,3,none⟩ v3):=by
 have hF:∀k,k < M.heap.size->k≠D->((((M.setCell ⟨D,0,none⟩ v0).setCell ⟨D,1,none⟩ v1).setCell ⟨D,2,none⟩ v2).setCell ⟨D,3,none⟩ v3).heap[k]?=M.heap[k]?:=fun k hk hne=>by
  rw[heap_setCell_other _ _ _ _ hne,heap_setCell_other _ _ _ _ hne,heap_setCell_other _ _ _ _ hne,heap_setCell_other _ _ _ _ hne]
 have hs:M.heap.size<=((((M.setCell ⟨D,0,none⟩ v0).setCell ⟨D,1,none⟩ v1).setCell ⟨D,2,none⟩ v2).setCell ⟨D,3,none⟩ v3).heap.size:=by simp
 refine⟨hM.off D hD (fun hb=>?_) (fun e=>?_) (fun q e=>?_) hs hF,⟨ht.os,ht.tape,ht.output,L5a ht.size hs,fun k hk hn=>(hF k (L0a hk ht.size) R4).trans (ht.block k hk hn),ht.old⟩⟩
 ·have:=h0.pg.blk_lt hb;omega
 ·have:=h0.lt _ _ h0.me;omega
 ·have:=hda D q e
  omega
def gP (R:RfR) (kind:Int) (fl:List Val) (R':RfR):Prop :=
 ∃fv hv da dc j dr,aM R.cap ((K1 R).map ThR.slot) R.dr=some (j,dr)/\R'={ R with hv:=hv,ths:=K1 R++[⟨kind,fv,fl,(j:Int)⟩],da:=da,dc:=dc,dr:=dr }/\∀b q,da=some ⟨b,q,none⟩->∃q',R.da=some ⟨b,q',none⟩
theorem nP (x:Val) (a:Int) (pc:Nat) (h1:x.1≠1) :
  Calls prog 181 #[.pointer (some ⟨mb,0,none⟩),.agg #[.int .i64 17,.int .i64 a],.int .i64 (pc:Int),.agg #[.int .u8 x.1,.int .i64 x.2]] W fun e w'=>C2 0 [] 0 2 W e w':=by
 obtain⟨xk,xn⟩:=x;have xa:¬xk=1:=h1;have xb:(xk == 1)=false:=L2c.2 xa;clear h1;go_enter func181,ntmps181;go_wp2_with (go_at_call 218;refine (B5 _ _).mono ?_;rintro e w' ⟨rfl,rfl⟩)
 refine bodyPost_ret (v:=.agg #[.int .i64 0,.slice none 0 0,.int .i64 0,.int .i64 2]) (by simp [results,results181,go_sem]) rfl ?_;exact⟨none,0,rfl,P4,B8 _ _⟩
theorem qO (x:Val) (a:Int) (pc:Nat) (h1:x.1=1) (h2:x.2 < 0) :
  Calls prog 181 #[.pointer (some ⟨mb,0,none⟩),.agg #[.int .i64 17,.int .i64 a],.int .i64 (pc:Int),.agg #[.int .u8 x.1,.int .i64 x.2]] W fun e w'=>C2 0 [] 0 4 W e w':=by
 obtain⟨xk,xn⟩:=x;have xa:xk=1:=h1;subst xa;have xb:xn < 0:=h2;clear h1 h2;go_enter func181,ntmps181;go_wp2_with (go_at_call 218;refine (B5 _ _).mono ?_;rintro e w' ⟨rfl,rfl⟩)
 refine bodyPost_ret (v:=.agg #[.int .i64 0,.slice none 0 0,.int .i64 0,.int .i64 4]) (by simp [results,results181,go_sem]) rfl ?_;exact⟨none,0,rfl,P4,B8 _ _⟩
theorem qN (x:Val) (a:Int) (pc:Nat) (h1:x.1=1) (h2:12 < x.2) :
  Calls prog 181 #[.pointer (some ⟨mb,0,none⟩),.agg #[.int .i64 17,.int .i64 a],.int .i64 (pc:Int),.agg #[.int .u8 x.1,.int .i64 x.2]] W fun e w'=>C2 0 [] 0 4 W e w':=by
 obtain⟨xk,xn⟩:=x;have xa:xk=1:=h1;subst xa;have xb:12 < xn:=h2;have xc:¬xn < 0:=by omega
 clear h1 h2;go_enter func181,ntmps181;go_wp2_with (go_at_call 218;refine (B5 _ _).mono ?_;rintro e w' ⟨rfl,rfl⟩)
 refine bodyPost_ret (v:=.agg #[.int .i64 0,.slice none 0 0,.int .i64 0,.int .i64 4]) (by simp [results,results181,go_sem]) rfl ?_;exact⟨none,0,rfl,P4,B8 _ _⟩
theorem qR (x:Val) (a:Int) (pc:Nat) (h1:x.1≠2) :
  Calls prog 181 #[.pointer (some ⟨mb,0,none⟩),.agg #[.int .i64 18,.int .i64 a],.int .i64 (pc:Int),.agg #[.int .u8 x.1,.int .i64 x.2]] W fun e w'=>C2 0 [] 0 2 W e w':=by
 obtain⟨xk,xn⟩:=x;have xa:¬xk=2:=h1;have xb:(xk == 2)=false:=L2c.2 xa;clear h1;go_enter func181,ntmps181;go_wp2_with (go_at_call 218;refine (B5 _ _).mono ?_;rintro e w' ⟨rfl,rfl⟩)
 refine bodyPost_ret (v:=.agg #[.int .i64 0,.slice none 0 0,.int .i64 0,.int .i64 2]) (by simp [results,results181,go_sem]) rfl ?_;exact⟨none,0,rfl,P4,B8 _ _⟩
theorem mO (h:A8 W own mb g R) (hb:fD R) (hr:bX R) (n:Nat) (x:Val) (pc:Nat) (hn:n<=8) (hfull:R.cap<=(A1 R.abs).length) :
  Calls prog 181 #[.pointer (some ⟨mb,0,none⟩),.agg #[.int .i64 16,.int .i64 (n:Int)],.int .i64 (pc:Int),.agg #[.int .u8 x.1,.int .i64 x.2]] W fun e w'=>C2 0 [] 0 6 W e w':=by
 have xd:Hid (∀(U:World) (fv:Value),L0d W U->Calls prog 219 #[.pointer (some ⟨mb,0,none⟩),.int .u8 1,fv] U fun e w'=>e=.returned (.tuple #[.agg #[.int .u8 0,.int .i64 0],.bool false])/\L0d U w'):=hid fun U fv hU=>lW (h.same hU) hb hr 1 fv hfull
 obtain⟨xe,hi,hz,xi,xg⟩:=info_parts I2;have xh:Hid (∀W:World,(Instr.makeSlice 84 (.int .i64 (n:Int)) (.int .i64 (n:Int))).run prog W=.ok (.slice (some ⟨W.heap.size,0,none⟩) n n) (W.alloc (.cells (madeCells #[.int .u8 0,.int .i64 0] (n*2)) 92))):=by
  intro W;have hr:=run_make (P:=prog) W 84 92 xe _ underlying84 hi hz .i64 .i64 n n R4 (Int.le_refl _) (by rw [xg];omega) R4;simpa [xi,Value.cells] using hr
 have xl:=xh.out;clear hi hz xi xg xh;clear h hb hr;go_enter func181,ntmps181;go_wp2_with fail;refine (xd.out _ _ P4).mono ?_;rintro e w1 ⟨rfl,xb⟩;have xa:=xb.block (W.heap.size+1+1) R5
 have d0:w1.cell? ⟨W.heap.size+1+1,0,none⟩=some (.int .i64 0):=(L0b (a:=⟨W.heap.size+1+1,0,none⟩) xa).trans Q9;have d1:w1.cell? ⟨W.heap.size+1+1,1,none⟩=some (.slice none 0 0):=(L0b (a:=⟨W.heap.size+1+1,1,none⟩) xa).trans Q9;have d2:w1.cell? ⟨W.heap.size+1+1,2,none⟩=some (.int .i64 0):=(L0b (a:=⟨W.heap.size+1+1,2,none⟩) xa).trans Q9
 have d3:w1.cell? ⟨W.heap.size+1+1,3,none⟩=some (.int .i64 0):=(L0b (a:=⟨W.heap.size+1+1,3,none⟩) xa).trans Q9;have xn:w1.frozen? ⟨W.heap.size+1+1,0,none⟩=false:=(L0c (a:=⟨W.heap.size+1+1,0,none⟩) xa).trans Q9;have xp:w1.frozen? ⟨W.heap.size+1+1,1,none⟩=false:=(L0c (a:=⟨W.heap.size+1+1,1,none⟩) xa).trans Q9;have xo:w1.frozen? ⟨W.heap.size+1+1,2,none⟩=false:=(L0c (a:=⟨W.heap.size+1+1,2,none⟩) xa).trans Q9
 have xm:w1.frozen? ⟨W.heap.size+1+1,3,none⟩=false:=(L0c (a:=⟨W.heap.size+1+1,3,none⟩) xa).trans Q9;have xq:W.heap.size+1+1+1 < w1.heap.size:=L0a R5 xb.size;have xj:Hid (L0d W w1):=hid (C5 xb P4 Q2)
 have xc:W.heap.size+1+1 < w1.heap.size:=by omega
 have xf:W.heap.size+1+1 < w1.heap.size+1:=by omega
 have xk:W.heap.size+1+1 < w1.heap.size+1+1:=by omega
 clear xb xa;go_wp2_with (go_at_call 218;refine (B5 _ _).mono ?_;rintro e w' ⟨rfl,rfl⟩)
 refine bodyPost_ret (v:=.agg #[.int .i64 0,.slice none 0 0,.int .i64 0,.int .i64 6]) (by simp [results,results181,go_sem,d0,d1,d2,d3,xc,xf]) rfl ?_;exact⟨none,0,rfl,(by repeat (first | refine Below.setCell ?_ Q1 _ | refine L3a ?_ Q1 _ | exact xj.out)),B8 _ _⟩
theorem nO (h:A8 W own mb g R) (hb:fD R) (hr:bX R) (n:Nat) (a:Int) (pc:Nat) (hn:n<=12) (hfull:R.cap<=(A1 R.abs).length) :
  Calls prog 181 #[.pointer (some ⟨mb,0,none⟩),.agg #[.int .i64 17,.int .i64 a],.int .i64 (pc:Int),.agg #[.int .u8 1,.int .i64 (n:Int)]] W fun e w'=>C2 0 [] 0 6 W e w':=by
 have xd:Hid (∀(U:World) (fv:Value),L0d W U->Calls prog 219 #[.pointer (some ⟨mb,0,none⟩),.int .u8 2,fv] U fun e w'=>e=.returned (.tuple #[.agg #[.int .u8 0,.int .i64 0],.bool false])/\L0d U w'):=hid fun U fv hU=>lW (h.same hU) hb hr 2 fv hfull
 obtain⟨xe,hi,hz,xi,xg⟩:=info_parts I2;have xh:Hid (∀W:World,(Instr.makeSlice 84 (.int .i64 (n:Int)) (.int .i64 (n:Int))).run prog W=.ok (.slice (some ⟨W.heap.size,0,none⟩) n n) (W.alloc (.cells (madeCells #[.int .u8 0,.int .i64 0] (n*2)) 92))):=by
  intro W;have hr:=run_make (P:=prog) W 84 92 xe _ underlying84 hi hz .i64 .i64 n n R4 (Int.le_refl _) (by rw [xg];omega) R4;simpa [xi,Value.cells] using hr
 have xl:=xh.out;clear hi hz xi xg xh;clear h hb hr;go_enter func181,ntmps181;go_wp2_with fail;refine (xd.out _ _ P4).mono ?_;rintro e w1 ⟨rfl,xb⟩;have xa:=xb.block (W.heap.size+1+1) R5
 have d0:w1.cell? ⟨W.heap.size+1+1,0,none⟩=some (.int .i64 0):=(L0b (a:=⟨W.heap.size+1+1,0,none⟩) xa).trans Q9;have d1:w1.cell? ⟨W.heap.size+1+1,1,none⟩=some (.slice none 0 0):=(L0b (a:=⟨W.heap.size+1+1,1,none⟩) xa).trans Q9;have d2:w1.cell? ⟨W.heap.size+1+1,2,none⟩=some (.int .i64 0):=(L0b (a:=⟨W.heap.size+1+1,2,none⟩) xa).trans Q9
 have d3:w1.cell? ⟨W.heap.size+1+1,3,none⟩=some (.int .i64 0):=(L0b (a:=⟨W.heap.size+1+1,3,none⟩) xa).trans Q9;have xn:w1.frozen? ⟨W.heap.size+1+1,0,none⟩=false:=(L0c (a:=⟨W.heap.size+1+1,0,none⟩) xa).trans Q9;have xp:w1.frozen? ⟨W.heap.size+1+1,1,none⟩=false:=(L0c (a:=⟨W.heap.size+1+1,1,none⟩) xa).trans Q9;have xo:w1.frozen? ⟨W.heap.size+1+1,2,none⟩=false:=(L0c (a:=⟨W.heap.size+1+1,2,none⟩) xa).trans Q9
 have xm:w1.frozen? ⟨W.heap.size+1+1,3,none⟩=false:=(L0c (a:=⟨W.heap.size+1+1,3,none⟩) xa).trans Q9;have xq:W.heap.size+1+1+1 < w1.heap.size:=L0a R5 xb.size;have xj:Hid (L0d W w1):=hid (C5 xb P4 Q2)
 have xc:W.heap.size+1+1 < w1.heap.size:=by omega
 have xf:W.heap.size+1+1 < w1.heap.size+1:=by omega
 have xk:W.heap.size+1+1 < w1.heap.size+1+1:=by omega
 clear xb xa;go_wp2_with (go_at_call 218;refine (B5 _ _).mono ?_;rintro e w' ⟨rfl,rfl⟩)
 refine bodyPost_ret (v:=.agg #[.int .i64 0,.slice none 0 0,.int .i64 0,.int .i64 6]) (by simp [results,results181,go_sem,d0,d1,d2,d3,xc,xf]) rfl ?_;exact⟨none,0,rfl,(by repeat (first | refine Below.setCell ?_ Q1 _ | refine L3a ?_ Q1 _ | exact xj.out)),B8 _ _⟩
end
end Go.Proofs.YtbkmgoffiigdbaaGreatDoor
