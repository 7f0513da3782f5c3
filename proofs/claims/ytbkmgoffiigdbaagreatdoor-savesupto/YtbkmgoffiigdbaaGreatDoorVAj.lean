import Derived.Test.YtbkmgoffiigdbaaGreatDoorVAi
namespace Go.Proofs.YtbkmgoffiigdbaaGreatDoor
open Go.RowKit Go.Sort Go.Proofs.Tryz
set_option maxHeartbeats 2000000
set_option maxRecDepth 100000
section
variable {R:RfR} {W:World} {g:PgR} {mb:Nat} {own:Own}
theorem cI {M:World} {own':Own} {R':RfR} (h0:A9 W own mb g R) (hda:∀b o,R'.da=some ⟨b,o,none⟩->b < W.heap.size) (hM:A9 M own' mb g R') (ht:A2 own W own' M) (D:Nat) (hDW:W.heap.size<=D) (hD:own' D=none) (v0 v1 v2 v3:Value) :
  A9 ((((M.setCell ⟨D,0,none⟩ v0).setCell ⟨D,1,none⟩ v1).setCell ⟨D,2,none⟩ v2).setCell ⟨D,3,none⟩ v3) own' mb g R'/\A2 own W own' ((((M.setCell ⟨D,0,none⟩ v0).setCell ⟨D,1,none⟩ v1).setCell ⟨D,2,none⟩ v2).setCell ⟨D,3,none⟩ v3):=by
 have hF:∀k,k < M.heap.size->k≠D->((((M.setCell ⟨D,0,none⟩ v0).setCell ⟨D,1,none⟩ v1).setCell ⟨D,2,none⟩ v2).setCell ⟨D,3,none⟩ v3).heap[k]?=M.heap[k]?:=fun k hk hne=>by
  rw[heap_setCell_other _ _ _ _ hne,heap_setCell_other _ _ _ _ hne,heap_setCell_other _ _ _ _ hne,heap_setCell_other _ _ _ _ hne]
 have hs:M.heap.size<=((((M.setCell ⟨D,0,none⟩ v0).setCell ⟨D,1,none⟩ v1).setCell ⟨D,2,none⟩ v2).setCell ⟨D,3,none⟩ v3).heap.size:=by simp
 refine⟨hM.off D hD (fun hb=>?_) (fun e=>?_) (fun q e=>?_) hs hF,⟨ht.os,ht.tape,ht.output,L5a ht.size hs,fun k hk hn=>(hF k (L0a hk ht.size) R5).trans (ht.block k hk hn),ht.old⟩⟩
 ·have:=h0.pg.blk_lt hb;omega
 ·have:=h0.lt _ _ h0.me;omega
 ·have:=hda D q e
  omega
def jP (R:RfR) (kind:Int) (fl:List Val) (R':RfR):Prop :=
 ∃fv hv da dc j dr,bX R.cap ((L5 R).map ThR.slot) R.dr=some (j,dr)/\R'={ R with hv:=hv,ths:=L5 R++[⟨kind,fv,fl,(j:Int)⟩],da:=da,dc:=dc,dr:=dr }/\∀b q,da=some ⟨b,q,none⟩->∃q',R.da=some ⟨b,q',none⟩
theorem qS (x:Val) (a:Int) (pc:Nat) (h1:x.1≠1) :
  Calls prog 181 #[zB mb,.agg #[J 17,J a],J (pc:Int),.agg #[zC x.1,J x.2]] W fun e w'=>D2 0 [] 0 2 W e w':=by
 obtain⟨xk,xn⟩:=x;have xa:¬xk=1:=h1;have xb:(xk == 1)=false:=L2c.2 xa;clear h1;go_enter func181,ntmps181;go_wp2_with (go_at_call 218;refine (B4 _ _).mono ?_;rintro e w' ⟨rfl,rfl⟩)
 refine bodyPost_ret (v:=.agg #[J 0,zD,J 0,J 2]) (by simp [results,results181,go_sem]) rfl ?_;exact⟨none,0,rfl,P4,B8 _ _⟩
theorem tU (x:Val) (a:Int) (pc:Nat) (h1:x.1=1) (h2:x.2 < 0) :
  Calls prog 181 #[zB mb,.agg #[J 17,J a],J (pc:Int),.agg #[zC x.1,J x.2]] W fun e w'=>D2 0 [] 0 4 W e w':=by
 obtain⟨xk,xn⟩:=x;have xa:xk=1:=h1;subst xa;have xb:xn < 0:=h2;clear h1 h2;go_enter func181,ntmps181;go_wp2_with (go_at_call 218;refine (B4 _ _).mono ?_;rintro e w' ⟨rfl,rfl⟩)
 refine bodyPost_ret (v:=.agg #[J 0,zD,J 0,J 4]) (by simp [results,results181,go_sem]) rfl ?_;exact⟨none,0,rfl,P4,B8 _ _⟩
theorem tT (x:Val) (a:Int) (pc:Nat) (h1:x.1=1) (h2:12 < x.2) :
  Calls prog 181 #[zB mb,.agg #[J 17,J a],J (pc:Int),.agg #[zC x.1,J x.2]] W fun e w'=>D2 0 [] 0 4 W e w':=by
 obtain⟨xk,xn⟩:=x;have xa:xk=1:=h1;subst xa;have xb:12 < xn:=h2;have xc:¬xn < 0:=by omega
 clear h1 h2;go_enter func181,ntmps181;go_wp2_with (go_at_call 218;refine (B4 _ _).mono ?_;rintro e w' ⟨rfl,rfl⟩)
 refine bodyPost_ret (v:=.agg #[J 0,zD,J 0,J 4]) (by simp [results,results181,go_sem]) rfl ?_;exact⟨none,0,rfl,P4,B8 _ _⟩
theorem tX (x:Val) (a:Int) (pc:Nat) (h1:x.1≠2) :
  Calls prog 181 #[zB mb,.agg #[J 18,J a],J (pc:Int),.agg #[zC x.1,J x.2]] W fun e w'=>D2 0 [] 0 2 W e w':=by
 obtain⟨xk,xn⟩:=x;have xa:¬xk=2:=h1;have xb:(xk == 2)=false:=L2c.2 xa;clear h1;go_enter func181,ntmps181;go_wp2_with (go_at_call 218;refine (B4 _ _).mono ?_;rintro e w' ⟨rfl,rfl⟩)
 refine bodyPost_ret (v:=.agg #[J 0,zD,J 0,J 2]) (by simp [results,results181,go_sem]) rfl ?_;exact⟨none,0,rfl,P4,B8 _ _⟩
theorem pS (h:A9 W own mb g R) (hb:iA R) (hr:dX R) (n:Nat) (x:Val) (pc:Nat) (hn:n<=8) (hfull:R.cap<=(A0 R.abs).length) :
  Calls prog 181 #[zB mb,.agg #[J 16,J (n:Int)],J (pc:Int),.agg #[zC x.1,J x.2]] W fun e w'=>D2 0 [] 0 6 W e w':=by
 have xe:Hid (∀(U:World) (fv:Value),L0d W U->Calls prog 219 #[zB mb,zC 1,fv] U fun e w'=>e=.returned (.tuple #[.agg #[zC 0,J 0],.bool false])/\L0d U w'):=hid fun U fv hU=>oR (h.same hU) hb hr 1 fv hfull
 obtain⟨xf,hi,hz,xg,xh⟩:=info_parts J2;have xi:Hid (∀W:World,(Instr.makeSlice 84 (J (n:Int)) (J (n:Int))).run prog W=.ok (.slice (zA W.heap.size) n n) (W.alloc (.cells (madeCells #[zC 0,J 0] (n*2)) 92))):=by
  intro W;have hr:=run_make (P:=prog) W 84 92 xf _ underlying84 hi hz .i64 .i64 n n R5 (Int.le_refl _) (by rw [xh];omega) R5;simpa [xg,Value.cells] using hr
 have xl:=xi.out;clear hi hz xg xh xi;clear h hb hr;go_enter func181,ntmps181;go_wp2_with fail;refine (xe.out _ _ P4).mono ?_;rintro e w1 ⟨rfl,xb⟩;have xa:=xb.block (W.heap.size+1+1) R6
 have d0:w1.cell? ⟨W.heap.size+1+1,0,none⟩=some (J 0):=(L0b (a:=⟨W.heap.size+1+1,0,none⟩) xa).trans R3;have d1:w1.cell? ⟨W.heap.size+1+1,1,none⟩=some zD:=(L0b (a:=⟨W.heap.size+1+1,1,none⟩) xa).trans R3;have d2:w1.cell? ⟨W.heap.size+1+1,2,none⟩=some (J 0):=(L0b (a:=⟨W.heap.size+1+1,2,none⟩) xa).trans R3
 have d3:w1.cell? ⟨W.heap.size+1+1,3,none⟩=some (J 0):=(L0b (a:=⟨W.heap.size+1+1,3,none⟩) xa).trans R3;have xo:w1.frozen? ⟨W.heap.size+1+1,0,none⟩=false:=(L0c (a:=⟨W.heap.size+1+1,0,none⟩) xa).trans R3;have xm:w1.frozen? ⟨W.heap.size+1+1,1,none⟩=false:=(L0c (a:=⟨W.heap.size+1+1,1,none⟩) xa).trans R3;have xq:w1.frozen? ⟨W.heap.size+1+1,2,none⟩=false:=(L0c (a:=⟨W.heap.size+1+1,2,none⟩) xa).trans R3
 have xp:w1.frozen? ⟨W.heap.size+1+1,3,none⟩=false:=(L0c (a:=⟨W.heap.size+1+1,3,none⟩) xa).trans R3;have xn:W.heap.size+1+1+1 < w1.heap.size:=L0a R6 xb.size;have xj:Hid (L0d W w1):=hid (D7 xb P4 Q2)
 have xc:W.heap.size+1+1 < w1.heap.size:=by omega
 have xd:W.heap.size+1+1 < w1.heap.size+1:=by omega
 have xk:W.heap.size+1+1 < w1.heap.size+1+1:=by omega
 clear xb xa;go_wp2_with (go_at_call 218;refine (B4 _ _).mono ?_;rintro e w' ⟨rfl,rfl⟩)
 refine bodyPost_ret (v:=.agg #[J 0,zD,J 0,J 6]) (by simp [results,results181,go_sem,d0,d1,d2,d3,xc,xd]) rfl ?_;exact⟨none,0,rfl,(by repeat (first | refine Below.setCell ?_ Q1 _ | refine L3a ?_ Q1 _ | exact xj.out)),B8 _ _⟩
theorem qR (h:A9 W own mb g R) (hb:iA R) (hr:dX R) (n:Nat) (a:Int) (pc:Nat) (hn:n<=12) (hfull:R.cap<=(A0 R.abs).length) :
  Calls prog 181 #[zB mb,.agg #[J 17,J a],J (pc:Int),.agg #[zC 1,J (n:Int)]] W fun e w'=>D2 0 [] 0 6 W e w':=by
 have xe:Hid (∀(U:World) (fv:Value),L0d W U->Calls prog 219 #[zB mb,zC 2,fv] U fun e w'=>e=.returned (.tuple #[.agg #[zC 0,J 0],.bool false])/\L0d U w'):=hid fun U fv hU=>oR (h.same hU) hb hr 2 fv hfull
 obtain⟨xf,hi,hz,xg,xh⟩:=info_parts J2;have xi:Hid (∀W:World,(Instr.makeSlice 84 (J (n:Int)) (J (n:Int))).run prog W=.ok (.slice (zA W.heap.size) n n) (W.alloc (.cells (madeCells #[zC 0,J 0] (n*2)) 92))):=by
  intro W;have hr:=run_make (P:=prog) W 84 92 xf _ underlying84 hi hz .i64 .i64 n n R5 (Int.le_refl _) (by rw [xh];omega) R5;simpa [xg,Value.cells] using hr
 have xl:=xi.out;clear hi hz xg xh xi;clear h hb hr;go_enter func181,ntmps181;go_wp2_with fail;refine (xe.out _ _ P4).mono ?_;rintro e w1 ⟨rfl,xb⟩;have xa:=xb.block (W.heap.size+1+1) R6
 have d0:w1.cell? ⟨W.heap.size+1+1,0,none⟩=some (J 0):=(L0b (a:=⟨W.heap.size+1+1,0,none⟩) xa).trans R3;have d1:w1.cell? ⟨W.heap.size+1+1,1,none⟩=some zD:=(L0b (a:=⟨W.heap.size+1+1,1,none⟩) xa).trans R3;have d2:w1.cell? ⟨W.heap.size+1+1,2,none⟩=some (J 0):=(L0b (a:=⟨W.heap.size+1+1,2,none⟩) xa).trans R3
 have d3:w1.cell? ⟨W.heap.size+1+1,3,none⟩=some (J 0):=(L0b (a:=⟨W.heap.size+1+1,3,none⟩) xa).trans R3;have xo:w1.frozen? ⟨W.heap.size+1+1,0,none⟩=false:=(L0c (a:=⟨W.heap.size+1+1,0,none⟩) xa).trans R3;have xm:w1.frozen? ⟨W.heap.size+1+1,1,none⟩=false:=(L0c (a:=⟨W.heap.size+1+1,1,none⟩) xa).trans R3;have xq:w1.frozen? ⟨W.heap.size+1+1,2,none⟩=false:=(L0c (a:=⟨W.heap.size+1+1,2,none⟩) xa).trans R3
 have xp:w1.frozen? ⟨W.heap.size+1+1,3,none⟩=false:=(L0c (a:=⟨W.heap.size+1+1,3,none⟩) xa).trans R3;have xn:W.heap.size+1+1+1 < w1.heap.size:=L0a R6 xb.size;have xj:Hid (L0d W w1):=hid (D7 xb P4 Q2)
 have xc:W.heap.size+1+1 < w1.heap.size:=by omega
 have xd:W.heap.size+1+1 < w1.heap.size+1:=by omega
 have xk:W.heap.size+1+1 < w1.heap.size+1+1:=by omega
 clear xb xa;go_wp2_with (go_at_call 218;refine (B4 _ _).mono ?_;rintro e w' ⟨rfl,rfl⟩)
 refine bodyPost_ret (v:=.agg #[J 0,zD,J 0,J 6]) (by simp [results,results181,go_sem,d0,d1,d2,d3,xc,xd]) rfl ?_;exact⟨none,0,rfl,(by repeat (first | refine Below.setCell ?_ Q1 _ | refine L3a ?_ Q1 _ | exact xj.out)),B8 _ _⟩
end
section
variable {R:RfR} {W:World} {g:PgR} {mb:Nat} {own:Own}
theorem bS.mono {B C:Nat} {own':Own} {w w':World} (h:bS B own w own' w') (hC:C<=B):bS C own w own' w':=⟨h.os,h.tape,h.output,h.size,fun k hk=>h.block k (L0a hk hC),fun k hk=>h.old k (L0a hk hC)⟩
theorem tV (h:A9 W own mb g R) (hb:iA R) (hr:dX R) (hs:a1Z R) (n:Nat) (x:Val) (pc:Nat) (hpc:pc<=1000) (hn:n<=8) (hc1:1<=R.cap) (hcap:R.cap<=1000) (hfull:¬R.cap<=(A0 R.abs).length) {j:Nat} {dr:List Int} (hsl:bX R.cap ((L5 R).map ThR.slot) R.dr=some (j,dr)) :
  Calls prog 181 #[zB mb,.agg #[J 16,J (n:Int)],J (pc:Int),.agg #[zC x.1,J x.2]] W fun e w'=>K8 own mb g (jP R 1 (List.replicate n (0,0))) 0 [(2,(R.ths.length:Int))] ((pc:Int)+1) 0 W e w':=by
 have xc:∀k,W.heap.size<=k->own k=none:=fun k hk=>by
  cases e:own k with
  | none=>rfl
  | some t=>have:=h.lt k t e;omega
 have xj:Hid (∀(U:World),L0d W U->W.heap.size+1+1+1 < U.heap.size->U.ownsRow 0 92 2 (.slice (some ⟨W.heap.size+1+1+1,0,none⟩) n n) n (A7 (List.replicate n (0,0)))->Calls prog 219 #[zB mb,zC 1,.slice (some ⟨W.heap.size+1+1+1,0,none⟩) n n] U fun e w'=>a4q (W.heap.size+1+1+1) own mb g R 1 (.slice (some ⟨W.heap.size+1+1+1,0,none⟩) n n) (List.replicate n (0,0)) U e w'):=hid fun U hU hlt hrow=>oS (h.same hU) hb hr hs 1 _ (List.replicate n (0,0)) hc1 hcap hfull (by simpa using hrow) (fun b hb'=>by
   obtain rfl:W.heap.size+1+1+1=b:=by simpa [Value.ownBlock] using hb'
   exact⟨xc _ R5,fun k hk e=>by have:=h.pg.blk_lt hk;omega,by omega⟩) (fun b o e hb'=>by
   obtain rfl:W.heap.size+1+1+1=b:=by simpa [Value.ownBlock] using hb'
   have:=(h.dro _ o e).1;omega) R5 (fun b hb'=>by
   obtain rfl:W.heap.size+1+1+1=b:=by simpa [Value.ownBlock] using hb'
   exact L1c _) hsl
 have HH:=hid h;have xe:=hid xc;obtain⟨xk,hi,hz,xn,xo⟩:=info_parts J2;have xr:Hid (∀W:World,(Instr.makeSlice 84 (J (n:Int)) (J (n:Int))).run prog W=.ok (.slice (zA W.heap.size) n n) (W.alloc (.cells (madeCells #[zC 0,J 0] (n*2)) 92))):=by
  intro W;have hr:=run_make (P:=prog) W 84 92 xk _ underlying84 hi hz .i64 .i64 n n R5 (Int.le_refl _) (by rw [xo];omega) R5;simpa [xn,Value.cells] using hr
 have xy:=xr.out;clear hi hz xn xo xr;have xl:Hid (∀(X:World) (k:Nat),X.heap.size=k->(X.alloc (Obj.cells (madeCells #[zC 0,J 0] (n*2)) 92)).ownsRow 0 92 2 (.slice (zA k) n n) n (A7 (List.replicate n (0,0)))):=hid fun X k hk=>by
  subst hk;have:=World.ownsRow_lit (base:=0) (e:=92) (size:=2) X (madeCells #[zC 0,J 0] (n*2)) n (L4c _) Q7 (by rw [size_madeCells]);rwa [aC] at this
 clear h hb hr hs hsl xc;go_enter func181,ntmps181;go_wp2_with fail;refine (xj.out _ P4 R6 (xl.out _ _ R6)).mono ?_;rintro e w1 ⟨xa,hv,da,dc,j',xv,hsl,rfl,xp,xd,xt⟩
 have xb:=xd.block (W.heap.size+1+1) R5 (xe.out _ R5);have d0:w1.cell? ⟨W.heap.size+1+1,0,none⟩=some (J 0):=(L0b (a:=⟨W.heap.size+1+1,0,none⟩) xb).trans R3;have d1:w1.cell? ⟨W.heap.size+1+1,1,none⟩=some zD:=(L0b (a:=⟨W.heap.size+1+1,1,none⟩) xb).trans R3;have d2:w1.cell? ⟨W.heap.size+1+1,2,none⟩=some (J 0):=(L0b (a:=⟨W.heap.size+1+1,2,none⟩) xb).trans R3
 have d3:w1.cell? ⟨W.heap.size+1+1,3,none⟩=some (J 0):=(L0b (a:=⟨W.heap.size+1+1,3,none⟩) xb).trans R3;have yb:w1.frozen? ⟨W.heap.size+1+1,0,none⟩=false:=(L0c (a:=⟨W.heap.size+1+1,0,none⟩) xb).trans R3;have xz:w1.frozen? ⟨W.heap.size+1+1,1,none⟩=false:=(L0c (a:=⟨W.heap.size+1+1,1,none⟩) xb).trans R3;have yd:w1.frozen? ⟨W.heap.size+1+1,2,none⟩=false:=(L0c (a:=⟨W.heap.size+1+1,2,none⟩) xb).trans R3
 have yc:w1.frozen? ⟨W.heap.size+1+1,3,none⟩=false:=(L0c (a:=⟨W.heap.size+1+1,3,none⟩) xb).trans R3;have ya:W.heap.size+1+1+1 < w1.heap.size:=L0a R6 xd.size;have xq:xa (W.heap.size+1+1)=none:=by rw [xd.old _ R5];exact xe.out _ R5
 have xw:Hid (A2 own W xa w1):=hid (((bS.of_below P4).trans (bS.mono xd R5)).touched);have xg:W.heap.size+1+1 < w1.heap.size:=by omega
 have xi:W.heap.size+1+1 < w1.heap.size+1:=by omega
 have xh:W.heap.size+1+1 < w1.heap.size+1+1:=by omega
 have xf:W.heap.size+1+1 < w1.heap.size+1+1+1:=by omega
 have xs:=hid xp;have xx:=hid hsl;have xm:=hid xt;have xu:=hid xq;clear xp hsl xt xq xd xb;go_wp2_with (go_at_call 220;refine (O0 _ _ (2,(R.ths.length:Int)) _ hpc).mono ?_;rintro e w' ⟨rfl,rfl⟩)
 refine bodyPost_ret (v:=.agg #[J 0,.slice (some ⟨w1.heap.size+1+1+1,0,none⟩) 1 1,J ((pc:Int)+1),J 0]) (by simp [results,results181,go_sem,d0,d1,d2,d3,xg,xi,xh,xf]) rfl ?_;obtain⟨hF,hT⟩:=cI HH.out (fun b o e=>by obtain ⟨q,e'⟩:=xm.out b o e;exact (HH.out.dro b q e').1) xs.out xw.out (W.heap.size+1+1) R5 xu.out (J 0) (.slice (some ⟨w1.heap.size+1+1+1,0,none⟩) 1 1) (J ((pc:Int)+1)) (J 0)
 refine⟨xa,_,some ⟨w1.heap.size+1+1+1,0,none⟩,1,rfl,hF.same (L3a (L3a (L3a (L3a (L3b _ _) (L1c _) _) Q2 _) Q2 _) Q2 _),⟨_,hv,da,dc,j',xv,xx.out,rfl,xm.out⟩,hT.trans (A2.of_below (L3a (L3a (L3a (L3a (L3b _ _) (L1c _) _) Q2 _) Q2 _) Q2 _)),⟨rfl,L4b ⟨w1.heap.size+1+1+1,1,#[zC 2,J (R.ths.length:Int)],rfl,by omega,B0 R6,L1c _,by decide,rfl,rfl⟩⟩,fun b hb=>?_⟩
 obtain rfl:w1.heap.size+1+1+1=b:=by simpa [Value.ownBlock] using hb
 cases e:xa (w1.heap.size+1+1+1) with
 | none=>rfl
 | some t=>have:=xs.out.lt _ t e;omega
theorem xJ (h:A9 W own mb g R) (hb:iA R) (hr:dX R) (hs:a1Z R) (n:Nat) (a:Int) (pc:Nat) (hpc:pc<=1000) (hn:n<=12) (hc1:1<=R.cap) (hcap:R.cap<=1000) (hfull:¬R.cap<=(A0 R.abs).length) {j:Nat} {dr:List Int} (hsl:bX R.cap ((L5 R).map ThR.slot) R.dr=some (j,dr)) :
  Calls prog 181 #[zB mb,.agg #[J 17,J a],J (pc:Int),.agg #[zC 1,J (n:Int)]] W fun e w'=>K8 own mb g (jP R 2 (List.replicate n (0,0))) 1 [(2,(R.ths.length:Int))] ((pc:Int)+1) 0 W e w':=by
 have xc:∀k,W.heap.size<=k->own k=none:=fun k hk=>by
  cases e:own k with
  | none=>rfl
  | some t=>have:=h.lt k t e;omega
 have xj:Hid (∀(U:World),L0d W U->W.heap.size+1+1+1 < U.heap.size->U.ownsRow 0 92 2 (.slice (some ⟨W.heap.size+1+1+1,0,none⟩) n n) n (A7 (List.replicate n (0,0)))->Calls prog 219 #[zB mb,zC 2,.slice (some ⟨W.heap.size+1+1+1,0,none⟩) n n] U fun e w'=>a4q (W.heap.size+1+1+1) own mb g R 2 (.slice (some ⟨W.heap.size+1+1+1,0,none⟩) n n) (List.replicate n (0,0)) U e w'):=hid fun U hU hlt hrow=>oS (h.same hU) hb hr hs 2 _ (List.replicate n (0,0)) hc1 hcap hfull (by simpa using hrow) (fun b hb'=>by
   obtain rfl:W.heap.size+1+1+1=b:=by simpa [Value.ownBlock] using hb'
   exact⟨xc _ R5,fun k hk e=>by have:=h.pg.blk_lt hk;omega,by omega⟩) (fun b o e hb'=>by
   obtain rfl:W.heap.size+1+1+1=b:=by simpa [Value.ownBlock] using hb'
   have:=(h.dro _ o e).1;omega) R5 (fun b hb'=>by
   obtain rfl:W.heap.size+1+1+1=b:=by simpa [Value.ownBlock] using hb'
   exact L1c _) hsl
 have HH:=hid h;have xe:=hid xc;obtain⟨xk,hi,hz,xn,xo⟩:=info_parts J2;have xr:Hid (∀W:World,(Instr.makeSlice 84 (J (n:Int)) (J (n:Int))).run prog W=.ok (.slice (zA W.heap.size) n n) (W.alloc (.cells (madeCells #[zC 0,J 0] (n*2)) 92))):=by
  intro W;have hr:=run_make (P:=prog) W 84 92 xk _ underlying84 hi hz .i64 .i64 n n R5 (Int.le_refl _) (by rw [xo];omega) R5;simpa [xn,Value.cells] using hr
 have xy:=xr.out;clear hi hz xn xo xr;have xl:Hid (∀(X:World) (k:Nat),X.heap.size=k->(X.alloc (Obj.cells (madeCells #[zC 0,J 0] (n*2)) 92)).ownsRow 0 92 2 (.slice (zA k) n n) n (A7 (List.replicate n (0,0)))):=hid fun X k hk=>by
  subst hk;have:=World.ownsRow_lit (base:=0) (e:=92) (size:=2) X (madeCells #[zC 0,J 0] (n*2)) n (L4c _) Q7 (by rw [size_madeCells]);rwa [aC] at this
 clear h hb hr hs hsl xc;go_enter func181,ntmps181;go_wp2_with fail;refine (xj.out _ P4 R6 (xl.out _ _ R6)).mono ?_;rintro e w1 ⟨xa,hv,da,dc,j',xv,hsl,rfl,xp,xd,xt⟩
 have xb:=xd.block (W.heap.size+1+1) R5 (xe.out _ R5);have d0:w1.cell? ⟨W.heap.size+1+1,0,none⟩=some (J 0):=(L0b (a:=⟨W.heap.size+1+1,0,none⟩) xb).trans R3;have d1:w1.cell? ⟨W.heap.size+1+1,1,none⟩=some zD:=(L0b (a:=⟨W.heap.size+1+1,1,none⟩) xb).trans R3;have d2:w1.cell? ⟨W.heap.size+1+1,2,none⟩=some (J 0):=(L0b (a:=⟨W.heap.size+1+1,2,none⟩) xb).trans R3
 have d3:w1.cell? ⟨W.heap.size+1+1,3,none⟩=some (J 0):=(L0b (a:=⟨W.heap.size+1+1,3,none⟩) xb).trans R3;have yb:w1.frozen? ⟨W.heap.size+1+1,0,none⟩=false:=(L0c (a:=⟨W.heap.size+1+1,0,none⟩) xb).trans R3;have xz:w1.frozen? ⟨W.heap.size+1+1,1,none⟩=false:=(L0c (a:=⟨W.heap.size+1+1,1,none⟩) xb).trans R3;have yd:w1.frozen? ⟨W.heap.size+1+1,2,none⟩=false:=(L0c (a:=⟨W.heap.size+1+1,2,none⟩) xb).trans R3
 have yc:w1.frozen? ⟨W.heap.size+1+1,3,none⟩=false:=(L0c (a:=⟨W.heap.size+1+1,3,none⟩) xb).trans R3;have ya:W.heap.size+1+1+1 < w1.heap.size:=L0a R6 xd.size;have xq:xa (W.heap.size+1+1)=none:=by rw [xd.old _ R5];exact xe.out _ R5
 have xw:Hid (A2 own W xa w1):=hid (((bS.of_below P4).trans (bS.mono xd R5)).touched);have xg:W.heap.size+1+1 < w1.heap.size:=by omega
 have xi:W.heap.size+1+1 < w1.heap.size+1:=by omega
 have xh:W.heap.size+1+1 < w1.heap.size+1+1:=by omega
 have xf:W.heap.size+1+1 < w1.heap.size+1+1+1:=by omega
 have xs:=hid xp;have xx:=hid hsl;have xm:=hid xt;have xu:=hid xq;clear xp hsl xt xq xd xb;go_wp2_with (go_at_call 220;refine (O0 _ _ (2,(R.ths.length:Int)) _ hpc).mono ?_;rintro e w' ⟨rfl,rfl⟩)
 refine bodyPost_ret (v:=.agg #[J 1,.slice (some ⟨w1.heap.size+1+1+1,0,none⟩) 1 1,J ((pc:Int)+1),J 0]) (by simp [results,results181,go_sem,d0,d1,d2,d3,xg,xi,xh,xf]) rfl ?_;obtain⟨hF,hT⟩:=cI HH.out (fun b o e=>by obtain ⟨q,e'⟩:=xm.out b o e;exact (HH.out.dro b q e').1) xs.out xw.out (W.heap.size+1+1) R5 xu.out (J 1) (.slice (some ⟨w1.heap.size+1+1+1,0,none⟩) 1 1) (J ((pc:Int)+1)) (J 0)
 refine⟨xa,_,some ⟨w1.heap.size+1+1+1,0,none⟩,1,rfl,hF.same (L3a (L3a (L3a (L3a (L3b _ _) (L1c _) _) Q2 _) Q2 _) Q2 _),⟨_,hv,da,dc,j',xv,xx.out,rfl,xm.out⟩,hT.trans (A2.of_below (L3a (L3a (L3a (L3a (L3b _ _) (L1c _) _) Q2 _) Q2 _) Q2 _)),⟨rfl,L4b ⟨w1.heap.size+1+1+1,1,#[zC 2,J (R.ths.length:Int)],rfl,by omega,B0 R6,L1c _,by decide,rfl,rfl⟩⟩,fun b hb=>?_⟩
 obtain rfl:w1.heap.size+1+1+1=b:=by simpa [Value.ownBlock] using hb
 cases e:xa (w1.heap.size+1+1+1) with
 | none=>rfl
 | some t=>have:=xs.out.lt _ t e;omega
end
section
variable {R:RfR} {W:World} {g:PgR} {mb:Nat} {own:Own}
theorem tW (h:A9 W own mb g R) (hb:iA R) (hr:dX R) (i:Nat) (a:Int) (pc:Nat)  (hfull:R.cap<=(A0 R.abs).length) :
  Calls prog 181 #[zB mb,.agg #[J 18,J a],J (pc:Int),.agg #[zC 2,J (i:Int)]] W fun e w'=>D2 0 [] 0 6 W e w':=by
 have xe:Hid (∀(U:World) (fv:Value),L0d W U->Calls prog 219 #[zB mb,zC 3,fv] U fun e w'=>e=.returned (.tuple #[.agg #[zC 0,J 0],.bool false])/\L0d U w'):=hid fun U fv hU=>oR (h.same hU) hb hr 3 fv hfull
 have xk:∀W:World,(Instr.makeSlice 84 (J 1) (J 1)).run prog W=.ok (.slice (zA W.heap.size) 1 1) (W.alloc (.cells #[zC 0,J 0] 92)):=by
  intro W;obtain⟨xf,hi,hz,xh,xi⟩:=info_parts J2;have hr:=run_make (P:=prog) W 84 92 xf _ underlying84 hi hz .i64 .i64 1 1 R5 (Int.le_refl _) (by rw [xi];omega) R5;have e:madeCells #[zC 0,J 0] (1*2)=#[Value.int .u8 0,Value.int .i64 0]:=(lP 1).trans rfl;simpa [xh,Value.cells,e] using hr
 clear h hb hr;go_enter func181,ntmps181;go_wp2_with fail;refine (xe.out _ _ P4).mono ?_;rintro e w1 ⟨rfl,xb⟩;have xa:=xb.block (W.heap.size+1+1) R6;have d0:w1.cell? ⟨W.heap.size+1+1,0,none⟩=some (J 0):=(L0b (a:=⟨W.heap.size+1+1,0,none⟩) xa).trans R3
 have d1:w1.cell? ⟨W.heap.size+1+1,1,none⟩=some zD:=(L0b (a:=⟨W.heap.size+1+1,1,none⟩) xa).trans R3;have d2:w1.cell? ⟨W.heap.size+1+1,2,none⟩=some (J 0):=(L0b (a:=⟨W.heap.size+1+1,2,none⟩) xa).trans R3;have d3:w1.cell? ⟨W.heap.size+1+1,3,none⟩=some (J 0):=(L0b (a:=⟨W.heap.size+1+1,3,none⟩) xa).trans R3
 have xn:w1.frozen? ⟨W.heap.size+1+1,0,none⟩=false:=(L0c (a:=⟨W.heap.size+1+1,0,none⟩) xa).trans R3;have xl:w1.frozen? ⟨W.heap.size+1+1,1,none⟩=false:=(L0c (a:=⟨W.heap.size+1+1,1,none⟩) xa).trans R3;have xp:w1.frozen? ⟨W.heap.size+1+1,2,none⟩=false:=(L0c (a:=⟨W.heap.size+1+1,2,none⟩) xa).trans R3;have xo:w1.frozen? ⟨W.heap.size+1+1,3,none⟩=false:=(L0c (a:=⟨W.heap.size+1+1,3,none⟩) xa).trans R3
 have xm:W.heap.size+1+1+1 < w1.heap.size:=L0a R6 xb.size;have xg:Hid (L0d W w1):=hid (D7 xb P4 Q2);have xc:W.heap.size+1+1 < w1.heap.size:=by omega
 have xd:W.heap.size+1+1 < w1.heap.size+1:=by omega
 have xj:W.heap.size+1+1 < w1.heap.size+1+1:=by omega
 clear xb xa;go_wp2_with (go_at_call 218;refine (B4 _ _).mono ?_;rintro e w' ⟨rfl,rfl⟩)
 refine bodyPost_ret (v:=.agg #[J 0,zD,J 0,J 6]) (by simp [results,results181,go_sem,d0,d1,d2,d3,xc,xd]) rfl ?_;exact⟨none,0,rfl,(by repeat (first | refine Below.setCell ?_ Q1 _ | refine L3a ?_ Q1 _ | exact xg.out)),B8 _ _⟩
theorem a0R (h:A9 W own mb g R) (hb:iA R) (hr:dX R) (hs:a1Z R) (i:Nat) (a:Int) (pc:Nat) (hpc:pc<=1000)  (hc1:1<=R.cap) (hcap:R.cap<=1000) (hfull:¬R.cap<=(A0 R.abs).length) {j:Nat} {dr:List Int} (hsl:bX R.cap ((L5 R).map ThR.slot) R.dr=some (j,dr)) :
  Calls prog 181 #[zB mb,.agg #[J 18,J a],J (pc:Int),.agg #[zC 2,J (i:Int)]] W fun e w'=>K8 own mb g (jP R 3 [(2,(i:Int))]) 1 [(2,(R.ths.length:Int))] ((pc:Int)+1) 0 W e w':=by
 have xc:∀k,W.heap.size<=k->own k=none:=fun k hk=>by
  cases e:own k with
  | none=>rfl
  | some t=>have:=h.lt k t e;omega
 have xj:Hid (∀(U:World),L0d W U->W.heap.size+1+1+1 < U.heap.size->U.ownsRow 0 92 2 (.slice (some ⟨W.heap.size+1+1+1,0,none⟩) 1 1) 1 (A7 [(2,(i:Int))])->Calls prog 219 #[zB mb,zC 3,.slice (some ⟨W.heap.size+1+1+1,0,none⟩) 1 1] U fun e w'=>a4q (W.heap.size+1+1+1) own mb g R 3 (.slice (some ⟨W.heap.size+1+1+1,0,none⟩) 1 1) [(2,(i:Int))] U e w'):=hid fun U hU hlt hrow=>oS (h.same hU) hb hr hs 3 _ [(2,(i:Int))] hc1 hcap hfull (by simpa using hrow) (fun b hb'=>by
   obtain rfl:W.heap.size+1+1+1=b:=by simpa [Value.ownBlock] using hb'
   exact⟨xc _ R5,fun k hk e=>by have:=h.pg.blk_lt hk;omega,by omega⟩) (fun b o e hb'=>by
   obtain rfl:W.heap.size+1+1+1=b:=by simpa [Value.ownBlock] using hb'
   have:=(h.dro _ o e).1;omega) R5 (fun b hb'=>by
   obtain rfl:W.heap.size+1+1+1=b:=by simpa [Value.ownBlock] using hb'
   exact L1c _) hsl
 have HH:=hid h;have xe:=hid xc;have xx:∀W:World,(Instr.makeSlice 84 (J 1) (J 1)).run prog W=.ok (.slice (zA W.heap.size) 1 1) (W.alloc (.cells #[zC 0,J 0] 92)):=by
  intro W;obtain⟨xk,hi,hz,xr,xs⟩:=info_parts J2;have hr:=run_make (P:=prog) W 84 92 xk _ underlying84 hi hz .i64 .i64 1 1 R5 (Int.le_refl _) (by rw [xs];omega) R5;have e:madeCells #[zC 0,J 0] (1*2)=#[Value.int .u8 0,Value.int .i64 0]:=(lP 1).trans rfl;simpa [xr,Value.cells,e] using hr
 have xl:Hid (∀(X:World) (k:Nat),X.heap.size=k->(X.alloc (Obj.cells #[zC 2,J (i:Int)] 92)).ownsRow 0 92 2 (.slice (zA k) 1 1) 1 (A7 [(2,(i:Int))])):=hid fun X k hk=>⟨rfl,L4b ⟨k,1,#[zC 2,J (i:Int)],rfl,L4c _,by subst hk;exact B0 R6,L1c _,by decide,rfl,rfl⟩⟩
 clear h hb hr hs hsl xc;go_enter func181,ntmps181;go_wp2_with fail;refine (xj.out _ P4 R6 (xl.out _ _ R6)).mono ?_;rintro e w1 ⟨xa,hv,da,dc,j',xu,hsl,rfl,xn,xd,xq⟩
 have xb:=xd.block (W.heap.size+1+1) R5 (xe.out _ R5);have d0:w1.cell? ⟨W.heap.size+1+1,0,none⟩=some (J 0):=(L0b (a:=⟨W.heap.size+1+1,0,none⟩) xb).trans R3;have d1:w1.cell? ⟨W.heap.size+1+1,1,none⟩=some zD:=(L0b (a:=⟨W.heap.size+1+1,1,none⟩) xb).trans R3;have d2:w1.cell? ⟨W.heap.size+1+1,2,none⟩=some (J 0):=(L0b (a:=⟨W.heap.size+1+1,2,none⟩) xb).trans R3
 have d3:w1.cell? ⟨W.heap.size+1+1,3,none⟩=some (J 0):=(L0b (a:=⟨W.heap.size+1+1,3,none⟩) xb).trans R3;have ya:w1.frozen? ⟨W.heap.size+1+1,0,none⟩=false:=(L0c (a:=⟨W.heap.size+1+1,0,none⟩) xb).trans R3;have xy:w1.frozen? ⟨W.heap.size+1+1,1,none⟩=false:=(L0c (a:=⟨W.heap.size+1+1,1,none⟩) xb).trans R3;have yc:w1.frozen? ⟨W.heap.size+1+1,2,none⟩=false:=(L0c (a:=⟨W.heap.size+1+1,2,none⟩) xb).trans R3
 have yb:w1.frozen? ⟨W.heap.size+1+1,3,none⟩=false:=(L0c (a:=⟨W.heap.size+1+1,3,none⟩) xb).trans R3;have xz:W.heap.size+1+1+1 < w1.heap.size:=L0a R6 xd.size;have xo:xa (W.heap.size+1+1)=none:=by rw [xd.old _ R5];exact xe.out _ R5
 have xv:Hid (A2 own W xa w1):=hid (((bS.of_below P4).trans (bS.mono xd R5)).touched);have xg:W.heap.size+1+1 < w1.heap.size:=by omega
 have xi:W.heap.size+1+1 < w1.heap.size+1:=by omega
 have xh:W.heap.size+1+1 < w1.heap.size+1+1:=by omega
 have xf:W.heap.size+1+1 < w1.heap.size+1+1+1:=by omega
 have xp:=hid xn;have xw:=hid hsl;have xm:=hid xq;have xt:=hid xo;clear xn hsl xq xo xd xb;go_wp2_with (go_at_call 220;refine (O0 _ _ (2,(R.ths.length:Int)) _ hpc).mono ?_;rintro e w' ⟨rfl,rfl⟩)
 refine bodyPost_ret (v:=.agg #[J 1,.slice (some ⟨w1.heap.size+1+1+1,0,none⟩) 1 1,J ((pc:Int)+1),J 0]) (by simp [results,results181,go_sem,d0,d1,d2,d3,xg,xi,xh,xf]) rfl ?_;obtain⟨hF,hT⟩:=cI HH.out (fun b o e=>by obtain ⟨q,e'⟩:=xm.out b o e;exact (HH.out.dro b q e').1) xp.out xv.out (W.heap.size+1+1) R5 xt.out (J 1) (.slice (some ⟨w1.heap.size+1+1+1,0,none⟩) 1 1) (J ((pc:Int)+1)) (J 0)
 refine⟨xa,_,some ⟨w1.heap.size+1+1+1,0,none⟩,1,rfl,hF.same (L3a (L3a (L3a (L3a (L3b _ _) (L1c _) _) Q2 _) Q2 _) Q2 _),⟨_,hv,da,dc,j',xu,xw.out,rfl,xm.out⟩,hT.trans (A2.of_below (L3a (L3a (L3a (L3a (L3b _ _) (L1c _) _) Q2 _) Q2 _) Q2 _)),⟨rfl,L4b ⟨w1.heap.size+1+1+1,1,#[zC 2,J (R.ths.length:Int)],rfl,by omega,B0 R6,L1c _,by decide,rfl,rfl⟩⟩,fun b hb=>?_⟩
 obtain rfl:w1.heap.size+1+1+1=b:=by simpa [Value.ownBlock] using hb
 cases e:xa (w1.heap.size+1+1+1) with
 | none=>rfl
 | some t=>have:=xp.out.lt _ t e;omega
end
end Go.Proofs.YtbkmgoffiigdbaaGreatDoor
