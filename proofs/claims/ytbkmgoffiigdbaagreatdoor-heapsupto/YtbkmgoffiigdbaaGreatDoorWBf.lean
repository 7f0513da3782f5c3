import Derived.Test.YtbkmgoffiigdbaaGreatDoorWBe
namespace Go.Proofs.YtbkmgoffiigdbaaGreatDoor
open Go.RowKit Go.Sort Go.Proofs.Tryz
set_option maxHeartbeats 2000000
set_option maxRecDepth 100000
section
variable {R:RfR} {W:World} {g:PgR} {mb:Nat} {own:Own}
theorem aH.mono {B C:Nat} {own':Own} {w w':World} (h:aH B own w own' w') (hC:C<=B):aH C own w own' w':=⟨h.os,h.tape,h.output,h.size,fun k hk=>h.block k (L0a hk hC),fun k hk=>h.old k (L0a hk hC)⟩
theorem qP (h:A8 W own mb g R) (hb:fD R) (hr:bX R) (hs:zY R) (n:Nat) (x:Val) (pc:Nat) (hpc:pc<=1000) (hn:n<=8) (hc1:1<=R.cap) (hcap:R.cap<=1000) (hfull:¬R.cap<=(A1 R.abs).length) {j:Nat} {dr:List Int} (hsl:aM R.cap ((K1 R).map ThR.slot) R.dr=some (j,dr)) :
  Calls prog 181 #[.pointer (some ⟨mb,0,none⟩),.agg #[.int .i64 16,.int .i64 (n:Int)],.int .i64 (pc:Int),.agg #[.int .u8 x.1,.int .i64 x.2]] W fun e w'=>J6 own mb g (gP R 1 (List.replicate n (0,0))) 0 [(2,(R.ths.length:Int))] ((pc:Int)+1) 0 W e w':=by
 have xc:∀k,W.heap.size<=k->own k=none:=fun k hk=>by
  cases e:own k with
  | none=>rfl
  | some t=>have:=h.lt k t e;omega
 have xh:Hid (∀(U:World),L0d W U->W.heap.size+1+1+1 < U.heap.size->U.ownsRow 0 92 2 (.slice (some ⟨W.heap.size+1+1+1,0,none⟩) n n) n (A5 (List.replicate n (0,0)))->Calls prog 219 #[.pointer (some ⟨mb,0,none⟩),.int .u8 1,.slice (some ⟨W.heap.size+1+1+1,0,none⟩) n n] U fun e w'=>a1X (W.heap.size+1+1+1) own mb g R 1 (.slice (some ⟨W.heap.size+1+1+1,0,none⟩) n n) (List.replicate n (0,0)) U e w'):=hid fun U hU hlt hrow=>lX (h.same hU) hb hr hs 1 _ (List.replicate n (0,0)) hc1 hcap hfull (by simpa using hrow) (fun b hb'=>by
   obtain rfl:W.heap.size+1+1+1=b:=by simpa [Value.ownBlock] using hb'
   exact⟨xc _ R4,fun k hk e=>by have:=h.pg.blk_lt hk;omega,by omega⟩) (fun b o e hb'=>by
   obtain rfl:W.heap.size+1+1+1=b:=by simpa [Value.ownBlock] using hb'
   have:=(h.dro _ o e).1;omega) R4 (fun b hb'=>by
   obtain rfl:W.heap.size+1+1+1=b:=by simpa [Value.ownBlock] using hb'
   exact L1c _) hsl
 have HH:=hid h;have xe:=hid xc;obtain⟨xj,hi,hz,xs,xm⟩:=info_parts I2;have xp:Hid (∀W:World,(Instr.makeSlice 84 (.int .i64 (n:Int)) (.int .i64 (n:Int))).run prog W=.ok (.slice (some ⟨W.heap.size,0,none⟩) n n) (W.alloc (.cells (madeCells #[.int .u8 0,.int .i64 0] (n*2)) 92))):=by
  intro W;have hr:=run_make (P:=prog) W 84 92 xj _ underlying84 hi hz .i64 .i64 n n R4 (Int.le_refl _) (by rw [xm];omega) R4;simpa [xs,Value.cells] using hr
 have xy:=xp.out;clear hi hz xs xm xp;have xi:Hid (∀(X:World) (k:Nat),X.heap.size=k->(X.alloc (Obj.cells (madeCells #[.int .u8 0,.int .i64 0] (n*2)) 92)).ownsRow 0 92 2 (.slice (some ⟨k,0,none⟩) n n) n (A5 (List.replicate n (0,0)))):=hid fun X k hk=>by
  subst hk;have:=World.ownsRow_lit (base:=0) (e:=92) (size:=2) X (madeCells #[.int .u8 0,.int .i64 0] (n*2)) n (L4c _) Q5 (by rw [size_madeCells]);rwa [V7] at this
 clear h hb hr hs hsl xc;go_enter func181,ntmps181;go_wp2_with fail;refine (xh.out _ P4 R5 (xi.out _ _ R5)).mono ?_;rintro e w1 ⟨xb,hv,da,dc,j',xw,hsl,rfl,xn,xd,xr⟩
 have xa:=xd.block (W.heap.size+1+1) R4 (xe.out _ R4);have d0:w1.cell? ⟨W.heap.size+1+1,0,none⟩=some (.int .i64 0):=(L0b (a:=⟨W.heap.size+1+1,0,none⟩) xa).trans Q9;have d1:w1.cell? ⟨W.heap.size+1+1,1,none⟩=some (.slice none 0 0):=(L0b (a:=⟨W.heap.size+1+1,1,none⟩) xa).trans Q9;have d2:w1.cell? ⟨W.heap.size+1+1,2,none⟩=some (.int .i64 0):=(L0b (a:=⟨W.heap.size+1+1,2,none⟩) xa).trans Q9
 have d3:w1.cell? ⟨W.heap.size+1+1,3,none⟩=some (.int .i64 0):=(L0b (a:=⟨W.heap.size+1+1,3,none⟩) xa).trans Q9;have ya:w1.frozen? ⟨W.heap.size+1+1,0,none⟩=false:=(L0c (a:=⟨W.heap.size+1+1,0,none⟩) xa).trans Q9;have yc:w1.frozen? ⟨W.heap.size+1+1,1,none⟩=false:=(L0c (a:=⟨W.heap.size+1+1,1,none⟩) xa).trans Q9;have yb:w1.frozen? ⟨W.heap.size+1+1,2,none⟩=false:=(L0c (a:=⟨W.heap.size+1+1,2,none⟩) xa).trans Q9
 have xz:w1.frozen? ⟨W.heap.size+1+1,3,none⟩=false:=(L0c (a:=⟨W.heap.size+1+1,3,none⟩) xa).trans Q9;have yd:W.heap.size+1+1+1 < w1.heap.size:=L0a R5 xd.size;have xt:xb (W.heap.size+1+1)=none:=by rw [xd.old _ R4];exact xe.out _ R4
 have xu:Hid (A2 own W xb w1):=hid (((aH.of_below P4).trans (aH.mono xd R4)).touched);have xg:W.heap.size+1+1 < w1.heap.size:=by omega
 have xk:W.heap.size+1+1 < w1.heap.size+1:=by omega
 have xl:W.heap.size+1+1 < w1.heap.size+1+1:=by omega
 have xf:W.heap.size+1+1 < w1.heap.size+1+1+1:=by omega
 have xq:=hid xn;have xx:=hid hsl;have xo:=hid xr;have xv:=hid xt;clear xn hsl xr xt xd xa;go_wp2_with (go_at_call 220;refine (L9 _ _ (2,(R.ths.length:Int)) _ hpc).mono ?_;rintro e w' ⟨rfl,rfl⟩)
 refine bodyPost_ret (v:=.agg #[.int .i64 0,.slice (some ⟨w1.heap.size+1+1+1,0,none⟩) 1 1,.int .i64 ((pc:Int)+1),.int .i64 0]) (by simp [results,results181,go_sem,d0,d1,d2,d3,xg,xk,xl,xf]) rfl ?_;obtain⟨hF,hT⟩:=aY HH.out (fun b o e=>by obtain ⟨q,e'⟩:=xo.out b o e;exact (HH.out.dro b q e').1) xq.out xu.out (W.heap.size+1+1) R4 xv.out (.int .i64 0) (.slice (some ⟨w1.heap.size+1+1+1,0,none⟩) 1 1) (.int .i64 ((pc:Int)+1)) (.int .i64 0)
 refine⟨xb,_,some ⟨w1.heap.size+1+1+1,0,none⟩,1,rfl,hF.same (L3a (L3a (L3a (L3a (L3b _ _) (L1c _) _) Q2 _) Q2 _) Q2 _),⟨_,hv,da,dc,j',xw,xx.out,rfl,xo.out⟩,hT.trans (A2.of_below (L3a (L3a (L3a (L3a (L3b _ _) (L1c _) _) Q2 _) Q2 _) Q2 _)),⟨rfl,L4b ⟨w1.heap.size+1+1+1,1,#[.int .u8 2,.int .i64 (R.ths.length:Int)],rfl,by omega,B1 R5,L1c _,by decide,rfl,rfl⟩⟩,fun b hb=>?_⟩
 obtain rfl:w1.heap.size+1+1+1=b:=by simpa [Value.ownBlock] using hb
 cases e:xb (w1.heap.size+1+1+1) with
 | none=>rfl
 | some t=>have:=xq.out.lt _ t e;omega
theorem tT (h:A8 W own mb g R) (hb:fD R) (hr:bX R) (hs:zY R) (n:Nat) (a:Int) (pc:Nat) (hpc:pc<=1000) (hn:n<=12) (hc1:1<=R.cap) (hcap:R.cap<=1000) (hfull:¬R.cap<=(A1 R.abs).length) {j:Nat} {dr:List Int} (hsl:aM R.cap ((K1 R).map ThR.slot) R.dr=some (j,dr)) :
  Calls prog 181 #[.pointer (some ⟨mb,0,none⟩),.agg #[.int .i64 17,.int .i64 a],.int .i64 (pc:Int),.agg #[.int .u8 1,.int .i64 (n:Int)]] W fun e w'=>J6 own mb g (gP R 2 (List.replicate n (0,0))) 1 [(2,(R.ths.length:Int))] ((pc:Int)+1) 0 W e w':=by
 have xc:∀k,W.heap.size<=k->own k=none:=fun k hk=>by
  cases e:own k with
  | none=>rfl
  | some t=>have:=h.lt k t e;omega
 have xh:Hid (∀(U:World),L0d W U->W.heap.size+1+1+1 < U.heap.size->U.ownsRow 0 92 2 (.slice (some ⟨W.heap.size+1+1+1,0,none⟩) n n) n (A5 (List.replicate n (0,0)))->Calls prog 219 #[.pointer (some ⟨mb,0,none⟩),.int .u8 2,.slice (some ⟨W.heap.size+1+1+1,0,none⟩) n n] U fun e w'=>a1X (W.heap.size+1+1+1) own mb g R 2 (.slice (some ⟨W.heap.size+1+1+1,0,none⟩) n n) (List.replicate n (0,0)) U e w'):=hid fun U hU hlt hrow=>lX (h.same hU) hb hr hs 2 _ (List.replicate n (0,0)) hc1 hcap hfull (by simpa using hrow) (fun b hb'=>by
   obtain rfl:W.heap.size+1+1+1=b:=by simpa [Value.ownBlock] using hb'
   exact⟨xc _ R4,fun k hk e=>by have:=h.pg.blk_lt hk;omega,by omega⟩) (fun b o e hb'=>by
   obtain rfl:W.heap.size+1+1+1=b:=by simpa [Value.ownBlock] using hb'
   have:=(h.dro _ o e).1;omega) R4 (fun b hb'=>by
   obtain rfl:W.heap.size+1+1+1=b:=by simpa [Value.ownBlock] using hb'
   exact L1c _) hsl
 have HH:=hid h;have xe:=hid xc;obtain⟨xj,hi,hz,xs,xm⟩:=info_parts I2;have xp:Hid (∀W:World,(Instr.makeSlice 84 (.int .i64 (n:Int)) (.int .i64 (n:Int))).run prog W=.ok (.slice (some ⟨W.heap.size,0,none⟩) n n) (W.alloc (.cells (madeCells #[.int .u8 0,.int .i64 0] (n*2)) 92))):=by
  intro W;have hr:=run_make (P:=prog) W 84 92 xj _ underlying84 hi hz .i64 .i64 n n R4 (Int.le_refl _) (by rw [xm];omega) R4;simpa [xs,Value.cells] using hr
 have xy:=xp.out;clear hi hz xs xm xp;have xi:Hid (∀(X:World) (k:Nat),X.heap.size=k->(X.alloc (Obj.cells (madeCells #[.int .u8 0,.int .i64 0] (n*2)) 92)).ownsRow 0 92 2 (.slice (some ⟨k,0,none⟩) n n) n (A5 (List.replicate n (0,0)))):=hid fun X k hk=>by
  subst hk;have:=World.ownsRow_lit (base:=0) (e:=92) (size:=2) X (madeCells #[.int .u8 0,.int .i64 0] (n*2)) n (L4c _) Q5 (by rw [size_madeCells]);rwa [V7] at this
 clear h hb hr hs hsl xc;go_enter func181,ntmps181;go_wp2_with fail;refine (xh.out _ P4 R5 (xi.out _ _ R5)).mono ?_;rintro e w1 ⟨xb,hv,da,dc,j',xw,hsl,rfl,xn,xd,xr⟩
 have xa:=xd.block (W.heap.size+1+1) R4 (xe.out _ R4);have d0:w1.cell? ⟨W.heap.size+1+1,0,none⟩=some (.int .i64 0):=(L0b (a:=⟨W.heap.size+1+1,0,none⟩) xa).trans Q9;have d1:w1.cell? ⟨W.heap.size+1+1,1,none⟩=some (.slice none 0 0):=(L0b (a:=⟨W.heap.size+1+1,1,none⟩) xa).trans Q9;have d2:w1.cell? ⟨W.heap.size+1+1,2,none⟩=some (.int .i64 0):=(L0b (a:=⟨W.heap.size+1+1,2,none⟩) xa).trans Q9
 have d3:w1.cell? ⟨W.heap.size+1+1,3,none⟩=some (.int .i64 0):=(L0b (a:=⟨W.heap.size+1+1,3,none⟩) xa).trans Q9;have ya:w1.frozen? ⟨W.heap.size+1+1,0,none⟩=false:=(L0c (a:=⟨W.heap.size+1+1,0,none⟩) xa).trans Q9;have yc:w1.frozen? ⟨W.heap.size+1+1,1,none⟩=false:=(L0c (a:=⟨W.heap.size+1+1,1,none⟩) xa).trans Q9;have yb:w1.frozen? ⟨W.heap.size+1+1,2,none⟩=false:=(L0c (a:=⟨W.heap.size+1+1,2,none⟩) xa).trans Q9
 have xz:w1.frozen? ⟨W.heap.size+1+1,3,none⟩=false:=(L0c (a:=⟨W.heap.size+1+1,3,none⟩) xa).trans Q9;have yd:W.heap.size+1+1+1 < w1.heap.size:=L0a R5 xd.size;have xt:xb (W.heap.size+1+1)=none:=by rw [xd.old _ R4];exact xe.out _ R4
 have xu:Hid (A2 own W xb w1):=hid (((aH.of_below P4).trans (aH.mono xd R4)).touched);have xg:W.heap.size+1+1 < w1.heap.size:=by omega
 have xk:W.heap.size+1+1 < w1.heap.size+1:=by omega
 have xl:W.heap.size+1+1 < w1.heap.size+1+1:=by omega
 have xf:W.heap.size+1+1 < w1.heap.size+1+1+1:=by omega
 have xq:=hid xn;have xx:=hid hsl;have xo:=hid xr;have xv:=hid xt;clear xn hsl xr xt xd xa;go_wp2_with (go_at_call 220;refine (L9 _ _ (2,(R.ths.length:Int)) _ hpc).mono ?_;rintro e w' ⟨rfl,rfl⟩)
 refine bodyPost_ret (v:=.agg #[.int .i64 1,.slice (some ⟨w1.heap.size+1+1+1,0,none⟩) 1 1,.int .i64 ((pc:Int)+1),.int .i64 0]) (by simp [results,results181,go_sem,d0,d1,d2,d3,xg,xk,xl,xf]) rfl ?_;obtain⟨hF,hT⟩:=aY HH.out (fun b o e=>by obtain ⟨q,e'⟩:=xo.out b o e;exact (HH.out.dro b q e').1) xq.out xu.out (W.heap.size+1+1) R4 xv.out (.int .i64 1) (.slice (some ⟨w1.heap.size+1+1+1,0,none⟩) 1 1) (.int .i64 ((pc:Int)+1)) (.int .i64 0)
 refine⟨xb,_,some ⟨w1.heap.size+1+1+1,0,none⟩,1,rfl,hF.same (L3a (L3a (L3a (L3a (L3b _ _) (L1c _) _) Q2 _) Q2 _) Q2 _),⟨_,hv,da,dc,j',xw,xx.out,rfl,xo.out⟩,hT.trans (A2.of_below (L3a (L3a (L3a (L3a (L3b _ _) (L1c _) _) Q2 _) Q2 _) Q2 _)),⟨rfl,L4b ⟨w1.heap.size+1+1+1,1,#[.int .u8 2,.int .i64 (R.ths.length:Int)],rfl,by omega,B1 R5,L1c _,by decide,rfl,rfl⟩⟩,fun b hb=>?_⟩
 obtain rfl:w1.heap.size+1+1+1=b:=by simpa [Value.ownBlock] using hb
 cases e:xb (w1.heap.size+1+1+1) with
 | none=>rfl
 | some t=>have:=xq.out.lt _ t e;omega
end
end Go.Proofs.YtbkmgoffiigdbaaGreatDoor
