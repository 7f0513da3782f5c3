import Derived.Test.YtbkmgoffiigdbaaGreatDoorVBe
namespace Go.Proofs.YtbkmgoffiigdbaaGreatDoor
open Go.RowKit Go.Sort Go.Proofs.Tryz
set_option maxHeartbeats 2000000
set_option maxRecDepth 100000
section
variable {R:RfR} {W:World} {g:PgR} {mb:Nat} {own:Own}
theorem aO.mono {B C:Nat} {own':Own} {w w':World} (h:aO B own w own' w') (hC:C<=B):aO C own w own' w':=⟨h.os,h.tape,h.output,h.size,fun k hk=>h.block k (L0a hk hC),fun k hk=>h.old k (L0a hk hC)⟩
theorem qV (h:A8 W own mb g R) (hb:fI R) (hr:cI R) (hs:a0a R) (n:Nat) (x:Val) (pc:Nat) (hpc:pc<=1000) (hn:n<=8) (hc1:1<=R.cap) (hcap:R.cap<=1000) (hfull:¬R.cap<=(A1 R.abs).length) {j:Nat} {dr:List Int} (hsl:aS R.cap ((J9 R).map ThR.slot) R.dr=some (j,dr)) :
  Calls prog 181 #[.pointer (some ⟨mb,0,none⟩),.agg #[.int .i64 16,.int .i64 (n:Int)],.int .i64 (pc:Int),.agg #[.int .u8 x.1,.int .i64 x.2]] W fun e w'=>J3 own mb g (gP R 1 (List.replicate n (0,0))) 0 [(2,(R.ths.length:Int))] ((pc:Int)+1) 0 W e w':=by
 have xc:∀k,W.heap.size<=k->own k=none:=fun k hk=>by
  cases e:own k with
  | none=>rfl
  | some t=>have:=h.lt k t e;omega
 have xh:Hid (∀(U:World),Below W.heap.size W U->W.heap.size+1+1+1 < U.heap.size->U.ownsRow 0 92 2 (.slice (some ⟨W.heap.size+1+1+1,0,none⟩) n n) n (A5 (List.replicate n (0,0)))->Calls prog 219 #[.pointer (some ⟨mb,0,none⟩),.int .u8 1,.slice (some ⟨W.heap.size+1+1+1,0,none⟩) n n] U fun e w'=>a1U (W.heap.size+1+1+1) own mb g R 1 (.slice (some ⟨W.heap.size+1+1+1,0,none⟩) n n) (List.replicate n (0,0)) U e w'):=hid fun U hU hlt hrow=>mB (h.same hU) hb hr hs 1 _ (List.replicate n (0,0)) hc1 hcap hfull (by simpa using hrow) (fun b hb'=>by
   obtain rfl:W.heap.size+1+1+1=b:=by simpa [Value.ownBlock] using hb'
   exact⟨xc _ R4,fun k hk e=>by have:=h.pg.blk_lt hk;omega,by omega⟩) (fun b o e hb'=>by
   obtain rfl:W.heap.size+1+1+1=b:=by simpa [Value.ownBlock] using hb'
   have:=(h.dro _ o e).1;omega) R4 (fun b hb'=>by
   obtain rfl:W.heap.size+1+1+1=b:=by simpa [Value.ownBlock] using hb'
   exact L1c _) hsl
 have HH:=hid h;have xe:=hid xc;obtain⟨xg,hi,hz,xq,xt⟩:=info_parts I5;have xm:Hid (∀W:World,(Instr.makeSlice 84 (.int .i64 (n:Int)) (.int .i64 (n:Int))).run prog W=.ok (.slice (some ⟨W.heap.size,0,none⟩) n n) (W.alloc (.cells (madeCells #[.int .u8 0,.int .i64 0] (n*2)) 92))):=by
  intro W;have hr:=run_make (P:=prog) W 84 92 xg _ underlying84 hi hz .i64 .i64 n n R4 (Int.le_refl _) (by rw [xt];omega) R4;simpa [xq,Value.cells] using hr
 have yb:=xm.out;clear hi hz xq xt xm;have xj:Hid (∀(X:World) (k:Nat),X.heap.size=k->(X.alloc (Obj.cells (madeCells #[.int .u8 0,.int .i64 0] (n*2)) 92)).ownsRow 0 92 2 (.slice (some ⟨k,0,none⟩) n n) n (A5 (List.replicate n (0,0)))):=hid fun X k hk=>by
  subst hk;have:=World.ownsRow_lit (base:=0) (e:=92) (size:=2) X (madeCells #[.int .u8 0,.int .i64 0] (n*2)) n (Nat.zero_le _) Q5 (by rw [size_madeCells]);rwa [W7] at this
 clear h hb hr hs hsl xc;go_enter func181,ntmps181;go_wp2_with fail;refine (xh.out _ P4 R5 (xj.out _ _ R5)).mono ?_;rintro e w1 ⟨xa,hv,da,dc,j',xv,hsl,rfl,xs,xd,xo⟩
 have xb:=xd.block (W.heap.size+1+1) R4 (xe.out _ R4);have d0:w1.cell? ⟨W.heap.size+1+1,0,none⟩=some (.int .i64 0):=(L0b (a:=⟨W.heap.size+1+1,0,none⟩) xb).trans Q9;have d1:w1.cell? ⟨W.heap.size+1+1,1,none⟩=some (.slice none 0 0):=(L0b (a:=⟨W.heap.size+1+1,1,none⟩) xb).trans Q9;have d2:w1.cell? ⟨W.heap.size+1+1,2,none⟩=some (.int .i64 0):=(L0b (a:=⟨W.heap.size+1+1,2,none⟩) xb).trans Q9
 have d3:w1.cell? ⟨W.heap.size+1+1,3,none⟩=some (.int .i64 0):=(L0b (a:=⟨W.heap.size+1+1,3,none⟩) xb).trans Q9;have yd:w1.frozen? ⟨W.heap.size+1+1,0,none⟩=false:=(L0c (a:=⟨W.heap.size+1+1,0,none⟩) xb).trans Q9;have ya:w1.frozen? ⟨W.heap.size+1+1,1,none⟩=false:=(L0c (a:=⟨W.heap.size+1+1,1,none⟩) xb).trans Q9;have xz:w1.frozen? ⟨W.heap.size+1+1,2,none⟩=false:=(L0c (a:=⟨W.heap.size+1+1,2,none⟩) xb).trans Q9
 have xy:w1.frozen? ⟨W.heap.size+1+1,3,none⟩=false:=(L0c (a:=⟨W.heap.size+1+1,3,none⟩) xb).trans Q9;have yc:W.heap.size+1+1+1 < w1.heap.size:=L0a R5 xd.size;have xp:xa (W.heap.size+1+1)=none:=by rw [xd.old _ R4];exact xe.out _ R4
 have xx:Hid (A2 own W xa w1):=hid (((aO.of_below P4).trans (aO.mono xd R4)).touched);have xi:W.heap.size+1+1 < w1.heap.size:=by omega
 have xf:W.heap.size+1+1 < w1.heap.size+1:=by omega
 have xk:W.heap.size+1+1 < w1.heap.size+1+1:=by omega
 have xl:W.heap.size+1+1 < w1.heap.size+1+1+1:=by omega
 have xn:=hid xs;have xw:=hid hsl;have xr:=hid xo;have xu:=hid xp;clear xs hsl xo xp xd xb;go_wp2_with (go_at_call 220;refine (L6 _ _ (2,(R.ths.length:Int)) _ hpc).mono ?_;rintro e w' ⟨rfl,rfl⟩)
 refine bodyPost_ret (v:=.agg #[.int .i64 0,.slice (some ⟨w1.heap.size+1+1+1,0,none⟩) 1 1,.int .i64 ((pc:Int)+1),.int .i64 0]) (by simp [results,results181,go_sem,d0,d1,d2,d3,xi,xf,xk,xl]) rfl ?_;obtain⟨hF,hT⟩:=bE HH.out (fun b o e=>by obtain ⟨q,e'⟩:=xr.out b o e;exact (HH.out.dro b q e').1) xn.out xx.out (W.heap.size+1+1) R4 xu.out (.int .i64 0) (.slice (some ⟨w1.heap.size+1+1+1,0,none⟩) 1 1) (.int .i64 ((pc:Int)+1)) (.int .i64 0)
 refine⟨xa,_,some ⟨w1.heap.size+1+1+1,0,none⟩,1,rfl,hF.same (Below.alloc (Below.alloc (Below.alloc (Below.alloc (Below.refl _ _) (L1c _) _) Q2 _) Q2 _) Q2 _),⟨_,hv,da,dc,j',xv,xw.out,rfl,xr.out⟩,hT.trans (A2.of_below (Below.alloc (Below.alloc (Below.alloc (Below.alloc (Below.refl _ _) (L1c _) _) Q2 _) Q2 _) Q2 _)),⟨rfl,Or.inr ⟨w1.heap.size+1+1+1,1,#[.int .u8 2,.int .i64 (R.ths.length:Int)],rfl,by omega,B1 R5,L1c _,by decide,rfl,rfl⟩⟩,fun b hb=>?_⟩
 obtain rfl:w1.heap.size+1+1+1=b:=by simpa [Value.ownBlock] using hb
 cases e:xa (w1.heap.size+1+1+1) with
 | none=>rfl
 | some t=>have:=xn.out.lt _ t e;omega
theorem tW (h:A8 W own mb g R) (hb:fI R) (hr:cI R) (hs:a0a R) (n:Nat) (a:Int) (pc:Nat) (hpc:pc<=1000) (hn:n<=12) (hc1:1<=R.cap) (hcap:R.cap<=1000) (hfull:¬R.cap<=(A1 R.abs).length) {j:Nat} {dr:List Int} (hsl:aS R.cap ((J9 R).map ThR.slot) R.dr=some (j,dr)) :
  Calls prog 181 #[.pointer (some ⟨mb,0,none⟩),.agg #[.int .i64 17,.int .i64 a],.int .i64 (pc:Int),.agg #[.int .u8 1,.int .i64 (n:Int)]] W fun e w'=>J3 own mb g (gP R 2 (List.replicate n (0,0))) 1 [(2,(R.ths.length:Int))] ((pc:Int)+1) 0 W e w':=by
 have xc:∀k,W.heap.size<=k->own k=none:=fun k hk=>by
  cases e:own k with
  | none=>rfl
  | some t=>have:=h.lt k t e;omega
 have xh:Hid (∀(U:World),Below W.heap.size W U->W.heap.size+1+1+1 < U.heap.size->U.ownsRow 0 92 2 (.slice (some ⟨W.heap.size+1+1+1,0,none⟩) n n) n (A5 (List.replicate n (0,0)))->Calls prog 219 #[.pointer (some ⟨mb,0,none⟩),.int .u8 2,.slice (some ⟨W.heap.size+1+1+1,0,none⟩) n n] U fun e w'=>a1U (W.heap.size+1+1+1) own mb g R 2 (.slice (some ⟨W.heap.size+1+1+1,0,none⟩) n n) (List.replicate n (0,0)) U e w'):=hid fun U hU hlt hrow=>mB (h.same hU) hb hr hs 2 _ (List.replicate n (0,0)) hc1 hcap hfull (by simpa using hrow) (fun b hb'=>by
   obtain rfl:W.heap.size+1+1+1=b:=by simpa [Value.ownBlock] using hb'
   exact⟨xc _ R4,fun k hk e=>by have:=h.pg.blk_lt hk;omega,by omega⟩) (fun b o e hb'=>by
   obtain rfl:W.heap.size+1+1+1=b:=by simpa [Value.ownBlock] using hb'
   have:=(h.dro _ o e).1;omega) R4 (fun b hb'=>by
   obtain rfl:W.heap.size+1+1+1=b:=by simpa [Value.ownBlock] using hb'
   exact L1c _) hsl
 have HH:=hid h;have xe:=hid xc;obtain⟨xg,hi,hz,xq,xt⟩:=info_parts I5;have xm:Hid (∀W:World,(Instr.makeSlice 84 (.int .i64 (n:Int)) (.int .i64 (n:Int))).run prog W=.ok (.slice (some ⟨W.heap.size,0,none⟩) n n) (W.alloc (.cells (madeCells #[.int .u8 0,.int .i64 0] (n*2)) 92))):=by
  intro W;have hr:=run_make (P:=prog) W 84 92 xg _ underlying84 hi hz .i64 .i64 n n R4 (Int.le_refl _) (by rw [xt];omega) R4;simpa [xq,Value.cells] using hr
 have yb:=xm.out;clear hi hz xq xt xm;have xj:Hid (∀(X:World) (k:Nat),X.heap.size=k->(X.alloc (Obj.cells (madeCells #[.int .u8 0,.int .i64 0] (n*2)) 92)).ownsRow 0 92 2 (.slice (some ⟨k,0,none⟩) n n) n (A5 (List.replicate n (0,0)))):=hid fun X k hk=>by
  subst hk;have:=World.ownsRow_lit (base:=0) (e:=92) (size:=2) X (madeCells #[.int .u8 0,.int .i64 0] (n*2)) n (Nat.zero_le _) Q5 (by rw [size_madeCells]);rwa [W7] at this
 clear h hb hr hs hsl xc;go_enter func181,ntmps181;go_wp2_with fail;refine (xh.out _ P4 R5 (xj.out _ _ R5)).mono ?_;rintro e w1 ⟨xa,hv,da,dc,j',xv,hsl,rfl,xs,xd,xo⟩
 have xb:=xd.block (W.heap.size+1+1) R4 (xe.out _ R4);have d0:w1.cell? ⟨W.heap.size+1+1,0,none⟩=some (.int .i64 0):=(L0b (a:=⟨W.heap.size+1+1,0,none⟩) xb).trans Q9;have d1:w1.cell? ⟨W.heap.size+1+1,1,none⟩=some (.slice none 0 0):=(L0b (a:=⟨W.heap.size+1+1,1,none⟩) xb).trans Q9;have d2:w1.cell? ⟨W.heap.size+1+1,2,none⟩=some (.int .i64 0):=(L0b (a:=⟨W.heap.size+1+1,2,none⟩) xb).trans Q9
 have d3:w1.cell? ⟨W.heap.size+1+1,3,none⟩=some (.int .i64 0):=(L0b (a:=⟨W.heap.size+1+1,3,none⟩) xb).trans Q9;have yd:w1.frozen? ⟨W.heap.size+1+1,0,none⟩=false:=(L0c (a:=⟨W.heap.size+1+1,0,none⟩) xb).trans Q9;have ya:w1.frozen? ⟨W.heap.size+1+1,1,none⟩=false:=(L0c (a:=⟨W.heap.size+1+1,1,none⟩) xb).trans Q9;have xz:w1.frozen? ⟨W.heap.size+1+1,2,none⟩=false:=(L0c (a:=⟨W.heap.size+1+1,2,none⟩) xb).trans Q9
 have xy:w1.frozen? ⟨W.heap.size+1+1,3,none⟩=false:=(L0c (a:=⟨W.heap.size+1+1,3,none⟩) xb).trans Q9;have yc:W.heap.size+1+1+1 < w1.heap.size:=L0a R5 xd.size;have xp:xa (W.heap.size+1+1)=none:=by rw [xd.old _ R4];exact xe.out _ R4
 have xx:Hid (A2 own W xa w1):=hid (((aO.of_below P4).trans (aO.mono xd R4)).touched);have xi:W.heap.size+1+1 < w1.heap.size:=by omega
 have xf:W.heap.size+1+1 < w1.heap.size+1:=by omega
 have xk:W.heap.size+1+1 < w1.heap.size+1+1:=by omega
 have xl:W.heap.size+1+1 < w1.heap.size+1+1+1:=by omega
 have xn:=hid xs;have xw:=hid hsl;have xr:=hid xo;have xu:=hid xp;clear xs hsl xo xp xd xb;go_wp2_with (go_at_call 220;refine (L6 _ _ (2,(R.ths.length:Int)) _ hpc).mono ?_;rintro e w' ⟨rfl,rfl⟩)
 refine bodyPost_ret (v:=.agg #[.int .i64 1,.slice (some ⟨w1.heap.size+1+1+1,0,none⟩) 1 1,.int .i64 ((pc:Int)+1),.int .i64 0]) (by simp [results,results181,go_sem,d0,d1,d2,d3,xi,xf,xk,xl]) rfl ?_;obtain⟨hF,hT⟩:=bE HH.out (fun b o e=>by obtain ⟨q,e'⟩:=xr.out b o e;exact (HH.out.dro b q e').1) xn.out xx.out (W.heap.size+1+1) R4 xu.out (.int .i64 1) (.slice (some ⟨w1.heap.size+1+1+1,0,none⟩) 1 1) (.int .i64 ((pc:Int)+1)) (.int .i64 0)
 refine⟨xa,_,some ⟨w1.heap.size+1+1+1,0,none⟩,1,rfl,hF.same (Below.alloc (Below.alloc (Below.alloc (Below.alloc (Below.refl _ _) (L1c _) _) Q2 _) Q2 _) Q2 _),⟨_,hv,da,dc,j',xv,xw.out,rfl,xr.out⟩,hT.trans (A2.of_below (Below.alloc (Below.alloc (Below.alloc (Below.alloc (Below.refl _ _) (L1c _) _) Q2 _) Q2 _) Q2 _)),⟨rfl,Or.inr ⟨w1.heap.size+1+1+1,1,#[.int .u8 2,.int .i64 (R.ths.length:Int)],rfl,by omega,B1 R5,L1c _,by decide,rfl,rfl⟩⟩,fun b hb=>?_⟩
 obtain rfl:w1.heap.size+1+1+1=b:=by simpa [Value.ownBlock] using hb
 cases e:xa (w1.heap.size+1+1+1) with
 | none=>rfl
 | some t=>have:=xn.out.lt _ t e;omega
end
end Go.Proofs.YtbkmgoffiigdbaaGreatDoor
