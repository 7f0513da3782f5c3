import Derived.Test.YtbkmgoffiigdbaaGreatDoorWBf
namespace Go.Proofs.YtbkmgoffiigdbaaGreatDoor
open Go.RowKit Go.Sort Go.Proofs.Tryz
set_option maxHeartbeats 2000000
set_option maxRecDepth 100000
section
variable {R:RfR} {W:World} {g:PgR} {mb:Nat} {own:Own}
theorem qQ (h:A8 W own mb g R) (hb:fD R) (hr:bX R) (i:Nat) (a:Int) (pc:Nat)  (hfull:R.cap<=(A1 R.abs).length) :
  Calls prog 181 #[.pointer (some ⟨mb,0,none⟩),.agg #[.int .i64 18,.int .i64 a],.int .i64 (pc:Int),.agg #[.int .u8 2,.int .i64 (i:Int)]] W fun e w'=>C2 0 [] 0 6 W e w':=by
 have xd:Hid (∀(U:World) (fv:Value),L0d W U->Calls prog 219 #[.pointer (some ⟨mb,0,none⟩),.int .u8 3,fv] U fun e w'=>e=.returned (.tuple #[.agg #[.int .u8 0,.int .i64 0],.bool false])/\L0d U w'):=hid fun U fv hU=>lW (h.same hU) hb hr 3 fv hfull
 have xk:∀W:World,(Instr.makeSlice 84 (.int .i64 1) (.int .i64 1)).run prog W=.ok (.slice (some ⟨W.heap.size,0,none⟩) 1 1) (W.alloc (.cells #[.int .u8 0,.int .i64 0] 92)):=by
  intro W;obtain⟨xe,hi,hz,xi,xg⟩:=info_parts I2;have hr:=run_make (P:=prog) W 84 92 xe _ underlying84 hi hz .i64 .i64 1 1 R4 (Int.le_refl _) (by rw [xg];omega) R4;have e:madeCells #[.int .u8 0,.int .i64 0] (1*2)=#[Value.int .u8 0,Value.int .i64 0]:=(jI 1).trans rfl;simpa [xi,Value.cells,e] using hr
 clear h hb hr;go_enter func181,ntmps181;go_wp2_with fail;refine (xd.out _ _ P4).mono ?_;rintro e w1 ⟨rfl,xb⟩;have xa:=xb.block (W.heap.size+1+1) R5;have d0:w1.cell? ⟨W.heap.size+1+1,0,none⟩=some (.int .i64 0):=(L0b (a:=⟨W.heap.size+1+1,0,none⟩) xa).trans Q9
 have d1:w1.cell? ⟨W.heap.size+1+1,1,none⟩=some (.slice none 0 0):=(L0b (a:=⟨W.heap.size+1+1,1,none⟩) xa).trans Q9;have d2:w1.cell? ⟨W.heap.size+1+1,2,none⟩=some (.int .i64 0):=(L0b (a:=⟨W.heap.size+1+1,2,none⟩) xa).trans Q9;have d3:w1.cell? ⟨W.heap.size+1+1,3,none⟩=some (.int .i64 0):=(L0b (a:=⟨W.heap.size+1+1,3,none⟩) xa).trans Q9
 have xm:w1.frozen? ⟨W.heap.size+1+1,0,none⟩=false:=(L0c (a:=⟨W.heap.size+1+1,0,none⟩) xa).trans Q9;have xo:w1.frozen? ⟨W.heap.size+1+1,1,none⟩=false:=(L0c (a:=⟨W.heap.size+1+1,1,none⟩) xa).trans Q9;have xn:w1.frozen? ⟨W.heap.size+1+1,2,none⟩=false:=(L0c (a:=⟨W.heap.size+1+1,2,none⟩) xa).trans Q9;have xl:w1.frozen? ⟨W.heap.size+1+1,3,none⟩=false:=(L0c (a:=⟨W.heap.size+1+1,3,none⟩) xa).trans Q9
 have xp:W.heap.size+1+1+1 < w1.heap.size:=L0a R5 xb.size;have xh:Hid (L0d W w1):=hid (C5 xb P4 Q2);have xc:W.heap.size+1+1 < w1.heap.size:=by omega
 have xf:W.heap.size+1+1 < w1.heap.size+1:=by omega
 have xj:W.heap.size+1+1 < w1.heap.size+1+1:=by omega
 clear xb xa;go_wp2_with (go_at_call 218;refine (B5 _ _).mono ?_;rintro e w' ⟨rfl,rfl⟩)
 refine bodyPost_ret (v:=.agg #[.int .i64 0,.slice none 0 0,.int .i64 0,.int .i64 6]) (by simp [results,results181,go_sem,d0,d1,d2,d3,xc,xf]) rfl ?_;exact⟨none,0,rfl,(by repeat (first | refine Below.setCell ?_ Q1 _ | refine L3a ?_ Q1 _ | exact xh.out)),B8 _ _⟩
theorem xQ (h:A8 W own mb g R) (hb:fD R) (hr:bX R) (hs:zY R) (i:Nat) (a:Int) (pc:Nat) (hpc:pc<=1000)  (hc1:1<=R.cap) (hcap:R.cap<=1000) (hfull:¬R.cap<=(A1 R.abs).length) {j:Nat} {dr:List Int} (hsl:aM R.cap ((K1 R).map ThR.slot) R.dr=some (j,dr)) :
  Calls prog 181 #[.pointer (some ⟨mb,0,none⟩),.agg #[.int .i64 18,.int .i64 a],.int .i64 (pc:Int),.agg #[.int .u8 2,.int .i64 (i:Int)]] W fun e w'=>J6 own mb g (gP R 3 [(2,(i:Int))]) 1 [(2,(R.ths.length:Int))] ((pc:Int)+1) 0 W e w':=by
 have xc:∀k,W.heap.size<=k->own k=none:=fun k hk=>by
  cases e:own k with
  | none=>rfl
  | some t=>have:=h.lt k t e;omega
 have xh:Hid (∀(U:World),L0d W U->W.heap.size+1+1+1 < U.heap.size->U.ownsRow 0 92 2 (.slice (some ⟨W.heap.size+1+1+1,0,none⟩) 1 1) 1 (A5 [(2,(i:Int))])->Calls prog 219 #[.pointer (some ⟨mb,0,none⟩),.int .u8 3,.slice (some ⟨W.heap.size+1+1+1,0,none⟩) 1 1] U fun e w'=>a1X (W.heap.size+1+1+1) own mb g R 3 (.slice (some ⟨W.heap.size+1+1+1,0,none⟩) 1 1) [(2,(i:Int))] U e w'):=hid fun U hU hlt hrow=>lX (h.same hU) hb hr hs 3 _ [(2,(i:Int))] hc1 hcap hfull (by simpa using hrow) (fun b hb'=>by
   obtain rfl:W.heap.size+1+1+1=b:=by simpa [Value.ownBlock] using hb'
   exact⟨xc _ R4,fun k hk e=>by have:=h.pg.blk_lt hk;omega,by omega⟩) (fun b o e hb'=>by
   obtain rfl:W.heap.size+1+1+1=b:=by simpa [Value.ownBlock] using hb'
   have:=(h.dro _ o e).1;omega) R4 (fun b hb'=>by
   obtain rfl:W.heap.size+1+1+1=b:=by simpa [Value.ownBlock] using hb'
   exact L1c _) hsl
 have HH:=hid h;have xe:=hid xc;have xx:∀W:World,(Instr.makeSlice 84 (.int .i64 1) (.int .i64 1)).run prog W=.ok (.slice (some ⟨W.heap.size,0,none⟩) 1 1) (W.alloc (.cells #[.int .u8 0,.int .i64 0] 92)):=by
  intro W;obtain⟨xj,hi,hz,xu,xs⟩:=info_parts I2;have hr:=run_make (P:=prog) W 84 92 xj _ underlying84 hi hz .i64 .i64 1 1 R4 (Int.le_refl _) (by rw [xs];omega) R4;have e:madeCells #[.int .u8 0,.int .i64 0] (1*2)=#[Value.int .u8 0,Value.int .i64 0]:=(jI 1).trans rfl;simpa [xu,Value.cells,e] using hr
 have xi:Hid (∀(X:World) (k:Nat),X.heap.size=k->(X.alloc (Obj.cells #[.int .u8 2,.int .i64 (i:Int)] 92)).ownsRow 0 92 2 (.slice (some ⟨k,0,none⟩) 1 1) 1 (A5 [(2,(i:Int))])):=hid fun X k hk=>⟨rfl,L4b ⟨k,1,#[.int .u8 2,.int .i64 (i:Int)],rfl,L4c _,by subst hk;exact B1 R5,L1c _,by decide,rfl,rfl⟩⟩
 clear h hb hr hs hsl xc;go_enter func181,ntmps181;go_wp2_with fail;refine (xh.out _ P4 R5 (xi.out _ _ R5)).mono ?_;rintro e w1 ⟨xb,hv,da,dc,j',xv,hsl,rfl,xm,xd,xp⟩
 have xa:=xd.block (W.heap.size+1+1) R4 (xe.out _ R4);have d0:w1.cell? ⟨W.heap.size+1+1,0,none⟩=some (.int .i64 0):=(L0b (a:=⟨W.heap.size+1+1,0,none⟩) xa).trans Q9;have d1:w1.cell? ⟨W.heap.size+1+1,1,none⟩=some (.slice none 0 0):=(L0b (a:=⟨W.heap.size+1+1,1,none⟩) xa).trans Q9;have d2:w1.cell? ⟨W.heap.size+1+1,2,none⟩=some (.int .i64 0):=(L0b (a:=⟨W.heap.size+1+1,2,none⟩) xa).trans Q9
 have d3:w1.cell? ⟨W.heap.size+1+1,3,none⟩=some (.int .i64 0):=(L0b (a:=⟨W.heap.size+1+1,3,none⟩) xa).trans Q9;have xz:w1.frozen? ⟨W.heap.size+1+1,0,none⟩=false:=(L0c (a:=⟨W.heap.size+1+1,0,none⟩) xa).trans Q9;have yb:w1.frozen? ⟨W.heap.size+1+1,1,none⟩=false:=(L0c (a:=⟨W.heap.size+1+1,1,none⟩) xa).trans Q9;have ya:w1.frozen? ⟨W.heap.size+1+1,2,none⟩=false:=(L0c (a:=⟨W.heap.size+1+1,2,none⟩) xa).trans Q9
 have xy:w1.frozen? ⟨W.heap.size+1+1,3,none⟩=false:=(L0c (a:=⟨W.heap.size+1+1,3,none⟩) xa).trans Q9;have yc:W.heap.size+1+1+1 < w1.heap.size:=L0a R5 xd.size;have xq:xb (W.heap.size+1+1)=none:=by rw [xd.old _ R4];exact xe.out _ R4
 have xr:Hid (A2 own W xb w1):=hid (((aH.of_below P4).trans (aH.mono xd R4)).touched);have xg:W.heap.size+1+1 < w1.heap.size:=by omega
 have xk:W.heap.size+1+1 < w1.heap.size+1:=by omega
 have xl:W.heap.size+1+1 < w1.heap.size+1+1:=by omega
 have xf:W.heap.size+1+1 < w1.heap.size+1+1+1:=by omega
 have xo:=hid xm;have xw:=hid hsl;have xn:=hid xp;have xt:=hid xq;clear xm hsl xp xq xd xa;go_wp2_with (go_at_call 220;refine (L9 _ _ (2,(R.ths.length:Int)) _ hpc).mono ?_;rintro e w' ⟨rfl,rfl⟩)
 refine bodyPost_ret (v:=.agg #[.int .i64 1,.slice (some ⟨w1.heap.size+1+1+1,0,none⟩) 1 1,.int .i64 ((pc:Int)+1),.int .i64 0]) (by simp [results,results181,go_sem,d0,d1,d2,d3,xg,xk,xl,xf]) rfl ?_;obtain⟨hF,hT⟩:=aY HH.out (fun b o e=>by obtain ⟨q,e'⟩:=xn.out b o e;exact (HH.out.dro b q e').1) xo.out xr.out (W.heap.size+1+1) R4 xt.out (.int .i64 1) (.slice (some ⟨w1.heap.size+1+1+1,0,none⟩) 1 1) (.int .i64 ((pc:Int)+1)) (.int .i64 0)
 refine⟨xb,_,some ⟨w1.heap.size+1+1+1,0,none⟩,1,rfl,hF.same (L3a (L3a (L3a (L3a (L3b _ _) (L1c _) _) Q2 _) Q2 _) Q2 _),⟨_,hv,da,dc,j',xv,xw.out,rfl,xn.out⟩,hT.trans (A2.of_below (L3a (L3a (L3a (L3a (L3b _ _) (L1c _) _) Q2 _) Q2 _) Q2 _)),⟨rfl,L4b ⟨w1.heap.size+1+1+1,1,#[.int .u8 2,.int .i64 (R.ths.length:Int)],rfl,by omega,B1 R5,L1c _,by decide,rfl,rfl⟩⟩,fun b hb=>?_⟩
 obtain rfl:w1.heap.size+1+1+1=b:=by simpa [Value.ownBlock] using hb
 cases e:xb (w1.heap.size+1+1+1) with
 | none=>rfl
 | some t=>have:=xo.out.lt _ t e;omega
end
end Go.Proofs.YtbkmgoffiigdbaaGreatDoor
