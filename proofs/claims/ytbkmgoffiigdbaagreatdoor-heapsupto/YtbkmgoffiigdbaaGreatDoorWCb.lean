import Derived.Test.YtbkmgoffiigdbaaGreatDoorWCa
namespace Go.Proofs.YtbkmgoffiigdbaaGreatDoor
open Go.RowKit Go.Sort Go.Proofs.Tryz
set_option maxHeartbeats 4000000
set_option maxRecDepth 100000
section
variable {W:World} {f:FrR} {fs:List FrR} {g:PgR} {mb:Nat} {own:Own}
theorem xE {R:RfR} (h:A8 W own mb g R) (hf:R.frs=fs++[f]) (h0:fs=[]) {rest:List Val} {x:Val} (hst:f.stk=rest++[x]) (hsn:f.stk.length<=1000) :
  Calls prog 138 #[.pointer (some ⟨mb,0,none⟩)] W fun e w'=>e=.returned (.int .i64 1)/\∃cv,A8 w' own mb g { R with cv:=cv,frs:=[] }/\A2 own W own w':=by
 have xt:=h.lt _ _ h.me;obtain⟨ca,cc,xb,xo,xm⟩:=Row.cells FrR.cells_len h.called;have xd:R.frs.length=fs.length+1:=by rw [hf];simp
 have xe:R.frs[fs.length]?=some f:=by rw [hf];simp
 obtain⟨cb,rfl,xv,xq,xr,xh⟩:=xm R4;have k3:=xh fs.length 3 f _ xe R3 rfl;have m4:=h.c4;rw[xb,xd] at m4;obtain⟨sa,sc,xf,xu,xg⟩:=(h.stk fs.length f xe).vals;have xj:f.stk.length=rest.length+1:=by rw [hst];simp
 obtain⟨sb,rfl,xs,xa⟩:=xg R4;obtain⟨x0,x1⟩:=xa rest.length x (by rw [hst];simp);rw[xf,xj] at k3;obtain⟨hM,xi⟩:=h.cutFrames hf xb;have HM:=hid hM;have xl:=hid xi;have HH:=hid h;have xx:=hid xb;have xw:=hid xd;have z4:=h.fz 4;have xc:fs.length<=cc:=by omega
 have xp:rest.length+1<=1000:=by omega
 subst h0;obtain⟨xk,xn⟩:=x;simp only[List.length_nil,Nat.zero_mul,Nat.zero_add] at m4 k3 x0 x1 HM xl xc;clear h hf hst xf xb xm xh xr xe xd hM xi xg xa xj hsn;go_enter func138,ntmps138;go_wp2_with fail;go_ret;exact⟨rfl,_,HM.out.same P4,xl.out.trans (A2.of_below P4)⟩
theorem a3g {R:RfR} {fs':List FrR} {c:FrR} (h:A8 W own mb g R) (hf:R.frs=fs++[f]) (hfs:fs=fs'++[c]) {rest:List Val} {x:Val} (hst:f.stk=rest++[x]) (hsn:f.stk.length<=1000) (hcn:c.stk.length<=1000) (hd:fs.length<=1000) (hpc:c.pc<=1000) :
  Calls prog 138 #[.pointer (some ⟨mb,0,none⟩)] W fun e w'=>e=.returned (.int .i64 0)/\∃own' cv sv,A8 w' own' mb g { R with cv:=cv,frs:=fs'++[{ c with pc:=c.pc+1,sv:=sv,stk:=c.stk++[x] }] }/\A2 own W own' w':=by
 have yt:=h.lt _ _ h.me;obtain⟨ca,cc,xh,yg,xz⟩:=Row.cells FrR.cells_len h.called;have xm:R.frs.length=fs.length+1:=by rw [hf];simp
 have xo:R.frs[fs.length]?=some f:=by rw [hf];simp
 obtain⟨cb,rfl,yn,xe,xi,xg⟩:=xz R4;have k3:=xg fs.length 3 f _ xo R3 rfl;have m4:=h.c4;rw[xh,xm] at m4;obtain⟨sa,sc,xx,ym,xs⟩:=(h.stk fs.length f xo).vals;have xq:f.stk.length=rest.length+1:=by rw [hst];simp
 obtain⟨sb,rfl,yx,xd⟩:=xs R4;obtain⟨x0,x1⟩:=xd rest.length x (by rw [hst];simp);rw[xx,xq] at k3;obtain⟨hM,xt⟩:=h.cutFrames hf xh;have HM:=hid hM;have xp:=hid xt;have HH:=hid h;have yv:=hid xh;have yu:=hid xm;have z4:=h.fz 4;have xl:fs.length<=cc:=by omega
 have yc:rest.length+1<=1000:=by omega
 have xb:fs.length=fs'.length+1:=by rw [hfs];simp
 have xf:R.frs[fs'.length]?=some c:=by rw [hf,hfs];simp
 have j3:=xg fs'.length 3 c _ xf R3 rfl;have j1:=xg fs'.length 1 c _ xf R3 rfl;have yo:=xi (fs'.length*4+3);have yr:=xi (fs'.length*4+1);obtain⟨ta,tc,xa,_,_⟩:=(h.stk fs'.length c xf).vals;have xu:Hid ((W.setCell ⟨mb,4,none⟩ (.slice (some ⟨cb,0,none⟩) fs.length cc)).ownsRow 0 92 2 (.slice ta c.stk.length tc) c.stk.length (A5 c.stk)):=hid (by
  have h9:=(hM.stk fs'.length c (by show fs[fs'.length]?=_;rw [hfs];simp)).1;rwa [xa] at h9)
 rw[xa] at j3;have xc:=hid xa;have xy:Hid (({ R with cv:=.slice (some ⟨cb,0,none⟩) fs.length cc,frs:=fs } : RfR).frs=fs'++[c]):=hid hfs;have yb:=hid xb;obtain⟨xj,hi,hz,ya,xr⟩:=info_parts I2;have HI:=hid hi;have HZ:=hid hz;have yd:=hid ya;have yf:=hid xr;obtain⟨xk,xn⟩:=x;simp only at x0 x1;rw[xb] at m4 k3 xl hd;have yz:(fs'.length:Int) < (fs'.length:Int)+1:=by omega
 have yl:(0:Int)<=(fs'.length:Int):=by omega
 have yj:((fs'.length:Int)+1 == 0)=false:=L2c.2 R4;have yq:IntKind.i64.wrap ((fs'.length:Int)+1 - 1)=(fs'.length:Int):=by rw [Go.IntWalk.i64_in _ R4];omega
 have yp:IntKind.i64.wrap (fs'.length:Int)=(fs'.length:Int):=Go.IntWalk.i64_in _ R4;have yi:cb≠mb:=fun e=>by rw [e,h.me] at xe;cases xe
 have ys:mb≠cb:=Ne.symm yi;have yh:mb < W.heap.size+1:=by omega
 have yk:cb < W.heap.size+1:=by omega
 rw[xb] at HM xp xu xy;clear h hf hfs hst xx xh xz xg xi xo xm hM xt xs xd xq hsn xa xf hi hz ya xr xb;go_enter func138,ntmps138;go_wp2_with fail;go_region_law ((refine L2 rfl (.tmp 51) (.tmp 53) 84 rfl 0 92 xj _ 2 16 underlying84 HI.out HZ.out yd.out yf.out rfl R3 (.slice ta c.stk.length tc) c.stk.length (A5 c.stk) Q3 (by repeat (first | exact xu.out | refine World.ownsRow.alloc ?_ _ | refine World.ownsRow.drew ?_)) _ 1 1 [.int .u8 xk,.int .i64 xn] Q3 rfl (fun _=>⟨_,rfl,World.news_of_block (cs:=#[.int .u8 xk,.int .i64 xn]) (t:=92) (fr:=(0,0)) (by first | exact B1 R5 | exact J7 R5)⟩) (by simp [Value.oneCell']) Q5 R4 (L4c _) ?_;intro v4 w4 hown4 hgrow4 hat4;obtain ⟨va,vc,ye,_⟩:=B4 hown4;subst ye;rw [<- xc.out] at hgrow4;obtain ⟨q1,q2,q3,q4,q5,q6,q7,q8,q9⟩:=a2d (cb:=cb) (cc:=cc) (x:=(xk,xn)) HM.out xy.out (by show Value.slice _ _ _=_;rw [yb.out]) P4 hgrow4 (by simpa [O4] using hown4) (fun b hb=>(hat4 b hb).elim (fun e=>L4a (by rw [xc.out];exact e)) (fun e=>L4b (by rw [e];first | (simp;done) | (simp;omega))));have xv:=(hid q8);have xw:=(hid q9);have za:=q6 (fs'.length*4+3);have yy:=q6 (fs'.length*4+1);have yw:w4.cell? ⟨mb,4,none⟩=some (.slice (some ⟨cb,0,none⟩) (fs'.length+1) cc):=q1;rw [xc.out] at q4;clear q1 q6 q8 q9))
 all_goals
  go_wp2_with fail;go_ret
  first | exact ⟨rfl,_,⟨_,_,xv.out⟩,xp.out.trans xw.out⟩ | exact ⟨rfl,_,_,_,xv.out,xp.out.trans xw.out⟩
end
end Go.Proofs.YtbkmgoffiigdbaaGreatDoor
