import Derived.Test.YtbkmgoffiigdbaaGreatDoorVCa
namespace Go.Proofs.YtbkmgoffiigdbaaGreatDoor
open Go.RowKit Go.Sort Go.Proofs.Tryz
set_option maxHeartbeats 4000000
set_option maxRecDepth 100000
section
variable {W:World} {f:FrR} {fs:List FrR} {g:PgR} {mb:Nat} {own:Own}
theorem xH {R:RfR} (h:A8 W own mb g R) (hf:R.frs=fs++[f]) (h0:fs=[]) {rest:List Val} {x:Val} (hst:f.stk=rest++[x]) (hsn:f.stk.length<=1000) :
  Calls prog 138 #[.pointer (some ⟨mb,0,none⟩)] W fun e w'=>e=.returned (.int .i64 1)/\∃cv,A8 w' own mb g { R with cv:=cv,frs:=[] }/\A2 own W own w':=by
 have xw:=h.lt _ _ h.me;obtain⟨ca,cc,xb,xp,xj⟩:=Row.cells FrR.cells_len h.called;have xd:R.frs.length=fs.length+1:=by rw [hf];simp
 have xe:R.frs[fs.length]?=some f:=by rw [hf];simp
 obtain⟨cb,rfl,xs,xr,xq,xh⟩:=xj R4;have k3:=xh fs.length 3 f _ xe R3 rfl;have m4:=h.c4;rw[xb,xd] at m4;obtain⟨sa,sc,xl,xx,xg⟩:=(h.stk fs.length f xe).vals;have xm:f.stk.length=rest.length+1:=by rw [hst];simp
 obtain⟨sb,rfl,xu,xa⟩:=xg R4;obtain⟨x0,x1⟩:=xa rest.length x (by rw [hst];simp);rw[xl,xm] at k3;obtain⟨hM,xf⟩:=h.cutFrames hf xb;have HM:=hid hM;have xi:=hid xf;have HH:=hid h;have xt:=hid xb;have xv:=hid xd;have z4:=h.fz 4;have xc:fs.length<=cc:=by omega
 have xo:rest.length+1<=1000:=by omega
 subst h0;obtain⟨xk,xn⟩:=x;simp only[List.length_nil,Nat.zero_mul,Nat.zero_add] at m4 k3 x0 x1 HM xi xc;clear h hf hst xl xb xj xh xq xe xd hM xf xg xa xm hsn;go_enter func138,ntmps138;go_wp2_with fail;go_ret;exact⟨rfl,_,HM.out.same P4,xi.out.trans (A2.of_below P4)⟩
theorem a3e {R:RfR} {fs':List FrR} {c:FrR} (h:A8 W own mb g R) (hf:R.frs=fs++[f]) (hfs:fs=fs'++[c]) {rest:List Val} {x:Val} (hst:f.stk=rest++[x]) (hsn:f.stk.length<=1000) (hcn:c.stk.length<=1000) (hd:fs.length<=1000) (hpc:c.pc<=1000) :
  Calls prog 138 #[.pointer (some ⟨mb,0,none⟩)] W fun e w'=>e=.returned (.int .i64 0)/\∃own' cv sv,A8 w' own' mb g { R with cv:=cv,frs:=fs'++[{ c with pc:=c.pc+1,sv:=sv,stk:=c.stk++[x] }] }/\A2 own W own' w':=by
 have za:=h.lt _ _ h.me;obtain⟨ca,cc,xh,ye,xw⟩:=Row.cells FrR.cells_len h.called;have xi:R.frs.length=fs.length+1:=by rw [hf];simp
 have xp:R.frs[fs.length]?=some f:=by rw [hf];simp
 obtain⟨cb,rfl,yu,xe,xj,xf⟩:=xw R4;have k3:=xf fs.length 3 f _ xp R3 rfl;have m4:=h.c4;rw[xh,xi] at m4;obtain⟨sa,sc,ya,ys,xv⟩:=(h.stk fs.length f xp).vals;have xt:f.stk.length=rest.length+1:=by rw [hst];simp
 obtain⟨sb,rfl,yv,xd⟩:=xv R4;obtain⟨x0,x1⟩:=xd rest.length x (by rw [hst];simp);rw[ya,xt] at k3;obtain⟨hM,xq⟩:=h.cutFrames hf xh;have HM:=hid hM;have xo:=hid xq;have HH:=hid h;have yx:=hid xh;have yp:=hid xi;have z4:=h.fz 4;have xm:fs.length<=cc:=by omega
 have yh:rest.length+1<=1000:=by omega
 have xb:fs.length=fs'.length+1:=by rw [hfs];simp
 have xg:R.frs[fs'.length]?=some c:=by rw [hf,hfs];simp
 have j3:=xf fs'.length 3 c _ xg R3 rfl;have j1:=xf fs'.length 1 c _ xg R3 rfl;have yn:=xj (fs'.length*4+3);have ym:=xj (fs'.length*4+1);obtain⟨ta,tc,xa,_,_⟩:=(h.stk fs'.length c xg).vals;have xs:Hid ((W.setCell ⟨mb,4,none⟩ (.slice (some ⟨cb,0,none⟩) fs.length cc)).ownsRow 0 92 2 (.slice ta c.stk.length tc) c.stk.length (A5 c.stk)):=hid (by
  have h9:=(hM.stk fs'.length c (by show fs[fs'.length]?=_;rw [hfs];simp)).1;rwa [xa] at h9)
 rw[xa] at j3;have xc:=hid xa;have xu:Hid (({ R with cv:=.slice (some ⟨cb,0,none⟩) fs.length cc,frs:=fs } : RfR).frs=fs'++[c]):=hid hfs;have yd:=hid xb;obtain⟨xl,hi,hz,xz,xx⟩:=info_parts I5;have HI:=hid hi;have HZ:=hid hz;have yj:=hid xz;have yg:=hid xx;obtain⟨xk,xn⟩:=x;simp only at x0 x1;rw[xb] at m4 k3 xm hd;have yz:(fs'.length:Int) < (fs'.length:Int)+1:=by omega
 have yi:(0:Int)<=(fs'.length:Int):=by omega
 have yl:((fs'.length:Int)+1 == 0)=false:=L2c.2 R4;have yo:IntKind.i64.wrap ((fs'.length:Int)+1 - 1)=(fs'.length:Int):=by rw [Go.IntWalk.i64_in _ R4];omega
 have yt:IntKind.i64.wrap (fs'.length:Int)=(fs'.length:Int):=Go.IntWalk.i64_in _ R4;have yb:cb≠mb:=fun e=>by rw [e,h.me] at xe;cases xe
 have yq:mb≠cb:=Ne.symm yb;have yc:mb < W.heap.size+1:=by omega
 have yf:cb < W.heap.size+1:=by omega
 rw[xb] at HM xo xs xu;clear h hf hfs hst ya xh xw xf xj xp xi hM xq xv xd xt hsn xa xg hi hz xz xx xb;go_enter func138,ntmps138;go_wp2_with fail;go_region_law ((refine K8 rfl (.tmp 51) (.tmp 53) 84 rfl 0 92 xl _ 2 16 underlying84 HI.out HZ.out yj.out yg.out rfl R3 (.slice ta c.stk.length tc) c.stk.length (A5 c.stk) Q3 (by repeat (first | exact xs.out | refine World.ownsRow.alloc ?_ _ | refine World.ownsRow.drew ?_)) _ 1 1 [.int .u8 xk,.int .i64 xn] Q3 rfl (fun _=>⟨_,rfl,World.news_of_block (cs:=#[.int .u8 xk,.int .i64 xn]) (t:=92) (fr:=(0,0)) (by first | exact B1 R5 | exact J4 R5)⟩) (by simp [Value.oneCell']) Q5 R4 (Nat.zero_le _) ?_;intro v4 w4 hown4 hgrow4 hat4;obtain ⟨va,vc,yk,_⟩:=B4 hown4;subst yk;rw [<- xc.out] at hgrow4;obtain ⟨q1,q2,q3,q4,q5,q6,q7,q8,q9⟩:=a1Z (cb:=cb) (cc:=cc) (x:=(xk,xn)) HM.out xu.out (by show Value.slice _ _ _=_;rw [yd.out]) P4 hgrow4 (by simpa [O1] using hown4) (fun b hb=>(hat4 b hb).elim (fun e=>Or.inl (by rw [xc.out];exact e)) (fun e=>Or.inr (by rw [e];first | (simp;done) | (simp;omega))));have xr:=(hid q8);have xy:=(hid q9);have yr:=q6 (fs'.length*4+3);have yy:=q6 (fs'.length*4+1);have yw:w4.cell? ⟨mb,4,none⟩=some (.slice (some ⟨cb,0,none⟩) (fs'.length+1) cc):=q1;rw [xc.out] at q4;clear q1 q6 q8 q9))
 all_goals
  go_wp2_with fail;go_ret
  first | exact ⟨rfl,_,⟨_,_,xr.out⟩,xo.out.trans xy.out⟩ | exact ⟨rfl,_,_,_,xr.out,xo.out.trans xy.out⟩
end
end Go.Proofs.YtbkmgoffiigdbaaGreatDoor
