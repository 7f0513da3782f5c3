import Derived.Test.YtbkmgoffiigdbaaGreatDoorVBi
namespace Go.Proofs.YtbkmgoffiigdbaaGreatDoor
set_option maxHeartbeats 4000000
set_option maxRecDepth 100000
open Go.RowKit Go.Sort
open Go.RowKit Go.Sort
open Go.RowKit Go.Sort
end Go.Proofs.YtbkmgoffiigdbaaGreatDoor
namespace Go.Proofs.YtbkmgoffiigdbaaGreatDoor
open Go.RowKit Go.Sort Go.Proofs.Tryz
set_option maxHeartbeats 4000000
set_option maxRecDepth 100000
section
variable {Y:PlR} {cb xb yb:Nat} {w:World}
def PlR.join (Y:PlR) (p:Nat × Nat) (pv:Value):PlR:={ Y with ps:=Y.ps++[p],psv:=pv }
theorem I5.join {U w1:World} {v1:Value} (h:I5 w yb Y) (hU:L0d w U) (hg:U.grownBy w1 Y.psv.ownBlock) (hat:∀g,v1.ownBlock=some g->Y.psv.ownBlock=some g\/g=U.heap.size) (ho:w1.ownsRow 0 48 2 v1 (Y.ps.length+1) (Y.ps.flatMap eF++[zB xb,zB cb])) :
  w1.cell? ⟨yb,0,none⟩=some Y.psv/\w1.frozen? ⟨yb,0,none⟩=false/\yb < w1.heap.size/\I5 (w1.setCell ⟨yb,0,none⟩ v1) yb (Y.join (xb,cb) v1)/\(∀k,k < w.heap.size->¬aE yb Y k->(w1.setCell ⟨yb,0,none⟩ v1).heap[k]?=w.heap[k]?)/\(∀k,aE yb (Y.join (xb,cb) v1) k->aE yb Y k\/w.heap.size<=k)/\w.heap.size<=(w1.setCell ⟨yb,0,none⟩ v1).heap.size/\(w1.setCell ⟨yb,0,none⟩ v1).os=w.os/\(w1.setCell ⟨yb,0,none⟩ v1).tape=w.tape/\(w1.setCell ⟨yb,0,none⟩ v1).output=w.output:=by
 have xc:=h.me;have xe:=hU.size;have xd:=hg.size;have K:∀k,k < w.heap.size->Y.psv.ownBlock≠some k->w1.heap[k]?=w.heap[k]?:=fun k hk hn=>(hg.block k R5 fun e=>hn e.symm).trans (hU.block k hk)
 have Ky:=K yb xc h.ne0;have c5:∀i,w1.cell? ⟨yb,i,none⟩=w.cell? ⟨yb,i,none⟩:=fun i=>L0b (a:=⟨yb,i,none⟩) Ky
 have z5:∀i,w1.frozen? ⟨yb,i,none⟩=w.frozen? ⟨yb,i,none⟩:=fun i=>L0c (a:=⟨yb,i,none⟩) Ky
 have xa:v1.ownBlock≠some yb:=fun e=>by
  rcases hat yb e with h' | h'
  ·exact h.ne0 h'
  ·omega
 have K2:∀k,k < w.heap.size->k≠yb->Y.psv.ownBlock≠some k->(w1.setCell ⟨yb,0,none⟩ v1).heap[k]?=w.heap[k]?:=fun k hk h1 h2=>(heap_setCell_other _ _ _ _ h1).trans (K k hk h2)
 refine⟨(c5 0).trans h.c0,(z5 0).trans (h.fz 0),by omega,⟨by simp;omega,fun j=>?_,World.cell?_setCell_same _ _ _ ((c5 0).trans h.c0),?_,xa,fun j h1 h2=>?_,fun j h1 h2=>?_,h.ne⟩,fun k hk hn=>K2 k hk (fun e=>hn (L4a e)) (fun e=>hn (L4b (L4a e))),fun k hk=>?_,by simp;omega,hg.os.trans hU.os,hg.tape.trans hU.tape,hg.output.trans hU.output⟩
 ·rw [<- h.fz j,<- z5 j];go_simp
 ·show World.ownsRow _ 0 48 2 v1 (Y.ps++[(xb,cb)]).length ((Y.ps++[(xb,cb)]).flatMap eF)
  rw[List.length_append,List.flatMap_append];exact A6 ho fun b hb=>heap_setCell_other _ _ _ _ fun e=>xa (by have e':b=yb:=e;rw [<- e'];exact hb)
 ·refine (World.cell?_setCell_other _ _ _ _ fun e=>?_).trans ((c5 j).trans (h.c j h1 h2))
  simp only[Addr.mk.injEq] at e;omega
 ·exact A6 (h.row j h1 h2) fun b hb=>K2 b ((h.row j h1 h2).lt b hb).2 (fun e=>h.ne j h1 h2 (e▸hb)) (fun e=>bD (h.row j h1 h2) h.row0 (a6z j) b hb e)
 ·rcases hk with hk | hk | ⟨j,h1,h2,hk⟩
  ·exact L4a (L4a hk)
  ·rcases hat k hk with h' | h'
   ·exact L4a (L4b (L4a h'))
   ·exact L4b R5
  ·exact L4a (L4b (L4b ⟨j,h1,h2,hk⟩))
theorem a8X:(prog.info? 48).map (fun i=>(i.zero,i.size,i.bytes))=some (some (.agg #[.pointer none,.pointer none]),2,16):=by kernel_rfl
theorem zZ (e:Int) :
  Calls prog 19 #[zB yb,.pointer none,J e,.pointer none,J e] w fun e w'=>e=.returned (.bool true)/\w'=w:=by
 go_enter func19,ntmps19;go_wp2_with fail;go_ret;exact⟨rfl,rfl⟩
theorem zY (h:I5 w yb Y) (hn:Y.ps.length<=1000000000) (e:Int) :
  Calls prog 19 #[zB yb,zB xb,J e,zB cb,J e] w fun e w'=>e=.returned (.bool true)/\∃pv,I5 w' yb (Y.join (xb,cb) pv)/\(∀k,k < w.heap.size->¬aE yb Y k->w'.heap[k]?=w.heap[k]?)/\(∀k,aE yb (Y.join (xb,cb) pv) k->aE yb Y k\/w.heap.size<=k)/\w.heap.size<=w'.heap.size/\w'.os=w.os/\w'.tape=w.tape/\w'.output=w.output:=by
 obtain⟨xf,hi,hz,xc,xd⟩:=info_parts a8X;have HI:=hid hi;have HZ:=hid hz;have xi:=hid xc;have xh:=hid xd;have c0:=h.c0;have xj:=h.me;have HP:=hid h;have HN:=hid hn;generalize hpv:Y.psv=pv0 at c0;have xa:=hid hpv;clear hi hz xc xd h hn hpv;go_enter func19,ntmps19;go_wp2_with (at_builtin;go_must (refine A8 _ rfl (.tmp 27) (.tmp 31) 28 rfl 0 48 xf _ 2 16 underlying28 HI.out HZ.out xi.out xh.out rfl R4 pv0 Y.ps.length (Y.ps.flatMap eF) rfl (by rw [<- xa.out];repeat (first | exact HP.out.row0 | refine World.ownsRow.alloc ?_ _ | refine World.ownsRow.drew ?_)) (zA w.heap.size) 1 1 [zB xb,zB cb] rfl rfl (fun _=>⟨_,rfl,World.news_of_block (cs:=#[zB xb,zB cb]) (t:=48) (fr:=(0,0)) (B0 R6)⟩) (by simp [Value.oneCell']) (by have:=HN.out;unfold maxLen;omega) (by have:=HN.out;omega) (L4c _) ?_))
 intro v1 w1 hown1 hgrow1 hat1;obtain⟨g1,xe,xg,_,_⟩:=hown1.form R5;subst xg;obtain⟨q0,q1,q2,hJ⟩:=HP.out.join (U:=w.alloc (.cells #[zB xb,zB cb] 48)) P8 (by rw [xa.out];exact hgrow1) (by rw [xa.out];intro g hgg;rcases hat1 g hgg with a | a;exact L4a a;exact L4b Q9) hown1
 rw[xa.out] at q0;have HJ:=hid hJ;clear hown1 hgrow1 hat1 hJ;go_wp2_with fail;go_ret;exact⟨rfl,_,HJ.out⟩
end
section
variable {w:World}
def kR (A:Int) (n:Nat):Nat:=((if A < 0 then -(A+1) else A) % (n:Int)).toNat
theorem a5G (A:Int) {n:Nat} (h1:1<=n):kR A n < n:=by
 unfold kR;have l1:=Int.emod_nonneg (if A < 0 then -(A+1) else A) (b:=(n:Int)) R5;have l2:=Int.emod_lt_of_pos (if A < 0 then -(A+1) else A) (b:=(n:Int)) R5;omega
theorem xD (A:Int) {n:Nat} (h1:1<=n):(kR A n:Int)=(if A < 0 then -(A+1) else A) % (n:Int):=by
 unfold kR;exact Int.toNat_of_nonneg (Int.emod_nonneg _ R5)
theorem a5H (A:Int) (n:Nat) (hA : -9223372036854775808<=A/\A<=9223372036854775807) (h1:1<=n) (hn:n<=1000000000) :
  Calls prog 36 #[J A,J n] w fun e w'=>e=.returned (J (kR A n:Int))/\w'=w:=by
 have xa:¬(n:Int)=0:=by omega
 have xb:((n:Int) == 0)=false:=L2c.2 xa;by_cases h0:A < 0
 ·go_enter func36,ntmps36
  go_wp2_with fail;have e : -((A+1).tmod n)=(kR A n:Int):=by rw [xD A h1,if_pos h0,<- Int.neg_tmod,Int.tmod_eq_emod_of_nonneg R5]
  rw[e];go_ret;exact⟨rfl,rfl⟩
 ·go_enter func36,ntmps36
  go_wp2_with fail;have e:A % (n:Int)=(kR A n:Int):=by rw [xD A h1,if_neg R5]
  rw[e];go_ret;exact⟨rfl,rfl⟩
theorem I5.pairs {yb:Nat} {Y:PlR} (h:I5 w yb Y):∃a c,Y.psv=.slice a Y.ps.length c/\(0 < Y.ps.length->∃b,a=some ⟨b,0,none⟩/\b < w.heap.size/\∀(i:Nat) (p:Nat × Nat),Y.ps[i]?=some p->w.cell? ⟨b,i*2,none⟩=some (zB p.1)/\w.cell? ⟨b,i*2+1,none⟩=some (zB p.2)):=by
 have hr:=h.row0;rcases id hr.2 with ⟨e,h0⟩ | ⟨g,xa,xb,e,_,hg,h3,h4,h5,h6⟩
 ·exact ⟨none,0,by rw [e,h0],fun hp=>by omega⟩
 ·rw [e] at hr
  refine⟨_,xa,e,fun _=>⟨g,rfl,(L2b.1 hg).1,fun i p hp=>?_⟩⟩;have xc:=(L1a.1 hp).1;have hj:∀j u,j < 2->(eF p)[j]?=some u->w.cell? ⟨g,i*2+j,none⟩=some u:=fun j u hj hu=>by
   rw[hr.cellAt _ R5,D3 (s:=2) (fun _=>rfl) hp hj];exact hu
  exact⟨hj 0 _ R4 rfl,hj 1 _ R4 rfl⟩
end
theorem Lw.pairAt {w0:X4} {w:World} {P:A5} {yb N M pb pc n r xb cb:Nat} {Y:PlR} (h:Lw w0 P w yb Y N M) (hpv:Y.psv=.slice (zA pb) n pc) (hx:Y.ps[r]?=some (xb,cb)) :
  w.cell? ⟨yb,0,none⟩=some (.slice (zA pb) n pc)/\pb < w.heap.size/\w.cell? ⟨pb,r*2,none⟩=some (zB xb)/\w.cell? ⟨pb,r*2+1,none⟩=some (zB cb):=by
 have hp:=h.play;obtain⟨a,c,e,hc⟩:=hp.pairs;have xc:=(L1a.1 hx).1;obtain⟨b,rfl,hb,xa⟩:=hc R5;rw[hpv] at e;simp only[Value.slice.injEq,Option.some.injEq,Addr.mk.injEq,and_true] at e;obtain⟨e1,e2,e3⟩:=e;subst e1;obtain⟨c1,c2⟩:=xa r (xb,cb) hx;exact⟨by rw [<- hpv];exact hp.c0,hb,c1,c2⟩
theorem a6s {w0:X4} {w:World} {P:A5} {yb N M:Nat} {Y:PlR} (h:Lw w0 P w yb Y N M) (_hN:N<=9999990000) (hM:M<=900000000) (kd a b:Int) (ha : -9223372036854775808<=a/\a<=9223372036854775807) (k2:2<=kd) (k9:kd<=9) (fa la sa:Option Addr) (fn fc ln lc sn sc:Nat)
  (hon:∀(w1:X4) (P1:A5) (u:World) (i xb cb:Nat),(∀V,sA w1 V->sA w0 V)->Lw w1 P1 u yb Y N M->Y.ps[i]?=some (xb,cb)->Calls prog 35 #[zB yb,.agg #[zB xb,zB cb],.agg #[J kd,J a,J b,.slice fa fn fc,.slice la ln lc,.slice sa sn sc]] u fun e w'=>e=.returned (.bool true)/\∃P2 Y2,Lw w1 P2 w' yb Y2 (N+10000) (M+100)/\(Y2.ps=Y.ps/\Y2.psv=Y.psv)) :
  Calls prog 11 #[zB yb,.agg #[J kd,J a,J b,.slice fa fn fc,.slice la ln lc,.slice sa sn sc]] w fun e w'=>e=.returned (.bool true)/\∃P2 Y2,Lw w0 P2 w' yb Y2 (N+10000) (M+100):=by
 have hp:=h.play;obtain⟨pa,pc,xa,xf⟩:=hp.pairs;have c0:=hp.c0;have xm:=hp.me;have xo:yb < w.heap.size+1:=by omega
 rw[xa] at c0;have e1:¬kd=1:=by omega
 have xx:¬kd=10:=by omega
 have xt:¬kd=12:=by omega
 have b1:(kd == 1)=false:=L2c.2 e1;have yg:(kd == 10)=false:=L2c.2 xx;have xz:(kd == 12)=false:=L2c.2 xt;have l2:¬kd < 2:=by omega
 have ye:¬11 < kd:=by omega
 have yf:=h.nps;have HL:=hid h;have xs:=hid hon;have xv:Hid (∀(u:World) (G:Nat->Prop),L0d w u->∀V,sA (w0.more u G) V->sA w0 V):=hid fun u G hu V hV=>by
  have hB:=(h.below hu).bel;exact⟨hV.os.trans hB.os,hV.tape.trans hB.tape,hV.output.trans hB.output,L5a hB.size hV.size,fun b hb hF=>(hV.block b (L0a hb hB.size) (L4a ⟨hb,hF⟩)).trans (hB.block b hb hF)⟩
 clear hon;by_cases h0:Y.ps.length=0
 ·rw [h0] at c0
  clear xf h hp xa;go_enter func11,ntmps11;go_wp2_with fail;go_ret;exact⟨rfl,P,Y,(HL.out.below P8).mono R5 R5⟩
 ·obtain ⟨pb,rfl,ya,xc⟩:=xf R5
  have hr:=a5G a (n:=Y.ps.length) R5;have xh:Hid (∀U,Calls prog 36 #[J a,J (Y.ps.length:Int)] U fun e w'=>e=.returned (J (kR a Y.ps.length:Int))/\w'=U):=hid fun U=>a5H a Y.ps.length ha R5 R5
  generalize kR a Y.ps.length=r at hr xh;obtain⟨⟨xb,cb⟩,hx⟩:∃p,Y.ps[r]?=some p:=⟨_,L1b hr⟩
  have HX:=hid hx;have yc:=hid xa;have yd:(r:Int) < (Y.ps.length:Int):=by omega
  have xw:¬(Y.ps.length:Int)=0:=by omega
  have xy:((Y.ps.length:Int) == 0)=false:=L2c.2 xw;have xd:Hid (L0d w (w.alloc (Obj.cells #[J kd,J a,J b,.slice fa fn fc,.slice la ln lc,.slice sa sn sc] 43))):=hid (L3a (L3b _ _) (L1c _) _);have HG:Hid (∀i b,(P i).B b->¬b=w.heap.size):=hid fun i b hb e=>by have:=(P i).lt w (h.sep.F i) b hb;omega
  have HC:Hid (∀u,Below (w.alloc (Obj.cells #[J kd,J a,J b,.slice fa fn fc,.slice la ln lc,.slice sa sn sc] 43)).heap.size (w.alloc (Obj.cells #[J kd,J a,J b,.slice fa fn fc,.slice la ln lc,.slice sa sn sc] 43)) u->(u.cell? ⟨yb,0,none⟩=some (.slice (zA pb) Y.ps.length pc)/\u.cell? ⟨pb,r*2,none⟩=some (zB xb)/\u.cell? ⟨pb,r*2+1,none⟩=some (zB cb)/\u.cell? ⟨w.heap.size,0,none⟩=some (J kd)/\u.cell? ⟨w.heap.size,1,none⟩=some (J a)/\u.cell? ⟨w.heap.size,2,none⟩=some (J b)/\u.cell? ⟨w.heap.size,3,none⟩=some (.slice fa fn fc)/\u.cell? ⟨w.heap.size,4,none⟩=some (.slice la ln lc)/\u.cell? ⟨w.heap.size,5,none⟩=some (.slice sa sn sc))):=hid fun u hu=>by
   obtain⟨q1,q2,q3,q4⟩:=h.pairAt xa hx;have hB:L0d w u:=xd.out.trans (hu.mono R6);exact⟨keep hB xm q1,keep hB q2 q3,keep hB q2 q4,keep hu R6 R3,keep hu R6 R3,keep hu R6 R3,keep hu R6 R3,keep hu R6 R3,keep hu R6 R3⟩
  have xu:Hid (∀P2 Y2 w2,Lw (w0.more (w.alloc (Obj.cells #[J kd,J a,J b,.slice fa fn fc,.slice la ln lc,.slice sa sn sc] 43)).drew (fun b=>b=w.heap.size)) P2 w2 yb Y2 (N+10000) (M+100)->Y2.ps=Y.ps->Y2.psv=Y.psv->Lw w0 P2 w2 yb Y2 (N+10000) (M+100)/\(w2.cell? ⟨yb,0,none⟩=some (.slice (zA pb) Y.ps.length pc)/\w2.cell? ⟨pb,r*2,none⟩=some (zB xb)/\w2.cell? ⟨pb,r*2+1,none⟩=some (zB cb)/\w2.cell? ⟨w.heap.size,0,none⟩=some (J kd)/\w2.cell? ⟨w.heap.size,1,none⟩=some (J a)/\w2.cell? ⟨w.heap.size,2,none⟩=some (J b)/\w2.cell? ⟨w.heap.size,3,none⟩=some (.slice fa fn fc)/\w2.cell? ⟨w.heap.size,4,none⟩=some (.slice la ln lc)/\w2.cell? ⟨w.heap.size,5,none⟩=some (.slice sa sn sc))):=hid fun P2 Y2 w2 xe q1 q2=>by
   have xq:Lw w0 P (w.alloc (Obj.cells #[J kd,J a,J b,.slice fa fn fc,.slice la ln lc,.slice sa sn sc] 43)).drew yb Y N M:=h.below (L3c xd.out);obtain⟨hL,hk⟩:=xq.less xe;obtain⟨y1,_,y3,y4⟩:=hL.pairAt (q2.trans xa) (by rw [q1];exact hx);have xg:=hk w.heap.size (by show _ < (w.alloc (Obj.cells #[J kd,J a,J b,.slice fa fn fc,.slice la ln lc,.slice sa sn sc] 43)).heap.size;simp) rfl
   have cc:∀j,w2.cell? ⟨w.heap.size,j,none⟩=(w.alloc (Obj.cells #[J kd,J a,J b,.slice fa fn fc,.slice la ln lc,.slice sa sn sc] 43)).drew.cell? ⟨w.heap.size,j,none⟩:=fun j=>L0b (a:=⟨w.heap.size,j,none⟩) xg
   exact⟨hL,y1,y3,y4,(cc 0).trans R3,(cc 1).trans R3,(cc 2).trans R3,(cc 3).trans R3,(cc 4).trans R3,(cc 5).trans R3⟩
  have xn:Hid (Lw (w0.more (w.alloc (Obj.cells #[J kd,J a,J b,.slice fa fn fc,.slice la ln lc,.slice sa sn sc] 43)).drew (fun b=>b=w.heap.size)) P (w.alloc (Obj.cells #[J kd,J a,J b,.slice fa fn fc,.slice la ln lc,.slice sa sn sc] 43)).drew yb Y N M):=hid ((h.below (L3c xd.out)).more _ HG.out);have HV:Hid (Below (w.alloc (Obj.cells #[J kd,J a,J b,.slice fa fn fc,.slice la ln lc,.slice sa sn sc] 43)).heap.size (w.alloc (Obj.cells #[J kd,J a,J b,.slice fa fn fc,.slice la ln lc,.slice sa sn sc] 43)) (w.alloc (Obj.cells #[J kd,J a,J b,.slice fa fn fc,.slice la ln lc,.slice sa sn sc] 43)).drew):=hid (L3c (L3b _ _))
  clear xc h hp xa xf hx;go_enter func11,ntmps11;go_wp2_with fail;refine wp_region_held_drew (S:=fun u=>u.cell? ⟨yb,0,none⟩=some (.slice (zA pb) Y.ps.length pc)/\u.cell? ⟨pb,r*2,none⟩=some (zB xb)/\u.cell? ⟨pb,r*2+1,none⟩=some (zB cb)/\u.cell? ⟨w.heap.size,0,none⟩=some (J kd)/\u.cell? ⟨w.heap.size,1,none⟩=some (J a)/\u.cell? ⟨w.heap.size,2,none⟩=some (J b)/\u.cell? ⟨w.heap.size,3,none⟩=some (.slice fa fn fc)/\u.cell? ⟨w.heap.size,4,none⟩=some (.slice la ln lc)/\u.cell? ⟨w.heap.size,5,none⟩=some (.slice sa sn sc)) Q8 (HC.out _ HV.out) (fun hHeld=>?_)
  refine TW 0 ⟨some 40,.move (.tmp 0),27,"law.go:161",#[],none⟩ ?_
  refine TW 1 ⟨some 41,.move (.tmp 0),27,"law.go:161",#[],none⟩ ?_
  refine TW 2 ⟨some 42,.nilCheck (.tmp 41),0,"law.go:161",#[⟨1,.data⟩],none⟩ ?_
  refine TW 3 ⟨some 43,.fieldAddr 37 (.tmp 42) 0,0,"law.go:161",#[⟨2,.data⟩],none⟩ ?_
  refine TW 4 ⟨some 44,.load 28 (.tmp 43),28,"law.go:161",#[⟨3,.data⟩],none⟩ ?_
  refine TW 5 ⟨some 45,.fieldAddr 43 (.tmp 3) 1,0,"law.go:161",#[],none⟩ ?_
  refine TW 6 ⟨some 46,.load 3 (.tmp 45),3,"law.go:161",#[⟨5,.data⟩],none⟩ ?_
  refine TW 7 ⟨some 47,.move (.tmp 0),27,"law.go:161",#[],none⟩ ?_
  refine TW 8 ⟨some 48,.nilCheck (.tmp 47),0,"law.go:161",#[⟨7,.data⟩],none⟩ ?_
  refine TW 9 ⟨some 49,.fieldAddr 37 (.tmp 48) 0,0,"law.go:161",#[⟨8,.data⟩],none⟩ ?_
  refine TW 10 ⟨some 50,.load 28 (.tmp 49),28,"law.go:161",#[⟨9,.data⟩],none⟩ ?_
  refine TW 11 ⟨some 51,.call ⟨.builtin .len,#[.tmp 50],#[28]⟩,3,"law.go:161",#[⟨10,.data⟩],none⟩ ?_
  refine TW 15 ⟨some 55,.load 43 (.tmp 3),43,"law.go:161",#[],none⟩ ?_
  clear hHeld
  refine TO 12 ⟨some 52,.call ⟨.value (.func 36),#[.tmp 46,.tmp 51],#[3,3]⟩,3,"law.go:161",#[⟨6,.data⟩,⟨11,.data⟩],none⟩ fun K hK => ?_
  go_simp
  go_at_call 36
  refine (xh.out _).mono ?_;rintro e w1 ⟨rfl,hw⟩;rw[hw];clear hw w1
  dsimp only
  refine TG hK (HC.out _ HV.out) fun hHeld=>?_
  clear hK K
  refine TW 13 ⟨some 53,.indexAddr 28 (.tmp 44) (.tmp 52),0,"law.go:161",#[⟨4,.data⟩,⟨12,.data⟩],none⟩ ?_
  refine TW 14 ⟨some 54,.load 48 (.tmp 53),48,"law.go:161",#[⟨13,.data⟩],none⟩ ?_
  clear hHeld
  refine TO 16 ⟨some 56,.call ⟨.value (.func 35),#[.tmp 40,.tmp 54,.tmp 55],#[27,48,43]⟩,4,"law.go:161",#[⟨0,.data⟩,⟨14,.data⟩,⟨15,.data⟩,⟨12,.chain⟩],none⟩ fun K hK => ?_
  go_simp
  go_at_call 35
  refine (xs.out _ _ _ _ _ _ (xv.out _ _ (L3c xd.out)) xn.out HX.out).mono ?_;rintro e w2 ⟨rfl,P2,Y2,xe,xl,xi⟩;obtain⟨xj,xk⟩:=xu.out P2 Y2 w2 xe xl xi;have xp:=hid xj;have xr:=hid xk;clear xe xl xi xj xk
  dsimp only
  refine TG hK xr.out fun hHeld=>?_
  clear hK K
  refine TW 17 ⟨some 4,.assign (.tmp 56),4,"law.go:161",#[⟨16,.data⟩,⟨16,.chain⟩,⟨0,.phase⟩,⟨1,.phase⟩,⟨2,.phase⟩,⟨3,.phase⟩,⟨4,.phase⟩,⟨5,.phase⟩,⟨6,.phase⟩,⟨7,.phase⟩,⟨8,.phase⟩,⟨9,.phase⟩,⟨10,.phase⟩,⟨11,.phase⟩,⟨12,.phase⟩,⟨13,.phase⟩,⟨14,.phase⟩,⟨15,.phase⟩,⟨16,.phase⟩],none⟩ ?_
  clear hHeld;refine wpAnyH_done Q8 ?_ _;go_wp2_with fail;go_ret;exact⟨rfl,P2,Y2,xp.out⟩
end Go.Proofs.YtbkmgoffiigdbaaGreatDoor
