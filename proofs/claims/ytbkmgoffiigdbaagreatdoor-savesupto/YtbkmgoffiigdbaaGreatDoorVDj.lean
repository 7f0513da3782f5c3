import Derived.Test.YtbkmgoffiigdbaaGreatDoorVDi
namespace Go.Proofs.YtbkmgoffiigdbaaGreatDoor
open Go.RowKit Go.Sort Go.Proofs.Tryz
set_option maxHeartbeats 4000000
set_option maxRecDepth 100000
section
variable {R:McR} {args rest:List Val} {f:FrR} {fs:List FrR} {g:PgR} {mb sb:Nat} {own:Own} {va:Option Addr} {w:World}
theorem zR {f:FrR} (v:Value) (l:List Val):(fs++[{ f with sv:=v,stk:=l }]).flatMap FrR.cells=((fs++[f]).flatMap FrR.cells).set (fs.length*4+3) v:=by
 rw[<- I7 FrR.cells_len (l:=fs++[f]) (i:=fs.length) (j:=3) (x:=f) (y:={ f with sv:=v,stk:=l }) (u:=v) R6 R5 rfl];simp
def uV (own:Own) (mb:Nat) (g:PgR) (R:McR) (fs:List FrR) (f:FrR) (l:List Val) (w:World) (e:Ending) (w':World):Prop :=
 ∃sv1,e=.returned (.tuple #[])/\A4 w' own mb g { R with frs:=fs++[{ f with sv:=sv1,stk:=l }] }/\A2 own w own w'/\∀b,own b≠some .called->w'.heap[b]?=w.heap[b]?
theorem a2y (h:A4 w own mb g R) (hf:R.frs=fs++[f]) (k:Nat) (hk:k<=f.stk.length) (hn:fs.length<=1000) (hs:f.stk.length<=1000) :
  Calls prog 298 #[.pointer (some ⟨mb,3,none⟩),J (k:Int)] w fun e w'=>uV own mb g R fs f (f.stk.take (f.stk.length - k)) w e w':=by
 obtain⟨cb,cc,hv,xb,xp,xo,x0,x1,x2,x3⟩:=h.top hf;have hc:=h.c3;rw[hv] at hc;have xj:=h.topRow hf hv;have xd:=h.stk fs.length f (by rw [hf];simp);have xh:∀b,f.sv.ownBlock=some b->b≠cb/\own b=some (.stk fs.length):=fun b hb=>by
  have xk:=xd.2 b hb;exact⟨fun e=>(by rw [e,xb] at xk;cases xk),xk⟩
 refine (oF mb cb fs.length cc f.sv f.stk.length k _ w hn hs hk hc x3 (xo _) xd.1).mono ?_;rintro e w1 ⟨m1,xa,rfl,rfl,xg,xe⟩;have xi:xa.ownBlock≠some cb:=fun e=>(xh cb (xg▸e)).1 rfl
 have xm:E7 w own xa (.stk fs.length):=fun b hb=>L4a (xh b (xg▸hb)).2
 have xc:∀b,b≠cb->((w.drewN m1).setCell ⟨cb,fs.length*4+3,none⟩ xa).heap[b]?=w.heap[b]?:=fun b hb=>heap_setCell_other _ _ _ _ hb
 have xf:(f.stk.take (f.stk.length - k)).length=f.stk.length - k:=by simp
 have r1:((w.drewN m1).setCell ⟨cb,fs.length*4+3,none⟩ xa).ownsRow 0 86 4 (.slice (zA cb) (fs.length+1) cc) (fs.length+1) (((fs++[f]).flatMap FrR.cells).set (fs.length*4+3) xa):=(World.ownsRow.stored (cP xj m1) _ xa).1;rw[<- zR xa (f.stk.take (f.stk.length - k))] at r1;have hM:=A4.setTop (w':=(w.drewN m1).setCell ⟨cb,fs.length*4+3,none⟩ xa) (f':={ f with sv:=xa,stk:=f.stk.take (f.stk.length - k) }) h hf rfl rfl R6 (fun j hj h1 h2=>xc j (fun e=>h1 (by rw [e];exact xb))) (by rw [hv];exact r1) (by
  rw[xf];have:=ownsRow_setCell_other (cP xe m1) (a:=⟨cb,fs.length*4+3,none⟩) xi xa;rwa [A7,gU E6]) xm
 have xn:own.upd xa.ownBlock (.stk fs.length)=own:=by
  cases e:xa.ownBlock with
  | none=>exact Own.upd_none _ _
  | some b=>exact Own.upd_same (xh b (xg▸e)).2
 have xl:A4 ((w.drewN m1).setCell ⟨cb,fs.length*4+3,none⟩ xa) (own.upd xa.ownBlock (.stk fs.length)) mb g { R with frs:=fs++[{ f with sv:=xa,stk:=f.stk.take (f.stk.length - k) }] }:=hM;rw[xn] at xl;exact⟨xa,rfl,xl,⟨rfl,rfl,rfl,by simp,fun j hj hno=>xc j (fun e=>by rw [e,xb] at hno;cases hno),fun _ _=>rfl⟩,fun b hb=>xc b (fun e=>hb (by rw [e];exact xb))⟩
theorem C0.lies (h:C0 w own mb g R fs f rest args va sb) {w':World} (hs:w.heap.size<=w'.heap.size) (hk:own sb=some (.stk fs.length)->w'.heap[sb]?=w.heap[sb]?):a6Z w' va args:=fun h0=>by
 obtain⟨q1,q2,q3⟩:=h.hva h0;have e:=hk q2;refine⟨sb,rest.length*2,q1,L0a (h.m.lt sb _ q2) hs,fun j u hu=>?_⟩;have hj:=(L1a.1 hu).1;rw[D8] at hj;obtain⟨x,hx⟩:∃x,args[j / 2]?=some x:=⟨_,L1b R5⟩
 obtain⟨c0,c1⟩:=q3 (j / 2) x hx;have xa:(A7 args)[j / 2*2+j % 2]?=(O9 x)[j % 2]?:=D3 E6 hx (Nat.mod_lt _ R5);rw[show j / 2*2+j % 2=j by omega,hu] at xa;rw[L0b (w:=w) (a:=⟨sb,_,none⟩) e];rcases Nat.mod_two_eq_zero_or_one j with hm | hm
 ·rw [hm] at xa
  rw[show rest.length*2+j=rest.length*2+j / 2*2 by omega,c0,xa];rfl
 ·rw [hm] at xa
  rw[show rest.length*2+j=rest.length*2+j / 2*2+1 by omega,c1,xa];rfl
theorem vR (h:C0 w own mb g R fs f rest args va sb) (h12:12<=fs.length+1) (a:Int) (k vc:Nat) :
  Calls prog 274 #[zB mb,J a,.slice va k vc] w fun e w'=>F7 5 w e w':=by
 obtain⟨cb,cc,hv,_⟩:=h.m.top h.hf;have c3:=h.m.c3;rw[hv] at c3;have hn:=h.hn;have xb:mb < w.heap.size:=h.m.lt mb _ h.m.me;have xa:(12:Int)<=(fs.length:Int)+1:=by omega
 clear h hv;go_enter func274,ntmps274;go_wp2_with fail;go_ret;exact⟨rfl,P5⟩
def a4i (R:McR) (fs:List FrR) (f:FrR) (rest:List Val) (fn:Nat) (loc:List Val) (R':McR):Prop :=
 ∃sv1 cv lv,R'={ R with cv:=cv,frs:=fs++[{ f with sv:=sv1,stk:=rest }]++[⟨fn,0,lv,zD,loc,[]⟩] }
theorem a2l (h:C0 w own mb g R fs f rest args va sb) (h12:fs.length+1 < 12) (a l:Nat) (ha:a < g.n) (hgn:g.n<=1000) (hl:(g.f a).l=(l:Int)) (hl8:l<=8) (hal:args.length<=l) (vc:Nat) :
  Calls prog 274 #[zB mb,J (a:Int),.slice va args.length vc] w fun e w'=>aW own mb g (a4i R fs f rest a (args++List.replicate (l - args.length) (0,0))) 0 w e w':=by
 obtain⟨cb,cc,hv,_⟩:=h.m.top h.hf;have c3:=h.m.c3;rw[hv] at c3;have ya:mb < w.heap.size:=h.m.lt mb _ h.m.me;obtain⟨ga,xo,xg⟩:=h.m.pg.2.1 R5;obtain⟨q0,q1,q2⟩:=xg a ha;rw[hl] at q1;have c0:=h.m.c0;rw[ga] at c0;have xh:own g.b=none:=h.m.ro g.b (L4a ⟨by omega,rfl⟩);have xb:f.stk.take (f.stk.length - args.length)=rest:=by rw [h.hst];simp
 have xq:Hid (∀U,L0d w U->Calls prog 298 #[.pointer (some ⟨mb,3,none⟩),J (args.length:Int)] U fun e w'=>uV own mb g R fs f rest U e w'):=fun U hU=>by
  have:=a2y (h.m.same hU.size fun k hk=>hU.block k hk) h.hf args.length (by rw [h.hst];simp) h.hn h.hs;rwa [xb] at this
 have xy:Hid (∀U w1 V xf,L0d w U->A4 w1 own mb g { R with frs:=fs++[{ f with sv:=xf,stk:=rest }] }->A2 own U own w1->(∀b,own b≠some .called->w1.heap[b]?=U.heap[b]?)->L0d w1 V->Calls prog 130 #[.pointer (some ⟨mb,3,none⟩),J (a:Int),.agg #[J (g.f a).p,J (l:Int),.slice (g.f a).a (g.f a).n (g.f a).c],.slice va args.length vc] V fun e w'=>e=.returned (.tuple #[])/\∃xa R',A4 w' xa mb g R'/\a4i R fs f rest a (args++List.replicate (l - args.length) (0,0)) R'/\A2 own w xa w'):=by
  intro U w1 V xf hU xe xd xc hV;have xn:=xe.same hV.size fun k hk=>hV.block k hk
  refine (a2A xn a l (g.f a).p (g.f a).a (g.f a).n (g.f a).c hl8 (by simp;have:=h.hn;omega) args hal va vc (h.lies (L5a hU.size (L5a xd.size hV.size)) fun q2=>?_)).mono ?_
  ·have xk:=h.m.lt sb _ q2
   rw[hV.block sb (L0a (L0a xk hU.size) xd.size),xc sb (by rw [q2];simp),hU.block sb xk]
  ·rintro e w' ⟨xa,cv,lv,rfl,hm,ht⟩
   exact⟨rfl,xa,_,hm,⟨xf,cv,lv,rfl⟩,((A2.of_below hU).trans xd).trans ((A2.of_below hV).trans ht)⟩
 have xm:(fs.length:Int)+1 < 12:=by omega
 have xt:¬(12:Int)<=(fs.length:Int)+1:=by omega
 have GA:=hid ga;clear h hv ga xg xb hal;go_enter func274,ntmps274;go_wp2_with (go_at_call 298;refine (xq.out _ ?_).mono ?_;exact P5;rintro e w1 ⟨xf,rfl,xe,xd,xc⟩;have xs:=hid xe;have xr:=hid xd;have xx:=hid xc;have d0:=xe.c0;rw [GA.out] at d0;have e0:=(L0b (w:=_) (a:=⟨g.b,g.o+a*3,none⟩) (xc g.b (by rw [xh];simp))).trans q0;have e1:=(L0b (w:=_) (a:=⟨g.b,g.o+a*3+1,none⟩) (xc g.b (by rw [xh];simp))).trans q1;have e2:=(L0b (w:=_) (a:=⟨g.b,g.o+a*3+2,none⟩) (xc g.b (by rw [xh];simp))).trans q2;have xp:mb < w1.heap.size:=xe.lt mb _ xe.me;have xv:g.b < w1.heap.size:=L0a xo xd.size;clear xe xd xc)
 go_region_with (first | (go_at_call 130;refine (xy.out w w1 _ xf (L3b _ _) xs.out xr.out xx.out ?_).mono ?_;exact P5;rintro e w2 ⟨rfl,xa,R',xj,xl,xi⟩;have xw:=hid xj;have xu:=hid xl;have xz:=hid xi;clear xj xl xi))
 all_goals
  go_wp2_with fail;go_ret;exact⟨xa,R',rfl,xw.out,xu.out,xz.out⟩
theorem a7D (hq:F4 R) (h:C0 w own mb g R fs f rest args va sb) (hp:N3 g) (a:Int) (h0:0<=a) (ha:a < g.n) (hal:(g.f a.toNat).p=args.length) (vc:Nat) :
  Calls prog (doT 14) #[zB mb,J a,.slice va args.length vc] w fun e w'=>DoA own mb g (doA g 14 a R.abs (fs.map FrR.abs) f.abs rest args) w e w':=by
 have e0:doA g 14 a R.abs (fs.map FrR.abs) f.abs rest args=aO g a R.abs (fs.map FrR.abs) f.abs rest args:=by cases args <;> rfl
 rw[e0];by_cases h12:12<=fs.length+1
 ·refine (vR h h12 a args.length vc).mono fun _ _ ht=>?_
  have e:aO g a R.abs (fs.map FrR.abs) f.abs rest args=D4 R.abs 5:=if_pos (by simpa using h12);rw[e];exact ht.doA h.m hq
 ·obtain ⟨n,rfl⟩:=L5c h0
  rw[Int.toNat_natCast] at hal;have xb:=hp.sized.bd (show n < g.n by omega);obtain⟨l,hl⟩:=L5c xb.2.2.1;have xc:=hp.sized.2.1;refine (a2l h R5 n l R5 R5 hl R5 R5 vc).mono ?_;rintro e w' ⟨xa,R',he,hm,⟨xd,cv,lv,rfl⟩,ht⟩;have e:aO g (n:Int) R.abs (fs.map FrR.abs) f.abs rest args=⟨0,R.out,fs.map FrR.abs++[⟨f.fn,f.pc,f.loc,rest⟩]++[⟨n,0,args++List.replicate (l - args.length) (0,0),[]⟩],R.obs.map ObR.abs,R.dr⟩:=by
   unfold aO;rw[if_neg (by simpa using h12),Int.toNat_natCast,hl];rfl
  rw[e];exact⟨xa,_,he,hm,⟨by simp [McR.abs,FrR.abs],hq⟩,ht⟩
end
section
variable {R:McR} {f:FrR} {fs:List FrR} {g:PgR} {mb:Nat} {own:Own} {w:World}
theorem A4.popFrame {W:World} {R:McR} {cb cc:Nat} (h:A4 w own mb g R) (hB:L0d w W) (hf:R.frs=fs++[f]) (hv:R.cv=.slice (zA cb) (fs.length+1) cc) :
  A4 (W.setCell ⟨mb,3,none⟩ (.slice (zA cb) fs.length cc)) own mb g { R with cv:=.slice (zA cb) fs.length cc,frs:=fs }/\A2 own w own (W.setCell ⟨mb,3,none⟩ (.slice (zA cb) fs.length cc))/\∀k,k < w.heap.size->k≠mb->(W.setCell ⟨mb,3,none⟩ (.slice (zA cb) fs.length cc)).heap[k]?=w.heap[k]?:=by
 have hW:=h.same hB.size fun k hk=>hB.block k hk
 have xg:=hW.lt;have xj:mb < W.heap.size:=xg mb _ h.me;have xb:∀k,k≠mb->(W.setCell ⟨mb,3,none⟩ (.slice (zA cb) fs.length cc)).heap[k]?=W.heap[k]?:=fun k hk=>heap_setCell_other _ _ _ _ hk
 have keep:∀t,t≠.mach->∀k,own k=some t->(W.setCell ⟨mb,3,none⟩ (.slice (zA cb) fs.length cc)).heap[k]?=W.heap[k]?/\own k=some t:=fun t ht k hk=>⟨xb k (fun e=>by rw [e,h.me] at hk;exact ht (L5b hk).symm),hk⟩
 have xa:∀j,j≠3->(W.setCell ⟨mb,3,none⟩ (.slice (zA cb) fs.length cc)).cell? ⟨mb,j,none⟩=W.cell? ⟨mb,j,none⟩:=fun j hj=>by go_simp
 have xi:=hW.c3;have xh:∀j,(W.setCell ⟨mb,3,none⟩ (.slice (zA cb) fs.length cc)).frozen? ⟨mb,j,none⟩=false:=fun j=>by have:=hW.fz j;go_simp
 have xf:∀k,own k=none->(W.setCell ⟨mb,3,none⟩ (.slice (zA cb) fs.length cc)).heap[k]?=W.heap[k]?:=fun k hk=>xb k (fun e=>by rw [e,h.me] at hk;cases hk)
 have xd:W.heap.size<=(W.setCell ⟨mb,3,none⟩ (.slice (zA cb) fs.length cc)).heap.size:=by simp
 have xe:Row (W.setCell ⟨mb,3,none⟩ (.slice (zA cb) fs.length cc)) own .called 86 4 (.slice (zA cb) fs.length cc) fs.length (fs.flatMap FrR.cells):=by
  have h1:=hW.called;rw[hv,hf,List.length_append] at h1;have h2:=(Row.cut h1 (m:=fs.length) R6).kept (own':=own) (keep _ R6);rw[<- gU FrR.cells_len] at h2;simpa using h2
 have xc:∀i x,fs[i]?=some x->R.frs[i]?=some x:=fun i x hx=>by
  rw[hf,List.getElem?_append_left (L1a.1 hx).1];exact hx
 refine⟨⟨fun k t hk=>L0a (xg k t hk) xd,h.me,?_,?_,?_,by go_simp,?_,xh,hW.out.kept (keep _ R6),xe,hW.slots.kept (keep _ R6),fun i x hx=>(hW.loc i x (xc i x hx)).kept (keep _ R6),fun i x hx=>(hW.stk i x (xc i x hx)).kept (keep _ R6),
  fun j o ho=>(hW.fld j o ho).kept (keep _ R6),hW.pg.held xd fun k hk=>xf k (h.ro k hk),h.ro,hW.tab.held xd (xf 0 h.ro0),h.ro0,?_,hW.draws.kept (keep _ R6)⟩,?_,fun k hk hne=>(xb k hne).trans (hB.block k hk)⟩
 ·rw [xa 0 R5];exact hW.c0
 ·rw [xa 1 R5];exact hW.c1
 ·rw [xa 2 R5];exact hW.c2
 ·rw [xa 4 R5];exact hW.c4
 ·rw [xa 5 R5];exact hW.c5
 ·exact (A2.of_below hB).trans (A2.setMb h.me _ _)
def yD (own:Own) (mb:Nat) (g:PgR) (R:McR) (s:McA) (w:World) (e:Ending) (w':World):Prop :=
 ∃own' R',e=.returned (.tuple #[])/\A4 w' own' mb g R'/\R'.st=R.st/\R'.ov=R.ov/\McR.abs { R' with st:=s.st }=s/\A2 own w own' w'
theorem a0c (h:A4 w own mb g R) (hf:R.frs=[f]) (x:Val) :
  Calls prog 299 #[.pointer (some ⟨mb,3,none⟩),.agg #[zC x.1,J x.2]] w fun e w'=>yD own mb g R (C9 R.abs [] x) w e w':=by
 obtain⟨cb,cc,hv,xa,xc,_⟩:=h.top (fs:=[]) hf;have c3:=h.c3;rw[hv] at c3;simp only[List.length_nil,Nat.zero_add] at c3;have fz:=h.fz 3;have xb:mb < w.heap.size:=h.lt mb _ h.me;obtain⟨h1,h2,_⟩:=h.popFrame (fs:=[]) (L3b _ _) hf hv;have HP:Hid (∀V,Below (w.setCell ⟨mb,3,none⟩ (.slice (zA cb) 0 cc)).heap.size (w.setCell ⟨mb,3,none⟩ (.slice (zA cb) 0 cc)) V->yD own mb g R (C9 R.abs [] x) w (.returned (.tuple #[])) V):=fun V hV =>
  ⟨own,_,rfl,h1.same hV.size fun k hk=>hV.block k hk,rfl,rfl,by simp [C9,McR.abs],h2.trans (A2.of_below hV)⟩
 clear h hf hv xa h1 h2;go_enter func299,ntmps299;go_wp2_with fail;go_region
 all_goals
  go_wp2_with fail;go_end0
  exact HP.out _ P5
theorem a0d {c:FrR} (h:A4 w own mb g R) (hf:R.frs=(fs++[c])++[f]) (hn:fs.length<=1000) (hs:c.stk.length<=1000) (hpc:c.pc<=1000) (x:Val) :
  Calls prog 299 #[.pointer (some ⟨mb,3,none⟩),.agg #[zC x.1,J x.2]] w fun e w'=>yD own mb g R (C9 R.abs ((fs++[c]).map FrR.abs) x) w e w':=by
 obtain⟨cb,cc,hv,xb,xk,_⟩:=h.top hf;have c3:=h.c3;rw[hv,List.length_append] at c3;simp only[List.length_cons,List.length_nil,Nat.zero_add] at c3;have fz:=h.fz 3;have xm:mb < w.heap.size:=h.lt mb _ h.me;have xn:fs.length+1+1<=cc:=by
  have:=h.called.1;rw[hv,hf] at this;simp only[List.length_append,List.length_cons,List.length_nil,Nat.zero_add] at this;exact (W3 this).1
 have xi:fs.length+1<=cc:=by omega
 obtain⟨h1,h2,h3⟩:=h.popFrame (L3b _ _) hf hv;have hl:(fs++[c]).length=fs.length+1:=by simp
 rw[hl] at h1 h2 h3;have xj:Hid (∀V pb cp,Below (w.setCell ⟨mb,3,none⟩ (.slice (zA cb) (fs.length+1) cc)).heap.size (w.setCell ⟨mb,3,none⟩ (.slice (zA cb) (fs.length+1) cc)) V->w.heap.size<=pb->V.heap[pb]?=some (.cells #[zC x.1,J x.2] 92) ->
   Calls prog 304 #[.pointer (some ⟨mb,3,none⟩),J 0,.slice (zA pb) 1 cp] V fun e w'=>yD own mb g R (C9 R.abs ((fs++[c]).map FrR.abs) x) w e w'):=by
  intro V pb cp hV hpb hblk;have xh:=h1.same hV.size fun k hk=>hV.block k hk
  have hp:fP V own (.slice (zA pb) 1 cp) [x]:=G9 (a:=x.1) (b:=x.2) h1 (by simpa using hpb) hblk;refine (wG xh rfl 0 (L4c _) _ [x] hp hn hs R6 hpc).mono ?_;rintro e w' ⟨xa,xl,rfl,hm,ht⟩;refine⟨xa,_,rfl,hm,rfl,rfl,?_,h2.trans ((A2.of_below hV).trans ht)⟩;have e1:C9 R.abs ((fs++[c]).map FrR.abs) x=goA R.abs (fs.map FrR.abs) c.abs (c.abs.pc+1) (c.abs.stk++[x]):=by
   unfold C9;have q1:((fs++[c]).map FrR.abs).getLast?=some c.abs:=by simp
   have q2:((fs++[c]).map FrR.abs).dropLast=fs.map FrR.abs:=by simp
   rw[q1,q2]
  rw[e1,Nat.sub_zero,List.take_length];simp[McR.abs,goA,FrR.abs]
 clear h hf hv xb h1 h2 h3;go_enter func299,ntmps299;go_wp2_with fail;go_region
 all_goals
  go_wp2_with (go_at_call 304;refine (xj.out _ _ _ ?_ ?_ ?_).mono ?_;exact P5;exact Q4;exact (by first | exact B0 R6 | exact K9 R6 | exact O4 R6);rintro e w2 ⟨xa,R',rfl,xd,xg,xe,xf,xc⟩;have HL:Hid (yD own mb g R (C9 R.abs ((fs++[c]).map FrR.abs) x) w (.returned (.tuple #[])) w2):=⟨xa,R',rfl,xd,xg,xe,xf,xc⟩;clear xd xg xe xf xc)
  go_end0
  exact HL.out
theorem a0b (h:A4 w own mb g R) (hf:R.frs=fs++[f]) (hn:fs.length<=1000) (hc:∀c,c∈fs->c.stk.length<=1000/\c.pc<=1000) (x:Val) :
  Calls prog 299 #[.pointer (some ⟨mb,3,none⟩),.agg #[zC x.1,J x.2]] w fun e w'=>yD own mb g R (C9 R.abs (fs.map FrR.abs) x) w e w':=by
 rcases List.eq_nil_or_concat fs with rfl | ⟨r,c,rfl⟩
 ·exact a0c h hf x
 ·rw [List.concat_eq_append] at hf hn hc ⊢
  have:=hc c R6;exact a0d h hf (by simp at hn;omega) this.1 this.2 x
theorem a2Z {rest:List Val} {x:Val} {va:Option Addr} {sb:Nat} (hq:F4 R) (h:C0 w own mb g R fs f rest [x] va sb) (hc:∀c,c∈fs->c.stk.length<=1000/\c.pc<=1000) (a:Int) (vc:Nat) :
  Calls prog 275 #[zB mb,J a,.slice va 1 vc] w fun e w'=>DoA own mb g (C9 R.abs (fs.map FrR.abs) x) w e w':=by
 obtain⟨o,rfl,xp,c0,c1⟩:=h.one;have xq:mb < w.heap.size:=h.m.lt mb _ h.m.me;have HL:Hid (∀U,L0d w U->Calls prog 299 #[.pointer (some ⟨mb,3,none⟩),.agg #[zC x.1,J x.2]] U fun e w'=>yD own mb g R (C9 R.abs (fs.map FrR.abs) x) U e w'):=fun U hU=>a0b (h.m.same hU.size fun k hk=>hU.block k hk) h.hf h.hn hc x
 have xk:(fs=[]/\(C9 R.abs (fs.map FrR.abs) x).st=1/\(C9 R.abs (fs.map FrR.abs) x).frs.length=0)\/(0 < fs.length/\(C9 R.abs (fs.map FrR.abs) x).st=0/\(C9 R.abs (fs.map FrR.abs) x).frs.length=fs.length):=by
  rcases List.eq_nil_or_concat fs with rfl | ⟨r,c,rfl⟩
  ·exact L4a ⟨rfl,rfl,rfl⟩
  ·refine L4b ⟨by simp,?_⟩
   rw[List.concat_eq_append];unfold C9;have q1:((r++[c]).map FrR.abs).getLast?=some c.abs:=by simp
   have q2:((r++[c]).map FrR.abs).dropLast=r.map FrR.abs:=by simp
   rw[q1,q2];exact⟨rfl,by simp [goA]⟩
 have hn:=h.hn;have xf:Hid (∀U w2 xa R',L0d w U->A4 w2 xa mb g R'->R'.st=R.st->R'.ov=R.ov->McR.abs { R' with st:=(C9 R.abs (fs.map FrR.abs) x).st }=C9 R.abs (fs.map FrR.abs) x->A2 own U xa w2 ->
   (∃ca cc,w2.cell? ⟨mb,3,none⟩=some (.slice ca (C9 R.abs (fs.map FrR.abs) x).frs.length cc))/\∀V,L0d w2 V->DoA own mb g (C9 R.abs (fs.map FrR.abs) x) w (.returned (J (C9 R.abs (fs.map FrR.abs) x).st)) V):=by
  intro U w2 xa R' hU hm _ hov he ht;have xm:R'.frs.length=(C9 R.abs (fs.map FrR.abs) x).frs.length:=by
   rw[<- he];simp [McR.abs]
  have xe:R'.out=R.out:=by
   have h1:R'.out=(C9 R.abs (fs.map FrR.abs) x).out:=by rw [<- he];rfl
   rw[h1];unfold C9;split <;> rfl
  refine⟨?_,fun V hV=>⟨xa,R',rfl,hm.same hV.size fun k hk=>hV.block k hk,⟨he,fun e=>?_⟩,((A2.of_below hU).trans ht).trans (A2.of_below hV)⟩⟩
  ·obtain ⟨ca,cc,xl⟩:=E0 hm.called
   refine⟨ca,cc,?_⟩;rw[<- xm,<- xl];exact hm.c3
  ·rw [hov];exact hq (by rw [<- xe];exact e)
 generalize C9 R.abs (fs.map FrR.abs) x=s at *
 clear h hc hq;go_enter func275,ntmps275;go_wp2_with fail;go_region_with (first | (go_at_call 299;refine (HL.out _ ?_).mono ?_;exact P5;rintro e w2 ⟨xa,R',rfl,xb,xj,xh,xi,xg⟩;obtain ⟨⟨ca,cc,d3⟩,hfin⟩:=xf.out _ w2 xa R' P5 xb xj xh xi xg;have HF:=hid hfin;have xo:mb < w2.heap.size:=xb.lt mb _ xb.me;clear hfin xb xj xh xi xg))
 all_goals
  rcases xk with ⟨rfl,xc,xd⟩ | ⟨xn,xc,xd⟩
  ·rw [xd] at d3
   rw[xc] at HF;go_wp2_with fail;go_ret;exact HF.out _ P5
  ·rw [xd] at d3
   rw[xc] at HF;go_wp2_with fail;go_ret;exact HF.out _ P5
end
section
variable {R:McR} {f:FrR} {fs:List FrR} {g:PgR} {mb sb:Nat} {own:Own} {rest:List Val} {va:Option Addr} {w:World} {x:Val}
theorem a2p (hq:F4 R) (h:C0 w own mb g R fs f rest [x] va sb) {kd:Int} {fa:Option Addr} {n fc:Nat} (hr:iO w mb x kd fa n fc) (a:Int) (vc:Nat) :
  Calls prog 285 #[zB mb,J a,.slice va 1 vc] w fun e w'=>DoA own mb g (if kd=1\/kd=2 then goA R.abs (fs.map FrR.abs) f.abs (f.abs.pc+1) (rest++[(1,(n:Int))]) else D4 R.abs 2) w e w':=by
 obtain⟨o,rfl,xn,c0,c1⟩:=h.one;obtain⟨x1,x2⟩:=x;simp only at c0 c1;have xo:mb < w.heap.size:=h.m.lt mb _ h.m.me;have xe:Hid (∀W,L0d w W->Calls prog 225 #[.pointer (some ⟨mb,4,none⟩),.agg #[zC x1,J x2]] W fun e w'=>e=.returned (.agg #[zC kd,.slice fa n fc])/\L0d W w'):=hr;have HH:=hid h;have HQ:=hid hq;clear h hr hq;by_cases h12:kd=1\/kd=2
 ·rw [if_pos h12]
  have xd:Hid (∀e w',C3 own mb g R fs f (f.pc+1) (rest++[(1,(n:Int))]) (J 0) w e w'->DoA own mb g (goA R.abs (fs.map FrR.abs) f.abs (f.abs.pc+1) (rest++[(1,(n:Int))])) w e w'):=fun e w' hp=>hp.doA HQ.out
  rcases h12 with rfl | rfl
  all_goals
   go_enter func285,ntmps285;go_wp2_with fail;go_region_with (first | (go_at_call 225;refine (xe.out _ ?_).mono ?_;exact P5;rintro e w2 ⟨rfl,xa⟩;obtain ⟨xl,xj⟩:=Z5 xa;have xc:=xa.size;have xm:w.heap.size<=w2.heap.size:=(by simp at xc;omega);have xf:sb < w2.heap.size:=R5;have xi:mb < w2.heap.size:=R5;(try (have xh:w.heap.size+1 < w2.heap.size:=(by simp at xc;omega)));have xb:Hid (L0d w w2):=A3 xa P5;clear xa))
   all_goals
    go_wp2_with (first | (go_at_call 237;refine (N5 _ _).mono ?_;rintro e w' ⟨rfl,o4,rfl⟩) | (go_at_call 290;refine (HH.out.answer (by have hq:=xb.out.size;repeat (first | exact xb.out | refine L3c ?_ | refine Below.setCell ?_ Q1 _ | refine L3a ?_ Q1 _)) vc _ [(1,(n:Int))] (G9 HH.out.m (by have hq:=xb.out.size;first | omega | (simp;omega)) (by first | exact B0 R6 | exact K9 R6 | exact O4 R6)) R6 1 rfl).mono ?_;rintro e w' ⟨xg,xk,rfl,hm,ht⟩;have HP:Hid (DoA own mb g _ w _ w'):=xd.out _ w' ⟨xg,xk,rfl,hm,ht⟩;clear hm ht))
    go_ret;exact HP.out
 ·rw [if_neg h12]
  have h1:(kd != 1)=true:=bne_iff_ne.2 fun e=>h12 (L4a e)
  have h2:(kd != 2)=true:=bne_iff_ne.2 fun e=>h12 (L4b e)
  clear h12;go_enter func285,ntmps285;go_wp2_with fail;go_region_with (first | (go_at_call 225;refine (xe.out _ ?_).mono ?_;exact P5;rintro e w2 ⟨rfl,xa⟩;obtain ⟨xl,xj⟩:=Z5 xa;have xc:=xa.size;have xm:w.heap.size<=w2.heap.size:=(by simp at xc;omega);have xf:sb < w2.heap.size:=R5;have xi:mb < w2.heap.size:=R5;(try (have xh:w.heap.size+1 < w2.heap.size:=(by simp at xc;omega)));have xb:Hid (L0d w w2):=A3 xa P5;clear xa))
  all_goals
   go_wp2_with fail;go_ret;exact F7.doA ⟨rfl,by have hq:=xb.out.size;repeat (first | exact xb.out | refine L3c ?_ | refine Below.setCell ?_ Q1 _ | refine L3a ?_ Q1 _)⟩ HH.out.m HQ.out
theorem a9d (hq:F4 R) (h:C0 w own mb g R fs f rest [x] va sb) (hx:VOk (R.obs.map ObR.abs) x) (a:Int) (vc:Nat) :
  Calls prog (doT 23) #[zB mb,J a,.slice va 1 vc] w fun e w'=>DoA own mb g (doA g 23 a R.abs (fs.map FrR.abs) f.abs rest [x]) w e w':=by
 obtain⟨kd,fa,n,fc,hR,rfl,rfl⟩:=bE h.m x hx;exact a2p hq h hR a vc
end
end Go.Proofs.YtbkmgoffiigdbaaGreatDoor
