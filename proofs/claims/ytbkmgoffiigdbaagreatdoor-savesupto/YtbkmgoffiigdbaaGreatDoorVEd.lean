import Derived.Test.YtbkmgoffiigdbaaGreatDoorVEb
namespace Go.Proofs.YtbkmgoffiigdbaaGreatDoor
open Go.RowKit Go.Sort Go.Proofs.Tryz
set_option maxHeartbeats 2000000
set_option maxRecDepth 100000
section
variable {R:McR} {f:FrR} {fs:List FrR} {g:PgR} {mb sb:Nat} {own:Own} {rest:List Val} {va:Option Addr} {w:World} {x:Val}
theorem sS (h:C0 w own mb g R fs f rest [x] va sb) {kd:Int} {fa:Option Addr} {n fc:Nat} (hr:iO w mb x kd fa n fc) (h3:kd≠3) (a:Int) (vc:Nat) :
  Calls prog 286 #[zB mb,J a,.slice va 1 vc] w fun e w'=>F7 2 w e w':=by
 obtain⟨o,rfl,xi,c0,c1⟩:=h.one;obtain⟨x1,x2⟩:=x;simp only at c0 c1;have xk:mb < w.heap.size:=h.m.lt mb _ h.m.me;have xb:Hid (∀W,L0d w W->Calls prog 225 #[.pointer (some ⟨mb,4,none⟩),.agg #[zC x1,J x2]] W fun e w'=>e=.returned (.agg #[zC kd,.slice fa n fc])/\L0d W w'):=hr;have xh:(kd != 3)=true:=bne_iff_ne.2 h3;clear h hr h3;go_enter func286,ntmps286
 go_wp2_with fail;go_region_with (first | (go_at_call 225;refine (xb.out _ ?_).mono ?_;exact P5;rintro e w2 ⟨rfl,xa⟩;obtain ⟨xl,xj⟩:=Z5 xa;have xd:=xa.size;have xm:w.heap.size<=w2.heap.size:=(by simp at xd;omega);have xe:sb < w2.heap.size:=R5;have xg:mb < w2.heap.size:=R5;(try (have xf:w.heap.size+1 < w2.heap.size:=(by simp at xd;omega)));have xc:Hid (L0d w w2):=A3 xa P5;clear xa))
 all_goals
  go_wp2_with fail;go_ret;exact⟨rfl,by have hq:=xc.out.size;repeat (first | exact xc.out | refine L3c ?_ | refine Below.setCell ?_ Q1 _ | refine L3a ?_ Q1 _)⟩
theorem vW {j:Nat} {o:ObR} {v:Val} (hq:F4 R) (h:C0 w own mb g R fs f rest [(2,(j:Int))] va sb) (hj:R.obs[j]?=some o) (h3:o.kind=3) (hfl:o.fl=[v]) (hv:v=(0,0)\/(v.1=2/\0<=v.2)) (ho:aL R) (hal:(A0 R.abs).length<=1000) (a:Int) (vc:Nat) :
  Calls prog 286 #[zB mb,J a,.slice va 1 vc] w fun e w'=>DoA own mb g (goA R.abs (fs.map FrR.abs) f.abs (f.abs.pc+1) (rest++[bU (A0 R.abs) v])) w e w':=by
 obtain⟨so,rfl,xs,c0,c1⟩:=h.one;simp only at c0 c1;have xu:mb < w.heap.size:=h.m.lt mb _ h.m.me;have xg:=h.m.fld j o hj;obtain⟨fb,fc,xe,_,xj⟩:=xg.1.form (by rw [hfl];simp);have xa:=xg.1;rw[xe] at xa;rw[hfl] at xe;have f0:w.cell? ⟨fb,0,none⟩=some (zC v.1):=by rw [xa.cellAt 0 (by rw [hfl];simp),hfl];rfl
 have f1:w.cell? ⟨fb,1,none⟩=some (J v.2):=by rw [xa.cellAt 1 (by rw [hfl];simp),hfl];rfl
 have xh:Hid (∀W,L0d w W->Calls prog 225 #[.pointer (some ⟨mb,4,none⟩),.agg #[zC 2,J (j:Int)]] W fun e w'=>e=.returned (.agg #[zC 3,.slice (zA fb) 1 fc])/\L0d W w'):=by
  intro W hW;have:=aF (h.m.same hW.size fun k hk=>hW.block k hk) hj;rw[xe,h3] at this;exact this
 have xp:Hid (∀W,L0d w W->Calls prog 303 #[zB mb,.agg #[zC v.1,J v.2]] W fun e w'=>e=.returned (.agg #[zC (bU (A0 R.abs) v).1,J (bU (A0 R.abs) v).2])/\L0d W w'):=fun W hW=>wJ (h.m.same hW.size fun k hk=>hW.block k hk) ho hal v hv
 have HH:=hid h;have xc:Hid (∀e w',C3 own mb g R fs f (f.pc+1) (rest++[bU (A0 R.abs) v]) (J 0) w e w'->DoA own mb g (goA R.abs (fs.map FrR.abs) f.abs (f.abs.pc+1) (rest++[bU (A0 R.abs) v])) w e w'):=fun e w' hp=>hp.doA hq
 clear h hj h3 hfl hv ho hal xg xe xa hq;generalize bU (A0 R.abs) v=y at *
 go_enter func286,ntmps286;go_wp2_with fail;go_region_with (first | (go_at_call 225;refine (xh.out _ ?_).mono ?_;exact P5;rintro e w2 ⟨rfl,xd⟩;obtain ⟨xv,xt⟩:=Z5 xd;have xl:=xd.size;have xw:w.heap.size<=w2.heap.size:=(by simp at xl;omega);have xn:fb < w2.heap.size:=R5;have xm:sb < w2.heap.size:=R5;have xr:mb < w2.heap.size:=R5;(try (have xq:w.heap.size+1 < w2.heap.size:=(by simp at xl;omega)));have xb:Hid (L0d w w2):=A3 xd P5;have g0:=(xb.out.cell (p:=⟨fb,0,none⟩) xj).trans f0;have g1:=(xb.out.cell (p:=⟨fb,1,none⟩) xj).trans f1;clear xd))
 all_goals
  go_wp2_with (first | (go_at_call 303;refine (xp.out _ ?_).mono ?_;exact (by have hq:=xb.out.size;repeat (first | exact xb.out | refine L3c ?_ | refine Below.setCell ?_ Q1 _ | refine L3a ?_ Q1 _));rintro e w3 ⟨rfl,xk⟩;have xi:Hid (L0d w w3):=A3 xk (by have hq:=xb.out.size;repeat (first | exact xb.out | refine L3c ?_ | refine Below.setCell ?_ Q1 _ | refine L3a ?_ Q1 _));clear xk) | (go_at_call 290;refine (HH.out.answer (by have hq:=xi.out.size;repeat (first | exact xi.out | refine L3c ?_ | refine L3a ?_ Q1 _)) vc _ [y] (G9 (a:=y.1) (b:=y.2) HH.out.m (by have hq:=xi.out.size;first | omega | (simp;omega)) (by first | exact B0 R6 | exact K9 R6 | exact O4 R6)) R6 1 rfl).mono ?_;rintro e w' ⟨xf,xo,rfl,hm,ht⟩;have HP:Hid (DoA own mb g _ w _ w'):=xc.out _ w' ⟨xf,xo,rfl,hm,ht⟩;clear hm ht))
  go_ret;exact HP.out
theorem a3a (hq:F4 R) (h:C0 w own mb g R fs f rest [x] va sb) (hi:C8 g R.abs) (hx:VOk (R.obs.map ObR.abs) x) (ho:aL R) (hal:(A0 R.abs).length<=1000) (a:Int) (vc:Nat) :
  Calls prog 286 #[zB mb,J a,.slice va 1 vc] w fun e w'=>DoA own mb g (doA g 24 a R.abs (fs.map FrR.abs) f.abs rest [x]) w e w':=by
 by_cases h3:(A1 (R.obs.map ObR.abs) x).1=3
 ·obtain ⟨xb,hg⟩:=eZ (obs:=R.obs.map ObR.abs) (v:=x) (by rw [h3];decide)
  have xa:=hi.obs _ (L2a (show R.abs.obs[x.2.toNat]?=some _ from hg));rw[List.getElem?_map] at hg;obtain⟨o,xc,xd⟩:=Option.map_eq_some_iff.1 hg;obtain⟨h0,_⟩:=hx.ref xb;obtain⟨j,hj⟩:=L5c h0;obtain⟨x1,x2⟩:=x;simp only at xb hj xc;subst xb hj;rw[Int.toNat_natCast] at xc;rw[<- xd] at xa h3;have hk:o.kind=3:=h3;rcases xa with xa | xa | xa | ⟨_,v,hfl,hvo,hv1⟩
  ·have:o.kind=0:=xa.1;omega
  ·have:o.kind=1:=xa.1;omega
  ·have:o.kind=2:=xa.1;omega
  ·have hv:v=(0,0)\/(v.1=2/\0<=v.2):=by
    rcases hvo with h | h | h
    ·exact L4a h
    ·exact absurd h hv1
    ·exact L4b ⟨h.1,h.2.1⟩
   have e:doA g 24 a R.abs (fs.map FrR.abs) f.abs rest [(2,(j:Int))]=goA R.abs (fs.map FrR.abs) f.abs (f.abs.pc+1) (rest++[bU (A0 R.abs) v]):=by
    have e2:A1 R.abs.obs (2,(j:Int))=o.abs:=xd.symm;simp only[doA];rw[e2,if_pos h3];have e3:o.abs.2=[v]:=hfl;rw[e3];rfl
   rw[e];exact vW hq h xc hk hfl hv ho hal a vc
 ·obtain ⟨kd,fa,n,fc,hR,rfl,rfl⟩:=bE h.m x hx
  have e:doA g 24 a R.abs (fs.map FrR.abs) f.abs rest [x]=D4 R.abs 2:=by
   simp only[doA];exact if_neg h3
  rw[e];exact (sS h hR h3 a vc).mono fun _ _ ht=>ht.doA h.m hq
end
section
variable {R:McR} {g:PgR} {mb:Nat} {own:Own} {w:World}
theorem a5y {fs:List FrR} {f:FrR} {rest args:List Val} {va:Option Addr} {sb:Nat} (hp:N3 g) (hi:C8 g R.abs) (hq:F4 R) {k:Nat} {a:Int} (hk:k < 28) (o:hZ g f.abs k a rest args) (h:C0 w own mb g R fs f rest args va sb) (vc:Nat) :
  Calls Tryz.prog (doT k) #[zB mb,J a,.slice va args.length vc] w fun e w'=>DoA own mb g (doA g k a R.abs (fs.map FrR.abs) f.abs rest args) w e w':=by
 have xh:R.abs.frs=fs.map FrR.abs++[f.abs]:=by show R.frs.map FrR.abs=_;rw [h.hf];simp
 obtain⟨h1,_⟩:=hi.top xh;obtain⟨xj,hl,_,_⟩:=h1.at hp;have xc:F5 g.n (g.f f.fn).l (g.f f.fn).n k a=true:=by
  have:F5 g.n (g.f f.abs.fn).l (g.f f.abs.fn).n ((g.f f.abs.fn).op f.abs.pc) ((g.f f.abs.fn).ar f.abs.pc)=true:=hl;rw[o.op,o.ar] at this;exact this
 have xi:(f.loc.length:Int)=(g.f f.fn).l:=h1.loc;have xb:=hi.heapOk hp;have xf:=hi.alive_len;have xg:R.dr.length<=1000:=by have:=hi.dr;have e:R.abs.dr=R.dr:=rfl;rw [e] at this;omega
 have xa:∀v,v∈args->VOk (R.obs.map ObR.abs) v:=fun v hv=>hi.here xh (by show v∈f.loc++f.stk;rw [h.hst];simp [hv])
 have xe:∀x,(A1 (R.obs.map ObR.abs) x).2.length<=1000:=fun x=>by have:=(aT hi (v:=x)).len;have e:R.abs.obs=R.obs.map ObR.abs:=rfl;rw [e] at this;omega
 have hn:=o.pops;have xd:k=0\/k=1\/k=2\/k=3\/k=4\/k=5\/k=6\/k=7\/k=8\/k=9\/k=10\/k=11\/k=12\/k=13\/k=14\/k=15\/k=16\/k=17\/k=18\/k=19\/k=20\/k=21\/k=22\/k=23\/k=24\/k=25\/k=26\/k=27:=by omega
 rcases xd with rfl | rfl | rfl | rfl | rfl | rfl | rfl | rfl | rfl | rfl | rfl | rfl | rfl | rfl | rfl | rfl | rfl | rfl | rfl | rfl | rfl | rfl | rfl | rfl | rfl | rfl | rfl | rfl
 ·obtain rfl:=V6 hn rfl
  exact wX hq (L4a rfl) h a vc
 ·obtain rfl:=V6 hn rfl
  exact wX hq (L4b rfl) h a vc
 ·obtain rfl:=V6 hn rfl
  have:B3 a 0 ((g.f f.fn).l - 1)=true:=xc;rw[E5] at this;exact a7G hq h a this.1 R5 vc
 ·obtain ⟨x,rfl⟩:=F8 hn rfl
  have:B3 a 0 ((g.f f.fn).l - 1)=true:=xc;rw[E5] at this;exact a5B hq h a this.1 R5 vc
 ·obtain ⟨x,rfl⟩:=F8 hn rfl
  exact a0r hq (L4a rfl) h a vc
 ·obtain ⟨x,rfl⟩:=F8 hn rfl
  exact a0r hq (L4b (L4a rfl)) h a vc
 ·obtain ⟨x,y,rfl⟩:=L4 hn rfl
  exact lQ hq R5 h a vc
 ·obtain ⟨x,y,rfl⟩:=L4 hn rfl
  exact lQ hq R5 h a vc
 ·obtain ⟨x,y,rfl⟩:=L4 hn rfl
  exact lQ hq R5 h a vc
 ·obtain ⟨x,y,rfl⟩:=L4 hn rfl
  exact lQ hq R5 h a vc
 ·obtain ⟨x,y,rfl⟩:=L4 hn rfl
  exact lQ hq R5 h a vc
 ·obtain ⟨x,y,rfl⟩:=L4 hn rfl
  exact lQ hq R5 h a vc
 ·obtain rfl:=V6 hn rfl
  exact a7F hq h a (Z0 xc (L4a rfl)).1 vc
 ·obtain ⟨x,rfl⟩:=F8 hn rfl
  exact a0q hq h a (Z0 xc (L4b rfl)).1 vc
 ·have hc:=S8 xc rfl
  exact a7D hq h hp a hc.1 hc.2 (by have:=o.pops;simpa [U5] using this) vc
 ·obtain ⟨x,rfl⟩:=F8 hn rfl
  refine a2Z hq h (fun c hc=>?_) a vc;have:=hi.frame hp (f:=c.abs) (by rw [xh];exact List.mem_append_left _ (List.mem_map.2 ⟨c,hc,rfl⟩));have e1:c.abs.stk=c.stk:=rfl;have e2:c.abs.pc=c.pc:=rfl;rw[e1,e2] at this;omega
 ·obtain rfl:=V6 hn rfl
  have:B3 a 0 8=true:=xc;rw[E5] at this;exact a2Y hq h xb xf xg a this.1 this.2 vc
 ·obtain ⟨x,rfl⟩:=F8 hn rfl
  exact a5z hq h xb xf xg a vc
 ·obtain ⟨x,rfl⟩:=F8 hn rfl
  exact a7H hq h xb xf xg a vc
 ·obtain ⟨x,rfl⟩:=F8 hn rfl
  exact a9c hq h (xa x R6) (xe x) a vc
 ·obtain ⟨x,y,rfl⟩:=L4 hn rfl
  exact a9e hq h (xa x R6) (xe x) a vc
 ·obtain ⟨x,y,rfl⟩:=L4 hn rfl
  exact a9K hq h (xa x R6) (xe x) a vc
 ·obtain ⟨x,y,z,rfl⟩:=a1y hn rfl
  exact a9f hq h (xa x R6) (xe x) a vc
 ·obtain ⟨x,rfl⟩:=F8 hn rfl
  exact a9d hq h (xa x R6) a vc
 ·obtain ⟨x,rfl⟩:=F8 hn rfl
  exact a3a hq h hi (xa x R6) xb xf a vc
 ·obtain ⟨x,rfl⟩:=F8 hn rfl
  exact a0r hq (L4b (L4b rfl)) h a vc
 ·obtain ⟨x,rfl⟩:=F8 hn rfl
  exact a5A hq h a vc
 ·obtain rfl:=V6 hn rfl
  exact a7E hq h a vc
structure Is (g:PgR) (s:McA) (R:McR):Prop where
 abs:R.abs=s
 nil:F4 R
theorem a1f (hp:N3 g) (hi:C8 g R.abs) (h0:R.st=0) (hq:F4 R) (h:A4 w own mb g R) :
  Calls Tryz.prog 136 #[zB mb] w fun e w'=>jV own mb g (Is g (X2 g R.abs)) w e w':=by
 have xe:R.frs≠[]:=fun e=>hi.run h0 (by show R.frs.map FrR.abs=[];rw [e];rfl)
 have hf:R.frs=R.frs.dropLast++[R.frs.getLast xe]:=(List.dropLast_concat_getLast xe).symm;generalize R.frs.dropLast=fs at hf;generalize R.frs.getLast xe=f at hf;have xd:R.abs.frs=fs.map FrR.abs++[f.abs]:=by show R.frs.map FrR.abs=_;rw [hf];simp
 obtain⟨k,a,xb,xa,hk,o,xg⟩:=hi.opAt hp xd;obtain⟨h1,_⟩:=hi.top xd;have hb:=hi.frame hp (f:=f.abs) (by rw [xd];simp);have e1:f.abs.stk=f.stk:=rfl;have e2:f.abs.pc=f.pc:=rfl;have e3:f.abs.fn=f.fn:=rfl;rw[e1,e2,e3] at hb;have hd:=hi.depth;rw[xd] at hd;simp at hd;have xf:f.fn < g.n:=h1.fn;have xj:=hp.sized.2.1;have xk:=hp.sized.bd xf;have xc:a8J g f k a xa.length:=⟨xf,hb.2.2.2,o.op,o.ar,hk,o.pops,fun e=>by
  obtain⟨_,hl,_,_⟩:=h1.at hp;have xh:F5 g.n (g.f f.abs.fn).l (g.f f.abs.fn).n ((g.f f.abs.fn).op f.abs.pc) ((g.f f.abs.fn).ar f.abs.pc)=true:=hl;have:=S8 xh (by rw [o.op];exact e);rw[o.ar] at this;exact this⟩
 rw[xg];refine a8l h hf k a xb xa o.stk xc R5 R5 R5 R5 R5 (fun R'=>McR.abs { R' with st:=(doA g k a R.abs (fs.map FrR.abs) f.abs xb xa).st }=doA g k a R.abs (fs.map FrR.abs) f.abs xb xa/\F4 R') (doA g k a R.abs (fs.map FrR.abs) f.abs xb xa).st (fun W va vc sb hA=>a5y hp hi hq hk o hA vc) _ ?_;rintro Q ⟨hQ,xi⟩;exact⟨hQ,xi⟩
end
section
variable {R:McR} {g:PgR}
theorem lW (g:PgR):∀(i:Nat) (s:McA),(L8 g i s).st=0->L8 g (i+1) s=X2 g (L8 g i s)
 | 0,s,h=>by
  have h':s.st=0:=h;show (if s.st=0 then X2 g s else s)=X2 g s;exact if_pos h'
 | i+1,s,h=>by
  by_cases h0:s.st=0
  ·rw [L8,if_pos h0] at h
   rw[L8,if_pos h0,lW g i (X2 g s) h,L8,if_pos h0]
  ·rw [L8,if_neg h0] at h
   exact absurd h h0
theorem fB (g:PgR):∀(n i:Nat) (s:McA),i < E9 g n s->(L8 g i s).st=0
 | 0,i,s,h=>by simp [E9] at h
 | n+1,i,s,h=>by
  by_cases h0:s.st=0
  ·cases i with
   | zero=>exact h0
   | succ i =>
    rw[E9,if_pos h0] at h;rw[L8,if_pos h0];exact fB g n i (X2 g s) R5
  ·rw [E9,if_neg h0] at h
   omega
theorem xO (g:PgR):∀(n:Nat) (s:McA),E9 g n s < n->(L8 g (E9 g n s) s).st≠0
 | 0,s,h=>by omega
 | n+1,s,h=>by
  by_cases h0:s.st=0
  ·rw [E9,if_pos h0] at h ⊢
   rw[L8,if_pos h0];exact xO g n (X2 g s) R5
  ·rw [E9,if_neg h0]
   exact h0
theorem a3L {own:Own} {mb:Nat} {s:McA} {w:World} (hp:N3 g) (hi:C8 g s) (hR:Is g s R) (h:A4 w own mb g R) (fuel:Nat) (hf:fuel<=10000) :
  Calls Tryz.prog 60 #[zB mb,J (fuel:Int)] w fun e w'=>nD own mb g (Is g (L8 g fuel s)) (E9 g fuel s) w e w':=by
 refine a7c ?_;have xg:=a7Z h (fun i R'=>Is g (L8 g i s) R') hR (E9 g fuel s) fuel (rV g fuel s) hf (fun i R' hi' h'=>?_) (fun hlt R' h'=>?_) (fun i xa R' w' hi' hm' h'=>?_)
 ·refine xg.mono ?_
  rintro e w' ⟨xa,R',he,hm,hs,ht⟩;exact⟨xa,R',he,hm,by rw [<- (pV g fuel s).1];exact hs,ht⟩
 ·have e:R'.st=(L8 g i s).st:=by rw [<- h'.abs];rfl
  rw[e];exact fB g fuel i s hi'
 ·have e:R'.st=(L8 g (E9 g fuel s) s).st:=by rw [<- h'.abs];rfl
  rw[e];exact xO g fuel s hlt
 ·have h0:=fB g fuel i s hi'
  have xf:R'.st=0:=by
   have e:R'.st=(L8 g i s).st:=by rw [<- h'.abs];rfl
   rw[e];exact h0
  have xd:C8 g R'.abs:=by rw [h'.abs];exact sY hp i hi
  refine (a1f hp xd xf h'.nil hm').mono ?_;rintro e xh ⟨xb,xe,he,xc,hs,ht⟩;refine⟨xb,xe,he,xc,?_,ht⟩;show Is g (L8 g (i+1) s) xe;rw[lW g i s h0,<- h'.abs];exact hs
theorem a4C {cap:Nat} (hb:uP g cap R):R.abs=⟨0,[],[⟨0,0,List.replicate (g.f 0).l.toNat (0,0),[]⟩],List.replicate cap (0,[]),[]⟩/\F4 R:=by
 obtain⟨lv,hf⟩:=hb.frs;refine⟨?_,fun _=>hb.ov⟩;unfold McR.abs;rw[hb.st,hb.out,hf,hb.obs,hb.dr];simp[FrR.abs,ObR.abs,V2]
theorem a2L (hp:N3 g) {cap:Nat} (h1:1<=cap) (h40:cap<=40):C8 g ⟨0,[],[⟨0,0,List.replicate (g.f 0).l.toNat (0,0),[]⟩],List.replicate cap (0,[]),[]⟩:=by
 have hn:=hp.sized.1;have hb:=hp.sized.bd (show 0 < g.n by omega);refine⟨fun _=>by simp,?_,by simp,fun f hf v hv=>?_,fun o ho=>L4a ?_,by simpa using ⟨h1,h40⟩,by simp,by simp⟩
 ·show jM g _ 0/\jO g 0 []
  exact⟨⟨by show 0 < g.n;omega,by simp;omega,by simpa using G2.reach_first _⟩,rfl⟩
 ·simp at hf
  subst hf;simp at hv;exact L4a hv.2
 ·have:=List.eq_of_mem_replicate ho
  rw[this];exact⟨rfl,rfl⟩
theorem a7L (h:J9 g 0 0):N3 g:=by
 rcases h with ⟨_,h⟩ | ⟨hs,⟨_,h⟩ | ⟨hc,⟨_,h⟩ | ⟨hh,_⟩⟩⟩
 ·cases h
 ·cases h
 ·cases h
 ·refine ⟨hs.all.1,hc.all.1,?_⟩
  rcases hh with ⟨_,_,h⟩ | ⟨h,_⟩
  ·exact h
  ·cases h
end
section
variable {F F':G2} {g g':PgR}
structure iL (F F':G2):Prop where
 n:F'.n=F.n
 pop:∀a,a < F.n->F'.pop a=F.pop a
 push:∀a,F'.push a=F.push a
 next:∀a,F'.next a=F.next a
theorem iL.reach (h:iL F F') (hF:F.Fits) {a:Nat} {b:Int} (hr:F.Reach a b):F'.Reach a b:=by
 have xa:F.Reach a b/\F'.Reach a b:=by
  refine hr (fun a b=>F.Reach a b/\F'.Reach a b) ⟨G2.reach_first F,G2.reach_first F'⟩ ?_;rintro a b c ⟨h1,h2⟩ hc;refine⟨G2.reach_next h1 hc,?_⟩;have h3:=G2.reach_next h2 (c:=c) (by rw [h.next];exact hc);have e:F'.behind a b=F.behind a b:=by
   unfold G2.behind;rw[h.pop a (hF.1 a b h1).1,h.push]
  rw[e] at h3;exact h3
 exact xa.2
theorem iL.back (h:iL F F') (hF:F.Fits) {a:Nat} {b:Int} (hr:F'.Reach a b):F.Reach a b:=by
 refine hr (fun a b=>F.Reach a b) (G2.reach_first F) ?_;intro a b c h1 hc;have h3:=G2.reach_next h1 (c:=c) (by rw [<- h.next];exact hc);have e:F'.behind a b=F.behind a b:=by
  unfold G2.behind;rw[h.pop a (hF.1 a b h1).1,h.push]
 rw[e];exact h3
theorem iL.fits (h:iL F F') (hF:F.Fits):F'.Fits:=by
 refine⟨fun a b hr=>?_,fun a b b' h1 h2=>hF.2 a b b' (h.back hF h1) (h.back hF h2)⟩;have h1:=h.back hF hr;obtain⟨q1,q2,q3⟩:=hF.1 a b h1;refine⟨by rw [h.n];exact q1,by rw [h.pop a q1];exact q2,?_⟩;unfold G2.behind at q3 ⊢;rw[h.pop a q1,h.push];exact q3
theorem X6.flow (hp:N3 g) (h:X6 g g') {i:Nat} (hi:i < g.n):iL (B6 g (g.f i)) (B6 g' (g'.f i)):=by
 obtain⟨_,hj⟩:=h;obtain⟨q1,q2,q3,q4,q5⟩:=hj i hi;refine⟨q3,fun a ha=>?_,fun a=>by show R7 ((g'.f i).op a)=R7 ((g.f i).op a);rw [q4],fun a=>by show D9 a ((g'.f i).op a) ((g'.f i).ar a)=D9 a ((g.f i).op a) ((g.f i).ar a);rw [q4,q5]⟩;show U5 ((g'.f i).op a) (g'.f ((g'.f i).ar a).toNat).p=U5 ((g.f i).op a) (g.f ((g.f i).ar a).toNat).p;rw[q4,q5];by_cases h14:(g.f i).op a=14
 ·have hl:F5 g.n (g.f i).l (g.f i).n ((g.f i).op a) ((g.f i).ar a)=true:=hp.legal i hi a ha
  have hc:=S8 hl h14;rw[(hj ((g.f i).ar a).toNat R5).1]
 ·unfold U5
  rw[if_neg h14,if_neg h14]
theorem X6.pgOk (hp:N3 g) (h:X6 g g'):N3 g':=by
 have hn:=h.1;refine⟨⟨by rw [hn];exact hp.sized.1,by rw [hn];exact hp.sized.2.1,fun i hi=>?_⟩,fun i hi j hj=>?_,fun i hi=>?_⟩
 ·rw [hn] at hi
  obtain⟨q1,q2,q3,q4,q5⟩:=h.2 i hi;rw[q1,q2,q3];exact hp.sized.2.2 i hi
 ·rw [hn] at hi
  obtain⟨q1,q2,q3,q4,q5⟩:=h.2 i hi;rw[q3] at hj;have:=hp.legal i hi j hj;unfold S7 at this ⊢;rw[hn,q2,q3,q4,q5];exact this
 ·rw [hn] at hi
  exact (h.flow hp hi).fits (hp.fits i hi)
theorem X6.frOk (hp:N3 g) (h:X6 g g') {f:FrA} {q:Int} (hf:jM g f q):jM g' f q:=by
 obtain⟨q1,q2,q3,q4,q5⟩:=h.2 f.fn hf.fn;exact⟨by rw [h.1];exact hf.fn,by rw [q2];exact hf.loc,(h.flow hp hf.fn).reach (hp.fits _ hf.fn) hf.reach⟩
theorem X6.lower (hp:N3 g) (h:X6 g g'):∀(l:List FrA) (fn:Nat),fn < g.n->jO g fn l->jO g' fn l
 | [],_,_,hl=>hl
 | c::r,fn,hfn,hl=>by
  obtain⟨h1,h2,h3,h4⟩:=hl;obtain⟨q1,q2,q3,q4,q5⟩:=h.2 c.fn h1.fn;refine⟨?_,by rw [q4];exact h2,by rw [q5];exact h3,h.lower hp r c.fn h1.fn h4⟩;rw[(h.2 fn hfn).1];exact h.frOk hp h1
theorem X6.inv (hp:N3 g) (h:X6 g g') {s:McA} (hi:C8 g s):C8 g' s:=by
 refine⟨hi.run,?_,hi.depth,hi.vals,hi.obs,hi.cap,hi.out,hi.dr⟩;have:=hi.frs
 revert this
 cases s.frs.reverse with
 | nil=>exact fun _=>trivial
 | cons f r=>exact fun hf=>⟨h.frOk hp hf.1,h.lower hp r f.fn hf.1.fn hf.2⟩
theorem a4P (h:X6 g g') {k:Nat} {a:Int} (ha:k=14->0<=a/\a < g.n) (s:McA) (fs:List FrA) (f:FrA) (rest args:List Val):doA g' k a s fs f rest args=doA g k a s fs f rest args:=by
 by_cases h14:k=14
 ·subst h14
  have e:∀g:PgR,doA g 14 a s fs f rest args=aO g a s fs f rest args:=fun g=>by cases args <;> rfl
  rw[e,e];unfold aO;rw[(h.2 a.toNat (by have:=ha rfl;omega)).2.1]
 ·unfold doA
  split <;> first | rfl | (exfalso;exact h14 rfl)
theorem a1e (hp:N3 g) (h:X6 g g') {s:McA} (hi:C8 g s) (h0:s.st=0):X2 g' s=X2 g s:=by
 have xa:=hi.run h0;obtain⟨k,a,xd,args,hk,o,e⟩:=hi.opAt hp (List.dropLast_concat_getLast xa).symm;obtain⟨k',a',xc,xb,xg,o',e'⟩:=(h.inv hp hi).opAt (h.pgOk hp) (List.dropLast_concat_getLast xa).symm;obtain⟨h1,_⟩:=hi.top (List.dropLast_concat_getLast xa).symm;obtain⟨q1,q2,q3,q4,q5⟩:=h.2 _ h1.fn;have ek:k'=k:=by have:=o.op;have h2:=o'.op;rw [q4,this] at h2;omega
 have ea:a'=a:=by have:=o.ar;have h2:=o'.ar;rw [q5,this] at h2;exact h2.symm
 subst ek ea;have hc:k'=14->0<=a'/\a' < g.n:=fun e14=>by
  obtain⟨_,hl,_,_⟩:=h1.at hp;have xf:F5 g.n (g.f (s.frs.getLast xa).fn).l (g.f (s.frs.getLast xa).fn).n ((g.f (s.frs.getLast xa).fn).op (s.frs.getLast xa).pc) ((g.f (s.frs.getLast xa).fn).ar (s.frs.getLast xa).pc)=true:=hl;have:=S8 xf (by rw [o.op,e14];rfl);rw[o.ar] at this;exact this
 have el:xb.length=args.length:=by
  have h1:=o.pops;have h2:=o'.pops;by_cases e14:k'=14
  ·rw [(h.2 a'.toNat (by have:=hc e14;omega)).1,h1] at h2
   omega
  ·unfold U5 at h1 h2
   have xe:¬(k':Int)=14:=by omega
   rw[if_neg xe] at h1 h2;rw[h1] at h2;omega
 have es:xc=xd/\xb=args:=by
  have h3:=o.stk;have h4:=o'.stk;rw[h3] at h4;have hr:xd.length=xc.length:=by have:=congrArg List.length h4;simp at this;omega
  have:=List.append_inj h4 hr;exact⟨this.1.symm,this.2.symm⟩
 rw[e,e',es.1,es.2];exact a4P h hc _ _ _ _ _
theorem rS (hp:N3 g) (h:X6 g g'):∀(n:Nat) {s:McA},C8 g s->L8 g' n s=L8 g n s/\E9 g' n s=E9 g n s
 | 0,_,_=>⟨rfl,rfl⟩
 | n+1,s,hi=>by
  rw[L8,L8,E9,E9];by_cases h0:s.st=0
  ·rw [if_pos h0,if_pos h0,if_pos h0,if_pos h0,a1e hp h hi h0]
   have:=rS hp h n (kJ hp hi h0);exact⟨this.1,by rw [this.2]⟩
  ·rw [if_neg h0,if_neg h0,if_neg h0,if_neg h0]
   exact⟨rfl,rfl⟩
theorem A4.beside {w w':World} {own:Own} {mb:Nat} {R:McR} (h:A4 w own mb g R) (hs:w.heap.size<=w'.heap.size) (hb:∀k,k < w.heap.size->(own k≠none\/g.blk k\/k=0)->w'.heap[k]?=w.heap[k]?):A4 w' own mb g R:=by
 have xa:=hb mb (h.lt mb _ h.me) (L4a (by rw [h.me];simp));have keep:∀t k,own k=some t->w'.heap[k]?=w.heap[k]?/\own k=some t:=fun t k hk=>⟨hb k (h.lt k t hk) (L4a (by rw [hk];simp)),hk⟩
 refine⟨fun k t hk=>L0a (h.lt k t hk) hs,h.me,?_,?_,?_,?_,?_,?_,h.out.kept (keep _),h.called.kept (keep _),h.slots.kept (keep _),fun i f hf=>(h.loc i f hf).kept (keep _),fun i f hf=>(h.stk i f hf).kept (keep _),
  fun j o ho=>(h.fld j o ho).kept (keep _),h.pg.held hs fun k hk=>hb k (h.pg.blk_lt hk) (L4b (L4a hk)),h.ro,h.tab.held hs (hb 0 h.tab.1 (L4b (L4b rfl))),h.ro0,?_,h.draws.kept (keep _)⟩
 ·rw [L0b (w:=w) (a:=⟨mb,0,none⟩) xa];exact h.c0
 ·rw [L0b (w:=w) (a:=⟨mb,1,none⟩) xa];exact h.c1
 ·rw [L0b (w:=w) (a:=⟨mb,2,none⟩) xa];exact h.c2
 ·rw [L0b (w:=w) (a:=⟨mb,3,none⟩) xa];exact h.c3
 ·rw [L0b (w:=w) (a:=⟨mb,4,none⟩) xa];exact h.c4
 ·intro j;rw [L0c (w:=w) (a:=⟨mb,j,none⟩) xa];exact h.fz j
 ·rw [L0b (w:=w) (a:=⟨mb,5,none⟩) xa];exact h.c5
end
end Go.Proofs.YtbkmgoffiigdbaaGreatDoor
