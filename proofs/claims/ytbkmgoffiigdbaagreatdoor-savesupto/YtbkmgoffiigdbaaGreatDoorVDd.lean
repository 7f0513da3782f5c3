import Derived.Test.YtbkmgoffiigdbaaGreatDoorVDa
import Derived.Deep.RegionHeld3
import Derived.Handy
import Derived.Lib.LazyBuf
namespace Go.Proofs.YtbkmgoffiigdbaaGreatDoor
open Go.RowKit Go.Sort Go.Proofs.Tryz
set_option maxHeartbeats 4000000
set_option maxRecDepth 100000
section
variable {R:McR} {g:PgR} {mb:Nat} {own:Own} {w:World}
theorem A4.setCell {R R':McR} (h:A4 w own mb g R) (i:Nat) (v:Value) (h1:i=1/\v=J R'.st/\R'={ R with st:=R'.st }\/i=3/\v=.slice none 0 0/\R'={ R with cv:=zD,frs:=[] }) :
  A4 (w.setCell ⟨mb,i,none⟩ v) own mb g R':=by
 have xf:=h.lt;have xh:mb < w.heap.size:=xf mb _ h.me;have xd:∀k,k≠mb->(w.setCell ⟨mb,i,none⟩ v).heap[k]?=w.heap[k]?:=fun k hk=>heap_setCell_other _ _ _ _ hk
 have keep:∀t,t≠.mach->∀k,own k=some t->(w.setCell ⟨mb,i,none⟩ v).heap[k]?=w.heap[k]?/\own k=some t:=fun t ht k hk=>⟨xd k (fun e=>by rw [e,h.me] at hk;exact ht (L5b hk).symm),hk⟩
 have xa:∀j,j≠i->(w.setCell ⟨mb,i,none⟩ v).cell? ⟨mb,j,none⟩=w.cell? ⟨mb,j,none⟩:=fun j hj=>by go_simp
 have xb:w.cell? ⟨mb,i,none⟩≠none->(w.setCell ⟨mb,i,none⟩ v).cell? ⟨mb,i,none⟩=some v:=fun hn=>by
  cases e:w.cell? ⟨mb,i,none⟩ with
  | none=>exact absurd e hn
  | some u=>go_simp
 have xg:∀j,(w.setCell ⟨mb,i,none⟩ v).frozen? ⟨mb,j,none⟩=false:=fun j=>by have:=h.fz j;go_simp
 have xe:∀k,own k=none->(w.setCell ⟨mb,i,none⟩ v).heap[k]?=w.heap[k]?:=fun k hk=>xd k (fun e=>by rw [e,h.me] at hk;cases hk)
 have xc:w.heap.size<=(w.setCell ⟨mb,i,none⟩ v).heap.size:=by simp
 rcases h1 with ⟨rfl,rfl,he⟩ | ⟨rfl,rfl,he⟩
 ·rw [he]
  refine⟨fun k t hk=>L0a (xf k t hk) xc,h.me,?_,xb (by rw [h.c1];simp),?_,?_,?_,xg,h.out.kept (keep _ R6),h.called.kept (keep _ R6),h.slots.kept (keep _ R6),fun i f hf=>(h.loc i f hf).kept (keep _ R6),fun i f hf=>(h.stk i f hf).kept (keep _ R6),
   fun j o ho=>(h.fld j o ho).kept (keep _ R6),h.pg.held xc fun k hk=>xe k (h.ro k hk),h.ro,h.tab.held xc (xe 0 h.ro0),h.ro0,?_,h.draws.kept (keep _ R6)⟩
  ·rw [xa 0 R5];exact h.c0
  ·rw [xa 2 R5];exact h.c2
  ·rw [xa 3 R5];exact h.c3
  ·rw [xa 4 R5];exact h.c4
  ·rw [xa 5 R5];exact h.c5
 ·rw [he]
  refine⟨fun k t hk=>L0a (xf k t hk) xc,h.me,?_,?_,?_,xb (by rw [h.c3];simp),?_,xg,h.out.kept (keep _ R6),⟨World.ownsRow_nil _ _ _ _,fun b hb=>by cases hb⟩,h.slots.kept (keep _ R6),fun i f hf=>by simp at hf,fun i f hf=>by simp at hf,
   fun j o ho=>(h.fld j o ho).kept (keep _ R6),h.pg.held xc fun k hk=>xe k (h.ro k hk),h.ro,h.tab.held xc (xe 0 h.ro0),h.ro0,?_,h.draws.kept (keep _ R6)⟩
  ·rw [xa 0 R5];exact h.c0
  ·rw [xa 1 R5];exact h.c1
  ·rw [xa 2 R5];exact h.c2
  ·rw [xa 4 R5];exact h.c4
  ·rw [xa 5 R5];exact h.c5
theorem A2.setMb (hme:own mb=some .mach) (i:Nat) (v:Value):A2 own w own (w.setCell ⟨mb,i,none⟩ v) :=
 ⟨rfl,rfl,rfl,by simp,fun k _ hk=>heap_setCell_other _ _ _ _ (fun e=>by rw [e,hme] at hk;cases hk),fun _ _=>rfl⟩
theorem tC (h:A4 w own mb g R) :
  Calls prog 253 #[.pointer (some ⟨mb,3,none⟩)] w fun e w'=>e=.returned (.tuple #[])/\w'=w.setCell ⟨mb,3,none⟩ zD:=by
 have c3:=h.c3;have fz:=h.fz 3;have xa:mb < w.heap.size:=h.lt mb _ h.me;clear h;go_enter func253,ntmps253;go_wp2
 go_end0
 exact⟨rfl,rfl⟩
theorem zJ {R:McR} (h:A4 w own mb g R) (a:Int) (v:Value) :
  Calls prog 289 #[zB mb,J a,v] w fun e w'=>aW own mb g (fun R'=>R'={ R with cv:=zD,frs:=[] }) 1 w e w':=by
 have HL:=hid (tC h);have HH:=hid h;clear h;go_enter func289,ntmps289;go_wp2_with (go_at_call 253;refine HL.out.mono ?_;rintro e w' ⟨rfl,rfl⟩)
 go_ret;exact⟨own,_,rfl,HH.out.setCell 3 _ (L4b ⟨rfl,rfl,rfl⟩),rfl,A2.setMb HH.out.me _ _⟩
end
section
variable {R:McR} {W w:World} {f:FrR} {fs:List FrR} {g:PgR} {mb:Nat} {own:Own}
theorem A3 {w2:World} (h2:L0d W w2) (h1:L0d w W):L0d w w2:=D7 h2 h1 h1.size
theorem nU {P: Program} {f: FuncId} (h : (P.funcs[f]?).map (fun fn => (fn.name == "runtime.NumGoroutine", fn.body.isNone)) = some (false, false)) (args : Array Value) (w : World) :
  Sem.run P (callFunc f args) w=.ok (.enter f args) w:=by
 obtain⟨fn,hf,hq⟩:=Option.map_eq_some_iff.1 h;simp only[Prod.mk.injEq] at hq;obtain⟨h1,h2⟩:=hq;have e:Sem.run P program w=.ok P w:=rfl;simp only[callFunc,Sem.run_bind,e,Result.andThen_ok,hf,h1,h2];rfl
theorem a2v : (List.range 28).all (fun k => (prog.funcs[doT k]?).map (fun fn => (fn.name == "runtime.NumGoroutine", fn.body.isNone)) == some (false, false)) = true := by kernel_rfl
theorem a2u {k:Nat} (hk:k < 28):∀(args:Array Value) (w:World),Sem.run prog (callFunc (doT k) args) w=.ok (.enter (doT k) args) w :=
 nU (beq_iff_eq.1 (List.all_eq_true.1 a2v k (List.mem_range.2 hk)))
def jV (own:Own) (mb:Nat) (g:PgR) (P:McR->Prop) (w:World) (e:Ending) (w':World):Prop :=
 ∃own' R',e=.returned (.tuple #[])/\A4 w' own' mb g R'/\P R'/\A2 own w own' w'
structure a8J (g:PgR) (f:FrR) (k:Nat) (a:Int) (n:Nat):Prop where
 fn:f.fn < g.n
 pc:f.pc < (g.f f.fn).n
 op:(g.f f.fn).op f.pc=k
 ar:(g.f f.fn).ar f.pc=a
 k28:k < 28
 pops:U5 k (g.f a.toNat).p=n
 call:(k:Int)=14->0<=a/\a < g.n
theorem C0.later {rest args:List Val} {va:Option Addr} {sb:Nat} (h:C0 w own mb g R fs f rest args va sb) (hB:L0d w W):C0 W own mb g R fs f rest args va sb :=
 ⟨h.m.same hB.size fun k hk=>hB.block k hk,h.hf,h.hst,fun h0=>by
  obtain⟨q1,q2,q3⟩:=h.hva h0;refine⟨q1,q2,fun j x hx=>?_⟩;rw[hB.cell (p:=⟨sb,_,none⟩) (h.m.lt sb _ q2),hB.cell (p:=⟨sb,_,none⟩) (h.m.lt sb _ q2)];exact q3 j x hx,h.hn,h.hs,h.hpc⟩
def a4y (w:World) (own:Own) (mb:Nat) (g:PgR) (R:McR) (fs:List FrR) (f:FrR) (rest args:List Val) (e:Ending) (w':World):Prop :=
 ∃va vc sb,e=.returned (.slice va args.length vc)/\C0 w' own mb g R fs f rest args va sb/\L0d w w'
theorem a8n (h:A4 w own mb g R) (hf:R.frs=fs++[f]) (rest args:List Val) (hst:f.stk=rest++args) (hn:fs.length<=1000) (hs:f.stk.length<=1000) (hpc:f.pc<=1000) :
  Calls prog 179 #[.pointer (some ⟨mb,3,none⟩),J (args.length:Int)] w fun e w'=>a4y w own mb g R fs f rest args e w':=by
 obtain⟨cb,cc,hv,xf,xg,xi,x0,x1,x2,x3⟩:=h.top hf;have c3:=h.c3;rw[hv] at c3;have xa:=h.stk fs.length f (by rw [hf];simp);have xb:f.stk.length=rest.length+args.length:=by rw [hst];simp
 rcases id xa.1.2 with ⟨e0,e1⟩ | ⟨sb,sc,xh,e0,_,hg,xe,_⟩
 ·have ha:args=[]:=List.length_eq_zero_iff.1 R5
  subst ha;rw[e0] at x3;refine (a8o mb cb fs.length cc w hn c3 x3).mono ?_;rintro e w' ⟨rfl,m,rfl⟩;have hB:L0d w (w.drewN m):=Below.drewQ (L3b _ _) _;exact⟨none,0,0,rfl,⟨h.same hB.size fun k hk=>hB.block k hk,hf,hst,fun h0=>by simp at h0,hn,hs,hpc⟩,hB⟩
 ·rw [e0] at x3 xa
  refine (a8p mb cb fs.length cc sb f.stk.length sc args.length w hn hs xe R5 c3 x3).mono ?_;rintro e w' ⟨va,vc,rfl,xd,m,rfl⟩;have hB:L0d w (w.drewN m):=Below.drewQ (L3b _ _) _;refine⟨va,vc,sb,rfl,⟨h.same hB.size fun k hk=>hB.block k hk,hf,hst,fun h0=>⟨?_,xa.2 sb rfl,fun j x hx=>?_⟩,hn,hs,hpc⟩,hB⟩
  ·rw [xd h0,xb,Nat.add_sub_cancel]
  ·have hj:j < args.length:=(L1a.1 hx).1
   have xc:f.stk[rest.length+j]?=some x:=by rw [hst,List.getElem?_append_right R5,Nat.add_sub_cancel_left];exact hx
   have e2:∀i,i < 2->w.cell? ⟨sb,(rest.length+j)*2+i,none⟩=(O9 x)[i]?:=fun i hi=>by
    rw[xa.1.cellAt _ R5];exact D3 E6 xc hi
   have e3:=e2 0 R5;have e4:=e2 1 R5;rw[show (rest.length+j)*2=rest.length*2+j*2 by omega] at e3 e4;exact⟨e3,e4⟩
end
section
variable {u v:Value} {w:World}
theorem iR {a p:Addr} (h:w.cell? a=some v) (hn:a.block≠p.block):(w.setCell p u).cell? a=some v:=by
 rw[L0b (w:=w) (heap_setCell_other _ _ _ _ hn)];exact h
theorem a4J {b:Nat} (h:w.cell? ⟨b,0,none⟩=some v):(w.setCell ⟨b,1,none⟩ u).cell? ⟨b,0,none⟩=some v:=by go_simp
theorem a6q {own:Own} {mb:Nat} {g:PgR} {R:McR} {fs:List FrR} {f:FrR} (h:A4 w own mb g R) (hf:R.frs=fs++[f]) (k:Nat) (a:Int) (rest args:List Val) (hst:f.stk=rest++args) (hx:a8J g f k a args.length) (hn:fs.length<=1000) (hs:f.stk.length<=1000) (hpc:f.pc<=1000) (hgn:g.n<=1000) (hcn:(g.f f.fn).n<=1000)
  (P:McR->Prop) (st:Int) (HD:Hid (∀W va vc sb,L0d w W->C0 W own mb g R fs f rest args va sb->Calls prog (doT k) #[zB mb,J a,.slice va args.length vc] W fun e w'=>aW own mb g P st W e w')) :
  Calls prog 136 #[zB mb] w fun e w'=>jV own mb g (fun R'=>∃Q,P Q/\R'={ Q with st:=st }) w e w':=by
 obtain⟨cb,cc,hv,yo,ye,yd,x0,x1,x2,x3⟩:=h.top hf;have c3:=h.c3;rw[hv] at c3;have xq:mb < w.heap.size:=h.lt mb _ h.me;have c0:=h.c0;obtain⟨ga,yb,xh⟩:=h.pg.2.1 (by have:=hx.fn;omega);obtain⟨q0,q1,q2⟩:=xh f.fn hx.fn;obtain⟨fa,xu,xc⟩:=(h.pg.2.2 f.fn hx.fn).2 (by have:=hx.pc;omega);obtain⟨i0,i1⟩:=xc f.pc hx.pc;rw[ga] at c0;rw[fa] at q2;rw[hx.op] at i0;rw[hx.ar] at i1;have ys:=hx.fn;have yj:=hx.pc
 have xe:=hx.k28;obtain⟨t0,t1,t2,t3,t4⟩:=h.tab.2 k xe;have xs:=h.tab.1;clear q0 q1 t0 t1 t2 t3 x2 x3 xc xh;have HH:=hid h;have HF:=hid hf;have HV:=hid hv;have HX:=hid hx;have yu:=hid yd;have xv:=hid ga;clear h hf hv hx yd ga fa;go_enter func136,ntmps136;go_wp2_with fail;refine (L6 mb cb fs.length cc _ hn c3).mono ?_;rintro e W ⟨rfl,m1,hW⟩;have xt:L0d w W:=by rw [hW];exact Below.drewQ (L3b _ _) _
 have xd:∀ad,W.cell? ad=w.cell? ad:=fun ad=>by rw [hW];rfl
 have xm:W.heap.size=w.heap.size:=by rw [hW];rfl
 rw[<- xd] at c3 x0 x1 c0 q2 i0 i1 t4;rw[<- xm] at xq ye yb xu xs;have HW:=hid xt;have xo:=hid xm;clear hW xd xt xm;have xk:Hid (∀V,L0d w V->Calls prog 180 #[.agg #[.slice (some ⟨g.b,g.o,none⟩) g.n g.c],.agg #[J (k:Int),J a]] V fun e w'=>e=.returned (J (args.length:Int))/\L0d V w'):=by
  intro V hV;have hm:=HH.out.same hV.size fun k hk=>hV.block k hk
  have:=pI V.heap.size g k a V (L1c _) hm.pg hm.tab xe HX.out.call;rw[xv.out,HX.out.pops] at this;exact this
 have xr:Hid (∀V,L0d w V->Calls prog 179 #[.pointer (some ⟨mb,3,none⟩),J (args.length:Int)] V fun e w'=>a4y V own mb g R fs f rest args e w'):=by
  intro V hV;exact a8n (HH.out.same hV.size fun k hk=>hV.block k hk) HF.out rest args hst hn hs hpc
 have yt:=hid hst;clear hst;go_wp2_with fail;go_region
 clear x0 x1 q2 i0 i1;generalize hqV:(W.alloc (Obj.cells #[J (k:Int),J a] 165)).drew=V at *
 have j0:V.cell? ⟨W.heap.size,0,none⟩=some (J (k:Int)):=by subst hqV;go_simp
 have j1:V.cell? ⟨W.heap.size,1,none⟩=some (J a):=by subst hqV;go_simp
 have xl:L0d W V:=by subst hqV;exact L3c (L3a (L3b _ _) (L1c _) _)
 have yl:V.heap.size=W.heap.size+1:=by subst hqV;simp
 clear hqV;rw[<- xl.cell (p:=⟨mb,_,none⟩) xq] at c0 c3;rw[<- xl.cell (p:=⟨0,_,none⟩) xs] at t4;have ya:L0d w V:=HW.out.trans (xl.mono (by have:=xo.out;omega));have xx:=hid ya;have l1:mb < V.heap.size:=by omega
 have l2:0 < V.heap.size:=by omega
 have l3:W.heap.size < V.heap.size:=by omega
 have yh:=a2u xe;clear xl ya yl xq xs ye yb xu;go_wp2_with fail;have yr:(0:Int)<=k:=by omega
 have yq:(k:Int) < 28:=by omega
 have n1:Hid ((0:Nat)≠mb):=fun e=>by have:=HH.out.me;rw [<- e,HH.out.ro0] at this;cases this
 have n2:Hid (W.heap.size≠mb):=fun e=>by have:=HH.out.lt mb _ HH.out.me;have:=xo.out;omega
 have xz:Hid (own W.heap.size=none):=HH.out.new (by have:=xo.out;omega);go_region_held3 (fun u=>u.cell? ⟨0,k*5+4,none⟩=some (.func (.func (doT k)) #[] #[])/\u.cell? ⟨W.heap.size,0,none⟩=some (J (k:Int))/\u.cell? ⟨W.heap.size,1,none⟩=some (J a)/\u.cell? ⟨mb,0,none⟩=some (.slice (some ⟨g.b,g.o,none⟩) g.n g.c)) (first | go_keep | exact ⟨iR z1 n1.out,iR z2 n2.out,iR z3 n2.out,a4J z4⟩) (first | (go_at_call 180;refine (xk.out _ ?_).mono ?_;exact (by repeat (first | exact xx.out | refine L3c ?_));rintro e w2 ⟨rfl,xa⟩;have s1:=(xa.cell (p:=⟨0,k*5+4,none⟩) l2).trans t4;have s2:=(xa.cell (p:=⟨W.heap.size,0,none⟩) l3).trans j0;have s3:=(xa.cell (p:=⟨W.heap.size,1,none⟩) l3).trans j1;have s4:=(xa.cell (p:=⟨mb,0,none⟩) l1).trans c0;have yn:=hid (L0a l1 xa.size);have yc:=hid (L0a l2 xa.size);have xn:=hid (L0a l3 xa.size);have xj:Hid (L0d w w2):=A3 xa (by repeat (first | exact xx.out | refine L3c ?_));clear xa) | (go_at_call 179;refine (xr.out _ xj.out).mono ?_;rintro e w3 ⟨va,vc,sb,rfl,yf,xb⟩;have r1:=(xb.cell (p:=⟨0,k*5+4,none⟩) yc.out).trans s1;have r2:=(xb.cell (p:=⟨W.heap.size,0,none⟩) xn.out).trans s2;have r3:=(xb.cell (p:=⟨W.heap.size,1,none⟩) xn.out).trans s3;have r4:=(xb.cell (p:=⟨mb,0,none⟩) yn.out).trans s4;have xg:Hid (L0d w w3):=A3 xb xj.out;have xw:Hid (W.heap.size < w3.heap.size):=L0a xn.out xb.size;have yp:Hid (0 < w3.heap.size):=L0a yc.out xb.size;have yi:=hid yf;clear yf xb) | (refine (HD.out _ va vc sb xg.out yi.out).mono ?_;rintro e w5 ⟨xp,R',rfl,xf,xy,xi⟩;have z1:=(L0b (w:=w3) (w':=w5) (a:=⟨0,k*5+4,none⟩) (xi.block 0 yp.out HH.out.ro0)).trans r1;have z2:=(L0b (w:=w3) (w':=w5) (a:=⟨W.heap.size,0,none⟩) (xi.block _ xw.out xz.out)).trans r2;have z3:=(L0b (w:=w3) (w':=w5) (a:=⟨W.heap.size,1,none⟩) (xi.block _ xw.out xz.out)).trans r3;have z4:=xf.c0;rw [xv.out] at z4;have y1:=xf.c1;have y2:=xf.fz 1;have y3:=xf.lt mb _ xf.me;have yg:=hid xf;have yk:=hid xy;have ym:=hid xi;clear xf xy xi))
 all_goals
  clear z1 z2 z3 z4 y1 y2 y3 r1 r2 r3 r4 s1 s2 s3 s4 t4 j0 j1 c0 c3;go_wp2_with fail;go_end0
  exact⟨xp,{ R' with st:=st },rfl,yg.out.setCell 1 _ (L4a ⟨rfl,rfl,rfl⟩),⟨R',yk.out,rfl⟩,((A2.of_below xg.out).trans ym.out).trans (A2.setMb yg.out.me _ _)⟩
end
section
variable {R:McR} {args rest:List Val} {f:FrR} {fs:List FrR} {g:PgR} {mb sb:Nat} {own:Own} {va:Option Addr} {w:World} {x:Val}
theorem zQ {f:FrR} (pc:Nat) (v:Value) (l:List Val) :
  (fs++[{ f with pc:=pc,sv:=v,stk:=l }]).flatMap FrR.cells=(((fs++[f]).flatMap FrR.cells).set (fs.length*4+3) v).set (fs.length*4+1) (J pc):=by
 have:=rJ (fs:=fs) (f:=f) pc v v l;rwa [List.set_set] at this
theorem a5a (h:A4 w own mb g R) (hf:R.frs=fs++[f]) (k:Nat) (hk:k<=f.stk.length) (pc:Nat)
  (hn:fs.length<=1000) (hs:f.stk.length<=1000) :
  Calls prog 297 #[.pointer (some ⟨mb,3,none⟩),J (k:Int),J (pc:Int)] w fun e w'=>C3 own mb g R fs f pc (f.stk.take (f.stk.length - k)) (.tuple #[]) w e w':=by
 obtain⟨cb,cc,hv,xa,xs,xp,x0,x1,x2,x3⟩:=h.top hf;have hc:=h.c3;rw[hv] at hc;have xh:=h.topRow hf hv;have xu:mb < w.heap.size:=h.lt mb _ h.me;have xt:mb≠cb:=fun e=>by have:=h.me;rw [e,xa] at this;cases this
 have xe:=h.stk fs.length f (by rw [hf];simp);have xm:∀b,f.sv.ownBlock=some b->b≠cb/\own b=some (.stk fs.length):=fun b hb=>by
  have xn:=xe.2 b hb;exact⟨fun e=>(by rw [e,xa] at xn;cases xn),xn⟩
 have xg:=xp (fs.length*4+3);have xo:=xp (fs.length*4+1);go_enter func297,ntmps297;go_wp2_with fail;refine (oF mb cb fs.length cc f.sv f.stk.length k _ w hn hs hk hc x3 xg xe.1).mono ?_;rintro e w1 ⟨m1,xc,rfl,xb,xl,xd⟩;have xf:xc.ownBlock≠some cb:=fun e=>(xm cb (xl▸e)).1 rfl
 have d0:w1.cell? ⟨mb,3,none⟩=some (.slice (zA cb) (fs.length+1) cc):=by rw [xb];go_simp
 have d1:w1.cell? ⟨cb,fs.length*4+1,none⟩=some (J (f.pc:Int)):=by rw [xb];go_simp
 have z1:w1.frozen? ⟨cb,fs.length*4+1,none⟩=false:=by rw [xb];go_simp
 have o1:w1.ownsRow 0 92 2 xc (f.stk.length - k) (A7 (f.stk.take (f.stk.length - k))):=by
  rw[xb,A7,gU E6];exact ownsRow_setCell_other (cP xd m1) xf _
 have r1:w1.ownsRow 0 86 4 (.slice (zA cb) (fs.length+1) cc) (fs.length+1) (((fs++[f]).flatMap FrR.cells).set (fs.length*4+3) xc):=by
  rw[xb];exact (World.ownsRow.stored (cP xh m1) _ xc).1
 have s1:w1.heap.size=w.heap.size:=by rw [xb];simp
 have k1:∀b,b≠cb->w1.heap[b]?=w.heap[b]?:=fun b hb=>by rw [xb];exact heap_setCell_other _ _ _ _ hb
 have e1:w1.os=w.os/\w1.tape=w.tape/\w1.output=w.output:=by rw [xb];exact ⟨rfl,rfl,rfl⟩
 have xr:cb < w1.heap.size:=by omega
 have xj:Hid (∀q,C3 own mb g R fs f pc (f.stk.take (f.stk.length - k)) (.tuple #[]) w (.returned (.tuple #[])) ((w1.drewN q).setCell ⟨cb,fs.length*4+1,none⟩ (J (pc:Int)))):=by
  intro q;have xq:E7 w own xc (.stk fs.length):=fun b hb=>L4a (xm b (xl▸hb)).2
  have xk:(f.stk.take (f.stk.length - k)).length=f.stk.length - k:=by simp
  have r2:=(World.ownsRow.stored (cP r1 q) (fs.length*4+1) (J (pc:Int))).1;rw[<- zQ pc xc (f.stk.take (f.stk.length - k))] at r2;refine⟨_,xc,rfl,A4.setTop (f':={ f with pc:=pc,sv:=xc,stk:=f.stk.take (f.stk.length - k) }) h hf rfl rfl (by simp [s1]) (fun j hj h1 h2=>?_) (by rw [hv];exact r2) (by rw [xk];exact ownsRow_setCell_other (cP o1 q) xf _) xq,?_⟩
  ·have xi:j≠cb:=fun e=>h1 (by rw [e];exact xa)
   rw[heap_setCell_other _ _ _ _ xi];exact k1 j xi
  ·refine ⟨e1.1,e1.2.1,e1.2.2,by simp [s1],fun j hj hno=>?_,fun j hj=>Own.upd_old xq hj⟩
   have xi:j≠cb:=fun e=>by rw [e,xa] at hno;cases hno
   rw[heap_setCell_other _ _ _ _ xi];exact k1 j xi
 clear xb x0 x1 x2 x3 hc xg xo xp xh xe xd h hf hv xm xl xf o1 r1 s1 k1 e1 xa;go_wp2_with (go_at_call 178;refine (L6 mb cb fs.length cc _ hn d0).mono ?_;rintro e w2 ⟨rfl,m2,rfl⟩)
 go_end0
 exact xj.out _
theorem C0.goTo {W:World} (h:C0 w own mb g R fs f rest args va sb) (hB:L0d w W) (k:Nat) (hk:args.length=k) (pc:Nat) :
  Calls prog 297 #[.pointer (some ⟨mb,3,none⟩),J (k:Int),J (pc:Int)] W fun e w'=>C3 own mb g R fs f pc rest (.tuple #[]) w e w':=by
 subst hk;have hl:args.length<=f.stk.length:=by rw [h.hst];simp
 refine (a5a (h.m.same hB.size fun k hk=>hB.block k hk) h.hf args.length hl pc h.hn h.hs).mono ?_;rintro e w' ⟨xa,xc,rfl,xb,ht⟩;have he:f.stk.take (f.stk.length - args.length)=rest:=by rw [h.hst];simp
 rw[he] at xb;exact⟨xa,xc,rfl,xb,(A2.of_below hB).trans ht⟩
theorem oC (h:C0 w own mb g R fs f rest args va sb) (pc vc:Nat) :
  Calls prog 271 #[zB mb,J (pc:Int),.slice va args.length vc] w fun e w'=>C3 own mb g R fs f pc rest (J 0) w e w':=by
 have HG:=hid (h.goTo (L3b _ _) args.length rfl pc);clear h;go_enter func271,ntmps271;go_wp2_with (go_at_call 297;refine HG.out.mono ?_;rintro e w' ⟨xa,xb,rfl,hm,ht⟩)
 go_ret;exact⟨xa,xb,rfl,hm,ht⟩
def M7 (x:Val):Bool:=x.1 == 2 || x.2 != 0
theorem sQ (h:C0 w own mb g R fs f rest [x] va sb) (hx:M7 x=true) (pc vc:Nat) :
  Calls prog 272 #[zB mb,J (pc:Int),.slice va 1 vc] w fun e w'=>C3 own mb g R fs f (f.pc+1) rest (J 0) w e w':=by
 obtain⟨o,rfl,xc,c0,c1⟩:=h.one;obtain⟨x1,x2⟩:=x;simp only at c0 c1;have HH:=hid h;clear h
 cases h1:(x1 == 2)
 ·have h2:(x2 != 0)=true:=by simpa [M7,h1] using hx
  clear hx;go_enter func272,ntmps272;go_wp2_with (first | (go_at_call 164;refine (O7 _ _ _).mono ?_;rintro e w' ⟨rfl,o3,rfl⟩) | (go_at_call 290;refine (HH.out.answer P7 vc _ [] (Z1 _ _) R6 1 rfl).mono ?_;rintro e w' ⟨xa,xb,rfl,hm,ht⟩))
  go_ret;exact⟨xa,xb,rfl,by rw [List.append_nil] at hm;exact hm,ht⟩
 ·clear hx
  go_enter func272,ntmps272;go_wp2_with (first | (go_at_call 164;refine (O7 _ _ _).mono ?_;rintro e w' ⟨rfl,o3,rfl⟩) | (go_at_call 290;refine (HH.out.answer P7 vc _ [] (Z1 _ _) R6 1 rfl).mono ?_;rintro e w' ⟨xa,xb,rfl,hm,ht⟩))
  go_ret;exact⟨xa,xb,rfl,by rw [List.append_nil] at hm;exact hm,ht⟩
theorem qI (h:C0 w own mb g R fs f rest [x] va sb) (hx:M7 x=false) (pc vc:Nat) :
  Calls prog 272 #[zB mb,J (pc:Int),.slice va 1 vc] w fun e w'=>C3 own mb g R fs f pc rest (J 0) w e w':=by
 obtain⟨o,rfl,xc,c0,c1⟩:=h.one;obtain⟨x1,x2⟩:=x;simp only at c0 c1;have HJ:Hid (∀W,L0d w W->Calls prog 271 #[zB mb,J (pc:Int),.slice (some ⟨sb,o,none⟩) 1 vc] W fun e w'=>C3 own mb g R fs f pc rest (J 0) W e w'):=fun W hW=>oC (h.later hW) pc vc
 clear h;have h1:(x1 == 2)=false:=by
  cases e:(x1 == 2)
  ·rfl
  ·simp [M7,e] at hx
 have h2:(x2 != 0)=false:=by
  cases e:(x2 != 0)
  ·rfl
  ·simp [M7,e] at hx
 clear hx;go_enter func272,ntmps272;go_wp2_with (first | (go_at_call 164;refine (O7 _ _ _).mono ?_;rintro e w' ⟨rfl,o3,rfl⟩) | (go_at_call 271;refine (HJ.out _ ?_).mono ?_;exact P7;rintro e w' ⟨xa,xb,rfl,hm,ht⟩;have HT:Hid (A2 own w xa w'):=(A2.of_below P7).trans ht))
 go_ret;exact⟨xa,xb,rfl,hm,HT.out⟩
end
def nD (own:Own) (mb:Nat) (g:PgR) (P:McR->Prop) (n:Nat) (w:World) (e:Ending) (w':World):Prop :=
 ∃own' R',e=.returned (.tuple #[J (n:Int),J 0])/\A4 w' own' mb g R'/\P R'/\A2 own w own' w'
def a8t (own:Own) (mb:Nat) (g:PgR) (S:Nat->McR->Prop) (w:World) (i:Nat) (wr:World):Prop :=
 ∃own' R',A4 wr own' mb g R'/\S i R'/\A2 own w own' wr
theorem a7Z {own:Own} {mb:Nat} {g:PgR} {R:McR} {w:World} (h:A4 w own mb g R) (S:Nat->McR->Prop) (h0:S 0 R) (N fuel:Nat) (hN:N<=fuel) (hfuel:fuel<=10000)
  (hrun:∀i R,i < N->S i R->R.st=0) (hend:N < fuel->∀R,S N R->R.st≠0)
  (hstep:∀i own R w,i < N->A4 w own mb g R->S i R->Calls prog 136 #[zB mb] w fun e w'=>jV own mb g (S (i+1)) w e w') :
  Calls prog 99 #[zB mb,J (fuel:Int)] w fun e w'=>nD own mb g (S N) N w e w':=by
 have xj:B3 (fuel:Int) 0 10000=true:=U7 R5 R5;have HR:Hid (a8t own mb g S w 0 w):=⟨own,R,h,h0,A2.refl _ _⟩;have xd:=hid hrun;have xf:=hid hend;have xb:=hid hstep;clear h h0 hrun hend hstep;go_enter func99,ntmps99;go_wp2_with (go_at_call 116;refine (C5 _ _ _ _).mono ?_;rintro e w' ⟨rfl,hw⟩;rw [hw];clear hw w')
 go_loopw [6] (fun v wr=>∃i:Nat,i<=N/\v=J i/\a8t own mb g S w i wr) (fun v _=>N - (intOf v).toNat)
 case atStart=>exact ⟨0,L4c _,rfl,HR.out⟩
 case round =>
  obtain⟨i,hi,rfl,xa,R',hm,hs,ht⟩:=hrel;have c1:=hm.c1;have HM:=hid hm;have HS:=hid hs;have HT:=hid ht;clear hm hs ht;by_cases hlt:i < N
  ·have xc:=xd.out i R' hlt HS.out
   rw[xc] at c1;clear xc;have HC:=hid (xb.out i xa R' wr hlt HM.out HS.out);go_wp2_with (go_at_call 136;refine HC.out.mono ?_;rintro e w2 ⟨xe,R2,rfl,xh,xi,xg⟩)
   go_roundw
   case rel=>exact ⟨i+1,by omega,by go_num,xe,R2,xh,xi,HT.out.trans xg⟩
   case measure=>simp [intOf];omega
  ·obtain rfl:i=N:=by omega
   by_cases hf:i < fuel
   ·have xc:(R'.st == 0)=false:=L2c.2 (xf.out hf R' HS.out)
    go_wp2_with fail
    all_goals go_ret2
    all_goals exact ⟨xa,R',rfl,HM.out,HS.out,HT.out⟩
   ·obtain rfl:i=fuel:=by omega
    go_wp2_with fail
    all_goals go_ret2
    all_goals exact ⟨xa,R',rfl,HM.out,HS.out,HT.out⟩
def dW (ty size n:Nat) (xs:List Value) (w:World) (e:Ending) (w':World):Prop :=
 ∃gb cap,e=.returned (.slice (zA gb) n cap)/\w'.ownsRow w.heap.size ty size (.slice (zA gb) n cap) n xs/\L0d w w'
theorem a7t:(prog.info? 163).map (fun i=>(i.zero,i.size,i.bytes))=some (some (.agg #[J 0,J 0,zD]),3,40):=by kernel_rfl
theorem a5g:(prog.info? 165).map (fun i=>(i.zero,i.size,i.bytes))=some (some (.agg #[J 0,J 0]),2,16):=by kernel_rfl
theorem dZ (b o j:Nat):(⟨b,o,none⟩:Addr).add j=⟨b,o+j,none⟩:=by unfold Addr.add;split <;> simp_all
theorem aA {w W w5:World} {v:Value} {b:Nat} (hB:L0d w W) (hv:v.ownBlock=some b) (hb:w.heap.size<=b) (hg:W.grownBy w5 v.ownBlock):L0d w w5 :=
 ⟨hg.os.trans hB.os,hg.tape.trans hB.tape,hg.output.trans hB.output,L5a hB.size hg.size,fun k hk=>(hg.block k (L0a hk hB.size) (by rw [hv];intro e;cases e;omega)).trans (hB.block k hk)⟩
theorem yX (b o n c:Nat) (xs:List Value) (w:World) (hn:0 < n) (hm:n<=100000) (hl:xs.length=n*3) (hx:∀j u,xs[j]?=some u->w.cell? ⟨b,o+j,none⟩=some u) (h1:∀u∈xs,u.oneCell'=true) (hb:b < w.heap.size) :
  Calls prog 171 #[.slice (some ⟨b,o,none⟩) n c] w fun e w'=>dW 163 3 n xs w e w':=by
 have HX:=hid hx;have HL:=hid hl;have H1:=hid h1;clear hx hl h1;go_enter func171,ntmps171;have xe:∀W:World,(binOp .eql 39 (.slice (some ⟨b,o,none⟩) n c) zD).run prog W=.ok (.bool false) W:=fun W=>Go.Lib.run_eql_slice_nil W 39 163 _ n c 0 0 underlying39
 obtain⟨i,hi,hz,xb,xa⟩:=info_parts a7t;have HI:=hid hi;have HZ:=hid hz;have xc:=hid xb;have xd:=hid xa;clear hi hz xb xa;go_wp2_with (at_builtin;go_must (refine wpList_append_lies _ rfl (.tmp 5) (.tmp 6) 39 rfl w.heap.size 163 i _ 3 40 underlying39 HI.out HZ.out xc.out xd.out rfl R4 (.slice (zA w.heap.size) 0 0) 0 [] rfl (World.ownsRow_made w #[] 0 (L1c _) (L4c _) rfl) ⟨b,o,none⟩ n c xs rfl HL.out (fun j u hj=>by rw [dZ];have:=HX.out j u hj;go_simp) H1.out hn Q7 R5 R6 _ rfl ?_))
 intro g cap w5 hown hgrow hat hlt;have HB:Hid (L0d w w5):=aA (v:=.slice (zA w.heap.size) 0 0) (L3a (L3b _ _) (L1c _) _) rfl (L1c _) hgrow;have ho:w5.ownsRow w.heap.size 163 3 (.slice (zA g) n cap) n xs:=by simpa using hown
 have HO:=hid ho;clear hown hgrow hat hlt ho;go_wp2_with fail;go_ret;exact⟨g,cap,rfl,HO.out,HB.out⟩
theorem vL (b o n c:Nat) (xs:List Value) (w:World) (hn:0 < n) (hm:n<=100000) (hl:xs.length=n*2) (hx:∀j u,xs[j]?=some u->w.cell? ⟨b,o+j,none⟩=some u) (h1:∀u∈xs,u.oneCell'=true) (hb:b < w.heap.size) :
  Calls prog 172 #[.slice (some ⟨b,o,none⟩) n c] w fun e w'=>dW 165 2 n xs w e w':=by
 have HX:=hid hx;have HL:=hid hl;have H1:=hid h1;clear hx hl h1;go_enter func172,ntmps172;have xe:∀W:World,(binOp .eql 161 (.slice (some ⟨b,o,none⟩) n c) zD).run prog W=.ok (.bool false) W:=fun W=>Go.Lib.run_eql_slice_nil W 161 165 _ n c 0 0 underlying161
 obtain⟨i,hi,hz,xb,xa⟩:=info_parts a5g;have HI:=hid hi;have HZ:=hid hz;have xc:=hid xb;have xd:=hid xa;clear hi hz xb xa;go_wp2_with (at_builtin;go_must (refine wpList_append_lies _ rfl (.tmp 5) (.tmp 6) 161 rfl w.heap.size 165 i _ 2 16 underlying161 HI.out HZ.out xc.out xd.out rfl R4 (.slice (zA w.heap.size) 0 0) 0 [] rfl (World.ownsRow_made w #[] 0 (L1c _) (L4c _) rfl) ⟨b,o,none⟩ n c xs rfl HL.out (fun j u hj=>by rw [dZ];have:=HX.out j u hj;go_simp) H1.out hn Q7 R5 R6 _ rfl ?_))
 intro g cap w5 hown hgrow hat hlt;have HB:Hid (L0d w w5):=aA (v:=.slice (zA w.heap.size) 0 0) (L3a (L3b _ _) (L1c _) _) rfl (L1c _) hgrow;have ho:w5.ownsRow w.heap.size 165 2 (.slice (zA g) n cap) n xs:=by simpa using hown
 have HO:=hid ho;clear hown hgrow hat hlt ho;go_wp2_with fail;go_ret;exact⟨g,cap,rfl,HO.out,HB.out⟩
end Go.Proofs.YtbkmgoffiigdbaaGreatDoor
