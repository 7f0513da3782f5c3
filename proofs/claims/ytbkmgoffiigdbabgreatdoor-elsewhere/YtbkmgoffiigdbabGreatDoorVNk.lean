import Derived.Test.YtbkmgoffiigdbabGreatDoorWNI
import Derived.Deep.RegionHeld3
import Derived.Handy
import Derived.Lib.LazyBuf
import Derived.Test.YtbkmgoffiigdbabGreatDoorWS
import Derived.Test.YtbkmgoffiigdbabGreatDoorWQ
namespace Go.Proofs.YtbkmgoffiigdbabGreatDoor
open Go.RowKit Go.Sort
set_option maxHeartbeats 4000000
set_option maxRecDepth 100000
theorem A1 {w W w2:World} (h2:Below W.heap.size W w2) (h1:Below w.heap.size w W):Below w.heap.size w w2:=W4 h2 h1 h1.size
theorem qE {P : Program} {f : FuncId} (h : (P.funcs[f]?).map (fun fn => (fn.name == "runtime.NumGoroutine", fn.body.isNone)) = some (false, false)) (args : Array Value) (w : World) :
  Sem.run P (callFunc f args) w=.ok (.enter f args) w:=by
 obtain⟨fn,hf,hq⟩:=Option.map_eq_some_iff.1 h;simp only[Prod.mk.injEq] at hq;obtain⟨h1,h2⟩:=hq;have e:Sem.run P program w=.ok P w:=rfl;simp only[callFunc,Sem.run_bind,e,Result.andThen_ok,hf,h1,h2];rfl
theorem a3T : (List.range 28).all (fun k => (Tryz.prog.funcs[doT k]?).map (fun fn => (fn.name == "runtime.NumGoroutine", fn.body.isNone)) == some (false, false)) = true := by kernel_rfl
theorem a3S {k:Nat} (hk:k < 28):∀(args:Array Value) (w:World),Sem.run Tryz.prog (callFunc (doT k) args) w=.ok (.enter (doT k) args) w :=
 qE (beq_iff_eq.1 (List.all_eq_true.1 a3T k (List.mem_range.2 hk)))
def cX (own:Own) (mb:Nat) (g:PgR) (P:McR→Prop) (w:World) (e:Ending) (w':World):Prop :=
 ∃own' R',e=.returned (.tuple #[])∧A3 w' own' mb g R'∧P R'∧A8 own w own' w'
structure a7F (g:PgR) (f:FrR) (k:Nat) (a:Int) (n:Nat):Prop where
 fn:f.fn < g.n
 pc:f.pc < (g.f f.fn).n
 op:(g.f f.fn).op f.pc=k
 ar:(g.f f.fn).ar f.pc=a
 k28:k < 28
 pops:G1 k (g.f a.toNat).p=n
 call:(k:Int)=14→0≤a∧a < g.n
theorem C9.later {w W:World} {own:Own} {mb:Nat} {g:PgR} {R:McR} {fs:List FrR} {f:FrR} {rest args:List Val} {va:Option Addr} {sb:Nat} (h:C9 w own mb g R fs f rest args va sb) (hB:Below w.heap.size w W):C9 W own mb g R fs f rest args va sb :=
 ⟨h.m.same hB.size fun k hk=>hB.block k hk,h.hf,h.hst,fun h0=>by
  obtain⟨q1,q2,q3⟩:=h.hva h0;refine⟨q1,q2,fun j x hx=>?_⟩;rw[hB.cell (p:=⟨sb,_,none⟩) (h.m.lt sb _ q2),hB.cell (p:=⟨sb,_,none⟩) (h.m.lt sb _ q2)];exact q3 j x hx,h.hn,h.hs,h.hpc⟩
def a5H (w:World) (own:Own) (mb:Nat) (g:PgR) (R:McR) (fs:List FrR) (f:FrR) (rest args:List Val) (e:Ending) (w':World):Prop :=
 ∃va vc sb,e=.returned (.slice va args.length vc)∧C9 w' own mb g R fs f rest args va sb∧Below w.heap.size w w'
theorem a8E {own:Own} {mb:Nat} {g:PgR} {R:McR} {fs:List FrR} {f:FrR} {w:World} (h:A3 w own mb g R) (hf:R.frs=fs++[f]) (rest args:List Val) (hst:f.stk=rest++args) (hn:fs.length≤1000) (hs:f.stk.length≤1000) (hpc:f.pc≤1000) :
  Calls Tryz.prog 65 #[.pointer (some ⟨mb,3,none⟩),.int .i64 (args.length:Int)] w fun e w'=>a5H w own mb g R fs f rest args e w':=by
 obtain⟨cb,cc,hv,hocb,hcb,hfz,x0,x1,x2,x3⟩:=h.top hf;have c3:=h.c3;rw[hv] at c3;have hrow:=h.stk fs.length f (by rw [hf];simp);have hlen:f.stk.length=rest.length+args.length:=by rw [hst];simp
 rcases id hrow.1.2 with ⟨e0,e1⟩ | ⟨sb,sc,cur,e0,_,hg,hsc,_⟩
 ·have ha:args=[]:=List.length_eq_zero_iff.1 Q8
  subst ha;rw[e0] at x3;refine (a8F mb cb fs.length cc w hn c3 x3).mono ?_;rintro e w' ⟨rfl,m,rfl⟩;have hB:Below w.heap.size w (w.drewN m):=Below.drewQ (Below.refl _ _) _;exact⟨none,0,0,rfl,⟨h.same hB.size fun k hk=>hB.block k hk,hf,hst,fun h0=>by simp at h0,hn,hs,hpc⟩,hB⟩
 ·rw [e0] at x3 hrow
  refine (a8G mb cb fs.length cc sb f.stk.length sc args.length w hn hs hsc Q8 c3 x3).mono ?_;rintro e w' ⟨va,vc,rfl,hva,m,rfl⟩;have hB:Below w.heap.size w (w.drewN m):=Below.drewQ (Below.refl _ _) _;refine⟨va,vc,sb,rfl,⟨h.same hB.size fun k hk=>hB.block k hk,hf,hst,fun h0=>⟨?_,hrow.2 sb rfl,fun j x hx=>?_⟩,hn,hs,hpc⟩,hB⟩
  ·rw [hva h0,hlen,Nat.add_sub_cancel]
  ·have hj:j < args.length:=(List.getElem?_eq_some_iff.1 hx).1
   have hx':f.stk[rest.length+j]?=some x:=by rw [hst,List.getElem?_append_right Q8,Nat.add_sub_cancel_left];exact hx
   have e2:∀i,i < 2→w.cell? ⟨sb,(rest.length+j)*2+i,none⟩=(N0 x)[i]?:=fun i hi=>by
    rw[hrow.1.cellAt _ Q8];exact C3 E7 hx' hi
   have e3:=e2 0 Q8;have e4:=e2 1 Q8;rw[show (rest.length+j)*2=rest.length*2+j*2 by omega] at e3 e4;exact⟨e3,e4⟩
theorem kE {w:World} {a p:Addr} {v u:Value} (h:w.cell? a=some v) (hn:a.block≠p.block):(w.setCell p u).cell? a=some v:=by
 rw[World.cell?_of_block (w:=w) (heap_setCell_other _ _ _ _ hn)];exact h
theorem a5T {w:World} {b:Nat} {v u:Value} (h:w.cell? ⟨b,0,none⟩=some v):(w.setCell ⟨b,1,none⟩ u).cell? ⟨b,0,none⟩=some v:=by go_simp
theorem a7j {own:Own} {mb:Nat} {g:PgR} {R:McR} {fs:List FrR} {f:FrR} {w:World} (h:A3 w own mb g R) (hf:R.frs=fs++[f]) (k:Nat) (a:Int) (rest args:List Val) (hst:f.stk=rest++args) (hx:a7F g f k a args.length) (hn:fs.length≤1000) (hs:f.stk.length≤1000) (hpc:f.pc≤1000) (hgn:g.n≤1000) (hcn:(g.f f.fn).n≤1000)
  (P:McR→Prop) (st:Int) (HD:Hid (∀W va vc sb,Below w.heap.size w W→C9 W own mb g R fs f rest args va sb→Calls Tryz.prog (doT k) #[.pointer (some ⟨mb,0,none⟩),.int .i64 a,.slice va args.length vc] W fun e w'=>aP own mb g P st W e w')) :
  Calls Tryz.prog 42 #[.pointer (some ⟨mb,0,none⟩)] w fun e w'=>cX own mb g (fun R'=>∃Q,P Q∧R'={ Q with st:=st }) w e w':=by
 obtain⟨cb,cc,hv,hocb,hcb,hfz,x0,x1,x2,x3⟩:=h.top hf;have c3:=h.c3;rw[hv] at c3;have hmb:mb < w.heap.size:=h.lt mb _ h.me;have c0:=h.c0;obtain⟨ga,hgb,hfun⟩:=h.pg.2.1 (by have:=hx.fn;omega);obtain⟨q0,q1,q2⟩:=hfun f.fn hx.fn;obtain⟨fa,hfb,hcode⟩:=(h.pg.2.2 f.fn hx.fn).2 (by have:=hx.pc;omega);obtain⟨i0,i1⟩:=hcode f.pc hx.pc;rw[ga] at c0;rw[fa] at q2;rw[hx.op] at i0;rw[hx.ar] at i1;have hfn:=hx.fn;have hpcl:=hx.pc
 have hk28:=hx.k28;obtain⟨t0,t1,t2,t3,t4⟩:=h.tab.2 k hk28;have ht0:=h.tab.1;clear q0 q1 t0 t1 t2 t3 x2 x3 hcode hfun;have HH:=hid h;have HF:=hid hf;have HV:=hid hv;have HX:=hid hx;have HFZ:=hid hfz;have HGA:=hid ga;clear h hf hv hx hfz ga fa;go_enter Tryz.func42,Tryz.ntmps42;go_wp2_with fail;refine (N2 mb cb fs.length cc _ hn c3).mono ?_;rintro e W ⟨rfl,m1,hW⟩;have hBW:Below w.heap.size w W:=by rw [hW];exact Below.drewQ (Below.refl _ _) _
 have hcell:∀ad,W.cell? ad=w.cell? ad:=fun ad=>by rw [hW];rfl
 have hsz:W.heap.size=w.heap.size:=by rw [hW];rfl
 rw[← hcell] at c3 x0 x1 c0 q2 i0 i1 t4;rw[← hsz] at hmb hcb hgb hfb ht0;have HW:=hid hBW;have HSZ:=hid hsz;clear hW hcell hBW hsz;have HPOPS:Hid (∀V,Below w.heap.size w V→Calls Tryz.prog 66 #[.agg #[.slice (some ⟨g.b,g.o,none⟩) g.n g.c],.agg #[.int .i64 (k:Int),.int .i64 a]] V fun e w'=>e=.returned (.int .i64 (args.length:Int))∧Below V.heap.size V w'):=by
  intro V hV;have hm:=HH.out.same hV.size fun k hk=>hV.block k hk
  have:=kN V.heap.size g k a V (Nat.le_refl _) hm.pg hm.tab hk28 HX.out.call;rw[HGA.out,HX.out.pops] at this;exact this
 have HTOP:Hid (∀V,Below w.heap.size w V→Calls Tryz.prog 65 #[.pointer (some ⟨mb,3,none⟩),.int .i64 (args.length:Int)] V fun e w'=>a5H V own mb g R fs f rest args e w'):=by
  intro V hV;exact a8E (HH.out.same hV.size fun k hk=>hV.block k hk) HF.out rest args hst hn hs hpc
 have HST:=hid hst;clear hst;go_wp2_with fail;go_region
 clear x0 x1 q2 i0 i1;have j0:(W.alloc (Obj.cells #[.int .i64 (k:Int),.int .i64 a] 62)).drew.cell? ⟨W.heap.size,0,none⟩=some (.int .i64 (k:Int)):=by go_simp
 have j1:(W.alloc (Obj.cells #[.int .i64 (k:Int),.int .i64 a] 62)).drew.cell? ⟨W.heap.size,1,none⟩=some (.int .i64 a):=by go_simp
 have hB2:Below W.heap.size W (W.alloc (Obj.cells #[.int .i64 (k:Int),.int .i64 a] 62)).drew:=Below.drew (Below.alloc (Below.refl _ _) (Nat.le_refl _) _);have hs2:(W.alloc (Obj.cells #[.int .i64 (k:Int),.int .i64 a] 62)).drew.heap.size=W.heap.size+1:=by simp
 generalize (W.alloc (Obj.cells #[.int .i64 (k:Int),.int .i64 a] 62)).drew=V at *
 rw[← hB2.cell (p:=⟨mb,_,none⟩) hmb] at c0 c3;rw[← hB2.cell (p:=⟨0,_,none⟩) ht0] at t4;have hB3:Below w.heap.size w V:=HW.out.trans (hB2.mono (by have:=HSZ.out;omega));have HB3:=hid hB3;have l1:mb < V.heap.size:=by omega
 have l2:0 < V.heap.size:=by omega
 have l3:W.heap.size < V.heap.size:=by omega
 have hcall:=a3S hk28;clear hB2 hB3 hs2 hmb ht0 hcb hgb hfb;go_wp2_with fail;have hk0:(0:Int)≤k:=by omega
 have hk1:(k:Int) < 28:=by omega
 have n1:Hid ((0:Nat)≠mb):=fun e=>by have:=HH.out.me;rw [← e,HH.out.ro0] at this;cases this
 have n2:Hid (W.heap.size≠mb):=fun e=>by have:=HH.out.lt mb _ HH.out.me;have:=HSZ.out;omega
 have HW0:Hid (own W.heap.size=none):=HH.out.new (by have:=HSZ.out;omega);go_region_held3 (fun u=>u.cell? ⟨0,k*5+4,none⟩=some (.func (.func (doT k)) #[] #[])∧u.cell? ⟨W.heap.size,0,none⟩=some (.int .i64 (k:Int))∧u.cell? ⟨W.heap.size,1,none⟩=some (.int .i64 a)∧u.cell? ⟨mb,0,none⟩=some (.slice (some ⟨g.b,g.o,none⟩) g.n g.c)) (first | go_keep | exact ⟨kE z1 n1.out,kE z2 n2.out,kE z3 n2.out,a5T z4⟩) (first | (go_at_call 66;refine (HPOPS.out _ ?_).mono ?_;exact (by repeat (first | exact HB3.out | refine Below.drew ?_));rintro e w2 ⟨rfl,hb2⟩;have s1:=(hb2.cell (p:=⟨0,k*5+4,none⟩) l2).trans t4;have s2:=(hb2.cell (p:=⟨W.heap.size,0,none⟩) l3).trans j0;have s3:=(hb2.cell (p:=⟨W.heap.size,1,none⟩) l3).trans j1;have s4:=(hb2.cell (p:=⟨mb,0,none⟩) l1).trans c0;have HE1:=hid (Nat.lt_of_lt_of_le l1 hb2.size);have HE2:=hid (Nat.lt_of_lt_of_le l2 hb2.size);have HE3:=hid (Nat.lt_of_lt_of_le l3 hb2.size);have HBW2:Hid (Below w.heap.size w w2):=A1 hb2 (by repeat (first | exact HB3.out | refine Below.drew ?_));clear hb2) | (go_at_call 65;refine (HTOP.out _ HBW2.out).mono ?_;rintro e w3 ⟨va,vc,sb,rfl,hat,hb3⟩;have r1:=(hb3.cell (p:=⟨0,k*5+4,none⟩) HE2.out).trans s1;have r2:=(hb3.cell (p:=⟨W.heap.size,0,none⟩) HE3.out).trans s2;have r3:=(hb3.cell (p:=⟨W.heap.size,1,none⟩) HE3.out).trans s3;have r4:=(hb3.cell (p:=⟨mb,0,none⟩) HE1.out).trans s4;have HBW3:Hid (Below w.heap.size w w3):=A1 hb3 HBW2.out;have HF3:Hid (W.heap.size < w3.heap.size):=Nat.lt_of_lt_of_le HE3.out hb3.size;have HF2:Hid (0 < w3.heap.size):=Nat.lt_of_lt_of_le HE2.out hb3.size;have HAT:=hid hat;clear hat hb3) | (refine (HD.out _ va vc sb HBW3.out HAT.out).mono ?_;rintro e w5 ⟨own',R',rfl,hm5,hp5,ht5⟩;have z1:=(World.cell?_of_block (w:=w3) (w':=w5) (a:=⟨0,k*5+4,none⟩) (ht5.block 0 HF2.out HH.out.ro0)).trans r1;have z2:=(World.cell?_of_block (w:=w3) (w':=w5) (a:=⟨W.heap.size,0,none⟩) (ht5.block _ HF3.out HW0.out)).trans r2;have z3:=(World.cell?_of_block (w:=w3) (w':=w5) (a:=⟨W.heap.size,1,none⟩) (ht5.block _ HF3.out HW0.out)).trans r3;have z4:=hm5.c0;rw [HGA.out] at z4;have y1:=hm5.c1;have y2:=hm5.fz 1;have y3:=hm5.lt mb _ hm5.me;have HM5:=hid hm5;have HP5:=hid hp5;have HT5:=hid ht5;clear hm5 hp5 ht5))
 all_goals
  clear z1 z2 z3 z4 y1 y2 y3 r1 r2 r3 r4 s1 s2 s3 s4 t4 j0 j1 c0 c3;go_wp2_with fail;go_end0
  exact⟨own',{ R' with st:=st },rfl,HM5.out.setCell 1 _ (Or.inl ⟨rfl,rfl,rfl⟩),⟨R',HP5.out,rfl⟩,((A8.of_below HBW3.out).trans HT5.out).trans (A8.setMb HM5.out.me _ _)⟩
def lA (own:Own) (mb:Nat) (g:PgR) (P:McR→Prop) (n:Nat) (w:World) (e:Ending) (w':World):Prop :=
 ∃own' R',e=.returned (.tuple #[.int .i64 (n:Int),.int .i64 0])∧A3 w' own' mb g R'∧P R'∧A8 own w own' w'
def a8J (own:Own) (mb:Nat) (g:PgR) (S:Nat→McR→Prop) (w:World) (i:Nat) (wr:World):Prop :=
 ∃own' R',A3 wr own' mb g R'∧S i R'∧A8 own w own' wr
theorem a3q {own:Own} {mb:Nat} {g:PgR} {R:McR} {w:World} (h:A3 w own mb g R) (S:Nat→McR→Prop) (h0:S 0 R) (N fuel:Nat) (hN:N≤fuel) (hfuel:fuel≤10000)
  (hrun:∀i R,i < N→S i R→R.st=0) (hend:N < fuel→∀R,S N R→R.st≠0)
  (hstep:∀i own R w,i < N→A3 w own mb g R→S i R→Calls Tryz.prog 42 #[.pointer (some ⟨mb,0,none⟩)] w fun e w'=>cX own mb g (S (i+1)) w e w') :
  Calls Tryz.prog 28 #[.pointer (some ⟨mb,0,none⟩),.int .i64 (fuel:Int)] w fun e w'=>lA own mb g (S N) N w e w':=by
 have hin:B9 (fuel:Int) 0 10000=true:=F8 Q8 Q8;have HR:Hid (a8J own mb g S w 0 w):=⟨own,R,h,h0,A8.refl _ _⟩;have HRUN:=hid hrun;have HEND:=hid hend;have HSTEP:=hid hstep;clear h h0 hrun hend hstep;go_enter Tryz.func28,Tryz.ntmps28;go_wp2_with (go_at_call 41;refine (C2 _ _ _ _).mono ?_;rintro e w' ⟨rfl,hw⟩;rw [hw];clear hw w')
 go_loopw [6] (fun v wr=>∃i:Nat,i≤N∧v=.int .i64 i∧a8J own mb g S w i wr) (fun v _=>N - (intOf v).toNat)
 case atStart=>exact ⟨0,Nat.zero_le _,rfl,HR.out⟩
 case round =>
  obtain⟨i,hi,rfl,own',R',hm,hs,ht⟩:=hrel;have c1:=hm.c1;have HM:=hid hm;have HS:=hid hs;have HT:=hid ht;clear hm hs ht;by_cases hlt:i < N
  ·have hst:=HRUN.out i R' hlt HS.out
   rw[hst] at c1;clear hst;have HC:=hid (HSTEP.out i own' R' wr hlt HM.out HS.out);go_wp2_with (go_at_call 42;refine HC.out.mono ?_;rintro e w2 ⟨own2,R2,rfl,hm2,hs2,ht2⟩)
   go_roundw
   case rel=>exact ⟨i+1,by omega,by go_num,own2,R2,hm2,hs2,HT.out.trans ht2⟩
   case measure=>simp [intOf];omega
  ·obtain rfl:i=N:=by omega
   by_cases hf:i < fuel
   ·have hst:(R'.st == 0)=false:=beq_eq_false_iff_ne.2 (HEND.out hf R' HS.out)
    go_wp2_with fail
    all_goals go_ret2
    all_goals exact ⟨own',R',rfl,HM.out,HS.out,HT.out⟩
   ·obtain rfl:i=fuel:=by omega
    go_wp2_with fail
    all_goals go_ret2
    all_goals exact ⟨own',R',rfl,HM.out,HS.out,HT.out⟩
def aJ (ty size n:Nat) (xs:List Value) (w:World) (e:Ending) (w':World):Prop :=
 ∃gb cap,e=.returned (.slice (some ⟨gb,0,none⟩) n cap)∧w'.ownsRow w.heap.size ty size (.slice (some ⟨gb,0,none⟩) n cap) n xs∧Below w.heap.size w w'
theorem a3d:(Tryz.prog.info? 68).map (fun i=>(i.zero,i.size,i.bytes))=some (some (.agg #[.int .i64 0,.int .i64 0,.slice none 0 0]),3,40):=by kernel_rfl
theorem a6p:(Tryz.prog.info? 62).map (fun i=>(i.zero,i.size,i.bytes))=some (some (.agg #[.int .i64 0,.int .i64 0]),2,16):=by kernel_rfl
theorem iP (b o j:Nat):(⟨b,o,none⟩:Addr).add j=⟨b,o+j,none⟩:=by unfold Addr.add;split <;> simp_all
theorem X7 {w W w5:World} {v:Value} {b:Nat} (hB:Below w.heap.size w W) (hv:v.ownBlock=some b) (hb:w.heap.size≤b) (hg:W.grownBy w5 v.ownBlock):Below w.heap.size w w5 :=
 ⟨hg.os.trans hB.os,hg.tape.trans hB.tape,hg.output.trans hB.output,Nat.le_trans hB.size hg.size,fun k hk=>(hg.block k (Nat.lt_of_lt_of_le hk hB.size) (by rw [hv];intro e;cases e;omega)).trans (hB.block k hk)⟩
theorem a3E (b o n c:Nat) (xs:List Value) (w:World) (hn:0 < n) (hm:n≤100000) (hl:xs.length=n*1) (hx:∀j u,xs[j]?=some u→w.cell? ⟨b,o+j,none⟩=some u) (h1:∀u∈xs,u.oneCell'=true) (hb:b < w.heap.size) :
  Calls Tryz.prog 53 #[.slice (some ⟨b,o,none⟩) n c] w fun e w'=>aJ 3 1 n xs w e w':=by
 have HX:=hid hx;have HL:=hid hl;have H1:=hid h1;clear hx hl h1;go_enter Tryz.func53,Tryz.ntmps53;have heq:∀W:World,(binOp .eql 22 (.slice (some ⟨b,o,none⟩) n c) (.slice none 0 0)).run Tryz.prog W=.ok (.bool false) W:=fun W=>Go.Lib.run_eql_slice_nil W 22 3 _ n c 0 0 Tryz.underlying22
 obtain⟨i,hi,hz,hsz,hby⟩:=info_parts lK;have HI:=hid hi;have HZ:=hid hz;have HSZ:=hid hsz;have HBY:=hid hby;clear hi hz hsz hby;go_wp2_with (at_builtin;go_must (refine wpList_append_lies _ rfl (.tmp 5) (.tmp 6) 22 rfl w.heap.size 3 i _ 1 8 Tryz.underlying22 HI.out HZ.out HSZ.out HBY.out rfl Q7 (.slice (some ⟨w.heap.size,0,none⟩) 0 0) 0 [] rfl (World.ownsRow_made w #[] 0 (Nat.le_refl _) (Nat.zero_le _) rfl) ⟨b,o,none⟩ n c xs rfl HL.out (fun j u hj=>by rw [iP];have:=HX.out j u hj;go_simp) H1.out hn Q0 Q8 Q9 _ rfl ?_))
 intro g cap w5 hown hgrow hat hlt;have HB:Hid (Below w.heap.size w w5):=X7 (v:=.slice (some ⟨w.heap.size,0,none⟩) 0 0) (Below.alloc (Below.refl _ _) (Nat.le_refl _) _) rfl (Nat.le_refl _) hgrow;have ho:w5.ownsRow w.heap.size 3 1 (.slice (some ⟨g,0,none⟩) n cap) n xs:=by simpa using hown
 have HO:=hid ho;clear hown hgrow hat hlt ho;go_wp2_with fail;go_ret;exact⟨g,cap,rfl,HO.out,HB.out⟩
theorem a1l (b o n c:Nat) (xs:List Value) (w:World) (hn:0 < n) (hm:n≤100000) (hl:xs.length=n*3) (hx:∀j u,xs[j]?=some u→w.cell? ⟨b,o+j,none⟩=some u) (h1:∀u∈xs,u.oneCell'=true) (hb:b < w.heap.size) :
  Calls Tryz.prog 96 #[.slice (some ⟨b,o,none⟩) n c] w fun e w'=>aJ 68 3 n xs w e w':=by
 have HX:=hid hx;have HL:=hid hl;have H1:=hid h1;clear hx hl h1;go_enter Tryz.func96,Tryz.ntmps96;have heq:∀W:World,(binOp .eql 25 (.slice (some ⟨b,o,none⟩) n c) (.slice none 0 0)).run Tryz.prog W=.ok (.bool false) W:=fun W=>Go.Lib.run_eql_slice_nil W 25 68 _ n c 0 0 Tryz.underlying25
 obtain⟨i,hi,hz,hsz,hby⟩:=info_parts a3d;have HI:=hid hi;have HZ:=hid hz;have HSZ:=hid hsz;have HBY:=hid hby;clear hi hz hsz hby;go_wp2_with (at_builtin;go_must (refine wpList_append_lies _ rfl (.tmp 5) (.tmp 6) 25 rfl w.heap.size 68 i _ 3 40 Tryz.underlying25 HI.out HZ.out HSZ.out HBY.out rfl Q7 (.slice (some ⟨w.heap.size,0,none⟩) 0 0) 0 [] rfl (World.ownsRow_made w #[] 0 (Nat.le_refl _) (Nat.zero_le _) rfl) ⟨b,o,none⟩ n c xs rfl HL.out (fun j u hj=>by rw [iP];have:=HX.out j u hj;go_simp) H1.out hn Q0 Q8 Q9 _ rfl ?_))
 intro g cap w5 hown hgrow hat hlt;have HB:Hid (Below w.heap.size w w5):=X7 (v:=.slice (some ⟨w.heap.size,0,none⟩) 0 0) (Below.alloc (Below.refl _ _) (Nat.le_refl _) _) rfl (Nat.le_refl _) hgrow;have ho:w5.ownsRow w.heap.size 68 3 (.slice (some ⟨g,0,none⟩) n cap) n xs:=by simpa using hown
 have HO:=hid ho;clear hown hgrow hat hlt ho;go_wp2_with fail;go_ret;exact⟨g,cap,rfl,HO.out,HB.out⟩
theorem yV (b o n c:Nat) (xs:List Value) (w:World) (hn:0 < n) (hm:n≤100000) (hl:xs.length=n*2) (hx:∀j u,xs[j]?=some u→w.cell? ⟨b,o+j,none⟩=some u) (h1:∀u∈xs,u.oneCell'=true) (hb:b < w.heap.size) :
  Calls Tryz.prog 97 #[.slice (some ⟨b,o,none⟩) n c] w fun e w'=>aJ 62 2 n xs w e w':=by
 have HX:=hid hx;have HL:=hid hl;have H1:=hid h1;clear hx hl h1;go_enter Tryz.func97,Tryz.ntmps97;have heq:∀W:World,(binOp .eql 64 (.slice (some ⟨b,o,none⟩) n c) (.slice none 0 0)).run Tryz.prog W=.ok (.bool false) W:=fun W=>Go.Lib.run_eql_slice_nil W 64 62 _ n c 0 0 Tryz.underlying64
 obtain⟨i,hi,hz,hsz,hby⟩:=info_parts a6p;have HI:=hid hi;have HZ:=hid hz;have HSZ:=hid hsz;have HBY:=hid hby;clear hi hz hsz hby;go_wp2_with (at_builtin;go_must (refine wpList_append_lies _ rfl (.tmp 5) (.tmp 6) 64 rfl w.heap.size 62 i _ 2 16 Tryz.underlying64 HI.out HZ.out HSZ.out HBY.out rfl Q7 (.slice (some ⟨w.heap.size,0,none⟩) 0 0) 0 [] rfl (World.ownsRow_made w #[] 0 (Nat.le_refl _) (Nat.zero_le _) rfl) ⟨b,o,none⟩ n c xs rfl HL.out (fun j u hj=>by rw [iP];have:=HX.out j u hj;go_simp) H1.out hn Q0 Q8 Q9 _ rfl ?_))
 intro g cap w5 hown hgrow hat hlt;have HB:Hid (Below w.heap.size w w5):=X7 (v:=.slice (some ⟨w.heap.size,0,none⟩) 0 0) (Below.alloc (Below.refl _ _) (Nat.le_refl _) _) rfl (Nat.le_refl _) hgrow;have ho:w5.ownsRow w.heap.size 62 2 (.slice (some ⟨g,0,none⟩) n cap) n xs:=by simpa using hown
 have HO:=hid ho;clear hown hgrow hat hlt ho;go_wp2_with fail;go_ret;exact⟨g,cap,rfl,HO.out,HB.out⟩
abbrev FnC:=Int × Int × Value
def kF (x:FnC):List Value:=[.int .i64 x.1,.int .i64 x.2.1,x.2.2]
theorem bH (x:FnC):(kF x).length=3:=rfl
structure yE (g:PgR) (w:World) (fb fc i:Nat) (wr:World) (L:List FnC) (Bk C:Nat→Nat):Prop where
 len:L.length=g.n
 row:wr.ownsRow w.heap.size 68 3 (.slice (some ⟨fb,0,none⟩) g.n fc) g.n (L.flatMap kF)
 done:∀j,j < i→L[j]?=some ((g.f j).p,(g.f j).l,.slice (some ⟨Bk j,0,none⟩) (g.f j).n (C j))∧Bk j≠fb∧wr.ownsRow w.heap.size 62 2 (.slice (some ⟨Bk j,0,none⟩) (g.f j).n (C j)) (g.f j).n (lL (g.f j))
 todo:∀j,i≤j→j < g.n→L[j]?=some ((g.f j).p,(g.f j).l,.slice (g.f j).a (g.f j).n (g.f j).c)
 below:Below w.heap.size w wr
def vK (g:PgR) (w:World) (fb fc i:Nat) (wr:World):Prop:=∃L Bk C,yE g w fb fc i wr L Bk C
def pU (g:PgR) (w:World) (e:Ending) (w':World):Prop :=
 ∃g':PgR,e=.returned (.agg #[.slice g'.a g'.n g'.c])∧M3 w'.heap.size w' g'∧(∀k,g'.blk k→w.heap.size≤k)∧Below w.heap.size w w' ∧
  g'.n=g.n∧∀j,j < g.n→(g'.f j).p=(g.f j).p∧(g'.f j).l=(g.f j).l∧(g'.f j).n=(g.f j).n∧(g'.f j).op=(g.f j).op∧(g'.f j).ar=(g.f j).ar
theorem yE.end {g:PgR} {w V wr:World} {fb fc rb:Nat} {L:List FnC} {Bk C:Nat→Nat} (h:yE g V fb fc g.n wr L Bk C) (hV:Below w.heap.size w V) (hr1:w.heap.size≤rb) (hr2:rb < V.heap.size) (hn:g.n≤1000) (hc:∀j,j < g.n→(g.f j).n≤1000) (e:Ending) (v:Value) (he:e=.returned (.agg #[.slice (some ⟨fb,0,none⟩) g.n fc])) :
  pU g w e (wr.setCell ⟨rb,0,none⟩ v):=by
 have own_lt:∀{ty size b n c:Nat} {xs:List Value},wr.ownsRow V.heap.size ty size (.slice (some ⟨b,0,none⟩) n c) n xs→V.heap.size≤b:=by
  intro ty size b n c xs hx;rcases hx.2 with ⟨h0,_⟩ | ⟨g',cap',cur,hv,h1,_⟩
  ·cases h0
  ·cases hv;exact h1
 have hB:Below w.heap.size w (wr.setCell ⟨rb,0,none⟩ v):=Below.setCell (hV.trans (h.below.mono hV.size)) hr1 _;have hsz:wr.heap.size=(wr.setCell ⟨rb,0,none⟩ v).heap.size:=by simp
 refine⟨⟨some ⟨fb,0,none⟩,g.n,fc,fb,0,fun j=>{ g.f j with a:=some ⟨Bk j,0,none⟩,c:=C j,b:=Bk j,o:=0 }⟩,he,⟨by show g.n≤_;omega,fun _=>?_,fun i hi=>⟨by show (g.f i).n≤_;have:=hc i hi;omega,fun _=>?_⟩⟩,?_,hB,rfl,fun j hj=>⟨rfl,rfl,rfl,rfl,rfl⟩⟩
 ·refine ⟨rfl,Nat.lt_of_lt_of_le (M6 h.row).2 (Nat.le_of_eq hsz),fun i hi=>?_⟩
  obtain⟨h1,_,_⟩:=h.done i hi;have hrow:=ownsRow_setCell_other h.row (a:=⟨rb,0,none⟩) (by have:=own_lt h.row;simp only [Value.ownBlock,ne_eq,Option.some.injEq];omega) v;have e:∀j,j < 3→(wr.setCell ⟨rb,0,none⟩ v).cell? ⟨fb,i*3+j,none⟩=(kF ((g.f i).p,(g.f i).l,.slice (some ⟨Bk i,0,none⟩) (g.f i).n (C i)))[j]?:=fun j hj=>by
   rw[hrow.cellAt _ (by have:i < g.n:=hi;omega)];exact C3 bH h1 hj
  have e0:=e 0 Q8;have e1:=e 1 Q8;have e2:=e 2 Q8;simp only[Nat.zero_add];exact⟨e0,e1,e2⟩
 ·obtain ⟨_,_,h3⟩:=h.done i hi
  refine⟨rfl,Nat.lt_of_lt_of_le (M6 h3).2 (Nat.le_of_eq hsz),fun j hj=>?_⟩;have hrow:=ownsRow_setCell_other h3 (a:=⟨rb,0,none⟩) (by have:=own_lt h3;simp only [Value.ownBlock,ne_eq,Option.some.injEq];omega) v;have hj':j < (g.f i).n:=hj;obtain⟨q1,q2⟩:=uJ (a:=fun j=>Value.int .i64 ((g.f i).op j)) (b:=fun j=>Value.int .i64 ((g.f i).ar j)) hj';have e0:=hrow.cellAt (j*2) Q8;have e1:=hrow.cellAt (j*2+1) Q8
  simp only[Nat.zero_add];exact⟨e0.trans q1,e1.trans q2⟩
 ·have:=hV.size
  rintro k (⟨_,rfl⟩ | ⟨i,hi,_,rfl⟩)
  ·exact Nat.le_trans this (own_lt h.row)
  ·exact Nat.le_trans this (own_lt (h.done i hi).2.2)
theorem yE.step {g:PgR} {V wr w2:World} {fb fc i nb nc:Nat} {L:List FnC} {Bk C:Nat→Nat} (h:yE g V fb fc i wr L Bk C) (hi:i < g.n) (hb:Below wr.heap.size wr w2) (hnew:w2.ownsRow wr.heap.size 62 2 (.slice (some ⟨nb,0,none⟩) (g.f i).n nc) (g.f i).n (lL (g.f i))) :
  vK g V fb fc (i+1) (w2.setCell ⟨fb,i*3+2,none⟩ (.slice (some ⟨nb,0,none⟩) (g.f i).n nc)):=by
 have hfb:V.heap.size≤fb∧fb < wr.heap.size:=by
  rcases h.row.2 with ⟨h0,_⟩ | ⟨g',cap',cur,hv,h1,hg,_⟩
  ·cases h0
  ·cases hv;exact ⟨h1,(Array.getElem?_eq_some_iff.1 hg).1⟩
 have hnb:wr.heap.size≤nb:=by
  rcases hnew.2 with ⟨h0,_⟩ | ⟨g',cap',cur,hv,h1,hg,_⟩
  ·cases h0
  ·cases hv;exact h1
 have hrow2:w2.ownsRow V.heap.size 68 3 (.slice (some ⟨fb,0,none⟩) g.n fc) g.n (L.flatMap kF):=A2 h.row fun b hb'=>by
  obtain rfl:fb=b:=by simpa [Value.ownBlock] using hb'
  exact hb.block _ hfb.2
 have hst:=(World.ownsRow.stored hrow2 (i*3+2) (.slice (some ⟨nb,0,none⟩) (g.f i).n nc)).1;have hL:=h.todo i (Nat.le_refl _) hi;rw[← L5 bH (y:=((g.f i).p,(g.f i).l,.slice (some ⟨nb,0,none⟩) (g.f i).n nc)) hL Q8 rfl] at hst;refine⟨L.set i ((g.f i).p,(g.f i).l,.slice (some ⟨nb,0,none⟩) (g.f i).n nc),fun j=>if j=i then nb else Bk j,fun j=>if j=i then nc else C j,by simpa using h.len,hst,fun j hj=>?_,fun j hj1 hj2=>?_,?_⟩
 ·by_cases e:j=i
  ·subst e
   simp only[if_pos];refine⟨by rw [List.getElem?_set_self (by rw [h.len];exact hi)],by omega,?_⟩;exact ownsRow_setCell_other (C5 hnew (Nat.le_trans hfb.1 (Nat.le_of_lt hfb.2))) (by simp only [Value.ownBlock,ne_eq,Option.some.injEq];omega) _
  ·simp only [if_neg e]
   obtain⟨q1,q2,q3⟩:=h.done j Q8;refine⟨by rw [List.getElem?_set_ne (Ne.symm e)];exact q1,q2,?_⟩;refine ownsRow_setCell_other (A2 q3 fun b hb'=>?_) (by simpa [Value.ownBlock] using q2) _;obtain rfl:Bk j=b:=by simpa [Value.ownBlock] using hb'
   exact hb.block _ (M6 q3).2
 ·rw [List.getElem?_set_ne Q8]
  exact h.todo j Q8 hj2
 ·exact Below.setCell (h.below.trans (hb.mono h.below.size)) hfb.1 _
theorem gF (g:PgR) (w:World) (hg:M3 w.heap.size w g) (h1:1≤g.n) (h8:g.n≤8) (hc:∀j,j < g.n→1≤(g.f j).n∧(g.f j).n≤60) :
  Calls Tryz.prog 60 #[.agg #[.slice g.a g.n g.c]] w fun e w'=>pU g w e w':=by
 obtain⟨ha,hb,hcell⟩:=hg.2.1 Q8;rw[ha];have HG:=hid hg;have HC:=hid hc;have HA:=hid ha;have HCL:Hid (∀W,Below w.heap.size w W→Calls Tryz.prog 96 #[.slice (some ⟨g.b,g.o,none⟩) g.n g.c] W fun e w'=>aJ 68 3 g.n (((List.range g.n).map fun j=>(((g.f j).p,(g.f j).l,.slice (g.f j).a (g.f j).n (g.f j).c):FnC)).flatMap kF) W e w'):=by
  intro W hW;refine a1l g.b g.o g.n g.c _ W Q8 Q8 (by rw [dA bH];simp) (fun j u hj=>?_) (fun u hu=>?_) (Nat.lt_of_lt_of_le hb hW.size)
  ·have hlt:j < g.n*3:=by
    have:=(List.getElem?_eq_some_iff.1 hj).1;rw[dA bH] at this;simpa using this
   have hi:j / 3 < g.n:=by omega
   have hgt:=C3 (c:=kF) bH (l:=(List.range g.n).map fun j=>(((g.f j).p,(g.f j).l,.slice (g.f j).a (g.f j).n (g.f j).c):FnC)) (i:=j / 3) (j:=j % 3) (x:=((g.f (j / 3)).p,(g.f (j / 3)).l,.slice (g.f (j / 3)).a (g.f (j / 3)).n (g.f (j / 3)).c)) (by simp [hi]) Q8;rw[show j / 3*3+j % 3=j by omega,hj] at hgt;obtain⟨q0,q1,q2⟩:=hcell (j / 3) hi;rw[hW.cell (p:=⟨g.b,_,none⟩) hb];have hj3:j % 3=0∨j % 3=1∨j % 3=2:=by omega
   rcases hj3 with e | e | e
   ·rw [e] at hgt
    rw[show g.o+j=g.o+j / 3*3 by omega,q0];exact hgt.symm
   ·rw [e] at hgt
    rw[show g.o+j=g.o+j / 3*3+1 by omega,q1];exact hgt.symm
   ·rw [e] at hgt
    rw[show g.o+j=g.o+j / 3*3+2 by omega,q2];exact hgt.symm
  ·simp only [List.mem_flatMap,List.mem_map,kF,List.mem_cons,List.not_mem_nil,or_false] at hu
   obtain⟨x,⟨i,_,rfl⟩,rfl | rfl | rfl⟩:=hu <;> rfl
 clear hg hc ha hcell;go_enter Tryz.func60,Tryz.ntmps60;go_wp2_with (go_at_call 96;refine (HCL.out _ ?_).mono ?_;exact P3;rintro e w2 ⟨fb,fc,rfl,hown,hbel⟩)
 have hVB:Below w.heap.size w ((w.alloc (Obj.cells #[.slice (some ⟨g.b,g.o,none⟩) g.n g.c] 27)).alloc (Obj.cells #[.slice none 0 0] 27)):=by repeat (first | exact Below.refl _ _ | refine Below.alloc ?_ P7 _)
 have hVs:((w.alloc (Obj.cells #[.slice (some ⟨g.b,g.o,none⟩) g.n g.c] 27)).alloc (Obj.cells #[.slice none 0 0] 27)).heap.size=w.heap.size+2:=by simp
 have hVc:((w.alloc (Obj.cells #[.slice (some ⟨g.b,g.o,none⟩) g.n g.c] 27)).alloc (Obj.cells #[.slice none 0 0] 27)).cell? ⟨w.heap.size+1,0,none⟩=some (.slice none 0 0):=by go_simp
 have hVf:((w.alloc (Obj.cells #[.slice (some ⟨g.b,g.o,none⟩) g.n g.c] 27)).alloc (Obj.cells #[.slice none 0 0] 27)).frozen? ⟨w.heap.size+1,0,none⟩=false:=by go_simp
 generalize ((w.alloc (Obj.cells #[.slice (some ⟨g.b,g.o,none⟩) g.n g.c] 27)).alloc (Obj.cells #[.slice none 0 0] 27))=V at *
 have HCP:Hid (vK g V fb fc 0 w2):=⟨_,fun _=>0,fun _=>0,by simp,hown,fun j hj=>by omega,fun j _ hj=>by simp [hj],hbel⟩;have HVB:=hid hVB;have HVS:=hid hVs;have HVC:=hid hVc;have HVF:=hid hVf;clear hown hbel hVB hVs hVc hVf HCL;go_loopw [10] (fun v wr=>∃i:Nat,i≤g.n∧v=.int .i64 i∧vK g V fb fc i wr) (fun v _=>g.n - (intOf v).toNat)
 case atStart=>exact ⟨0,Nat.zero_le _,rfl,HCP.out⟩
 case round =>
  obtain⟨i,hi,rfl,L,Bk,C,hcp⟩:=hrel;have hfb:=M6 hcp.row;have hzf:=hcp.row.frozenAt (i*3+2);have HP:=hid hcp;by_cases hlt:i < g.n
  ·have hL:=hcp.todo i (Nat.le_refl _) hlt
   have hcell:wr.cell? ⟨fb,i*3+2,none⟩=some (.slice (g.f i).a (g.f i).n (g.f i).c):=by
    rw[hcp.row.cellAt _ Q8];exact C3 bH hL Q8
   obtain⟨hn1,hn2⟩:=HC.out i hlt;obtain⟨fa,hfbl,hcode⟩:=(HG.out.2.2 i hlt).2 hn1;rw[fa] at hcell;have HCI:Hid (∀U,Below wr.heap.size wr U→Calls Tryz.prog 97 #[.slice (some ⟨(g.f i).b,(g.f i).o,none⟩) (g.f i).n (g.f i).c] U fun e w'=>aJ 62 2 (g.f i).n (lL (g.f i)) U e w'):=by
    intro U hU;have hBU:Below w.heap.size w U:=(HVB.out.trans (hcp.below.mono HVB.out.size)).trans (hU.mono (Nat.le_trans HVB.out.size hcp.below.size));refine yV _ _ _ _ _ U hn1 Q8 (V1 _ _ _) (fun j u hj=>?_) a3Z (Nat.lt_of_lt_of_le hfbl hBU.size);have hjl:j < (g.f i).n*2:=by
     have:=(List.getElem?_eq_some_iff.1 hj).1;rwa [lL,V1] at this
    obtain⟨q1,q2⟩:=uJ (a:=fun j=>Value.int .i64 ((g.f i).op j)) (b:=fun j=>Value.int .i64 ((g.f i).ar j)) (show j / 2 < (g.f i).n by omega);obtain⟨p1,p2⟩:=hcode (j / 2) Q8;rw[hBU.cell (p:=⟨(g.f i).b,_,none⟩) hfbl];have hj2:j % 2=0∨j % 2=1:=by omega
    rcases hj2 with e | e
    ·rw [show (g.f i).o+j=(g.f i).o+j / 2*2 by omega,p1,← q1,show j / 2*2=j by omega];exact hj
    ·rw [show (g.f i).o+j=(g.f i).o+j / 2*2+1 by omega,p2,← q2,show j / 2*2+1=j by omega];exact hj
   have hwfb:=hfb.2;clear fa hcode hL hcp hfb;go_wp2_with (go_at_call 97;refine (HCI.out _ (Below.refl _ _)).mono ?_;rintro e w3 ⟨nb,nc,rfl,hnew,hb3⟩;have cc3:=(hb3.cell (p:=⟨fb,i*3+2,none⟩) hwfb).trans hcell;have zz3:=(hb3.frozen (p:=⟨fb,i*3+2,none⟩) hwfb).trans hzf;have HNEW:=hid hnew;have HB3:=hid hb3;clear hnew hb3)
   go_roundw
   case rel=>exact ⟨i+1,by omega,by go_num,HP.out.step hlt HB3.out HNEW.out⟩
   case measure=>simp [intOf];omega
  ·obtain rfl:i=g.n:=by omega
   have hrb:w.heap.size+1 < V.heap.size:=by have:=HVS.out;omega
   have rc:=(hcp.below.cell (p:=⟨w.heap.size+1,0,none⟩) hrb).trans HVC.out;have rf:=(hcp.below.frozen (p:=⟨w.heap.size+1,0,none⟩) hrb).trans HVF.out;have hrb':w.heap.size+1 < wr.heap.size:=Nat.lt_of_lt_of_le hrb hcp.below.size;clear hcp hfb hzf;have rr:(wr.setCell ⟨w.heap.size+1,0,none⟩ (.slice (some ⟨fb,0,none⟩) g.n fc)).cell? ⟨w.heap.size+1,0,none⟩=some (.slice (some ⟨fb,0,none⟩) g.n fc):=by go_simp
   go_wp2_with fail;exact bodyPost_ret (v:=.agg #[.slice (some ⟨fb,0,none⟩) g.n fc]) (by simp [results,Tryz.results60,go_sem,rr]) rfl (HP.out.end HVB.out Q8 hrb Q8 (fun j hj=>by have:=HC.out j hj;omega) _ _ rfl)
theorem lW {w:World} {own:Own} {v v':Value} {t t':Tag} (h:M2 w own v t) (hn:∀b,v'.ownBlock=some b→w.heap.size≤b):M2 w (own.upd v'.ownBlock t') v t:=fun b hb=>by
 rcases h b hb with h1 | h1
 ·rcases Nat.lt_or_ge b w.heap.size with hl | hl
  ·refine Or.inl ?_
   unfold Own.upd;rw [if_neg (fun e=>by have:=hn b e;omega)];exact h1
  ·exact Or.inr hl
 ·exact Or.inr h1
theorem A3.addFrame {w w':World} {own:Own} {mb:Nat} {g:PgR} {R:McR} {fr:FrR} {cv:Value} (h:A3 w own mb g R) (hsize:w.heap.size≤w'.heap.size)
  (hk:∀k,k < w.heap.size→k≠mb→own k≠some .called→w'.heap[k]?=w.heap[k]?)
  (hc:∀j,j≠3→w'.cell? ⟨mb,j,none⟩=w.cell? ⟨mb,j,none⟩) (hc3:w'.cell? ⟨mb,3,none⟩=some cv) (hfz:∀j,w'.frozen? ⟨mb,j,none⟩=false)
  (hrow:w'.ownsRow 0 83 4 cv (R.frs.length+1) ((R.frs++[fr]).flatMap FrR.cells)) (hon:M2 w own cv .called)
  (hloc:w'.ownsRow 0 73 2 fr.lv fr.loc.length (A5 fr.loc)) (hlnew:∀b,fr.lv.ownBlock=some b→w.heap.size≤b) (hne:∀b,fr.lv.ownBlock=some b→cv.ownBlock≠some b) (hs:fr.sv=.slice none 0 0∧fr.stk=[]) :
  A3 w' ((own.upd fr.lv.ownBlock (.loc R.frs.length)).upd cv.ownBlock .called) mb g { R with cv:=cv,frs:=R.frs++[fr] }:=by
 have hlt:=h.lt;have hon2:M2 w (own.upd fr.lv.ownBlock (.loc R.frs.length)) cv .called:=lW hon hlnew;have hon1:M2 w own fr.lv (.loc R.frs.length):=fun b hb=>Or.inr (hlnew b hb)
 have hold:∀k,k < w.heap.size→((own.upd fr.lv.ownBlock (.loc R.frs.length)).upd cv.ownBlock .called) k=own k:=fun k hk'=>by
  rw[Own.upd_old hon2 hk',Own.upd_old hon1 hk']
 have keep:∀t,t≠.mach→t≠.called→∀k,own k=some t→w'.heap[k]?=w.heap[k]?∧((own.upd fr.lv.ownBlock (.loc R.frs.length)).upd cv.ownBlock .called) k=some t:=fun t h1 h2 k hk' =>
  ⟨hk k (hlt k t hk') (fun e=>by rw [e,h.me] at hk';exact h1 (Option.some.inj hk').symm) (by rw [hk'];exact fun e=>h2 (Option.some.inj e)),by rw [hold k (hlt k t hk')];exact hk'⟩
 have hro:∀k,k < w.heap.size→own k=none→w'.heap[k]?=w.heap[k]?:=fun k hk1 hk2=>hk k hk1 (fun e=>by rw [e,h.me] at hk2;cases hk2) (by rw [hk2];simp)
 have frz:∀i x,(R.frs++[fr])[i]?=some x→(i=R.frs.length∧x=fr)∨R.frs[i]?=some x:=fun i x hx=>by
  rcases Nat.lt_or_ge i R.frs.length with hl | hl
  ·rw [List.getElem?_append_left hl] at hx;exact Or.inr hx
  ·rw [List.getElem?_append_right hl] at hx
   have:i - R.frs.length=0:=by
    have:=(List.getElem?_eq_some_iff.1 hx).1;simp at this;omega
   rw[this] at hx;exact Or.inl ⟨by omega,by simpa using hx.symm⟩
 refine⟨fun k t hk'=>?_,?_,?_,?_,?_,hc3,?_,hfz,h.out.kept (keep _ Q9 Q9),⟨by simpa using hrow,fun b hb=>by simp [Own.upd,hb]⟩,h.slots.kept (keep _ Q9 Q9),
  fun i x hx=>?_,fun i x hx=>?_,fun j o ho=>(h.fld j o ho).kept (keep _ Q9 Q9),?_,?_,?_,?_,?_,h.draws.kept (keep _ Q9 Q9)⟩
 ·unfold Own.upd at hk'
  split at hk'
  ·rename_i e;exact (hrow.lt k e).2
  ·split at hk'
   ·rename_i e;exact (hloc.lt k e).2
   ·exact Nat.lt_of_lt_of_le (hlt k t hk') hsize
 ·rw [hold mb (hlt mb _ h.me)];exact h.me
 ·rw [hc 0 Q8];exact h.c0
 ·rw [hc 1 Q8];exact h.c1
 ·rw [hc 2 Q8];exact h.c2
 ·rw [hc 4 Q8];exact h.c4
 ·rcases frz i x hx with ⟨rfl,rfl⟩ | hx
  ·refine ⟨hloc,fun b hb=>?_⟩
   unfold Own.upd;rw[if_neg (hne b hb),if_pos hb]
  ·exact (h.loc i x hx).kept (keep _ Q9 Q9)
 ·rcases frz i x hx with ⟨rfl,rfl⟩ | hx
  ·rw [hs.1,hs.2]
   exact⟨World.ownsRow_nil _ _ _ _,fun b hb=>by cases hb⟩
  ·exact (h.stk i x hx).kept (keep _ Q9 Q9)
 ·exact h.pg.held hsize fun k hb=>hro k (h.pg.blk_lt hb) (h.ro k hb)
 ·intro k hb;rw [hold k (h.pg.blk_lt hb)];exact h.ro k hb
 ·exact h.tab.held hsize (hro 0 h.tab.1 h.ro0)
 ·rw [hold 0 h.tab.1];exact h.ro0
 ·rw [hc 5 Q8];exact h.c5
def vG (own:Own) (mb:Nat) (g:PgR) (R:McR) (fn:Nat) (loc:List Val) (w:World) (e:Ending) (w':World):Prop :=
 ∃own' cv lv,e=.returned (.tuple #[])∧A3 w' own' mb g { R with cv:=cv,frs:=R.frs++[⟨fn,0,lv,.slice none 0 0,loc,[]⟩] }∧A8 own w own' w'
theorem wE:(Tryz.prog.info? 83).map (fun i=>(i.zero,i.size,i.bytes))=some (some (.agg #[.int .i64 0,.int .i64 0,.slice none 0 0,.slice none 0 0]),4,64):=by kernel_rfl
theorem a8L (a b:Value) (n:Nat):(madeCells #[a,b] (n*2)).toList=(List.replicate n [a,b]).flatten:=by
 induction n with
 | zero=>simp [madeCells]
 | succ n ih =>
  have e:madeCells #[a,b] ((n+1)*2)=madeCells #[a,b] (n*2)++#[a,b]:=by
   apply Array.ext_getElem?
   intro j;by_cases h1:j < n*2
   ·rw [Array.getElem?_append_left (by rw [size_madeCells];exact h1)]
    simp only[madeCells,Array.getElem?_map,Array.getElem?_range];rw[if_pos Q8,if_pos h1]
   ·rw [Array.getElem?_append_right (by rw [size_madeCells];omega),size_madeCells]
    by_cases h2:j < (n+1)*2
    ·have:j=n*2∨j=n*2+1:=by omega
     rcases this with rfl | rfl
     ·simp only [madeCells,Array.getElem?_map,Array.getElem?_range]
      rw[if_pos h2];simp
     ·simp only [madeCells,Array.getElem?_map,Array.getElem?_range]
      rw[if_pos h2];simp[Nat.add_mod]
    ·rw [Array.getElem?_eq_none (by rw [size_madeCells];omega),Array.getElem?_eq_none Q5]
  rw[e,Array.toList_append,ih,List.replicate_succ',List.flatten_append];simp
theorem eX (n:Nat):(madeCells #[.int .u8 0,.int .i64 0] (n*2)).toList=A5 (List.replicate n (0,0)):=by
 rw[a8L];induction n with
 | zero=>rfl
 | succ n ih=>rw [List.replicate_succ,List.replicate_succ,List.flatten_cons,ih];rfl
theorem uG {own:Own} {mb:Nat} {g:PgR} {R:McR} {w W w5:World} {fr:FrR} {gb cap lb lc:Nat} (h:A3 w own mb g R) (hB:Below w.heap.size w W) (hgrow:W.grownBy w5 R.cv.ownBlock)
  (hown:w5.ownsRow 0 83 4 (.slice (some ⟨gb,0,none⟩) (R.frs.length+1) cap) (R.frs.length+1) (R.frs.flatMap FrR.cells++fr.cells)) (hat:R.cv.ownBlock=some gb∨gb=W.heap.size)
  (hlv:fr.lv=.slice (some ⟨lb,0,none⟩) fr.loc.length lc) (hlb:w.heap.size≤lb) (hlW:lb < W.heap.size) (hlr:W.ownsRow 0 73 2 fr.lv fr.loc.length (A5 fr.loc)) (hs:fr.sv=.slice none 0 0∧fr.stk=[]) :
  w5.frozen? ⟨mb,3,none⟩=false∧w5.cell? ⟨mb,3,none⟩=some R.cv∧mb < w5.heap.size∧∃own',A3 (w5.setCell ⟨mb,3,none⟩ (.slice (some ⟨gb,0,none⟩) (R.frs.length+1) cap)) own' mb g { R with cv:=.slice (some ⟨gb,0,none⟩) (R.frs.length+1) cap,frs:=R.frs++[fr] } ∧
   A8 own w own' (w5.setCell ⟨mb,3,none⟩ (.slice (some ⟨gb,0,none⟩) (R.frs.length+1) cap)):=by
 have hmb:mb < w.heap.size:=h.lt mb _ h.me;have hob:∀b,R.cv.ownBlock=some b→own b=some .called:=h.called.2
 have hnm:R.cv.ownBlock≠some mb:=fun e=>by have:=hob mb e;rw [h.me] at this;cases this
 have hgm:gb≠mb:=fun e=>by
  rcases hat with h1 | h1
  ·exact hnm (e▸h1)
  ·have:=hB.size;omega
 have hsz:w.heap.size≤w5.heap.size:=Nat.le_trans hB.size hgrow.size;have hon:M2 w own (.slice (some ⟨gb,0,none⟩) (R.frs.length+1) cap) .called:=fun b hb=>by
  obtain rfl:gb=b:=by simpa [Value.ownBlock] using hb
  rcases hat with h1 | h1
  ·exact Or.inl (hob gb h1)
  ·exact Or.inr (by have:=hB.size;omega)
 have hlg:lb≠gb:=fun e=>by
  rcases hat with h1 | h1
  ·have:=h.lt gb _ (hob gb h1);omega
  ·omega
 have hblk:∀k,k < w.heap.size→own k≠some .called→w5.heap[k]?=w.heap[k]?:=fun k hk ho=>by
  rw[hgrow.block k (Nat.lt_of_lt_of_le hk hB.size) (fun e=>ho (hob k e.symm)),hB.block k hk]
 have hmblk:=hblk mb hmb (by rw [h.me];simp);have hfz:∀j,w5.frozen? ⟨mb,j,none⟩=false:=fun j=>by rw [World.frozen?_of_block (w:=w) (a:=⟨mb,j,none⟩) hmblk];exact h.fz j
 have hc3:w5.cell? ⟨mb,3,none⟩=some R.cv:=by rw [World.cell?_of_block (w:=w) (a:=⟨mb,3,none⟩) hmblk];exact h.c3
 have hlr5:w5.ownsRow 0 73 2 fr.lv fr.loc.length (A5 fr.loc):=A2 hlr fun b hb=>by
  rw[hlv] at hb;obtain rfl:lb=b:=by simpa [Value.ownBlock] using hb
  refine hgrow.block lb hlW (fun e=>?_);have:=h.lt lb _ (hob lb e.symm);omega
 refine⟨hfz 3,hc3,by omega,_,A3.addFrame (cv:=.slice (some ⟨gb,0,none⟩) (R.frs.length+1) cap) (fr:=fr) h (by simpa using hsz) (fun k hk h1 h2=>?_) (fun j hj=>?_) ?_ (fun j=>?_) ?_ hon ?_ (fun b hb=>?_) (fun b hb=>?_) hs,?_⟩
 ·rw [heap_setCell_other _ _ _ _ h1];exact hblk k hk h2
 ·rw [← World.cell?_of_block (w:=w) (w':=w5) (a:=⟨mb,j,none⟩) hmblk]
  go_simp
 ·go_simp
 ·have:=hfz j
  go_simp
 ·have:=ownsRow_setCell_other hown (a:=⟨mb,3,none⟩) (by simpa [Value.ownBlock] using hgm) (.slice (some ⟨gb,0,none⟩) (R.frs.length+1) cap)
  simpa using this
 ·exact ownsRow_setCell_other hlr5 (by rw [hlv];simp only [Value.ownBlock,ne_eq,Option.some.injEq];omega) _
 ·rw [hlv] at hb
  obtain rfl:lb=b:=by simpa [Value.ownBlock] using hb
  exact hlb
 ·rw [hlv] at hb
  obtain rfl:lb=b:=by simpa [Value.ownBlock] using hb
  simp only[Value.ownBlock,ne_eq,Option.some.injEq];omega
 ·refine ⟨hgrow.os.trans hB.os,hgrow.tape.trans hB.tape,hgrow.output.trans hB.output,by simpa using hsz,fun k hk hno=>?_,fun k hk=>?_⟩
  ·rw [heap_setCell_other _ _ _ _ (fun e=>by rw [e,h.me] at hno;cases hno)]
   exact hblk k hk (by rw [hno];simp)
  ·have hln:∀b,fr.lv.ownBlock=some b→w.heap.size≤b:=fun b hb=>by
    rw[hlv] at hb;obtain rfl:lb=b:=by simpa [Value.ownBlock] using hb
    exact hlb
   rw[Own.upd_old (lW hon hln) hk,Own.upd_old (fun b hb=>Or.inr (hln b hb)) hk]
theorem uH {own:Own} {mb:Nat} {g:PgR} {R:McR} {w:World} (h:A3 w own mb g R) (fn l:Nat) (p:Int) (ca:Option Addr) (cn cc:Nat) (hl:l≤8) (hn:R.frs.length≤1000) :
  Calls Tryz.prog 62 #[.pointer (some ⟨mb,3,none⟩),.int .i64 (fn:Int),.agg #[.int .i64 p,.int .i64 (l:Int),.slice ca cn cc],.slice none 0 0] w fun e w'=>vG own mb g R fn (List.replicate l (0,0)) w e w':=by
 have c3:=h.c3;have hfz:=h.fz 3;have hmb:mb < w.heap.size:=h.lt mb _ h.me;obtain⟨i101,hi,hz,hsz,hby⟩:=info_parts Z7;have HMK:Hid (∀W:World,(Instr.makeSlice 45 (.int .i64 (l:Int)) (.int .i64 (l:Int))).run Tryz.prog W=.ok (.slice (some ⟨W.heap.size,0,none⟩) l l) (W.alloc (.cells (madeCells #[.int .u8 0,.int .i64 0] (l*2)) 73))):=by
  intro W;have hr:=run_make (P:=Tryz.prog) W 45 73 i101 _ Tryz.underlying45 hi hz .i64 .i64 l l Q8 (Int.le_refl _) (by rw [hby];omega) Q8;simpa [hsz,Value.cells] using hr
 have hmk:=HMK.out;have hcp:∀(W:World) (b:Nat),(Builtin.copy_ #[45,45] 3 #[.slice (some ⟨b,0,none⟩) l l,.slice none 0 0]).run Tryz.prog W=.ok (goInt 0) W:=fun W b=>run_copy_nil (P:=Tryz.prog) W 45 45 3 73 ⟨b,0,none⟩ l l Tryz.underlying45 (by rw [hi];rfl)
 have HH:=hid h;clear h hi hz hsz hby HMK;go_enter Tryz.func62,Tryz.ntmps62;obtain⟨i98,ji,jz,jsz,jby⟩:=info_parts wE;have JI:=hid ji;have JZ:=hid jz;have JSZ:=hid jsz;have JBY:=hid jby;have HO:=hid HH.out.called.1;clear ji jz jsz jby;go_wp2_with (at_builtin;go_must (refine wpList_append_lies _ rfl (.tmp 19) (.tmp 23) 47 rfl 0 83 i98 _ 4 64 Tryz.underlying47 JI.out JZ.out JSZ.out JBY.out rfl Q7 R.cv R.frs.length (R.frs.flatMap FrR.cells) rfl (((HO.out.alloc _).alloc _).alloc _) ⟨w.heap.size+1+1,0,none⟩ 1 1 (FrR.cells ⟨fn,0,.slice (some ⟨w.heap.size+1,0,none⟩) l l,.slice none 0 0,List.replicate l (0,0),[]⟩) rfl rfl (World.news_of_block (cs:=#[.int .i64 (fn:Int),.int .i64 0,.slice (some ⟨w.heap.size+1,0,none⟩) l l,.slice none 0 0]) (t:=83) (fr:=(0,0)) (D8 Q9)) (by intro u hu;simp only [FrR.cells,List.mem_cons,List.not_mem_nil,or_false] at hu;rcases hu with rfl | rfl | rfl | rfl <;> rfl) Q8 Q0 Q8 (Nat.zero_le _) _ rfl ?_))
 intro gb cap w5 hown hgrow hat hlt;obtain⟨y0,y1,y2,own',hM,hT⟩:=uG (lb:=w.heap.size+1) (lc:=l) HH.out P3 hgrow hown (hat.imp id fun e=>e.trans Q9) Q9 Q8 Q9 (by
  refine World.ownsRow.alloc ?_ _;have:=World.ownsRow_lit (base:=0) (e:=73) (size:=2) (w.alloc (Obj.cells #[.int .i64 p,.int .i64 (l:Int),.slice ca cn cc] 68)) (madeCells #[.int .u8 0,.int .i64 0] (l*2)) l (Nat.zero_le _) Q0 (by rw [size_madeCells]);rw[eX] at this;simpa using this) ⟨rfl,rfl⟩
 have HM:=hid hM;have HT:=hid hT;clear hM hT hown hgrow hat hlt hmk hcp;go_wp2_with fail;go_end0
 exact⟨own',_,_,rfl,HM.out,HT.out⟩
theorem a1F:(Tryz.prog.info? 75).map (fun i=>(i.zero,i.size,i.bytes))=some (some (.agg #[.int .u8 0,.slice none 0 0]),2,32):=by kernel_rfl
def K7:ObR:=⟨0,.slice none 0 0,[]⟩
def yH (n:Nat) (w:World) (e:Ending) (w':World):Prop :=
 ∃b,e=.returned (.agg #[.slice (some ⟨b,0,none⟩) n n,.slice none 0 0])∧w'.ownsRow w.heap.size 75 2 (.slice (some ⟨b,0,none⟩) n n) n ((List.replicate n K7).flatMap ObR.cells)∧Below w.heap.size w w'
theorem a6B (n:Nat):(madeCells #[.int .u8 0,.slice none 0 0] (n*2)).toList=(List.replicate n K7).flatMap ObR.cells:=by
 rw[a8L];induction n with
 | zero=>rfl
 | succ n ih=>rw [List.replicate_succ,List.replicate_succ,List.flatten_cons,ih];rfl
theorem hG (n:Nat) (w:World) (hn:n≤40):Calls Tryz.prog 61 #[.int .i64 (n:Int)] w fun e w'=>yH n w e w':=by
 obtain⟨i94,hi,hz,hsz,hby⟩:=info_parts a1F;have HMK:Hid (∀W:World,(Instr.makeSlice 43 (.int .i64 (n:Int)) (.int .i64 (n:Int))).run Tryz.prog W=.ok (.slice (some ⟨W.heap.size,0,none⟩) n n) (W.alloc (.cells (madeCells #[.int .u8 0,.slice none 0 0] (n*2)) 75))):=by
  intro W;have hr:=run_make (P:=Tryz.prog) W 43 75 i94 _ Tryz.underlying43 hi hz .i64 .i64 n n Q8 (Int.le_refl _) (by rw [hby];omega) Q8;simpa [hsz,Value.cells] using hr
 have hmk:=HMK.out;clear hi hz hsz hby HMK;go_enter Tryz.func61,Tryz.ntmps61;go_wp2_with fail;refine bodyPost_ret (v:=.agg #[.slice (some ⟨w.heap.size+1,0,none⟩) n n,.slice none 0 0]) (by simp [results,Tryz.results61,go_sem]) rfl ⟨_,rfl,?_,P3⟩;have:=World.ownsRow_lit (base:=w.heap.size) (e:=75) (size:=2) (w.alloc (Obj.cells #[.slice (some ⟨w.heap.size+1,0,none⟩) n n,.slice none 0 0] 79)) (madeCells #[.int .u8 0,.slice none 0 0] (n*2)) n Q9 Q0 (by rw [size_madeCells])
 rw[a6B] at this;simpa using this
def aQ (g g':PgR):Prop:=g'.n=g.n∧∀j,j < g.n→(g'.f j).p=(g.f j).p∧(g'.f j).l=(g.f j).l∧(g'.f j).n=(g.f j).n∧(g'.f j).op=(g.f j).op∧(g'.f j).ar=(g.f j).ar
structure xZ (g:PgR) (cap:Nat) (R:McR):Prop where
 st:R.st=0
 out:R.out=[]
 frs:∃lv,R.frs=[⟨0,0,lv,.slice none 0 0,List.replicate (g.f 0).l.toNat (0,0),[]⟩]
 obs:R.obs=List.replicate cap K7
 ov:R.ov=.slice none 0 0
 dr:R.dr=[]
def M4 (mb hb:Nat):Own:=fun k=>if k=mb then some .mach else if k=hb then some .slots else none
theorem lS {w4:World} {g':PgR} {hb cap base:Nat} (hpg:M3 w4.heap.size w4 g') (ht:Tab w4) (hrow:w4.ownsRow base 75 2 (.slice (some ⟨hb,0,none⟩) cap cap) cap ((List.replicate cap K7).flatMap ObR.cells)) (hne:∀k,g'.blk k→k≠hb) (h0:hb≠0) :
  A3 (w4.alloc (Obj.cells #[.slice g'.a g'.n g'.c,.int .i64 0,.slice none 0 0,.slice none 0 0,.slice (some ⟨hb,0,none⟩) cap cap,.slice none 0 0] 81)) (M4 w4.heap.size hb) w4.heap.size g'
   ⟨0,.slice none 0 0,[],.slice none 0 0,[],.slice (some ⟨hb,0,none⟩) cap cap,List.replicate cap K7,.slice none 0 0,[]⟩:=by
 have hhb:hb < w4.heap.size:=(M6 hrow).2;have hsz:(w4.alloc (Obj.cells #[.slice g'.a g'.n g'.c,.int .i64 0,.slice none 0 0,.slice none 0 0,.slice (some ⟨hb,0,none⟩) cap cap,.slice none 0 0] 81)).heap.size=w4.heap.size+1:=by simp
 have hblk:∀k,k < w4.heap.size→(w4.alloc (Obj.cells #[.slice g'.a g'.n g'.c,.int .i64 0,.slice none 0 0,.slice none 0 0,.slice (some ⟨hb,0,none⟩) cap cap,.slice none 0 0] 81)).heap[k]?=w4.heap[k]?:=fun k hk=>Below.heap_alloc _ _ _ hk
 refine⟨fun k t hk=>?_,by simp [M4],by go_simp,by go_simp,by go_simp,by go_simp,by go_simp,fun j=>by go_simp,⟨World.ownsRow_nil _ _ _ _,fun b hb=>by cases hb⟩,⟨World.ownsRow_nil _ _ _ _,fun b hb=>by cases hb⟩,⟨?_,fun b hb'=>?_⟩,fun i f hf=>by simp at hf,fun i f hf=>by simp at hf,fun j o ho=>?_,
  hpg.held Q8 fun k hk=>hblk k (hpg.blk_lt hk),fun k hk=>?_,ht.held Q8 (hblk 0 ht.1),?_,by go_simp,⟨World.ownsRow_nil _ _ _ _,fun b hb=>by cases hb⟩⟩
 ·unfold M4 at hk
  split at hk
  ·omega
  ·split at hk
   ·omega
   ·cases hk
 ·have:=C5 (hrow.alloc (Obj.cells #[.slice g'.a g'.n g'.c,.int .i64 0,.slice none 0 0,.slice none 0 0,.slice (some ⟨hb,0,none⟩) cap cap,.slice none 0 0] 81)) (Nat.zero_le _)
  simpa using this
 ·obtain rfl:hb=b:=by simpa [Value.ownBlock] using hb'
  unfold M4;rw[if_neg Q8,if_pos rfl]
 ·have:o=K7:=by
   have:=List.mem_of_getElem? ho;simp at this;exact this.2
  subst this;exact⟨World.ownsRow_nil _ _ _ _,fun b hb=>by cases hb⟩
 ·have h1:=hpg.blk_lt hk
  have h2:=hne k hk;unfold M4;rw[if_neg Q8,if_neg h2]
 ·have:=ht.1
  unfold M4;rw[if_neg Q8,if_neg (Ne.symm h0)]
def oY (g:PgR) (cap:Nat) (w:World) (e:Ending) (w':World):Prop :=
 ∃own mb g' R,e=.returned (.tuple #[.pointer (some ⟨mb,0,none⟩),.int .i64 0])∧A3 w' own mb g' R∧xZ g cap R∧aQ g g'∧Below w.heap.size w w'∧∀k t,own k=some t→w.heap.size≤k
theorem A8.below {own own':Own} {w w':World} (h:A8 own w own' w') {B:Nat} (hB:B≤w.heap.size) (hno:∀k,k < B→own k=none):Below B w w' :=
 ⟨h.os,h.tape,h.output,h.size,fun k hk=>h.block k (Nat.lt_of_lt_of_le hk hB) (hno k hk)⟩
theorem a3D (g:PgR) (w:World) (hg:M3 w.heap.size w g) (ht:Tab w) (hck:N6 g 0 0) (cap:Nat) (h1:1≤cap) (h40:cap≤40) :
  Calls Tryz.prog 38 #[.agg #[.slice g.a g.n g.c],.int .i64 (cap:Int)] w fun e w'=>oY g cap w e w':=by
 have hin:B9 (cap:Int) 1 40=true:=F8 Q8 Q8;have HCK:Hid (∀W,Below w.heap.size w W→Calls Tryz.prog 59 #[.agg #[.slice g.a g.n g.c]] W fun e w'=>e=.returned (.tuple #[.int .i64 0,.int .i64 0])∧Below W.heap.size W w'):=by
  intro W hW;refine (mU g W (hg.held hW.size fun k hk=>hW.block k (hg.blk_lt hk)) (ht.held hW.size (hW.block 0 ht.1))).mono ?_;rintro e w' ⟨x,a,rfl,hx,hb⟩;obtain⟨rfl,rfl⟩:=hx.unique hck;exact⟨rfl,hb⟩
 have HG:=hid hg;have HT:=hid ht;have HC:=hid hck;clear hg ht hck;go_enter Tryz.func38,Tryz.ntmps38;go_wp2_with (first | (go_at_call 59;refine (HCK.out _ ?_).mono ?_;exact P3;rintro e w2 ⟨rfl,hb2⟩;obtain ⟨hcc,hff⟩:=W9 hb2) | (go_at_call 41;refine (C2 _ _ _ _).mono ?_;rintro e w' ⟨rfl,hw⟩;rw [hw];clear hw w'))
 have hB2:Below w.heap.size w w2:=A1 hb2 (Below.alloc (Below.refl _ _) (Nat.le_refl _) _);have hg2:M3 w2.heap.size w2 g:=HG.out.held hB2.size fun k hk=>hB2.block k (HG.out.blk_lt hk)
 have ht2:Tab w2:=HT.out.held hB2.size (hB2.block 0 HT.out.1);obtain⟨hn1,hn8,hsz⟩:aO g:=by
  rcases HC.out with ⟨_,h⟩ | ⟨h,_⟩
  ·cases h
  ·exact h.all.1
 have hsz':∀j,j < g.n→1≤(g.f j).n∧(g.f j).n≤60:=fun j hj=>by have:=iH (hsz j hj);omega
 have hl8:=iH (hsz 0 Q8);have HSZ:=hid hsz';have HL8:=hid hl8;refine (gF g w2 hg2 hn1 hn8 hsz').mono ?_;clear hcc hff hb2 hg2 hsz hsz' hl8;rintro e w3 ⟨g',rfl,hpg,hblk,hb3,hgn,hsame⟩;have HPG:=hid hpg;have HBLK:=hid hblk;have HB3:=hid hb3;have HGN:=hid hgn;have HSAME:=hid hsame;have HB2:=hid hB2;have HT2:=hid ht2;clear hpg hblk hb3 hgn hsame hB2 ht2;go_wp2_with fail;refine (hG cap w3 h40).mono ?_
 rintro e w4 ⟨hb,rfl,hrow,hb4⟩;have HROW:=hid hrow;have HB4:=hid hb4;clear hrow hb4;have hB34:Below w2.heap.size w2 w4:=HB3.out.trans (HB4.out.mono HB3.out.size);have hpg4:M3 w4.heap.size w4 g':=HPG.out.held HB4.out.size fun k hk=>HB4.out.block k (HPG.out.blk_lt hk)
 have ht4:Tab w4:=HT2.out.held hB34.size (hB34.block 0 HT2.out.1);have hhb3:w3.heap.size≤hb:=by
  rcases HROW.out.2 with ⟨h0,_⟩ | ⟨_,_,_,hv,h1,_⟩
  ·cases h0
  ·cases hv;exact h1
 have hmach:=lS hpg4 ht4 HROW.out (fun k hk=>by have:=HPG.out.blk_lt hk;omega) (by have:=HPG.out.blk_lt (k:=g'.b) (Or.inl ⟨by rw [HGN.out];omega,rfl⟩);omega);have hBV:Below w.heap.size w (w4.alloc (Obj.cells #[.slice g'.a g'.n g'.c,.int .i64 0,.slice none 0 0,.slice none 0 0,.slice (some ⟨hb,0,none⟩) cap cap,.slice none 0 0] 81)):=Below.alloc (HB2.out.trans (hB34.mono HB2.out.size)) (Nat.le_trans HB2.out.size hB34.size) _
 have hnew:∀k t,M4 w4.heap.size hb k=some t→w.heap.size≤k:=fun k t hk=>by
  have:=HB2.out.size;have:=HB3.out.size;have:=HB4.out.size;unfold M4 at hk;split at hk
  ·omega
  ·split at hk
   ·omega
   ·cases hk
 have hs':=HSAME.out 0 Q8;obtain⟨ga,hgb,hfun⟩:=hmach.pg.2.1 (by rw [HGN.out];omega);obtain⟨q0,q1,q2⟩:=hfun 0 (by rw [HGN.out];omega);have m0:=hmach.c0.trans (show _=some (Value.slice (some ⟨g'.b,g'.o,none⟩) g'.n g'.c) by rw [ga]);simp only[Nat.zero_mul,Nat.add_zero] at q0 q1 q2;have hmlt:w4.heap.size < (w4.alloc (Obj.cells #[.slice g'.a g'.n g'.c,.int .i64 0,.slice none 0 0,.slice none 0 0,.slice (some ⟨hb,0,none⟩) cap cap,.slice none 0 0] 81)).heap.size:=by simp
 have HM:=hid hmach;have HBV:=hid hBV;have HNEW:=hid hnew;have HS:=hid hs';have hgn1:0 < g'.n:=by rw [HGN.out];omega
 clear hB34 hpg4 ht4 hhb3 hmach hBV hnew hs' ga hfun HB4 HROW HPG HB3 HBLK HT2;go_wp2_with fail;generalize (w4.alloc (Obj.cells #[.slice g'.a g'.n g'.c,.int .i64 0,.slice none 0 0,.slice none 0 0,.slice (some ⟨hb,0,none⟩) cap cap,.slice none 0 0] 81))=V at *
 obtain⟨l,hl⟩:=Int.eq_ofNat_of_zero_le (show 0≤(g'.f 0).l by have:=HL8.out;rw [HS.out.2.1];omega);rw[hl] at q1;have hl8:l≤8:=by have:=HL8.out;have:=HS.out.2.1;omega
 have HL:=hid hl;clear hl;generalize w4.heap.size=mb at *
 have HEN:Hid (∀U,A3 U (M4 mb hb) mb g' ⟨0,.slice none 0 0,[],.slice none 0 0,[],.slice (some ⟨hb,0,none⟩) cap cap,List.replicate cap K7,.slice none 0 0,[]⟩→Calls Tryz.prog 62 #[.pointer (some ⟨mb,3,none⟩),.int .i64 0,.agg #[.int .i64 (g'.f 0).p,.int .i64 (l:Int),.slice (g'.f 0).a (g'.f 0).n (g'.f 0).c],.slice none 0 0] U fun e w'=>vG (M4 mb hb) mb g' ⟨0,.slice none 0 0,[],.slice none 0 0,[],.slice (some ⟨hb,0,none⟩) cap cap,List.replicate cap K7,.slice none 0 0,[]⟩ 0 (List.replicate l (0,0)) U e w') :=
  fun U hU=>uH hU 0 l (g'.f 0).p (g'.f 0).a (g'.f 0).n (g'.f 0).c hl8 Q9
 go_region_with (first | (go_at_call 62;refine (HEN.out _ ?_).mono ?_;exact HM.out.same (Nat.le_refl _) fun _ _=>rfl;rintro e w6 ⟨own',cv,lv,rfl,hm6,ht6⟩;have HM6:=hid hm6;have HT6:=hid ht6;clear hm6 ht6))
 all_goals
  go_wp2_with fail;go_ret2;have hbV:Below w.heap.size w w6:=(Below.drew HBV.out).trans (HT6.out.below HBV.out.size fun k hk=>by
   cases e:M4 mb hb k with
   | none=>rfl
   | some t=>have:=HNEW.out k t e;omega)
  exact⟨own',mb,g',_,rfl,HM6.out,⟨rfl,rfl,⟨lv,by rw [← HS.out.2.1,HL.out];rfl⟩,rfl,rfl,rfl⟩,⟨HGN.out,HSAME.out⟩,hbV,fun k t hk=>by
   rcases Nat.lt_or_ge k V.heap.size with hl | hl
   ·rw [HT6.out.old k hl] at hk;exact HNEW.out k t hk
   ·exact Nat.le_trans HBV.out.size hl⟩
theorem a7E (g:PgR) (w:World) (hg:M3 w.heap.size w g) (ht:Tab w) (hck:N6 g 0 0) (cap:Nat) (h1:1≤cap) (h40:cap≤40) :
  Calls Tryz.prog 24 #[.agg #[.slice g.a g.n g.c],.int .i64 (cap:Int)] w fun e w'=>oY g cap w e w':=by
 have HB:Hid (∀W,Below w.heap.size w W→Calls Tryz.prog 38 #[.agg #[.slice g.a g.n g.c],.int .i64 (cap:Int)] W fun e w'=>oY g cap W e w'):=by
  intro W hW;exact a3D g W (hg.held hW.size fun k hk=>hW.block k (hg.blk_lt hk)) (ht.held hW.size (hW.block 0 ht.1)) hck cap h1 h40
 clear hg ht hck;go_enter Tryz.func24,Tryz.ntmps24;go_wp2_with (go_at_call 38;refine (HB.out _ ?_).mono ?_;exact P3;rintro e w2 ⟨own,mb,g',R,rfl,hm,hbg,hsame,hb,hnew⟩)
 go_ret2;have hW:Below w.heap.size w (w.alloc (Obj.cells #[.slice g.a g.n g.c] 27)):=Below.alloc (Below.refl _ _) (Nat.le_refl _) _;exact⟨own,mb,g',R,rfl,hm,hbg,hsame,A1 hb hW,fun k t hk=>Nat.le_trans hW.size (hnew k t hk)⟩
theorem a2X {own:Own} {mb:Nat} {g:PgR} {w:World} {P:McR→Prop} {n:Nat} {fuel:Int} (h:Calls Tryz.prog 28 #[.pointer (some ⟨mb,0,none⟩),.int .i64 fuel] w fun e w'=>lA own mb g P n w e w') :
  Calls Tryz.prog 8 #[.pointer (some ⟨mb,0,none⟩),.int .i64 fuel] w fun e w'=>lA own mb g P n w e w':=by
 have H:=hid h;clear h;go_enter Tryz.func8,Tryz.ntmps8;go_wp2_with (go_at_call 28;refine H.out.mono ?_;rintro e w2 ⟨own',R',rfl,hm,hp,ht⟩)
 go_ret2;exact⟨own',R',rfl,hm,hp,ht⟩
def taken (l:List ObR):Nat:=(l.filter fun o=>o.kind != 0).length
theorem a2E {l:List ObR} {i:Nat} {o:ObR} (h:l[i]?=some o):taken (l.take (i+1))=taken (l.take i)+if o.kind != 0 then 1 else 0:=by
 have hi:=(List.getElem?_eq_some_iff.1 h).1;have e:l.take (i+1)=l.take i++[o]:=by rw [List.take_add_one,h];rfl
 unfold taken;rw[e,List.filter_append,List.length_append];congr 1
 by_cases hk:o.kind != 0 <;> simp [List.filter,hk]
theorem mD (l:List ObR):taken l≤l.length:=List.length_filter_le _ _
theorem C6 {w:World} {own:Own} {t:Tag} {e size:Nat} {v:Value} {n:Nat} {xs:List Value} (h:Row w own t e size v n xs):∃a c,v=.slice a n c:=by
 rcases h.1.2 with ⟨e,e0⟩ | ⟨gb,cap,_,e,_⟩
 ·exact ⟨none,0,by rw [e,e0]⟩
 ·exact ⟨_,_,e⟩
theorem jH {own:Own} {mb:Nat} {g:PgR} {R:McR} {w:World} (h:A3 w own mb g R) (hpos:0 < R.obs.length) (hn:R.obs.length≤1000) :
  Calls Tryz.prog 36 #[.pointer (some ⟨mb,4,none⟩)] w fun e w'=>e=.returned (.int .i64 (taken R.obs:Int))∧Below w.heap.size w w':=by
 have c4:=h.c4;have hmb:mb < w.heap.size:=h.lt mb _ h.me;have HH:=hid h;obtain⟨hb,hc,e,_,hlt⟩:=h.slots.1.form hpos;have hrow:=h.slots.1;rw[e] at c4 hrow;have HROW:=hid hrow;clear h e hrow;go_enter Tryz.func36,Tryz.ntmps36;go_wp2_with fail;go_loopw [3,11] (fun vn vi wr=>∃i:Nat,i≤R.obs.length∧vi=.int .i64 i∧vn=.int .i64 (taken (R.obs.take i):Int)∧Below w.heap.size w wr) (fun _ vi _=>R.obs.length - (intOf vi).toNat)
 case atStart=>exact ⟨0,Nat.zero_le _,rfl,rfl,Below.refl _ _⟩
 case round =>
  obtain⟨i,hi,rfl,rfl,hbel⟩:=hrel;by_cases hlti:i < R.obs.length
  ·obtain ⟨o,ho⟩:∃o,R.obs[i]?=some o:=⟨_,List.getElem?_eq_getElem hlti⟩
   have hcell:∀j,j < 2→wr.cell? ⟨hb,i*2+j,none⟩=o.cells[j]?:=fun j hj=>by
    rw[hbel.cell (p:=⟨hb,_,none⟩) hlt,HROW.out.cellAt _ Q8];exact C3 ObR.cells_len ho hj
   obtain⟨fa,fc,hfv⟩:=C6 (HH.out.fld i o ho);have k0:wr.cell? ⟨hb,i*2,none⟩=some (.int .u8 o.kind):=hcell 0 Q8;have k1:wr.cell? ⟨hb,i*2+1,none⟩=some o.fv:=hcell 1 Q8;rw[hfv] at k1;have hts:=a2E ho;have htl:=mD (R.obs.take i);have hlw:hb < wr.heap.size:=Nat.lt_of_lt_of_le hlt hbel.size;have hti:taken (R.obs.take i)≤1000:=by rw [List.length_take] at htl;omega
   have HTS:=hid hts;have HBEL:=hid hbel;clear hcell hfv hts htl hbel ho
   cases hk:(o.kind != 0)
   ·go_wp2_with fail
    go_roundw
    case rel=>exact ⟨i+1,by omega,by go_num,by rw [HTS.out,hk];rfl,by repeat (first | exact HBEL.out | refine Below.setCell ?_ (by have:=HBEL.out.size;first | omega | (simp;omega)) _ | refine Below.alloc ?_ (by have:=HBEL.out.size;first | omega | (simp;omega)) _)⟩
    case measure=>simp [intOf];omega
   ·go_wp2_with fail
    go_roundw
    case rel=>exact ⟨i+1,by omega,by go_num,by rw [HTS.out,hk];go_num,by repeat (first | exact HBEL.out | refine Below.setCell ?_ (by have:=HBEL.out.size;first | omega | (simp;omega)) _ | refine Below.alloc ?_ (by have:=HBEL.out.size;first | omega | (simp;omega)) _)⟩
    case measure=>simp [intOf];omega
  ·obtain rfl:i=R.obs.length:=by omega
   go_wp2_with fail;go_ret;refine⟨?_,hbel⟩;rw[List.take_length];rfl
theorem pW {own:Own} {mb:Nat} {g:PgR} {R:McR} {w:World} (h:A3 w own mb g R) (hpos:0 < R.obs.length) (hn:R.obs.length≤1000) :
  Calls Tryz.prog 20 #[.pointer (some ⟨mb,0,none⟩)] w fun e w'=>e=.returned (.agg #[.int .i64 R.st,.int .i64 (taken R.obs:Int),.int .i64 (R.dr.length:Int)])∧Below w.heap.size w w':=by
 have c1:=h.c1;have c5:=h.c5;obtain⟨da,dc,hdv⟩:=C6 h.draws;rw[hdv] at c5;have hmb:mb < w.heap.size:=h.lt mb _ h.me;have HTK:Hid (∀W,Below w.heap.size w W→Calls Tryz.prog 36 #[.pointer (some ⟨mb,4,none⟩)] W fun e w'=>e=.returned (.int .i64 (taken R.obs:Int))∧Below W.heap.size W w'):=by
  intro W hW;exact jH (h.same hW.size fun k hk=>hW.block k hk) hpos hn
 clear h hdv;go_enter Tryz.func20,Tryz.ntmps20;go_wp2_with fail;go_region_with (first | (go_at_call 36;refine (HTK.out _ ?_).mono ?_;exact P2;rintro e w2 ⟨rfl,hb2⟩;obtain ⟨hcc,hff⟩:=W9 hb2;have hs2:=hb2.size;have HB2:=hid hb2;clear hb2))
 all_goals
  have r0:(((w2.setCell ⟨w.heap.size,0,none⟩ (.int .i64 R.st)).setCell ⟨w.heap.size,1,none⟩ (.int .i64 (taken R.obs:Int))).setCell ⟨w.heap.size,2,none⟩ (.int .i64 (R.dr.length:Int))).cell? ⟨w.heap.size,0,none⟩=some (.int .i64 R.st):=by go_simp
  have r1:(((w2.setCell ⟨w.heap.size,0,none⟩ (.int .i64 R.st)).setCell ⟨w.heap.size,1,none⟩ (.int .i64 (taken R.obs:Int))).setCell ⟨w.heap.size,2,none⟩ (.int .i64 (R.dr.length:Int))).cell? ⟨w.heap.size,1,none⟩=some (.int .i64 (taken R.obs:Int)):=by go_simp
  have r2:(((w2.setCell ⟨w.heap.size,0,none⟩ (.int .i64 R.st)).setCell ⟨w.heap.size,1,none⟩ (.int .i64 (taken R.obs:Int))).setCell ⟨w.heap.size,2,none⟩ (.int .i64 (R.dr.length:Int))).cell? ⟨w.heap.size,2,none⟩=some (.int .i64 (R.dr.length:Int)):=by go_simp
  have hB:Below w.heap.size w (((w2.setCell ⟨w.heap.size,0,none⟩ (.int .i64 R.st)).setCell ⟨w.heap.size,1,none⟩ (.int .i64 (taken R.obs:Int))).setCell ⟨w.heap.size,2,none⟩ (.int .i64 (R.dr.length:Int))):=by
   refine Below.setCell (Below.setCell (Below.setCell (A1 HB2.out ?_) ?_ _) ?_ _) ?_ _
   ·repeat (first | exact Below.refl _ _ | refine Below.drew ?_ | refine Below.alloc ?_ P7 _)
   ·exact Nat.le_refl _
   ·exact Nat.le_refl _
   ·exact Nat.le_refl _
  clear hcc hff hs2;generalize (((w2.setCell ⟨w.heap.size,0,none⟩ (.int .i64 R.st)).setCell ⟨w.heap.size,1,none⟩ (.int .i64 (taken R.obs:Int))).setCell ⟨w.heap.size,2,none⟩ (.int .i64 (R.dr.length:Int)))=W3 at *
  go_wp2_with fail;exact bodyPost_ret (v:=.agg #[.int .i64 R.st,.int .i64 (taken R.obs:Int),.int .i64 (R.dr.length:Int)]) (by simp [results,Tryz.results20,go_sem,r0,r1,r2]) rfl ⟨rfl,hB⟩
def a2V (l:List Int) (w:World) (e:Ending) (w':World):Prop :=
 Below w.heap.size w w'∧((l=[]∧e=.returned (.slice none 0 0))∨(0 < l.length∧aJ 3 1 l.length (l.map fun n=>.int .i64 n) w e w'))
theorem tC (w:World):Calls Tryz.prog 53 #[.slice none 0 0] w fun e w'=>e=.returned (.slice none 0 0)∧w'=w:=by
 have heq:∀W:World,(binOp .eql 22 (.slice none 0 0) (.slice none 0 0)).run Tryz.prog W=.ok (.bool true) W:=fun W=>Go.Lib.run_eql_slice_nil W 22 3 none 0 0 0 0 Tryz.underlying22
 go_enter Tryz.func53,Tryz.ntmps53;go_wp2_with fail;go_ret;exact⟨rfl,rfl⟩
theorem pS {own:Own} {mb:Nat} {g:PgR} {R:McR} {w:World} (h:A3 w own mb g R) (hn:R.out.length≤1000) (hq:R.out=[]→R.ov=.slice none 0 0) :
  Calls Tryz.prog 32 #[.pointer (some ⟨mb,0,none⟩)] w fun e w'=>a2V R.out w e w':=by
 have c2:=h.c2;have hmb:mb < w.heap.size:=h.lt mb _ h.me;by_cases h0:R.out.length=0
 ·have h00:=List.length_eq_zero_iff.1 h0
  rw[hq h00] at c2;have H0:=hid h00;clear h h0 h00 hq;go_enter Tryz.func32,Tryz.ntmps32;go_wp2_with (go_at_call 53;refine (tC _).mono ?_;rintro e w' ⟨rfl,hw⟩;rw [hw];clear hw w')
  go_ret;exact⟨Below.refl _ _,Or.inl ⟨H0.out,rfl⟩⟩
 ·obtain ⟨ob,oc,e,_,hlt⟩:=h.out.1.form Q8
  have hrow:=h.out.1;rw[e] at c2 hrow;have HC:Hid (∀W,Below w.heap.size w W→Calls Tryz.prog 53 #[.slice (some ⟨ob,0,none⟩) R.out.length oc] W fun e w'=>aJ 3 1 R.out.length (R.out.map fun n=>.int .i64 n) W e w'):=by
   intro W hW;refine a3E ob 0 _ oc _ W Q8 Q8 Q9 (fun j u hj=>?_) (fun u hu=>?_) (Nat.lt_of_lt_of_le hlt hW.size)
   ·rw [Nat.zero_add,hW.cell (p:=⟨ob,_,none⟩) hlt,hrow.cellAt j (by have:=(List.getElem?_eq_some_iff.1 hj).1;simp at this;omega)]
    exact hj
   ·simp only [List.mem_map] at hu
    obtain⟨n,_,rfl⟩:=hu;rfl
  have hpos:0 < R.out.length:=by omega
  clear h e hrow hq h0;go_enter Tryz.func32,Tryz.ntmps32;go_wp2_with (go_at_call 53;refine (HC.out _ ?_).mono ?_;exact Below.refl _ _;rintro e w2 ⟨gb,cap,rfl,hown,hbel⟩)
  go_ret;exact⟨hbel,Or.inr ⟨hpos,gb,cap,rfl,hown,hbel⟩⟩
structure gC (g:PgR) (l:Nat) (L:List (Int × Int)):Prop where
 n:g.n=1
 p:(g.f 0).p=0
 l:(g.f 0).l=l
 len:(g.f 0).n=L.length
 code:∀j x,L[j]?=some x→(g.f 0).op j=x.1∧(g.f 0).ar j=x.2
theorem gC.same {g g':PgR} {l:Nat} {L:List (Int × Int)} (h:gC g l L) (hs:aQ g g'):gC g' l L:=by
 obtain⟨h1,h2⟩:=hs;obtain⟨p,q,r,s,t⟩:=h2 0 (by rw [h.n];omega);exact⟨h1.trans h.n,p.trans h.p,q.trans h.l,r.trans h.len,fun j x hx=>by rw [s,t];exact h.code j x hx⟩
def a9w (R:McR) (fs:List FrR) (f:FrR) (pc:Nat) (l:List Val) (Q:McR):Prop:=∃sv,Q={ R with frs:=fs++[{ f with pc:=pc,sv:=sv,stk:=l }] }
theorem D0.toDo {own:Own} {mb:Nat} {g:PgR} {R:McR} {fs:List FrR} {f:FrR} {pc:Nat} {l:List Val} {st:Int} {w:World} {e:Ending} {w':World} (h:D0 own mb g R fs f pc l (.int .i64 st) w e w'):aP own mb g (a9w R fs f pc l) st w e w':=by
 obtain⟨own',sv',he,hm,ht⟩:=h;exact⟨own',_,he,hm,⟨sv',rfl⟩,ht⟩
theorem pH {own:Own} {mb:Nat} {g:PgR} {R:McR} {fs:List FrR} {f:FrR} {w:World} (h:A3 w own mb g R) (hf:R.frs=fs++[f]) (k:Nat) (a:Int) (rest args:List Val) (hst:f.stk=rest++args) (hx:a7F g f k a args.length) (hn:fs.length≤1000) (hs:f.stk.length≤1000) (hpc:f.pc≤1000) (hgn:g.n≤1000) (hcn:(g.f f.fn).n≤1000)
  (P:McR→Prop) (st:Int) (HD:∀W va vc sb,C9 W own mb g R fs f rest args va sb→Calls Tryz.prog (doT k) #[.pointer (some ⟨mb,0,none⟩),.int .i64 a,.slice va args.length vc] W fun e w'=>aP own mb g P st W e w') (S:McR→Prop) (himp:∀Q,P Q→S { Q with st:=st }) :
  Calls Tryz.prog 42 #[.pointer (some ⟨mb,0,none⟩)] w fun e w'=>cX own mb g S w e w':=by
 refine (a7j h hf k a rest args hst hx hn hs hpc hgn hcn P st (fun W va vc sb _ hA=>HD W va vc sb hA)).mono ?_;rintro e w' ⟨own',R',he,hm,⟨Q,hQ,rfl⟩,ht⟩;exact⟨own',_,he,hm,himp Q hQ,ht⟩
structure Mid (cap i:Nat) (stk:List Val) (out:List Int) (R:McR):Prop where
 st:R.st=0
 out:R.out=out
 frs:∃lv sv,R.frs=[⟨0,i,lv,sv,[],stk⟩]
 obs:R.obs.length=cap
structure a2T (cap:Nat) (out:List Int) (R:McR):Prop where
 st:R.st=1
 out:R.out=out
 obs:R.obs.length=cap
theorem kR {g:PgR} {l:Nat} {L:List (Int × Int)} (h:gC g l L) {f:FrR} (hf:f.fn=0) {k:Nat} {a:Int} {n:Nat} (hL:L[f.pc]?=some ((k:Int),a)) (hk:k < 28) (hk14:k≠14) (hn:G1 k 0=n):a7F g f k a n:=by
 obtain⟨q1,q2⟩:=h.code f.pc _ hL;refine⟨by rw [hf,h.n];omega,by rw [hf,h.len];exact (List.getElem?_eq_some_iff.1 hL).1,by rw [hf];exact q1,by rw [hf];exact q2,hk,?_,fun e=>by omega⟩;rw[← hn];unfold G1;rw[if_neg (show ¬(k:Int)=14 by omega),if_neg (show ¬(k:Int)=14 by omega)]
theorem a7Z {g:PgR} {L:List (Int × Int)} (hg:gC g 0 L) (hL60:L.length≤60) {own:Own} {mb cap i:Nat} {stk:List Val} {out:List Int} {R:McR} {w:World} {x:Int} (hm:A3 w own mb g R) (hR:Mid cap i stk out R) (hL:L[i]?=some (0,x)) (hs:stk.length≤100) :
  Calls Tryz.prog 42 #[.pointer (some ⟨mb,0,none⟩)] w fun e w'=>cX own mb g (Mid cap (i+1) (stk++[(1,x)]) out) w e w':=by
 obtain⟨lv,sv,hf⟩:=hR.frs;have hi:=(List.getElem?_eq_some_iff.1 hL).1;refine pH (fs:=[]) hm hf 0 x stk [] Q9 (kR hg rfl hL Q8 Q8 rfl) Q9 (by simpa using (by omega:stk.length≤1000)) (by simpa using (by omega:i≤1000)) (by rw [hg.n];omega) (by show (g.f 0).n≤1000;rw [hg.len];omega)
  (a9w R [] ⟨0,i,lv,sv,[],stk⟩ (i+1) (stk++[(1,x)])) 0 (fun W va vc sb hA=>(uF hA x vc).mono fun _ _ h=>h.toDo) _ ?_
 rintro Q ⟨sv',rfl⟩;exact⟨rfl,hR.out,⟨lv,sv',rfl⟩,hR.obs⟩
theorem a4s {g:PgR} {L:List (Int × Int)} (hg:gC g 0 L) (hL60:L.length≤60) {own:Own} {mb cap i:Nat} {stk:List Val} {out:List Int} {R:McR} {w:World} {z:Int} (hm:A3 w own mb g R) (hR:Mid cap i (stk++[(1,z)]) out R) (hL:L[i]?=some (26,0)) (hs:stk.length≤100) (ho:out.length < 40) :
  Calls Tryz.prog 42 #[.pointer (some ⟨mb,0,none⟩)] w fun e w'=>cX own mb g (Mid cap (i+1) stk (out++[z])) w e w':=by
 obtain⟨lv,sv,hf⟩:=hR.frs;have hi:=(List.getElem?_eq_some_iff.1 hL).1;refine pH (fs:=[]) hm hf 26 0 stk [(1,z)] rfl (kR hg rfl hL Q8 Q8 (by simp [G1])) Q9 Q5 (by simpa using (by omega:i≤1000)) (by rw [hg.n];omega) (by show (g.f 0).n≤1000;rw [hg.len];omega)
  (a2W R [] ⟨0,i,lv,sv,[],stk++[(1,z)]⟩ stk z) 0 (fun W va vc sb hA=>nX hA (by rw [hR.out];exact ho) 0 vc) _ ?_
 rintro Q ⟨ov',sv',rfl⟩;exact⟨rfl,by simp [hR.out],⟨lv,sv',rfl⟩,hR.obs⟩
theorem a6D {g:PgR} {L:List (Int × Int)} (hg:gC g 0 L) (hL60:L.length≤60) {own:Own} {mb cap i:Nat} {stk:List Val} {out:List Int} {R:McR} {w:World} (hm:A3 w own mb g R) (hR:Mid cap i stk out R) (hL:L[i]?=some (27,0)) (hs:stk.length≤100) :
  Calls Tryz.prog 42 #[.pointer (some ⟨mb,0,none⟩)] w fun e w'=>cX own mb g (a2T cap out) w e w':=by
 obtain⟨lv,sv,hf⟩:=hR.frs;have hi:=(List.getElem?_eq_some_iff.1 hL).1;refine pH (fs:=[]) hm hf 27 0 stk [] Q9 (kR hg rfl hL Q8 Q8 (by simp [G1])) Q9 (by simpa using (by omega:stk.length≤1000)) (by simpa using (by omega:i≤1000)) (by rw [hg.n];omega) (by show (g.f 0).n≤1000;rw [hg.len];omega)
  (fun R'=>R'={ R with cv:=.slice none 0 0,frs:=[] }) 1 (fun W va vc sb hA=>qN hA.m 0 _) _ ?_
 rintro Q rfl;exact⟨rfl,hR.out,hR.obs⟩
end Go.Proofs.YtbkmgoffiigdbabGreatDoor
