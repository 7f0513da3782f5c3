import Derived.Laws.BytesArg
import Derived.Test.YtbkmgoffiigdbabGreatDoorVYb
import Derived.Test.YtbkmgoffiigdbabGreatDoorVUd
namespace Go.Proofs.YtbkmgoffiigdbabGreatDoor
open Go.RowKit Go.Sort
set_option maxHeartbeats 4000000
set_option maxRecDepth 100000
def sW (W:World) (b o:Nat) (xs:List Int):Prop:=∀i,i < xs.length→W.cell? ⟨b,o+i,none⟩=some (.int .u8 (xs.getD i 0))
theorem qS {W:World} {b1 o1 b2 o2:Nat} {xs:List Int} (h1:sW W b1 o1 xs) (h2:sW W b2 o2 xs) (c1 c2 n:Nat) (hn:n=xs.length) :
  Calls Tryz.prog 78 #[.slice (some ⟨b1,o1,none⟩) n c1,.slice (some ⟨b2,o2,none⟩) n c2] W fun e w'=>e=.returned (.bool true)∧w'=W:=by
 have k1:=run_convert_bytes_arg (P:=Tryz.prog) W 33 5 Tryz.underlying33 Tryz.underlying5 b1 o1 n c1 xs hn.symm (by rw [hn];exact h1) 9 Tryz.underlying9;have k2:=run_convert_bytes_arg (P:=Tryz.prog) W 33 5 Tryz.underlying33 Tryz.underlying5 b2 o2 n c2 xs hn.symm (by rw [hn];exact h2) 9 Tryz.underlying9;clear hn h1 h2;go_enter Tryz.func78,Tryz.ntmps78;go_wp2_with fail;go_ret;exact⟨rfl,rfl⟩
theorem a0r {W:World} {b1 o1 b2 o2:Nat} {xs:List Int} (h1:sW W b1 o1 xs) (h2:sW W b2 o2 xs) (n1 c1 c2 n:Nat) (hn:n=xs.length) (hle:n≤n1) (hc:n1≤c1) :
  Calls Tryz.prog 76 #[.slice (some ⟨b1,o1,none⟩) n1 c1,.slice (some ⟨b2,o2,none⟩) n c2] W fun e w'=>e=.returned (.bool true)∧w'=W:=by
 have HEQ:Hid (Calls Tryz.prog 78 #[.slice (some ⟨b1,o1,none⟩) n c1,.slice (some ⟨b2,o2,none⟩) n c2] W fun e w'=>e=.returned (.bool true)∧w'=W):=hid (qS h1 h2 c1 c2 n hn);have hge:(n:Int)≤(n1:Int):=by omega
 have hlt:¬(n1:Int) < (n:Int):=by omega
 have hnc:n≤c1:=by omega
 clear hn h1 h2;go_enter Tryz.func76,Tryz.ntmps76;go_wp2_with (go_at_call 78;refine HEQ.out.mono ?_;rintro e w1 ⟨rfl,rfl⟩)
 go_ret;exact⟨rfl,rfl⟩
theorem a7z (w:World):Calls Tryz.prog 77 #[.int .u8 2] w fun e w'=>e=.returned (.tuple #[.agg #[.func (.func 109) #[] #[],.func (.func 110) #[] #[],.func (.func 111) #[] #[],.func (.func 112) #[] #[],.func (.func 112) #[] #[]],.bool true])∧Below w.heap.size w w':=by
 go_enter Tryz.func77,Tryz.ntmps77;go_wp2_with fail;refine bodyPost_ret (v:=.tuple #[.agg #[.func (.func 109) #[] #[],.func (.func 110) #[] #[],.func (.func 111) #[] #[],.func (.func 112) #[] #[],.func (.func 112) #[] #[]],.bool true]) (by simp [results,Tryz.results77,go_sem]) rfl ?_;refine⟨rfl,?_⟩
 repeat (first | exact Below.refl _ _ | refine Below.setCell ?_ (by first | exact Nat.le_refl _ | (simp;done)) _ | refine Below.alloc ?_ P7 _)
theorem a0L {W U:World} {b o:Nat} {xs:List Int} (h:sW W b o xs) (hb:b < W.heap.size) (hB:Below W.heap.size W U):sW U b o xs:=fun i hi=>(hB.cell (p:=⟨b,o+i,none⟩) hb).trans (h i hi)
theorem a8N {W:World} {b o:Nat} {l pre xs post:List Int} (h:∀(i:Nat) (x:Int),l[i]?=some x→W.cell? ⟨b,o+i,none⟩=some (.int .u8 x)) (hl:l=pre++(xs++post)):sW W b (o+pre.length) xs:=fun i hi=>by
 have hx:l[pre.length+i]?=some (xs.getD i 0):=by
  rw[hl,List.getElem?_append_right Q8,Nat.add_sub_cancel_left,List.getElem?_append_left hi,List.getElem?_eq_getElem hi,List.getD_eq_getElem?_getD,List.getElem?_eq_getElem hi];rfl
 have:=h _ _ hx;rw[← Nat.add_assoc] at this;exact this
theorem a9t (U:World) (xs:List Int) (fr:Nat × Nat):sW (U.alloc (.cells (N3 xs).toArray 5 fr)) U.heap.size 0 xs:=fun i hi=>by
 have hx:(N3 xs)[i]?=some (.int .u8 (xs.getD i 0)):=by
  unfold N3;rw[List.getElem?_map,List.getElem?_eq_getElem hi,List.getD_eq_getElem?_getD,List.getElem?_eq_getElem hi];rfl
 have:=World.news_of_block (w:=U.alloc (.cells (N3 xs).toArray 5 fr)) (B:=U.heap.size) (cs:=(N3 xs).toArray) (t:=5) (fr:=fr) (D8 rfl) i (.int .u8 (xs.getD i 0)) (by simpa using hx);rw[X1] at this;rw[Nat.zero_add];exact this
def pR (gb cap:Nat) (core:List Int) (W:World) (e:Ending) (w':World):Prop :=
 ∃rb,e=.returned (.tuple #[.pointer (some ⟨rb,0,none⟩),.int .i64 0])∧F7 w' rb (some ⟨gb,0,none⟩) cap core ⟨4,false⟩∧Below W.heap.size W w'∧W.heap.size≤rb
theorem a0j {W:World} {gb cap:Nat} {core rest:List Int} (hb:Y2 W (some ⟨gb,0,none⟩) (core++kS core)) (hcore:core=[83,76,77]++(2::rest)) (hl:core.length+4≤20000) (hcap:core.length+4≤cap) (hrng:∀x,x∈core→0≤x∧x < 256) (n:Nat) (hn:n=core.length) :
  Calls Tryz.prog 50 #[.slice (some ⟨gb,0,none⟩) (n+4) cap] W fun e w'=>pR gb cap core W e w':=by
 obtain⟨b,o,e,hgb,hcs⟩:=hb (by rw [hcore];simp)
 cases e;have hlen:core.length=rest.length+4:=by rw [hcore];simp
 have e0:core++kS core=[]++([83,76,77]++((2::rest)++kS core)):=by
  rw[List.nil_append,← List.append_assoc,← hcore]
 have u0:sW W gb 0 [83,76,77]:=a8N (pre:=[]) (post:=(2::rest)++kS core) hcs e0;clear e0;have u3:W.cell? ⟨gb,3,none⟩=some (.int .u8 2):=by
  have:=hcs 3 2 (by rw [hcore];rfl);rwa [Nat.zero_add] at this
 have u4:sW W gb n (kS core):=by
  have:=a8N (pre:=core) (xs:=kS core) (post:=[]) hcs Q9;rw[Nat.zero_add,← hn] at this;exact this
 have HPF:Hid (∀(U:World) (k c2:Nat),Below W.heap.size W U→(∀j u,[Value.int .u8 83,.int .u8 76,.int .u8 77][j]?=some u→U.cell? ((⟨k,0,none⟩:Addr).add j)=some u)→Calls Tryz.prog 76 #[.slice (some ⟨gb,0,none⟩) (n+4) cap,.slice (some ⟨k,0,none⟩) 3 c2] U fun e w'=>e=.returned (.bool true)∧w'=U):=hid fun U k c2 hU q =>
  a0r (a0L u0 hgb hU) (xs:=[83,76,77]) (fun i hi=>by
   rw[Nat.zero_add,← X1]
   match i,hi with
   | 0,_=>exact q 0 _ rfl
   | 1,_=>exact q 1 _ rfl
   | 2,_=>exact q 2 _ rfl) _ _ _ _ rfl Q8 Q8
 obtain⟨arr,harr⟩:∃arr,arr=(N3 (kS core)).toArray:=⟨_,rfl⟩
 have HSUM:Hid (∀U:World,Below W.heap.size W U→Calls Tryz.prog 47 #[.slice (some ⟨gb,0,none⟩) n cap] U fun e w'=>e=.returned (.slice (some ⟨U.heap.size,0,none⟩) 4 4)∧w'=U.alloc (.cells arr 5)):=hid fun U hU=>by
  rw[hn,harr];refine vA _ _ _ (fun h0=>⟨gb,0,rfl,Nat.lt_of_lt_of_le hgb hU.size,fun i x hx=>?_⟩) Q8;refine (hU.cell (p:=⟨gb,0+i,none⟩) hgb).trans (hcs i x ?_);rw[List.getElem?_append_left (List.getElem?_eq_some_iff.1 hx).1];exact hx
 have HEQ:Hid (∀(U:World) (k:Nat),Below W.heap.size W U→U.heap.size=k→Calls Tryz.prog 78 #[.slice (some ⟨gb,n,none⟩) 4 (cap - n),.slice (some ⟨k,0,none⟩) 4 4] (U.alloc (.cells arr 5)) fun e w'=>e=.returned (.bool true)∧w'=U.alloc (.cells arr 5)):=hid fun U k hU hk=>by
  rw[harr,← hk];exact qS (a0L u4 hgb (Below.alloc hU hU.size _)) (a9t U (kS core) _) _ _ 4 rfl
 have HRD:Hid (∀(V:World) (rb:Nat),Below W.heap.size W V→W.heap.size≤rb→rb < V.heap.size→V.cell? ⟨rb,0,none⟩=some (.slice (some ⟨gb,0,none⟩) n cap)→V.cell? ⟨rb,1,none⟩=some (.int .i64 4)→V.cell? ⟨rb,2,none⟩=some (.bool false)→V.cell? ⟨rb,3,none⟩=some (.func (.func 109) #[] #[])→V.cell? ⟨rb,4,none⟩=some (.func (.func 110) #[] #[])→V.cell? ⟨rb,5,none⟩=some (.func (.func 111) #[] #[])→V.cell? ⟨rb,6,none⟩=some (.func (.func 112) #[] #[])→V.cell? ⟨rb,7,none⟩=some (.func (.func 112) #[] #[])→(∀j,V.frozen? ⟨rb,j,none⟩=false)→pR gb cap core W (.returned (.tuple #[.pointer (some ⟨rb,0,none⟩),.int .i64 0])) V):=hid fun V rb hV hge hlt q0 q1 q2 q3 q4 q5 q6 q7 qz=>by
  refine⟨rb,rfl,⟨by rw [← hn];exact q0,q1,q2,q3,q4,q5,q6,q7,qz,fun h0=>⟨gb,0,rfl,Nat.lt_of_lt_of_le hgb hV.size,fun i x hx=>?_⟩,fun b o e=>by cases e;omega,hlt,hrng,by omega,by show 4≤core.length;omega⟩,hV,hge⟩;refine (hV.cell (p:=⟨gb,0+i,none⟩) hgb).trans (hcs i x ?_);rw[List.getElem?_append_left (List.getElem?_eq_some_iff.1 hx).1];exact hx
 have kc:=fun (w:World) (C:Array Value) (n c:Nat)=>Go.Lib.run_convert_bytes_const (P:=Tryz.prog) w 33 5 C n c Tryz.underlying33 Tryz.underlying5
 have hi1:¬(20000:Int) < ((n+4:Nat):Int):=by omega
 have hi2:¬((n+4:Nat):Int) < 8:=by omega
 have hi3:¬(20000:Int) < (n:Int)+4:=by omega
 have hi4:¬(n:Int)+4 < 8:=by omega
 have hw1:IntKind.i64.wrap ((n:Int)+4 - 4)=(n:Int):=by rw [Int.add_sub_cancel];exact Go.IntWalk.i64_in _ Q8
 have hw2:IntKind.i64.wrap (((n+4:Nat):Int) - 4)=(n:Int):=by
  have:((n+4:Nat):Int) - 4=(n:Int):=by omega
  rw[this];exact Go.IntWalk.i64_in _ Q8
 have hc1:n≤cap:=by omega
 have hc2:n+4≤cap:=by omega
 have hc3:¬n=cap:=by omega
 have hc4:¬cap=n:=by omega
 have h34:(3:Nat) < n+4:=by omega
 clear hb hcs u0 u4 hcore hl hcap hrng hn hlen harr;go_enter Tryz.func50,Tryz.ntmps50;go_wp2_with fail;refine (HPF.out _ _ _ P0 (World.news_of_block (cs:=#[.int .u8 83,.int .u8 76,.int .u8 77]) (t:=5) (fr:=(3,4)) (D8 rfl))).mono ?_;rintro e w1 ⟨rfl,rfl⟩
 go_wp2_with fail;refine (a7z _).mono ?_;rintro e w2 ⟨rfl,hb2⟩;have HB2:Hid (Below W.heap.size W w2):=A1 hb2 P0;have hs2:=HB2.out.size;clear hb2;go_wp2_with fail;go_region
 go_wp2_with fail;clear kc;refine (HSUM.out _ (Below.drew (Below.alloc HB2.out hs2 _))).mono ?_;rintro e w3 ⟨rfl,rfl⟩;clear HSUM HPF;go_wp2_with fail;refine (HEQ.out _ _ (Below.drew (Below.alloc HB2.out hs2 _)) Q9).mono ?_;rintro e w4 ⟨rfl,rfl⟩;clear HEQ;go_wp2_with fail;go_ret2;have hb9:Below W.heap.size W ((w2.alloc (.cells #[.func (.func 109) #[] #[],.func (.func 110) #[] #[],.func (.func 111) #[] #[],.func (.func 112) #[] #[],.func (.func 112) #[] #[]] 103)).drew.alloc (.cells arr 5)):=Below.alloc (Below.drew (Below.alloc HB2.out hs2 _)) Q5 _
 refine HRD.out _ _ (Below.alloc hb9 hb9.size _) Q8 Q9 Q6 Q6 Q6 Q6 Q6 Q6 Q6 Q6 (fun j=>by go_simp)
def T8 (s:McA) (cap:Nat) (l:List Int):McA :=
 gJ (A9 s) (dC (A9 s).obs (List.replicate cap (0,[])) l []).1 (dC (A9 s).obs (List.replicate cap (0,[])) l []).2.2 (dC (A9 s).obs (List.replicate cap (0,[])) l []).2.1
theorem iK {g:PgR} {s:McA} (hi:C1 g s) (hz:G5 s) {cap:Nat} (h1:1≤cap) (h40:cap≤40) (hle:(A0 s).length≤cap) {l:List Int} (hl:l.length≤200) :
  C1 g (T8 s cap l)∧G5 (T8 s cap l)∧(∃r,yL r s (T8 s cap l)∧a7G r s (T8 s cap l))∧(T8 s cap l).obs.length=cap∧K8 (T8 s cap l).obs=(A0 s).length:=by
 have hn:(A9 s).obs.length=(A0 s).length:=List.length_map _;have hrep:(List.replicate cap ((0,[]):Ob)).length=cap:=List.length_replicate;have H:=zX (A9 s).obs [] (List.replicate cap (0,[])) l [] (eF.none cap) (fun j hj=>by cases hj) (fun o ho=>oC hi o (by simpa using ho)) (by rw [List.nil_append,hn,hrep];exact hle);rw[List.nil_append] at H;unfold T8;generalize dC (A9 s).obs (List.replicate cap (0,[])) l []=fin at H ⊢
 obtain⟨a1,a2,a3,a4⟩:=H;rw[hrep] at a2 a3;rw[← a2] at a3;refine⟨a7A a1 hi (by rw [a2];exact h1) (by rw [a2];exact h40) Q8,a5u hz hi a1 (by rw [a2];exact h1) (by rw [a2];exact h40) a3,⟨_,vC a1 hi a3,a5v a1 hi⟩,?_,a2O a1 hi a3⟩;show (fin.1.map _).length=cap;rw[List.length_map,a2]
def cY (g:PgR) (t:McA) (W:World) (e:Ending) (w':World):Prop :=
 ∃own mb g' R,e=.returned (.tuple #[.pointer (some ⟨mb,0,none⟩),.int .i64 0])∧A3 w' own mb g' R∧V6 g g'∧R.abs=t∧F1 R∧Below W.heap.size W w'∧(∀k,g'.blk k→W.heap.size≤k)∧∀b t,own b=some t→W.heap.size≤b
structure vM (W:World) (g:PgR) (s:McA) (w2:World) (own:Own) (mb:Nat) (g':PgR) (R:McR):Prop where
 m:A3 w2 own mb g' R
 al:V6 g g'
 abs:R.abs=A9 s
 nil:F1 R
 bel:Below W.heap.size W w2
 blk:∀k,g'.blk k→W.heap.size≤k
 new:∀b t,own b=some t→W.heap.size≤b
theorem lG (g:PgR) (s:McA):R0 g s=[83,76,77,2]++machB g s:=rfl
theorem uR {W w1:World} {rb gb cap0:Nat} {g:PgR} {s:McA} (hp:F2 g) (ha:ArI g) (hi:C1 g s) (hz:G5 s) (hh:bB s) (ht:Tab W) (h:F7 w1 rb (some ⟨gb,0,none⟩) cap0 (R0 g (A9 s)) ⟨4,false⟩) (hB:Below W.heap.size W w1) (hrb:W.heap.size≤rb) :
  Calls Tryz.prog 51 #[.pointer (some ⟨rb,0,none⟩)] w1 fun e w2=>∃own mb g' R,e=.returned (.pointer (some ⟨mb,0,none⟩))∧w2.cell? ⟨rb,2,none⟩=some (.bool false)∧rb < w2.heap.size∧vM W g s w2 own mb g' R:=by
 have ht1:Tab w1:=ht.held hB.size (hB.block 0 ht.1);have hr0:rb≠0:=by have:=ht.1;omega
 have enc:∀g',V6 g g'→_:=fun g' hal=>a6A (bs:=R0 g (A9 s)) (pre:=[83,76,77,2]) (g:=g') (p:=A9 s) (hal.pgOk hp) (iA (hal.pgOk hp) (hal.arI ha)) (uT (hal.pgOk hp) (hal.inv hp hi) hz hh) (by rw [hal.machB];exact lG g _)
 have hself:V6 g g:=⟨rfl,fun i _=>⟨rfl,rfl,rfl,fun j _=>⟨rfl,rfl⟩⟩⟩;have hprog:=(enc g hself).1;have hal:∀g',a0X g' (cO (R0 g (A9 s)) ⟨4,false⟩).1→V6 g g':=fun g' hg=>by
  have e:(cO (R0 g (A9 s)) ⟨4,false⟩).1=pgL g:=hprog;rw[e] at hg;exact hg.alike
 refine (tR h ht1 hr0 fun g' hg=>a1f ((hal g' hg).pgOk hp)).mono ?_;rintro e w2 ⟨own,mb,g',R,b,⟨rfl,hrd,hwr⟩,hm,his,habs,hbi,hno,hgb,hown⟩;have hA:=hal g' his;obtain⟨_,e1,e2,e3,e5,e6⟩:=enc g' hA;have habs':R.abs=A9 s:=by
  rw[habs];have e1:(rM1 (R0 g (A9 s)) ⟨4,false⟩).1=_:=e1;have e2:(rM2 (R0 g (A9 s)) ⟨4,false⟩).1=_:=e2;have e3:(rM3 (R0 g (A9 s)) g' ⟨4,false⟩).1=_:=e3;have e5:(rM5 (R0 g (A9 s)) g' ⟨4,false⟩).1=_:=e5;rw[e1,e2,e3,e5];rfl
 have hb:b=true:=hbi.2 (zV habs' (hA.inv hp hi));subst hb;have e6:rM6 (R0 g (A9 s)) g' ⟨4,false⟩=_:=e6;rw[e6] at hrd;have hs1:=hB.size;refine⟨own,mb,g',R,rfl,hrd.c2,hrd.lt,hm,hA,habs',hno,⟨hwr.os.trans hB.os,hwr.tape.trans hB.tape,hwr.output.trans hB.output,Nat.le_trans hB.size hwr.size,fun k hk=>?_⟩,fun k hk=>Nat.le_trans hB.size (hgb k hk),fun b t hb=>Nat.le_trans hB.size (hown b t hb)⟩
 rw[hwr.block k Q8 Q8 Q8,hB.block k hk]
theorem vM.lists {W:World} {g:PgR} {s:McA} {w2:World} {own:Own} {mb:Nat} {g':PgR} {R:McR} (h:vM W g s w2 own mb g' R) (hp:F2 g) (hi:C1 g s) (hz:G5 s) :
  (∀o,o∈R.obs→o.kind≠0)∧(∀q v l t,J3 R q v l t→l.length≤1000∧∀x,x∈l→x.1=2→0≤x.2∧x.2.toNat < R.obs.length)∧R.frs.length≤1000∧R.obs.length=(A0 s).length∧R.obs.map ObR.abs=(A9 s).obs:=by
 have hsm:=bL hp hi hz;have hobs:R.obs.map ObR.abs=(A9 s).obs:=by have:=congrArg McA.obs h.abs;exact this
 have hfrs:R.frs.map FrR.abs=(A9 s).frs:=by have:=congrArg McA.frs h.abs;exact this
 have hlen:R.obs.length=(A9 s).obs.length:=by rw [← hobs,List.length_map]
 refine⟨fun o ho=>?_,fun q v l t hv=>⟨?_,fun x hx h2=>?_⟩,?_,by rw [hlen];exact List.length_map _,hobs⟩
 ·exact oC hi o.abs (by rw [← hobs];exact List.mem_map.2 ⟨o,ho,rfl⟩)
 ·rcases nO h.abs hv with ⟨f,hf,hl⟩ | ⟨o,ho,hl⟩
  ·have:=(hsm.frs.2 f hf).len
   rcases hl with rfl | rfl <;> omega
  ·have:=(hsm.obs.2 o ho).len
   rw[hl];omega
 ·rw [hlen]
  rcases nO h.abs hv with ⟨f,hf,hl⟩ | ⟨o,ho,hl⟩
  ·exact (jA s).1 f hf x (by rcases hl with rfl | rfl <;> simp [hx]) h2
  ·exact (jA s).2 o ho x (by rw [← hl];exact hx) h2
 ·have:=hsm.frs.1
  rw[← hfrs,List.length_map] at this;omega
theorem a8H {W w2:World} {own:Own} {mb:Nat} {g g':PgR} {R:McR} {s:McA} (h:vM W g s w2 own mb g' R) (hp:F2 g) (hi:C1 g s) (hz:G5 s) (cap:Nat) (h1:1≤cap) (h40:cap≤40) (hle:(A0 s).length≤cap) (a:Option Addr) (c:Nat) (l:List Int) (hl:gO W a l) (hln:l.length≤200) :
  Calls Tryz.prog 52 #[.pointer (some ⟨mb,0,none⟩),.int .i64 (cap:Int),.slice a l.length c] w2 fun e w'=>e=.returned (.int .i64 0)∧cY g (T8 s cap l) W (.returned (.tuple #[.pointer (some ⟨mb,0,none⟩),.int .i64 0])) w':=by
 obtain⟨q1,q2,q3,q4,q5⟩:=h.lists hp hi hz;have hnums:gO w2 a l:=fun h0=>by
  obtain⟨b',o',e1,e2,e3⟩:=hl h0;exact⟨b',o',e1,Nat.lt_of_lt_of_le e2 h.bel.size,fun i x hx=>(h.bel.cell (p:=⟨b',o'+i,none⟩) e2).trans (e3 i x hx)⟩
 refine (a2H h.m cap h1 h40 Q8 a c l hnums hln q1 q2 q3).mono ?_;rintro e w' ⟨rfl,own',R',hm',habs,hov,⟨o1,o2,o3,o4⟩,hk,hown⟩;rw[q5,h.abs] at habs;refine⟨rfl,own',mb,g',R',rfl,hm',h.al,habs,fun e=>?_,⟨o1.trans h.bel.os,o2.trans h.bel.tape,o3.trans h.bel.output,Nat.le_trans h.bel.size o4,fun k hk'=>?_⟩,h.blk,fun b t hb=>?_⟩
 ·have e1:R'.out=R.out:=by
   have h1:=congrArg McA.out habs;have h2:=congrArg McA.out h.abs;exact h1.trans h2.symm
  rw[hov];exact h.nil (by rw [← e1];exact e)
 ·have hn:own k=none:=by
   cases e:own k with
   | none=>rfl
   | some t=>have:=h.new k t e;omega
  rw[hk k (Nat.lt_of_lt_of_le hk' h.bel.size) hn,h.bel.block k hk']
 ·rcases hown b (by rw [hb];simp) with q | q
  ·cases e:own b with
   | none=>exact absurd e q
   | some u=>exact h.new b u e
  ·exact Nat.le_trans h.bel.size q
theorem a8I {W w2:World} {own:Own} {mb:Nat} {g g':PgR} {R:McR} {s:McA} (h:vM W g s w2 own mb g' R) (hp:F2 g) (hi:C1 g s) (hz:G5 s) (cap:Nat) (h1:1≤cap) (h40:cap≤40) (hle:cap < (A0 s).length) (a:Option Addr) (n c:Nat) :
  Calls Tryz.prog 52 #[.pointer (some ⟨mb,0,none⟩),.int .i64 (cap:Int),.slice a n c] w2 fun e w'=>e=.returned (.int .i64 4)∧Below W.heap.size W w':=by
 obtain⟨q1,q2,q3,q4,q5⟩:=h.lists hp hi hz;have hal:(A0 s).length≤1000:=hi.alive_len;refine (a5o h.m cap h1 h40 Q8 Q8 a n c).mono ?_;rintro e w' ⟨rfl,hb⟩;exact⟨rfl,A1 hb h.bel⟩
structure jL (W:World) (gb cap0:Nat) (g:PgR) (s:McA):Prop where
 pg:F2 g
 ar:ArI g
 inv:C1 g s
 ints:G5 s
 halt:bB s
 tab:Tab W
 bytes:Y2 W (some ⟨gb,0,none⟩) (imgB g (A9 s))
 room:(imgB g (A9 s)).length≤cap0
theorem jL.later {W U:World} {gb cap0:Nat} {g:PgR} {s:McA} (h:jL W gb cap0 g s) (hB:Below W.heap.size W U):jL U gb cap0 g s :=
 ⟨h.pg,h.ar,h.inv,h.ints,h.halt,h.tab.held hB.size (hB.block 0 h.tab.1),fun h0=>by
  obtain⟨b,o,e,hb,hc⟩:=h.bytes h0;exact⟨b,o,e,Nat.lt_of_lt_of_le hb hB.size,fun i x hx=>(hB.cell (p:=⟨b,o+i,none⟩) hb).trans (hc i x hx)⟩,h.room⟩
theorem uM (g:PgR) (p:McA):(imgB g p).length=(R0 g p).length+4:=by
 show (R0 g p++kS (R0 g p)).length=_;rw[List.length_append];rfl
theorem jL.opened {W:World} {gb cap0:Nat} {g:PgR} {s:McA} (h:jL W gb cap0 g s) :
  Calls Tryz.prog 50 #[.slice (some ⟨gb,0,none⟩) (imgB g (A9 s)).length cap0] W fun e w'=>pR gb cap0 (R0 g (A9 s)) W e w':=by
 have hl:=uM g (A9 s);have hml:=nE (iA h.pg h.ar) (bL h.pg h.inv h.ints);have hcl:(R0 g (A9 s)).length=(machB g (A9 s)).length+4:=by
  rw[lG,List.length_append];show 4+_=_;omega
 rw[hl];have hr:=h.room;refine a0j (rest:=machB g (A9 s)) h.bytes rfl Q8 Q8 ?_ _ rfl;intro x hx;rw[lG] at hx;rcases List.mem_append.1 hx with hx | hx
 ·simp at hx
  rcases hx with rfl | rfl | rfl | rfl <;> decide
 ·exact a5P (uT h.pg h.inv h.ints h.halt) x hx
theorem a5t {W:World} {gb cap0:Nat} {g:PgR} {s:McA} (h:jL W gb cap0 g s) (cap:Nat) (h1:1≤cap) (h40:cap≤40) (hle:(A0 s).length≤cap) (a:Option Addr) (c:Nat) (l:List Int) (hl:gO W a l) (hln:l.length≤200) :
  Calls Tryz.prog 30 #[.slice (some ⟨gb,0,none⟩) (imgB g (A9 s)).length cap0,.int .i64 (cap:Int),.slice a l.length c] W fun e w'=>cY g (T8 s cap l) W e w':=by
 have HOP:=hid h.opened;have HMG:Hid (∀w1 rb,F7 w1 rb (some ⟨gb,0,none⟩) cap0 (R0 g (A9 s)) ⟨4,false⟩→Below W.heap.size W w1→W.heap.size≤rb→Calls Tryz.prog 51 #[.pointer (some ⟨rb,0,none⟩)] w1 fun e w2=>∃own mb g' R,e=.returned (.pointer (some ⟨mb,0,none⟩))∧w2.cell? ⟨rb,2,none⟩=some (.bool false)∧rb < w2.heap.size∧vM W g s w2 own mb g' R):=hid fun w1 rb hrd hB hrb=>uR h.pg h.ar h.inv h.ints h.halt h.tab hrd hB hrb
 have HUN:Hid (∀w2 own mb g' R,vM W g s w2 own mb g' R→Calls Tryz.prog 52 #[.pointer (some ⟨mb,0,none⟩),.int .i64 (cap:Int),.slice a l.length c] w2 fun e w'=>e=.returned (.int .i64 0)∧cY g (T8 s cap l) W (.returned (.tuple #[.pointer (some ⟨mb,0,none⟩),.int .i64 0])) w'):=hid fun w2 own mb g' R hm=>a8H hm h.pg h.inv h.ints cap h1 h40 hle a c l hl hln
 clear h hl hle;generalize (imgB g (A9 s)).length=n at *
 generalize T8 s cap l=t at *
 go_enter Tryz.func30,Tryz.ntmps30;go_wp2_with (go_at_call 50;refine HOP.out.mono ?_;rintro e w1 ⟨rb,rfl,hrd,hb1,hge⟩;have HM:=hid (HMG.out _ _ hrd hb1 hge);clear hrd hb1)
 refine HM.out.mono ?_;rintro e w2 ⟨own,mb,g',R,rfl,hf,hrl,hmg⟩;have HU:=hid (HUN.out _ _ _ _ _ hmg);clear hmg HM HMG HUN HOP;go_wp2_with fail;refine HU.out.mono ?_;rintro e w3 ⟨rfl,hw⟩;have HW:=hid hw;clear hw HU;go_wp2_with fail;go_ret2;exact HW.out
theorem a5w {W:World} {gb cap0:Nat} {g:PgR} {s:McA} (h:jL W gb cap0 g s) (cap:Nat) (h1:1≤cap) (h40:cap≤40) (hle:cap < (A0 s).length) (a:Option Addr) (n' c:Nat) :
  Calls Tryz.prog 30 #[.slice (some ⟨gb,0,none⟩) (imgB g (A9 s)).length cap0,.int .i64 (cap:Int),.slice a n' c] W fun e w'=>e=.returned (.tuple #[.pointer none,.int .i64 4])∧Below W.heap.size W w':=by
 have HOP:=hid h.opened;have HMG:Hid (∀w1 rb,F7 w1 rb (some ⟨gb,0,none⟩) cap0 (R0 g (A9 s)) ⟨4,false⟩→Below W.heap.size W w1→W.heap.size≤rb→Calls Tryz.prog 51 #[.pointer (some ⟨rb,0,none⟩)] w1 fun e w2=>∃own mb g' R,e=.returned (.pointer (some ⟨mb,0,none⟩))∧w2.cell? ⟨rb,2,none⟩=some (.bool false)∧rb < w2.heap.size∧vM W g s w2 own mb g' R):=hid fun w1 rb hrd hB hrb=>uR h.pg h.ar h.inv h.ints h.halt h.tab hrd hB hrb
 have HUN:Hid (∀w2 own mb g' R,vM W g s w2 own mb g' R→Calls Tryz.prog 52 #[.pointer (some ⟨mb,0,none⟩),.int .i64 (cap:Int),.slice a n' c] w2 fun e w'=>e=.returned (.int .i64 4)∧Below W.heap.size W w'):=hid fun w2 own mb g' R hm=>a8I hm h.pg h.inv h.ints cap h1 h40 hle a n' c
 clear h hle;generalize (imgB g (A9 s)).length=n at *
 go_enter Tryz.func30,Tryz.ntmps30;go_wp2_with (go_at_call 50;refine HOP.out.mono ?_;rintro e w1 ⟨rb,rfl,hrd,hb1,hge⟩;have HM:=hid (HMG.out _ _ hrd hb1 hge);clear hrd hb1)
 refine HM.out.mono ?_;rintro e w2 ⟨own,mb,g',R,rfl,hf,hrl,hmg⟩;have HU:=hid (HUN.out _ _ _ _ _ hmg);clear hmg HM HMG HUN HOP;go_wp2_with fail;refine HU.out.mono ?_;rintro e w3 ⟨rfl,hw⟩;have HW:=hid hw;clear hw HU;go_wp2_with fail;go_ret2;exact⟨rfl,HW.out⟩
theorem uA {W:World} {gb cap0:Nat} {g:PgR} {s:McA} (h:jL W gb cap0 g s) (cap:Nat) (h1:1≤cap) (h40:cap≤40) (hle:(A0 s).length≤cap) (a:Option Addr) (c:Nat) (l:List Int) (hl:gO W a l) (hln:l.length≤200) :
  Calls Tryz.prog 11 #[.slice (some ⟨gb,0,none⟩) (imgB g (A9 s)).length cap0,.int .i64 (cap:Int),.slice a l.length c] W fun e w'=>cY g (T8 s cap l) W e w':=by
 have H:=hid (a5t h cap h1 h40 hle a c l hl hln);clear h hl hle;generalize (imgB g (A9 s)).length=n at *
 generalize T8 s cap l=t at *
 go_enter Tryz.func11,Tryz.ntmps11;go_wp2_with (go_at_call 30;refine H.out.mono ?_;rintro e w2 ⟨own,mb,g',R,rfl,hw⟩;have HW:=hid hw;clear hw)
 go_ret2;exact⟨own,mb,g',R,rfl,HW.out⟩
theorem a3z {W:World} {gb cap0:Nat} {g:PgR} {s:McA} (h:jL W gb cap0 g s) (cap:Nat) (h1:1≤cap) (h40:cap≤40) (hle:cap < (A0 s).length) (a:Option Addr) (n' c:Nat) :
  Calls Tryz.prog 11 #[.slice (some ⟨gb,0,none⟩) (imgB g (A9 s)).length cap0,.int .i64 (cap:Int),.slice a n' c] W fun e w'=>e=.returned (.tuple #[.pointer none,.int .i64 4])∧Below W.heap.size W w':=by
 have H:=hid (a5w h cap h1 h40 hle a n' c);clear h hle;generalize (imgB g (A9 s)).length=n at *
 go_enter Tryz.func11,Tryz.ntmps11;go_wp2_with (go_at_call 30;refine H.out.mono ?_;rintro e w2 ⟨rfl,hw⟩;have HW:=hid hw;clear hw)
 go_ret2;exact⟨rfl,HW.out⟩
structure SM (w0 w:World) (g:PgR) (oa:Own) (ma:Nat) (ga:PgR) (Ra:McR) (s:McA):Prop where
 m:A3 w oa ma ga Ra
 is:Is ga s Ra
 sa:aQ g ga
 inv:C1 g s
 ints:G5 s
 halt:bB s
 na:∀k t,oa k=some t→w0.heap.size≤k
 bel:Below w0.heap.size w0 w
theorem SM.later {w0 w W:World} {g:PgR} {oa:Own} {ma:Nat} {ga:PgR} {Ra:McR} {s:McA} (h:SM w0 w g oa ma ga Ra s) (hB:Below w.heap.size w W):SM w0 W g oa ma ga Ra s :=
 ⟨h.m.same hB.size fun k hk=>hB.block k hk,h.is,h.sa,h.inv,h.ints,h.halt,h.na,A1 hB h.bel⟩
theorem SM.run {w0 w:World} {g:PgR} {oa:Own} {ma:Nat} {ga:PgR} {Ra:McR} {s:McA} (h:SM w0 w g oa ma ga Ra s) (hp:F2 g) (ha:ArI g) (f:Nat) (hf:f≤10000) :
  Calls Tryz.prog 8 #[.pointer (some ⟨ma,0,none⟩),.int .i64 (f:Int)] w fun e w'=>e=.returned (.tuple #[.int .i64 (G4 g f s:Int),.int .i64 0])∧∃oa' Ra',SM w0 w' g oa' ma ga Ra' (runA g f s):=by
 have hs:=nK hp h.sa f h.inv;refine (nL (h.sa.pgOk hp) (h.sa.inv hp h.inv) h.is h.m f hf).mono ?_;rintro e w' ⟨oa',Ra',rfl,hm,his,ht⟩;rw[hs.1] at his;rw[hs.2];refine⟨rfl,oa',Ra',hm,his,h.sa,lP hp f h.inv,rM hp ha f h.ints h.inv,zN hp f h.inv h.halt,fun k t hk=>?_,h.bel.trans (ht.below h.bel.size fun k hk=>?_)⟩
 ·rcases Nat.lt_or_ge k w.heap.size with hl | hl
  ·rw [ht.old k hl] at hk;exact h.na k t hk
  ·exact Nat.le_trans h.bel.size hl
 ·cases e:oa k with
  | none=>rfl
  | some t=>have:=h.na k t e;omega
theorem SM.save {w0 w:World} {g:PgR} {oa:Own} {ma:Nat} {ga:PgR} {Ra:McR} {s:McA} (h:SM w0 w g oa ma ga Ra s) (hp:F2 g) (ha:ArI g) :
  Calls Tryz.prog 10 #[.pointer (some ⟨ma,0,none⟩)] w fun e w'=>∃gb cap0,e=.returned (.slice (some ⟨gb,0,none⟩) (imgB g (A9 s)).length cap0)∧Below w.heap.size w w'∧jL w' gb cap0 g s∧gb < w'.heap.size:=by
 have hi:=h.sa.inv hp h.inv;have hz:=h.ints;obtain⟨e,_⟩:=h.is;rw[← e] at hi hz;have:=tZ h.m (h.sa.pgOk hp) hi hz (h.sa.arI ha);rw[h.sa.imgB,e] at this;refine this.mono ?_;rintro e' w' ⟨gb,cap0,rfl,hb,hB,hrow⟩;exact⟨gb,cap0,rfl,hB,⟨hp,ha,h.inv,h.ints,h.halt,h.m.tab.held hB.size (hB.block 0 h.m.tab.1),hb,(M6 hrow).1⟩,(M6 hrow).2⟩
theorem A3.fix {w:World} {own:Own} {mb:Nat} {g g':PgR} {R:McR} (h:A3 w own mb g' R) (ha:V6 g g'):A3 w own mb (a9b g g') R:=by
 refine⟨h.lt,h.me,h.c0,h.c1,h.c2,h.c3,h.c4,h.fz,h.out,h.called,h.slots,h.loc,h.stk,h.fld,?_,h.ro,h.tab,h.ro0,h.c5,h.draws⟩;obtain⟨h1,h2,h3⟩:=h.pg;refine⟨h1,h2,fun i hi=>?_⟩;have hi':i < g'.n:=hi;obtain⟨c1,c2⟩:=h3 i hi';refine⟨c1,fun hn=>?_⟩;obtain⟨d1,d2,d3⟩:=c2 hn;refine⟨d1,d2,fun j hj=>?_⟩;have hj':j < (g'.f i).n:=hj;rw[ha.1] at hi';obtain⟨_,_,q3,q4⟩:=ha.2 i hi';have hq:=q4 j (by rw [← q3];exact hj')
 have:=d3 j hj';rw[hq.1,hq.2] at this;exact this
theorem SM.two {w0 W w':World} {g:PgR} {oa:Own} {ma:Nat} {ga:PgR} {Ra:McR} {s:McA} (h:SM w0 W g oa ma ga Ra s) (_hp:F2 g) {cap:Nat} (h1:1≤cap) (h40:cap≤40) (hle:(A0 s).length≤cap) {l:List Int} (hl:l.length≤200) {e:Ending} (hw:cY g (T8 s cap l) W e w') :
  ∃ob mb gb Rb,e=.returned (.tuple #[.pointer (some ⟨mb,0,none⟩),.int .i64 0])∧TM w0 w' g oa ob ma mb ga gb Ra Rb s (T8 s cap l):=by
 obtain⟨ob,mb,g',Rb,rfl,hm,hal,habs,hno,hB,hblk,hnew⟩:=hw;obtain⟨f1,f2,f3,f4,f5⟩:=iK h.inv h.ints h1 h40 hle hl;have hnone:∀k,W.heap.size≤k→oa k=none:=fun k hk=>by
  cases e:oa k with
  | none=>rfl
  | some t=>have:=h.m.lt k t e;omega
 refine⟨ob,mb,a9b g g',Rb,rfl,⟨(h.later hB).m,hm.fix hal,fun k t hk=>hnone k (hnew k t hk),fun k hk=>hnone k (hblk k hk),fun k hk=>?_⟩,h.is,⟨habs,hno⟩,h.sa,hal.same,h.inv,f1,h.ints,f2,h.na,fun k t hk=>Nat.le_trans h.bel.size (hnew k t hk),A1 hB h.bel⟩
 cases e:ob k with
 | none=>rfl
 | some t=>have:=hnew k t e;have:=h.m.pg.blk_lt hk;omega
end Go.Proofs.YtbkmgoffiigdbabGreatDoor
