import Derived.Test.YtbkmgoffiigdbabGreatDoorVT
namespace Go.Proofs.YtbkmgoffiigdbabGreatDoor
open Go.RowKit Go.Sort
set_option maxHeartbeats 4000000
set_option maxRecDepth 100000
def J3 (R:McR) (q:Nat) (v:Value) (l:List Val) (t:Tag):Prop :=
 (∃i f,R.frs[i]?=some f∧q=i*2∧v=f.lv∧l=f.loc∧t=.loc i) ∨
 (∃i f,R.frs[i]?=some f∧q=i*2+1∧v=f.sv∧l=f.stk∧t=.stk i) ∨
 (∃j o,R.obs[j]?=some o∧q=R.frs.length*2+j∧v=o.fv∧l=o.fl∧t=.fld j)
theorem rZ {l:List FrR} {i:Nat} {f:FrR} (h:l[i]?=some f):(T5 l)[i*2]?=some f.lv∧(T5 l)[i*2+1]?=some f.sv:=by
 have hc:∀x:FrR,([x.lv,x.sv]:List Value).length=2:=fun _=>rfl
 have h0:=C3 (c:=fun f:FrR=>[f.lv,f.sv]) hc (j:=0) h Q8;have h1:=C3 (c:=fun f:FrR=>[f.lv,f.sv]) hc (j:=1) h Q8;exact⟨h0,h1⟩
theorem J3.get {R:McR} {q:Nat} {v:Value} {l:List Val} {t:Tag} (h:J3 R q v l t):(T5 R.frs++cD R.obs)[q]?=some v:=by
 rcases h with ⟨i,f,hf,rfl,rfl,_⟩ | ⟨i,f,hf,rfl,rfl,_⟩ | ⟨j,o,ho,rfl,rfl,_⟩
 ·have:=(List.getElem?_eq_some_iff.1 hf).1
  rw[List.getElem?_append_left (by rw [dG];omega)];exact (rZ hf).1
 ·have:=(List.getElem?_eq_some_iff.1 hf).1
  rw[List.getElem?_append_left (by rw [dG];omega)];exact (rZ hf).2
 ·rw [List.getElem?_append_right (by rw [dG];omega),dG]
  unfold cD;rw[List.getElem?_map,Nat.add_sub_cancel_left,ho];rfl
theorem J3.all {R:McR} {q:Nat} (h:q < R.frs.length*2+R.obs.length):∃v l t,J3 R q v l t:=by
 by_cases hq:q < R.frs.length*2
 ·obtain ⟨f,hf⟩:∃f,R.frs[q / 2]?=some f:=⟨_,List.getElem?_eq_getElem Q8⟩
  by_cases h2:q % 2=0
  ·exact ⟨_,_,_,Or.inl ⟨q / 2,f,hf,by omega,rfl,rfl,rfl⟩⟩
  ·exact ⟨_,_,_,Or.inr (Or.inl ⟨q / 2,f,hf,by omega,rfl,rfl,rfl⟩)⟩
 ·obtain ⟨o,ho⟩:∃o,R.obs[q - R.frs.length*2]?=some o:=⟨_,List.getElem?_eq_getElem Q8⟩
  exact⟨_,_,_,Or.inr (Or.inr ⟨q - R.frs.length*2,o,ho,by omega,rfl,rfl,rfl⟩)⟩
theorem J3.inj {R:McR} {q q':Nat} {v v':Value} {l l':List Val} {t:Tag} (h:J3 R q v l t) (h':J3 R q' v' l' t):q=q':=by
 rcases h with ⟨i,f,hf,rfl,rfl,rfl,rfl⟩ | ⟨i,f,hf,rfl,rfl,rfl,rfl⟩ | ⟨j,o,ho,rfl,rfl,rfl,rfl⟩ <;>
 rcases h' with ⟨i',f',hf',rfl,rfl,rfl,e⟩ | ⟨i',f',hf',rfl,rfl,rfl,e⟩ | ⟨j',o',ho',rfl,rfl,rfl,e⟩ <;>
 first | (cases e;rfl) | cases e
theorem J3.same {R:McR} {q:Nat} {v v':Value} {l l':List Val} {t t':Tag} (h:J3 R q v l t) (h':J3 R q v' l' t'):v=v'∧l=l'∧t=t':=by
 rcases h with ⟨i,f,hf,rfl,rfl,rfl,rfl⟩ | ⟨i,f,hf,rfl,rfl,rfl,rfl⟩ | ⟨j,o,ho,rfl,rfl,rfl,rfl⟩ <;>
 rcases h' with ⟨i',f',hf',e,rfl,rfl,rfl⟩ | ⟨i',f',hf',e,rfl,rfl,rfl⟩ | ⟨j',o',ho',e,rfl,rfl,rfl⟩
 ·obtain rfl:i=i':=by omega
  rw[hf] at hf';cases hf';exact⟨rfl,rfl,rfl⟩
 ·omega
 ·have:=(List.getElem?_eq_some_iff.1 hf).1;omega
 ·omega
 ·obtain rfl:i=i':=by omega
  rw[hf] at hf';cases hf';exact⟨rfl,rfl,rfl⟩
 ·have:=(List.getElem?_eq_some_iff.1 hf).1;omega
 ·have:=(List.getElem?_eq_some_iff.1 hf').1;omega
 ·have:=(List.getElem?_eq_some_iff.1 hf').1;omega
 ·obtain rfl:j=j':=by omega
  rw[ho] at ho';cases ho';exact⟨rfl,rfl,rfl⟩
theorem A3.list {w:World} {own:Own} {mb:Nat} {g:PgR} {R:McR} (h:A3 w own mb g R) {q:Nat} {v:Value} {l:List Val} {t:Tag} (hq:J3 R q v l t):Row w own t 73 2 v l.length (A5 l):=by
 rcases hq with ⟨i,f,hf,rfl,rfl,rfl,rfl⟩ | ⟨i,f,hf,rfl,rfl,rfl,rfl⟩ | ⟨j,o,ho,rfl,rfl,rfl,rfl⟩
 ·exact h.loc i f hf
 ·exact h.stk i f hf
 ·exact h.fld j o ho
def dL (h:Val→Val) (i k q:Nat) (l:List Val):List Val:=if q < i then l.map h else if q=i then (l.take k).map h++l.drop k else l
theorem iS (h:Val→Val) (i k:Nat) (l:List Val):dL h i k i l=(l.take k).map h++l.drop k:=by
 unfold dL;rw[if_neg Q8,if_pos rfl]
theorem lE {h:Val→Val} {i k:Nat} {l:List Val} {x:Val} (hx:l[k]?=some x):(dL h i k i l)[k]?=some x:=by
 have hk:=(List.getElem?_eq_some_iff.1 hx).1;rw[iS,List.getElem?_append_right Q5];simp[Nat.min_eq_left (Nat.le_of_lt hk),hx]
theorem yY {h:Val→Val} {i k:Nat} {l:List Val} {x:Val} (hx:l[k]?=some x):(dL h i k i l).set k (h x)=dL h i (k+1) i l:=by
 have hk:=(List.getElem?_eq_some_iff.1 hx).1;rw[iS,iS,List.set_append_right _ _ Q5];have e1:k - ((l.take k).map h).length=0:=by simp;omega
 have e2:l.drop k=x::l.drop (k+1):=by
  rw[List.drop_eq_getElem_cons hk];congr 1
  exact (List.getElem?_eq_some_iff.1 hx).2
 rw[e1,e2,List.set_cons_zero,List.take_add_one,hx];simp
theorem a3I {h:Val→Val} {i k:Nat} {l:List Val} {x:Val} (hx:l[k]?=some x) (he:h x=x):dL h i (k+1) i l=dL h i k i l:=by
 rw[← yY hx,he];obtain⟨hl,hg⟩:=List.getElem?_eq_some_iff.1 (lE (h:=h) (i:=i) hx)
 conv=>lhs;rw [← hg]
 exact List.set_getElem_self hl
theorem qJ {h:Val→Val} {i k k' q:Nat} (hq:q≠i) (l:List Val):dL h i k' q l=dL h i k q l:=by
 unfold dL;split
 ·rfl
 ·first | rfl | rw [if_neg hq]
theorem a3H {h:Val→Val} {i:Nat} {l:List Val} : dL h (i+1) 0 i l=dL h i l.length i l:=by
 rw[iS];unfold dL;rw[if_pos Q8];simp
theorem a1n {h:Val→Val} {i k q:Nat} (hq:q≠i) (l:List Val):dL h (i+1) 0 q l=dL h i k q l:=by
 unfold dL;by_cases h1:q < i
 ·rw [if_pos Q8,if_pos h1]
 ·rw [if_neg Q8,if_neg h1,if_neg hq]
  split
  ·simp
  ·rfl
structure X0 (W:World) (own:Own) (R:McR) (h:Val→Val) (i k:Nat) (wr:World):Prop where
 os:wr.os=W.os
 tape:wr.tape=W.tape
 output:wr.output=W.output
 size:W.heap.size≤wr.heap.size
 rows:∀q v l t,J3 R q v l t→Row wr own t 73 2 v l.length (A5 (dL h i k q l))
 keep:∀b,b < W.heap.size→(∀q v l t,J3 R q v l t→own b≠some t)→wr.heap[b]?=W.heap[b]?
theorem X0.start {W wr:World} {own:Own} {mb:Nat} {g:PgR} {R:McR} (hm:A3 W own mb g R) (h:Val→Val) (hB:Below W.heap.size W wr):X0 W own R h 0 0 wr:=by
 refine⟨hB.os,hB.tape,hB.output,hB.size,fun q v l t hq=>?_,fun b hb _=>hB.block b hb⟩;have e:dL h 0 0 q l=l:=by
  unfold dL;rw[if_neg Q8];split
  ·simp
  ·rfl
 rw[e];exact (hm.list hq).kept fun k hk=>⟨hB.block k (hm.lt k _ hk),hk⟩
theorem X0.later {W wr wx:World} {own:Own} {R:McR} {h:Val→Val} {i k:Nat} (hm:X0 W own R h i k wr) (hB:Below wr.heap.size wr wx):X0 W own R h i k wx:=by
 refine⟨hB.os.trans hm.os,hB.tape.trans hm.tape,hB.output.trans hm.output,Nat.le_trans hm.size hB.size,fun q v l t hq=>?_,fun b hb hn=>(hB.block b (Nat.lt_of_lt_of_le hb hm.size)).trans (hm.keep b hb hn)⟩;obtain⟨h1,h2⟩:=hm.rows q v l t hq;exact⟨A2 h1 fun b hb=>hB.block b (h1.lt b hb).2,h2⟩
theorem X0.set {W wr:World} {own:Own} {R:McR} {h:Val→Val} {i k fb fc:Nat} {v:Value} {l:List Val} {t:Tag} {x:Val} (hm:X0 W own R h i k wr) (hq:J3 R i v l t) (hv:v=.slice (some ⟨fb,0,none⟩) l.length fc) (hx:l[k]?=some x) :
  X0 W own R h i (k+1) ((wr.setCell ⟨fb,k*2,none⟩ (.int .u8 (h x).1)).setCell ⟨fb,k*2+1,none⟩ (.int .i64 (h x).2)):=by
 have hr:=hm.rows i v l t hq;have hofb:own fb=some t:=hr.2 fb (by rw [hv];rfl);have hblk:∀b,b≠fb→((wr.setCell ⟨fb,k*2,none⟩ (.int .u8 (h x).1)).setCell ⟨fb,k*2+1,none⟩ (.int .i64 (h x).2)).heap[b]?=wr.heap[b]?:=fun b hb=>by
  rw[heap_setCell_other _ _ _ _ hb,heap_setCell_other _ _ _ _ hb]
 refine⟨hm.os,hm.tape,hm.output,by have:=hm.size;simpa using this,fun q v' l' t' hq'=>?_,fun b hb hn=>?_⟩
 ·by_cases e:q=i
  ·subst e
   obtain⟨rfl,rfl,rfl⟩:=hq.same hq';have h1:=hr.1;rw[hv] at h1;have h2:=(World.ownsRow.stored (World.ownsRow.stored h1 (k*2) (.int .u8 (h x).1)).1 (k*2+1) (.int .i64 (h x).2)).1;rw[← nP (lE hx),yY hx] at h2;rw[hv];exact⟨h2,fun b hb=>by rw [← hv] at hb;exact hr.2 b hb⟩
  ·have hr':=hm.rows q v' l' t' hq'
   rw[qJ e];exact hr'.kept fun b hb=>⟨hblk b (fun e'=>by
    rw[e',hofb] at hb
    cases hb;exact e (hq'.inj hq)),hb⟩
 ·rw [hblk b (fun e=>hn i v l t hq (by rw [e];exact hofb))]
  exact hm.keep b hb hn
theorem X0.skip {W wr:World} {own:Own} {R:McR} {h:Val→Val} {i k:Nat} {v:Value} {l:List Val} {t:Tag} {x:Val} (hm:X0 W own R h i k wr) (hq:J3 R i v l t) (hx:l[k]?=some x) (he:h x=x):X0 W own R h i (k+1) wr:=by
 refine⟨hm.os,hm.tape,hm.output,hm.size,fun q v' l' t' hq'=>?_,hm.keep⟩;by_cases e:q=i
 ·subst e
  obtain⟨rfl,rfl,rfl⟩:=hq.same hq';rw[a3I hx he];exact hm.rows _ _ _ _ hq
 ·rw [qJ e]
  exact hm.rows _ _ _ _ hq'
theorem X0.next {W wr:World} {own:Own} {R:McR} {h:Val→Val} {i:Nat} {v:Value} {l:List Val} {t:Tag} (hm:X0 W own R h i l.length wr) (hq:J3 R i v l t):X0 W own R h (i+1) 0 wr:=by
 refine⟨hm.os,hm.tape,hm.output,hm.size,fun q v' l' t' hq'=>?_,hm.keep⟩;by_cases e:q=i
 ·subst e
  obtain⟨rfl,rfl,rfl⟩:=hq.same hq';rw[a3H];exact hm.rows _ _ _ _ hq
 ·rw [a1n (k:=l.length) e]
  exact hm.rows _ _ _ _ hq'
def yK (W:World) (own:Own) (R:McR) (al:List Nat) (e:Ending) (w':World):Prop:=e=.returned (.tuple #[])∧X0 W own R (C4 al) (R.frs.length*2+R.obs.length) 0 w'
def vH (W:World) (own:Own) (kb:Nat) (al:List Nat):Prop:=∀V:World,W.heap.size≤V.heap.size→(∀b,b < W.heap.size→own b=none→V.heap[b]?=W.heap[b]?)→a2R V kb al
theorem X0.alv {W wr:World} {own:Own} {R:McR} {h:Val→Val} {i k kb:Nat} {al:List Nat} (hm:X0 W own R h i k wr) (ha:vH W own kb al):a2R wr kb al :=
 ha wr hm.size fun b hb hn=>hm.keep b hb fun q v l t _=>by rw [hn];simp
theorem a6E {own:Own} {mb:Nat} {g:PgR} {R:McR} {W:World} (h:A3 W own mb g R) (al:List Nat) (hal:al.length≤1000) (kb:Nat) (hkp:vH W own kb al) (hf:R.frs.length≤1000) (hn:R.obs.length≤1000)
  (hls:∀q v l t,J3 R q v l t→l.length≤1000∧∀x,x∈l→x.1=2→0≤x.2) :
  Calls Tryz.prog 73 #[.pointer (some ⟨mb,0,none⟩),.func (.func 74) #[] #[.pointer (some ⟨kb,0,none⟩)]] W fun e w'=>yK W own R al e w':=by
 have HLI:=hid (nD h hf hn);have HST:Hid (∀wr,Below W.heap.size W wr→X0 W own R (C4 al) 0 0 wr):=fun wr hB=>X0.start h _ hB
 have HKP:=hid hkp;have HLS:=hid hls;have HOWN:Hid (∀b t,own b=some t→b < W.heap.size):=h.lt;have HALL:Hid (∀q,q < R.frs.length*2+R.obs.length→∃v l t,J3 R q v l t):=fun q hq=>J3.all hq
 have hN:R.frs.length*2+R.obs.length≤3000:=by omega
 have HPOST:Hid (∀e w',yK W own R al e w'↔e=.returned (.tuple #[])∧X0 W own R (C4 al) (R.frs.length*2+R.obs.length) 0 w'):=fun e w'=>Iff.rfl
 clear h hkp hls hf hn;generalize R.frs.length*2+R.obs.length=N at *
 obtain⟨xs,hxs⟩:∃xs,xs=T5 R.frs++cD R.obs:=⟨_,rfl⟩
 have HGET:Hid (∀q v l t,J3 R q v l t→xs[q]?=some v):=fun q v l t hq=>by rw [hxs];exact hq.get
 rw[← hxs] at HLI;clear hxs;go_enter Tryz.func73,Tryz.ntmps73;go_wp2_with (go_at_call 101;refine HLI.out.mono ?_;rintro e w2 ⟨v2,rfl,hv2,hb2⟩;obtain ⟨la,lc,rfl⟩:=B0 hv2;have HV2:=hid hv2;have HMV:=hid (HST.out _ hb2);clear hv2 hb2)
 clear HLI HST;go_loopw [11] (fun vi wr=>∃i:Nat,i≤N∧vi=.int .i64 i∧X0 W own R (C4 al) i 0 wr∧wr.ownsRow W.heap.size 45 1 (.slice la N lc) N xs) (fun vi _=>N - (intOf vi).toNat)
 case atStart=>exact ⟨0,Nat.zero_le _,rfl,HMV.out,HV2.out⟩
 case round =>
  obtain⟨i,hi,rfl,hmv,hrow⟩:=hrel;clear HMV HV2;by_cases hlt:i < N
  ·obtain ⟨v,l,t,hq⟩:=HALL.out i hlt
   obtain⟨lb,lc',e,_,hlb⟩:=hrow.form Q8
   cases e;obtain⟨fa,fc,hv⟩:=C6 (hmv.rows i v l t hq);have k0:wr.cell? ⟨lb,i,none⟩=some v:=by rw [hrow.cellAt i Q8];exact HGET.out i v l t hq
   rw[hv] at k0;have HQ:=hid hq;have HV:=hid hv;have hll:=(HLS.out i v l t hq).1;have HMV:=hid hmv;have HROW:=hid hrow;clear hmv hrow hq hv;go_wp2_with fail;go_loopw [17] (fun vk wx=>∃k:Nat,k≤l.length∧vk=.int .i64 k∧X0 W own R (C4 al) i k wx∧wx.ownsRow W.heap.size 45 1 (.slice (some ⟨lb,0,none⟩) N lc) N xs) (fun vk _=>l.length - (intOf vk).toNat)
   case atStart=>exact ⟨0,Nat.zero_le _,rfl,HMV.out,HROW.out⟩
   case round =>
    obtain⟨k,hk,rfl,hmx,hrx⟩:=hrel;clear HMV HROW k0 hlb;by_cases hlk:k < l.length
    ·obtain ⟨x,hx⟩:∃x,l[k]?=some x:=⟨_,List.getElem?_eq_getElem hlk⟩
     have hrow:=hmx.rows i v l t HQ.out;obtain⟨fb,fc',e,_,hfb⟩:=hrow.1.form Q8;have e':=e;rw[HV.out] at e
     cases e;have hofb:own fb=some t:=hrow.2 fb (by rw [e'];rfl);have hr1:=hrow.1;rw[e'] at hr1;have hcell:∀j,j < 2→wr.cell? ⟨fb,k*2+j,none⟩=(N0 x)[j]?:=fun j hj=>by
      rw[hr1.cellAt _ Q8];exact C3 E7 (lE hx) hj
     have x0:wr.cell? ⟨fb,k*2,none⟩=some (.int .u8 x.1):=hcell 0 Q8;have x1:wr.cell? ⟨fb,k*2+1,none⟩=some (.int .i64 x.2):=hcell 1 Q8;have z0:=hr1.frozenAt (k*2);have z1:=hr1.frozenAt (k*2+1);have hlne:lb≠fb:=by
      have:=HOWN.out fb t hofb;have:=(hrx.lt lb rfl).1;omega
     have HROWS:Hid (∀V,Below wr.heap.size wr V→∀p p':Value,V.ownsRow W.heap.size 45 1 (.slice (some ⟨lb,0,none⟩) N lc) N xs∧((V.setCell ⟨fb,k*2,none⟩ p).setCell ⟨fb,k*2+1,none⟩ p').ownsRow W.heap.size 45 1 (.slice (some ⟨lb,0,none⟩) N lc) N xs):=fun V hV p p'=>by
      have h1:V.ownsRow W.heap.size 45 1 (.slice (some ⟨lb,0,none⟩) N lc) N xs:=A2 hrx fun b hb=>hV.block b (hrx.lt b hb).2
      exact⟨h1,ownsRow_setCell_other (ownsRow_setCell_other h1 (a:=⟨fb,k*2,none⟩) (by show some lb≠some fb;exact fun e=>hlne (Option.some.inj e)) _) (a:=⟨fb,k*2+1,none⟩) (by show some lb≠some fb;exact fun e=>hlne (Option.some.inj e)) _⟩
     have HALV:Hid (∀V,Below wr.heap.size wr V→a2R V kb al):=fun V hV=>(hmx.later hV).alv HKP.out
     have hnn:=(HLS.out i _ l t HQ.out).2 x (List.mem_of_getElem? hx);have HX:=hid hx;have HMX:=hid hmx;have HE:=hid e';clear hmx hrx hrow hr1 hcell hx e' hofb hlne;by_cases h2:x.1=2
     ·obtain ⟨n,hn⟩:=Int.eq_ofNat_of_zero_le (hnn h2)
      have HPV:Hid (C4 al x=cN (rW al n)):=by
       refine hid ?_;rw[← a6O];congr 1
       exact Prod.ext h2 hn
      rw[h2] at x0;rw[hn] at x1;clear hnn h2 hn;have HSET:Hid (∀V,Below wr.heap.size wr V→X0 W own R (C4 al) i (k+1) ((V.setCell ⟨fb,k*2,none⟩ (.int .u8 (cN (rW al n)).1)).setCell ⟨fb,k*2+1,none⟩ (.int .i64 (cN (rW al n)).2))):=fun V hV=>by
       rw[← HPV.out];exact (HMX.out.later hV).set HQ.out HE.out HX.out
      go_wp2_with (first | (go_at_call 102;refine (L0 _ _ _).mono ?_;rintro e w' ⟨rfl,o4,rfl⟩) | (go_at_call 74;refine (a8d (HALV.out _ ?_) hal n).mono ?_;exact P0;rintro e w5 ⟨rfl,hb5⟩;have HB5:Hid (Below wr.heap.size wr w5):=A1 hb5 P0;clear hb5) | (go_at_call 103;refine (lZ _ _).mono ?_;rintro e w6 ⟨rfl,hb6⟩;have HB6:Hid (Below wr.heap.size wr w6):=A1 hb6 HB5.out;have g0:=(HB6.out.frozen (p:=⟨fb,k*2,none⟩) hfb).trans z0;have g1:=(HB6.out.frozen (p:=⟨fb,k*2+1,none⟩) hfb).trans z1;have j0:=(HB6.out.cell (p:=⟨fb,k*2,none⟩) hfb).trans x0;have j1:=(HB6.out.cell (p:=⟨fb,k*2+1,none⟩) hfb).trans x1;have hfb6:fb < w6.heap.size:=Nat.lt_of_lt_of_le hfb HB6.out.size;clear hb6))
      go_roundw
      case rel=>exact ⟨k+1,by omega,by go_num,HSET.out _ HB6.out,(HROWS.out _ HB6.out _ _).2⟩
      case measure=>simp [intOf];omega
     ·have h2b:(x.1 == 2)=false:=beq_eq_false_iff_ne.2 h2
      have HSK:Hid (X0 W own R (C4 al) i (k+1) wr):=HMX.out.skip HQ.out HX.out (by unfold C4;rw [if_neg h2]);clear hnn h2;go_wp2_with (first | (go_at_call 102;refine (L0 _ _ _).mono ?_;rintro e w' ⟨rfl,o4,rfl⟩))
      go_roundw
      case rel=>exact ⟨k+1,by omega,by go_num,HSK.out.later P0,(HROWS.out _ P0 (.bool true) (.bool true)).1⟩
      case measure=>simp [intOf];omega
    ·obtain rfl:k=l.length:=by omega
     have HN:=hid (hmx.next HQ.out);have HRX:=hid hrx;clear hmx hrx;go_wp2_with fail;go_roundw
     case rel=>exact ⟨i+1,by omega,by go_num,HN.out,HRX.out⟩
     case measure=>simp [intOf];omega
  ·obtain rfl:i=N:=by omega
   have HP:=hid ((HPOST.out _ _).2 ⟨rfl,hmv⟩);clear hmv hrow;go_wp2_with fail;go_end0
   exact HP.out
def eP (obs:List ObR) (w:World) (e:Ending) (w':World):Prop :=
 ∃(v:Value) (ol:List ObR),e=.returned v∧w'.ownsRow w.heap.size 75 2 v obs.length (ol.flatMap ObR.cells)∧ol.length=obs.length ∧
  (∀(k:Nat) (o:ObR),obs[k]?=some o→∃fv,ol[k]?=some { o with fv:=fv }∧w'.ownsRow w.heap.size 73 2 fv o.fl.length (A5 o.fl)) ∧
  (∀(k k':Nat) (o o':ObR) (b:Nat),k < k'→k' < obs.length→ol[k]?=some o→ol[k']?=some o'→o.fv.ownBlock=some b→o'.fv.ownBlock=some b→False)∧Below w.heap.size w w'
structure iL (W:World) (B gb i:Nat) (obs ol:List ObR):Prop where
 c:eD W B gb i obs ol
 dis:∀(k k':Nat) (o o':ObR) (b:Nat),k < k'→k' < i→ol[k]?=some o→ol[k']?=some o'→o.fv.ownBlock=some b→o'.fv.ownBlock=some b→False
theorem iL.next {wr w3:World} {B gb i:Nat} {obs ol:List ObR} {o:ObR} {v:Value} (h:iL wr B gb i obs ol) (hb:Below wr.heap.size wr w3) (ho:obs[i]?=some o) (hv:w3.ownsRow wr.heap.size 73 2 v o.fl.length (A5 o.fl)) (hg:gb < wr.heap.size) (hB:B≤wr.heap.size) (j:Nat) :
  iL (w3.setCell ⟨gb,j,none⟩ v) B gb (i+1) obs (ol.set i { o with fv:=v }):=by
 have hlen:=h.c.len;have hi:i < ol.length:=by rw [hlen];exact (List.getElem?_eq_some_iff.1 ho).1
 refine⟨(h.c.later hb).next ho (Y8.of_copy hv rfl hg hB) j,fun k k' p p' b hk hk' hp hp' h1 h2=>?_⟩;rw[List.getElem?_set_ne Q8] at hp;by_cases e:k'=i
 ·subst e
  rw[List.getElem?_set_self hi] at hp'
  cases hp';have hge:=(hv.lt b h2).1;have hkl:k < obs.length:=by rw [← hlen];omega
  obtain⟨u,q1,q2⟩:=h.c.new k _ Q8 (List.getElem?_eq_getElem hkl);rw[hp] at q1
  cases q1;have:=(q2.row.lt b h1).2;omega
 ·rw [List.getElem?_set_ne (Ne.symm e)] at hp'
  exact h.dis k k' p p' b hk Q8 hp hp' h1 h2
theorem iL.whole {w W:World} {gb c:Nat} {obs ol:List ObR} (h:iL W w.heap.size gb obs.length obs ol) (hr:W.ownsRow w.heap.size 75 2 (.slice (some ⟨gb,0,none⟩) obs.length c) obs.length (ol.flatMap ObR.cells)) (hb:Below w.heap.size w W):eP obs w (.returned (.slice (some ⟨gb,0,none⟩) obs.length c)) W:=by
 refine⟨_,ol,rfl,hr,h.c.len,fun k o ho=>?_,h.dis,hb⟩;obtain⟨v,h1,h2⟩:=h.c.new k o (List.getElem?_eq_some_iff.1 ho).1 ho;exact⟨v,h1,h2.row⟩
theorem tE {own:Own} {mb:Nat} {g:PgR} {R:McR} {w:World} (h:A3 w own mb g R) (hn:R.obs.length≤1000) (h0:0 < R.obs.length) (hf:∀o,o∈R.obs→o.fl.length≤1000) :
  Calls Tryz.prog 34 #[.pointer (some ⟨mb,4,none⟩)] w fun e w'=>eP R.obs w e w':=by
 have c4:=h.c4;obtain⟨ca,cc,hcv⟩:=C6 h.slots;rw[hcv] at c4;have hmb:mb < w.heap.size:=h.lt mb _ h.me;have HCL:Hid (∀W,Below w.heap.size w W→Calls Tryz.prog 56 #[.slice ca R.obs.length cc] W fun e w'=>I8 75 2 R.obs.length (R.obs.flatMap ObR.cells) W e w'):=fun W hW=>qG h hW hn hcv
 have HH:=hid h;have HF:=hid hf;clear h hf hcv;go_enter Tryz.func34,Tryz.ntmps34;go_wp2_with (go_at_call 56;refine (HCL.out _ ?_).mono ?_;exact P0;rintro e w2 ⟨v2,rfl,hv2,hb2⟩;obtain ⟨gb,c2,rfl,hgB,hgb⟩:=hv2.form h0;have HV2:Hid (w2.ownsRow w.heap.size 75 2 (.slice (some ⟨gb,0,none⟩) R.obs.length c2) R.obs.length (R.obs.flatMap ObR.cells)):=C5 hv2 (by first | exact Nat.le_refl _ | simp);have HB2:Hid (Below w.heap.size w w2):=A1 hb2 P0;have hgB:w.heap.size≤gb:=Nat.le_trans (by first | exact Nat.le_refl _ | simp) hgB;clear hv2 hb2)
 go_loopw [12] (fun vi wr=>∃(i:Nat) (ol:List ObR),i≤R.obs.length∧vi=.int .i64 i∧iL wr w.heap.size gb i R.obs ol∧wr.ownsRow w.heap.size 75 2 (.slice (some ⟨gb,0,none⟩) R.obs.length c2) R.obs.length (ol.flatMap ObR.cells)∧Below w.heap.size w wr) (fun vi _=>R.obs.length - (intOf vi).toNat)
 case atStart=>exact ⟨0,R.obs,Nat.zero_le _,rfl,⟨⟨rfl,fun _ _=>rfl,fun k o hk=>by omega⟩,fun k k' o o' b _ hk=>by omega⟩,HV2.out,HB2.out⟩
 case round =>
  obtain⟨i,ol,hi,rfl,hcop,hrow,hbel⟩:=hrel;clear HV2 HB2;by_cases hlti:i < R.obs.length
  ·obtain ⟨o,hoi⟩:∃o,R.obs[i]?=some o:=⟨_,List.getElem?_eq_getElem hlti⟩
   have hol:ol[i]?=some o:=(hcop.c.old i (Nat.le_refl _)).trans hoi;have hgw:gb < wr.heap.size:=(hrow.lt gb rfl).2;have hcell:∀j,j < 2→wr.cell? ⟨gb,i*2+j,none⟩=o.cells[j]?:=fun j hj=>by
    rw[hrow.cellAt _ Q8];exact C3 ObR.cells_len hol hj
   obtain⟨fa,fc,hfv⟩:=C6 (HH.out.fld i o hoi);have k1:wr.cell? ⟨gb,i*2+1,none⟩=some o.fv:=hcell 1 Q8;rw[hfv] at k1;have z1:=hrow.frozenAt (i*2+1);have HCL1:Hid (∀W,Below w.heap.size w W→Calls Tryz.prog 57 #[.slice fa o.fl.length fc] W fun e w'=>I8 73 2 o.fl.length (A5 o.fl) W e w'):=fun W hW=>X5 (HH.out.fld i o hoi) hfv hW (HF.out o (List.mem_of_getElem? hoi))
   have HBEL:=hid hbel;have HROW:=hid hrow;have HCOP:=hid hcop;have HOL:=hid hol;have HOI:=hid hoi;have hws:=hbel.size;clear hcell hrow hbel hcop hfv hol hoi c4;go_wp2_with fail;refine (HCL1.out _ HBEL.out).mono ?_;rintro e w3 ⟨v3,rfl,hv3,hb3⟩;obtain⟨a3,c3,rfl⟩:=B0 hv3;have m1:=(hb3.cell (p:=⟨gb,i*2+1,none⟩) hgw).trans k1;have y1:=(hb3.frozen (p:=⟨gb,i*2+1,none⟩) hgw).trans z1;have hg3:gb < w3.heap.size:=Nat.lt_of_lt_of_le hgw hb3.size
   have hR3:w3.ownsRow w.heap.size 75 2 (.slice (some ⟨gb,0,none⟩) R.obs.length c2) R.obs.length (ol.flatMap ObR.cells):=A2 HROW.out fun b hb'=>by
    obtain rfl:gb=b:=by simpa [Value.ownBlock] using hb'
    exact hb3.block _ hgw
   have hR3':=(World.ownsRow.stored hR3 (i*2+1) (.slice a3 o.fl.length c3)).1;have e1:=L5 (c:=ObR.cells) ObR.cells_len (l:=ol) (i:=i) (j:=1) (x:=o) (y:={ o with fv:=.slice a3 o.fl.length c3 }) (u:=.slice a3 o.fl.length c3) HOL.out Q8 rfl;rw[← e1] at hR3';have HR3:=hid hR3';have HB3:=hid (Below.setCell (A1 hb3 HBEL.out) (p:=⟨gb,i*2+1,none⟩) hgB (.slice a3 o.fl.length c3));have HC3:=hid (HCOP.out.next hb3 HOI.out hv3 hgw hws (i*2+1))
   clear hv3 hb3 hR3 hR3' e1 k1 z1;go_wp2_with fail;go_roundw
   case rel=>exact ⟨i+1,_,by omega,by go_num,HC3.out,HR3.out,HB3.out⟩
   case measure=>simp [intOf];omega
  ·obtain rfl:i=R.obs.length:=by omega
   have HBEL:=hid hbel;have HW:=hid (hcop.whole hrow hbel);clear hbel hrow hcop;go_wp2_with fail;go_ret;exact HW.out
def FrR.val (f:FrR) (t:Bool):Value:=if t then f.sv else f.lv
def fH (frs:List FrR) (w:World) (e:Ending) (w':World):Prop :=
 ∃(v:Value) (fl:List FrR),e=.returned v∧w'.ownsRow w.heap.size 83 4 v frs.length (fl.flatMap FrR.cells)∧fl.length=frs.length ∧
  (∀(k:Nat) (f:FrR),frs[k]?=some f→∃lv sv,fl[k]?=some { f with lv:=lv,sv:=sv }∧w'.ownsRow w.heap.size 73 2 lv f.loc.length (A5 f.loc)∧w'.ownsRow w.heap.size 73 2 sv f.stk.length (A5 f.stk)∧∀b,v.ownBlock=some b→lv.ownBlock≠some b∧sv.ownBlock≠some b) ∧
  (∀(k k':Nat) (t t':Bool) (f f':FrR) (b:Nat),(k < k'∨(k=k'∧t≠t'))→k' < frs.length→fl[k]?=some f→fl[k']?=some f'→(f.val t).ownBlock=some b→(f'.val t').ownBlock=some b→False)∧Below w.heap.size w w'
structure iM (W:World) (B gb i:Nat) (frs fl:List FrR):Prop where
 c:R7 W B gb i frs fl
 dis:∀(k k':Nat) (t t':Bool) (f f':FrR) (b:Nat),(k < k'∨(k=k'∧t≠t'))→k' < i→fl[k]?=some f→fl[k']?=some f'→(f.val t).ownBlock=some b→(f'.val t').ownBlock=some b→False
theorem iM.next {wr w3 w4:World} {B gb i:Nat} {frs fl:List FrR} {f:FrR} {lv sv:Value} (h:iM wr B gb i frs fl) (hf:frs[i]?=some f) (hg:gb < wr.heap.size) (hB:B≤wr.heap.size)
  (hv3:w3.ownsRow wr.heap.size 73 2 lv f.loc.length (A5 f.loc)) (hb3:Below wr.heap.size wr w3) (j:Nat) (hv4:w4.ownsRow (w3.setCell ⟨gb,j,none⟩ lv).heap.size 73 2 sv f.stk.length (A5 f.stk)) (hb4:Below (w3.setCell ⟨gb,j,none⟩ lv).heap.size (w3.setCell ⟨gb,j,none⟩ lv) w4) (j':Nat) :
  iM (w4.setCell ⟨gb,j',none⟩ sv) B gb (i+1) frs (fl.set i { f with lv:=lv,sv:=sv }):=by
 have hlen:=h.c.len;have hi:i < fl.length:=by rw [hlen];exact (List.getElem?_eq_some_iff.1 hf).1
 have hs3:(w3.setCell ⟨gb,j,none⟩ lv).heap.size=w3.heap.size:=by simp
 have hg3:gb < w3.heap.size:=Nat.lt_of_lt_of_le hg hb3.size;have hA3:Y8 (w3.setCell ⟨gb,j,none⟩ lv) B gb lv f.loc:=(Y8.of_copy hv3 rfl hg hB).set;have hC3:R7 (w3.setCell ⟨gb,j,none⟩ lv) B gb i frs fl:=(h.c.later hb3).set;refine⟨((hC3.later hb4).set).next hf ((hA3.later hb4).set) ((Y8.of_copy hv4 rfl (by rw [hs3];exact hg3) (by rw [hs3];exact Nat.le_trans hB hb3.size)).set),fun k k' t t' p p' b hk hk' hp hp' h1 h2=>?_⟩
 have hold:∀k p t b,k < i→fl[k]?=some p→(p.val t).ownBlock=some b→b < wr.heap.size:=fun k p t b hk hp hb=>by
  have hkl:k < frs.length:=by rw [← hlen];omega
  obtain⟨u,v,q1,q2,q3⟩:=h.c.new k _ hk (List.getElem?_eq_getElem hkl);rw[hp] at q1
  cases q1
  cases t
  ·exact (q2.row.lt b hb).2
  ·exact (q3.row.lt b hb).2
 have hlv:∀b,lv.ownBlock=some b→wr.heap.size≤b∧b < w3.heap.size:=fun b hb=>hv3.lt b hb
 have hsv:∀b,sv.ownBlock=some b→w3.heap.size≤b:=fun b hb=>by have:=(hv4.lt b hb).1;rw [hs3] at this;exact this
 have hz:=hb3.size;by_cases e:k'=i
 ·subst e
  rw[List.getElem?_set_self hi] at hp'
  cases hp';rcases hk with hk | ⟨rfl,hk⟩
  ·rw [List.getElem?_set_ne Q8] at hp
   have q1:=hold k p t b hk hp h1
   cases t'
   ·have:=(hlv b h2).1;omega
   ·have:=hsv b h2;omega
  ·rw [List.getElem?_set_self hi] at hp
   cases hp
   cases t <;> cases t'
   ·exact hk rfl
   ·have:=(hlv b h1).2;have:=hsv b h2;omega
   ·have:=(hlv b h2).2;have:=hsv b h1;omega
   ·exact hk rfl
 ·rw [List.getElem?_set_ne (Ne.symm e)] at hp'
  rw[List.getElem?_set_ne Q8] at hp;exact h.dis k k' t t' p p' b hk Q8 hp hp' h1 h2
theorem iM.whole {w W:World} {gb c:Nat} {frs fl:List FrR} (h:iM W w.heap.size gb frs.length frs fl) (hr:W.ownsRow w.heap.size 83 4 (.slice (some ⟨gb,0,none⟩) frs.length c) frs.length (fl.flatMap FrR.cells)) (hb:Below w.heap.size w W):fH frs w (.returned (.slice (some ⟨gb,0,none⟩) frs.length c)) W:=by
 refine⟨_,fl,rfl,hr,h.c.len,fun k f hf=>?_,h.dis,hb⟩;obtain⟨lv,sv,h1,h2,h3⟩:=h.c.new k f (List.getElem?_eq_some_iff.1 hf).1 hf;refine⟨lv,sv,h1,h2.row,h3.row,fun b hb=>?_⟩;obtain rfl:gb=b:=by simpa [Value.ownBlock] using hb
 exact⟨h2.ne,h3.ne⟩
theorem oQ {own:Own} {mb:Nat} {g:PgR} {R:McR} {w:World} (h:A3 w own mb g R) (h0:0 < R.frs.length) (hn:R.frs.length≤1000) (hf:∀f,f∈R.frs→f.loc.length≤1000∧f.stk.length≤1000) :
  Calls Tryz.prog 35 #[.pointer (some ⟨mb,3,none⟩)] w fun e w'=>fH R.frs w e w':=by
 have c3:=h.c3;obtain⟨ca,cc,hcv⟩:=C6 h.called;rw[hcv] at c3;have hmb:mb < w.heap.size:=h.lt mb _ h.me;have HCL:Hid (∀W,Below w.heap.size w W→Calls Tryz.prog 58 #[.slice ca R.frs.length cc] W fun e w'=>I8 83 4 R.frs.length (R.frs.flatMap FrR.cells) W e w'):=fun W hW=>fK h hW hn hcv
 have HH:=hid h;have HF:=hid hf;clear h hf hcv;go_enter Tryz.func35,Tryz.ntmps35;go_wp2_with (go_at_call 58;refine (HCL.out _ ?_).mono ?_;exact P0;rintro e w2 ⟨v2,rfl,hv2,hb2⟩;obtain ⟨gb,c2,rfl,hgB,hgb⟩:=hv2.form h0;have HV2:Hid (w2.ownsRow w.heap.size 83 4 (.slice (some ⟨gb,0,none⟩) R.frs.length c2) R.frs.length (R.frs.flatMap FrR.cells)):=C5 hv2 (by first | exact Nat.le_refl _ | simp);have HB2:Hid (Below w.heap.size w w2):=A1 hb2 P0;have hgB:w.heap.size≤gb:=Nat.le_trans (by first | exact Nat.le_refl _ | simp) hgB;clear hv2 hb2)
 go_loopw [12] (fun vi wr=>∃(i:Nat) (fl:List FrR),i≤R.frs.length∧vi=.int .i64 i∧iM wr w.heap.size gb i R.frs fl∧wr.ownsRow w.heap.size 83 4 (.slice (some ⟨gb,0,none⟩) R.frs.length c2) R.frs.length (fl.flatMap FrR.cells)∧Below w.heap.size w wr) (fun vi _=>R.frs.length - (intOf vi).toNat)
 case atStart=>exact ⟨0,R.frs,Nat.zero_le _,rfl,⟨⟨rfl,fun _ _=>rfl,fun k o hk=>by omega⟩,fun k k' t t' o o' b _ hk=>by omega⟩,HV2.out,HB2.out⟩
 case round =>
  obtain⟨i,fl,hi,rfl,hcop,hrow,hbel⟩:=hrel;clear HV2 HB2;by_cases hlti:i < R.frs.length
  ·obtain ⟨f,hfi⟩:∃f,R.frs[i]?=some f:=⟨_,List.getElem?_eq_getElem hlti⟩
   have hfl:fl[i]?=some f:=(hcop.c.old i (Nat.le_refl _)).trans hfi;have hgw:gb < wr.heap.size:=(hrow.lt gb rfl).2;have hcell:∀j,j < 4→wr.cell? ⟨gb,i*4+j,none⟩=f.cells[j]?:=fun j hj=>by
    rw[hrow.cellAt _ Q8];exact C3 FrR.cells_len hfl hj
   obtain⟨la,lc,hlv⟩:=C6 (HH.out.loc i f hfi);obtain⟨sa,sc,hsv⟩:=C6 (HH.out.stk i f hfi);have k2:wr.cell? ⟨gb,i*4+2,none⟩=some f.lv:=hcell 2 Q8;have k3:wr.cell? ⟨gb,i*4+3,none⟩=some f.sv:=hcell 3 Q8;rw[hlv] at k2;rw[hsv] at k3;have z2:=hrow.frozenAt (i*4+2);have z3:=hrow.frozenAt (i*4+3);have hm:=HF.out f (List.mem_of_getElem? hfi);have HCL1:Hid (∀W,Below w.heap.size w W→Calls Tryz.prog 57 #[.slice la f.loc.length lc] W fun e w'=>I8 73 2 f.loc.length (A5 f.loc) W e w'):=fun W hW=>X5 (HH.out.loc i f hfi) hlv hW hm.1
   have HCL2:Hid (∀W,Below w.heap.size w W→Calls Tryz.prog 57 #[.slice sa f.stk.length sc] W fun e w'=>I8 73 2 f.stk.length (A5 f.stk) W e w'):=fun W hW=>X5 (HH.out.stk i f hfi) hsv hW hm.2
   have hws:=hbel.size;have HBEL:=hid hbel;have HROW:=hid hrow;have HCOP:=hid hcop;have HFL:=hid hfl;have HFI:=hid hfi;clear hcell hrow hbel hcop hlv hsv hfl hfi c3;go_wp2_with fail;refine (HCL1.out _ HBEL.out).mono ?_;rintro e w3 ⟨v3,rfl,hv3,hb3⟩;obtain⟨a3,c3,rfl⟩:=B0 hv3;have m2:=(hb3.cell (p:=⟨gb,i*4+2,none⟩) hgw).trans k2;have m3:=(hb3.cell (p:=⟨gb,i*4+3,none⟩) hgw).trans k3;have y2:=(hb3.frozen (p:=⟨gb,i*4+2,none⟩) hgw).trans z2
   have y3:=(hb3.frozen (p:=⟨gb,i*4+3,none⟩) hgw).trans z3;have hg3:gb < w3.heap.size:=Nat.lt_of_lt_of_le hgw hb3.size;have hB3:Below w.heap.size w w3:=A1 hb3 HBEL.out;have hR3:w3.ownsRow w.heap.size 83 4 (.slice (some ⟨gb,0,none⟩) R.frs.length c2) R.frs.length (fl.flatMap FrR.cells):=A2 HROW.out fun b hb'=>by
    obtain rfl:gb=b:=by simpa [Value.ownBlock] using hb'
    exact hb3.block _ hgw
   have hR3':=(World.ownsRow.stored hR3 (i*4+2) (.slice a3 f.loc.length c3)).1;have hB3':Below w.heap.size w (w3.setCell ⟨gb,i*4+2,none⟩ (.slice a3 f.loc.length c3)):=Below.setCell hB3 hgB _;have HR3:=hid hR3';have HB3:=hid hB3';have HV3:=hid hv3;have HB3r:=hid hb3;clear hv3 hb3 hB3 hR3 hR3' hB3' k2 k3 z2 z3;go_wp2_with fail;refine (HCL2.out _ HB3.out).mono ?_;rintro e w4 ⟨v4,rfl,hv4,hb4⟩;obtain⟨a4,c4,rfl⟩:=B0 hv4
   have hg4':gb < (w3.setCell ⟨gb,i*4+2,none⟩ (.slice a3 f.loc.length c3)).heap.size:=by simpa using hg3
   have x3:w4.cell? ⟨gb,i*4+3,none⟩=some (.slice sa f.stk.length sc):=(hb4.cell (p:=⟨gb,i*4+3,none⟩) hg4').trans Q6;have u3:w4.frozen? ⟨gb,i*4+3,none⟩=false:=(hb4.frozen (p:=⟨gb,i*4+3,none⟩) hg4').trans Q6;have hg4:gb < w4.heap.size:=Nat.lt_of_lt_of_le hg4' hb4.size;have hB4:Below w.heap.size w w4:=A1 hb4 HB3.out;have hR4:w4.ownsRow w.heap.size 83 4 (.slice (some ⟨gb,0,none⟩) R.frs.length c2) R.frs.length ((fl.flatMap FrR.cells).set (i*4+2) (.slice a3 f.loc.length c3)):=A2 HR3.out fun b hb'=>by
    obtain rfl:gb=b:=by simpa [Value.ownBlock] using hb'
    exact hb4.block _ hg4'
   have hR4':=(World.ownsRow.stored hR4 (i*4+3) (.slice a4 f.stk.length c4)).1;have e1:=L5 (c:=FrR.cells) FrR.cells_len (l:=fl) (i:=i) (j:=2) (x:=f) (y:={ f with lv:=.slice a3 f.loc.length c3 }) (u:=.slice a3 f.loc.length c3) HFL.out Q8 rfl;have hil:i < fl.length:=by rw [HCOP.out.c.len];exact hlti
   have e2:=L5 (c:=FrR.cells) FrR.cells_len (l:=fl.set i { f with lv:=.slice a3 f.loc.length c3 }) (i:=i) (j:=3) (x:={ f with lv:=.slice a3 f.loc.length c3 }) (y:={ f with lv:=.slice a3 f.loc.length c3,sv:=.slice a4 f.stk.length c4 }) (u:=.slice a4 f.stk.length c4) (by rw [List.getElem?_set_self hil]) Q8 rfl;rw[← e1,← e2,List.set_set] at hR4';have HR4:=hid hR4';have HB4:=hid (Below.setCell hB4 (p:=⟨gb,i*4+3,none⟩) hgB (.slice a4 f.stk.length c4))
   have HC4:=hid (HCOP.out.next HFI.out hgw hws HV3.out HB3r.out (i*4+2) hv4 hb4 (i*4+3));clear hv4 hb4 hB4 hR4 hR4' e1 e2 m2 m3 y2 y3 HV3 HB3r;go_wp2_with fail;go_roundw
   case rel=>exact ⟨i+1,_,by omega,by go_num,HC4.out,HR4.out,HB4.out⟩
   case measure=>simp [intOf];omega
  ·obtain rfl:i=R.frs.length:=by omega
   have HBEL:=hid hbel;have HW:=hid (hcop.whole hrow hbel);clear hbel hrow hcop;go_wp2_with fail;go_ret;exact HW.out
theorem oP {own:Own} {mb:Nat} {g:PgR} {R:McR} {w:World} (h:A3 w own mb g R) (h0:R.frs=[]) :
  Calls Tryz.prog 35 #[.pointer (some ⟨mb,3,none⟩)] w fun e w'=>fH R.frs w e w':=by
 have c3:=h.c3;obtain⟨ca,cc,hcv⟩:=C6 h.called;rw[hcv] at c3;have hmb:mb < w.heap.size:=h.lt mb _ h.me;have HCL:Hid (∀W,Below w.heap.size w W→Calls Tryz.prog 58 #[.slice ca 0 cc] W fun e w'=>I8 83 4 0 [] W e w'):=fun W hW=>by
  have:=fK h hW (by rw [h0];simp) hcv;rw[h0] at this;exact this
 rw[h0] at c3;simp only[List.length_nil] at c3;rw[h0];clear h hcv h0;go_enter Tryz.func35,Tryz.ntmps35;go_wp2_with (go_at_call 58;refine (HCL.out _ ?_).mono ?_;exact P0;rintro e w2 ⟨v2,rfl,hv2,hb2⟩;obtain ⟨a2,c2,rfl⟩:=B0 hv2;have HV2:Hid (w2.ownsRow w.heap.size 83 4 (.slice a2 0 c2) 0 []):=C5 hv2 (by first | exact Nat.le_refl _ | simp);have HB2:Hid (Below w.heap.size w w2):=A1 hb2 P0;clear hv2 hb2)
 go_loopw [12] (fun vi wr=>vi=.int .i64 0∧w2=wr) (fun _ _=>0)
 case atStart=>exact ⟨rfl,by first | rfl | trivial⟩
 case round =>
  obtain⟨rfl,rfl⟩:=hrel;go_wp2_with fail;go_ret;exact⟨_,[],rfl,HV2.out,rfl,fun k f hf=>by simp at hf,fun k k' t t' f f' b _ hk=>by simp at hk,HB2.out⟩
theorem qL {own:Own} {mb:Nat} {g:PgR} {R:McR} {w:World} (h:A3 w own mb g R) (hn:R.frs.length≤1000) (hf:∀f,f∈R.frs→f.loc.length≤1000∧f.stk.length≤1000) :
  Calls Tryz.prog 35 #[.pointer (some ⟨mb,3,none⟩)] w fun e w'=>fH R.frs w e w':=by
 rcases Nat.eq_zero_or_pos R.frs.length with h0 | h0
 ·exact oP h (List.length_eq_zero_iff.1 h0)
 ·exact oQ h h0 hn hf
def J5 (mb:Nat) (R:McR) (b:Nat):Tag→Prop
 | .mach=>b=mb
 | .out=>R.ov.ownBlock=some b
 | .called=>R.cv.ownBlock=some b
 | .slots=>R.hv.ownBlock=some b
 | .draws=>R.dv.ownBlock=some b
 | .loc i=>∃f,R.frs[i]?=some f∧f.lv.ownBlock=some b
 | .stk i=>∃f,R.frs[i]?=some f∧f.sv.ownBlock=some b
 | .fld j=>∃o,R.obs[j]?=some o∧o.fv.ownBlock=some b
theorem a1Z {mb:Nat} {R:McR} (hfun:∀b t t',J5 mb R b t→J5 mb R b t'→t=t'):∃own:Own,∀b t,own b=some t↔J5 mb R b t:=by
 classical
 refine⟨fun b=>if h:∃t,J5 mb R b t then some h.choose else none,fun b t=>?_⟩;by_cases h:∃t,J5 mb R b t
 ·simp only [dif_pos h]
  constructor
  ·intro e
   have:=h.choose_spec;rw[Option.some.inj e] at this;exact this
  ·intro ht
   rw[hfun b _ _ h.choose_spec ht]
 ·simp only [dif_neg h]
  constructor
  ·intro e;cases e
  ·intro ht;exact absurd ⟨t,ht⟩ h
theorem fO {w:World} {mb:Nat} {g:PgR} {R:McR} (hfun:∀b t t',J5 mb R b t→J5 mb R b t'→t=t') (hlt:∀b t,J5 mb R b t→b < w.heap.size)
  (c0:w.cell? ⟨mb,0,none⟩=some (.slice g.a g.n g.c)) (c1:w.cell? ⟨mb,1,none⟩=some (.int .i64 R.st)) (c2:w.cell? ⟨mb,2,none⟩=some R.ov) (c3:w.cell? ⟨mb,3,none⟩=some R.cv) (c4:w.cell? ⟨mb,4,none⟩=some R.hv) (c5:w.cell? ⟨mb,5,none⟩=some R.dv)
  (fz:∀j,w.frozen? ⟨mb,j,none⟩=false) (out:w.ownsRow 0 3 1 R.ov R.out.length (R.out.map fun n=>.int .i64 n)) (called:w.ownsRow 0 83 4 R.cv R.frs.length (R.frs.flatMap FrR.cells)) (slots:w.ownsRow 0 75 2 R.hv R.obs.length (R.obs.flatMap ObR.cells))
  (draws:w.ownsRow 0 3 1 R.dv R.dr.length (R.dr.map fun n=>.int .i64 n)) (loc:∀(i:Nat) f,R.frs[i]?=some f→w.ownsRow 0 73 2 f.lv f.loc.length (A5 f.loc)) (stk:∀(i:Nat) f,R.frs[i]?=some f→w.ownsRow 0 73 2 f.sv f.stk.length (A5 f.stk)) (fld:∀(j:Nat) o,R.obs[j]?=some o→w.ownsRow 0 73 2 o.fv o.fl.length (A5 o.fl))
  (pg:M3 w.heap.size w g) (ro:∀k,g.blk k→∀t,¬J5 mb R k t) (tab:Tab w) (ro0:∀t,¬J5 mb R 0 t):∃own,A3 w own mb g R∧∀b t,own b=some t↔J5 mb R b t:=by
 obtain⟨own,ho⟩:=a1Z hfun;have hnone:∀k,(∀t,¬J5 mb R k t)→own k=none:=fun k hk=>by
  cases e:own k with
  | none=>rfl
  | some t=>exact absurd ((ho k t).1 e) (hk t)
 exact⟨own,⟨fun k t hk=>hlt k t ((ho k t).1 hk),(ho mb .mach).2 rfl,c0,c1,c2,c3,c4,fz,⟨out,fun b hb=>(ho b .out).2 hb⟩,⟨called,fun b hb=>(ho b .called).2 hb⟩,⟨slots,fun b hb=>(ho b .slots).2 hb⟩,
  fun i f hf=>⟨loc i f hf,fun b hb=>(ho b (.loc i)).2 ⟨f,hf,hb⟩⟩,fun i f hf=>⟨stk i f hf,fun b hb=>(ho b (.stk i)).2 ⟨f,hf,hb⟩⟩,fun j o hj=>⟨fld j o hj,fun b hb=>(ho b (.fld j)).2 ⟨o,hj,hb⟩⟩,
  pg,fun k hk=>hnone k (ro k hk),tab,hnone 0 ro0,c5,⟨draws,fun b hb=>(ho b .draws).2 hb⟩⟩,ho⟩
structure Pk1 (w:World) (R:McR) (al:List Nat) (kb:Nat) (av sv:Value) (ol:List ObR) (S E:Nat) (W:World):Prop where
 bel:Below w.heap.size w W
 kge:w.heap.size≤kb
 klt:kb < W.heap.size
 k0:W.cell? ⟨kb,0,none⟩=some av
 arow:W.ownsRow w.heap.size 3 1 av al.length (T4 al)
 srow:W.ownsRow w.heap.size 75 2 sv R.obs.length (ol.flatMap ObR.cells)
 len:ol.length=R.obs.length
 new:∀(k:Nat) (o:ObR),R.obs[k]?=some o→∃fv,ol[k]?=some { o with fv:=fv }∧W.ownsRow S 73 2 fv o.fl.length (A5 o.fl)∧∀b,fv.ownBlock=some b→b < E
 dis:∀(k k':Nat) (o o':ObR) (b:Nat),k < k'→k' < R.obs.length→ol[k]?=some o→ol[k']?=some o'→o.fv.ownBlock=some b→o'.fv.ownBlock=some b→False
 ab:∀b,av.ownBlock=some b→b < S∧b≠kb
 kk:kb < S∨E≤kb
 sE:w.heap.size≤S∧S≤E∧E≤W.heap.size
theorem Pk1.later {w:World} {R:McR} {al:List Nat} {kb:Nat} {av sv:Value} {ol:List ObR} {S E:Nat} {W V:World} (h:Pk1 w R al kb av sv ol S E W) (hB:Below W.heap.size W V):Pk1 w R al kb av sv ol S E V:=by
 have up:∀{B e size n:Nat} {v:Value} {xs:List Value},W.ownsRow B e size v n xs→V.ownsRow B e size v n xs:=fun hr=>A2 hr fun b hb=>hB.block b (hr.lt b hb).2
 refine⟨A1 hB h.bel,h.kge,Nat.lt_of_lt_of_le h.klt hB.size,(hB.cell (p:=⟨kb,0,none⟩) h.klt).trans h.k0,up h.arow,up h.srow,h.len,fun k o ho=>?_,h.dis,h.ab,h.kk,h.sE.1,h.sE.2.1,Nat.le_trans h.sE.2.2 hB.size⟩;obtain⟨fv,h1,h2,h3⟩:=h.new k o ho;exact⟨fv,h1,up h2,h3⟩
theorem a2g {w U2 w2 U3 w3 W:World} {R:McR} {al:List Nat} {kb:Nat} {av sv:Value} (hU2:Below w.heap.size w U2) (r2:w2.ownsRow U2.heap.size 3 1 av al.length (T4 al)) (b2:Below U2.heap.size U2 w2) (hU3:Below w2.heap.size w2 U3) (hs:eP R.obs U3 (.returned sv) w3)
  (hWo:W.os=w3.os) (hWt:W.tape=w3.tape) (hWu:W.output=w3.output) (hWs:w3.heap.size≤W.heap.size) (hWb:∀b,b < w3.heap.size→b≠kb→W.heap[b]?=w3.heap[b]?)
  (hk0:w.heap.size≤kb) (hkW:kb < W.heap.size) (hk:kb < U2.heap.size∨(w2.heap.size≤kb∧kb < U3.heap.size)∨w3.heap.size≤kb) (hc:W.cell? ⟨kb,0,none⟩=some av) :
  ∃ol,Pk1 w R al kb av sv ol U3.heap.size w3.heap.size W:=by
 obtain⟨sv',ol,he,q1,q2,q3,q4,b3⟩:=hs
 cases he;have hB2:=A1 b2 hU2;have hB3:=A1 hU3 hB2;have hB4:=A1 b3 hB3;have s1:=hU2.size;have s2:=b2.size;have s3:=hU3.size;have s4:=b3.size;have up:∀{B e size n:Nat} {v:Value} {xs:List Value},w3.ownsRow B e size v n xs→v.ownBlock≠some kb→W.ownsRow B e size v n xs:=fun hr hne=>A2 hr fun b hb=>hWb b (hr.lt b hb).2 (fun e=>hne (by rw [← e];exact hb))
 have hav:∀b,av.ownBlock=some b→b < U3.heap.size∧b≠kb:=fun b hb=>by
  have:=r2.lt b hb;omega
 have hr3:w3.ownsRow w.heap.size 3 1 av al.length (T4 al):=C5 (A2 r2 fun b hb=>(b3.block b (hav b hb).1).trans (hU3.block b (r2.lt b hb).2)) s1;have hBW:Below w.heap.size w W:=⟨hWo.trans hB4.os,hWt.trans hB4.tape,hWu.trans hB4.output,Nat.le_trans hB4.size hWs,fun b hb=>(hWb b (by have:=hB4.size;omega) Q8).trans (hB4.block b hb)⟩;refine⟨ol,⟨hBW,hk0,hkW,hc,up hr3 (fun e=>(hav kb e).2 rfl),C5 (up q1 fun e=>by have:=q1.lt kb e;omega) Q8,q2,fun k o ho=>?_,q4,hav,by omega,by omega,s4,hWs⟩⟩
 obtain⟨fv,h1,h2⟩:=q3 k o ho;exact⟨fv,h1,up h2 (fun e=>by have:=h2.lt kb e;omega),fun b hb=>(h2.lt b hb).2⟩
def a6G (ol:List ObR) (j:Nat):ObR:=ol.getD j ⟨0,.slice none 0 0,[]⟩
theorem fQ {ol:List ObR} {j:Nat} {o:ObR} (h:ol[j]?=some o):a6G ol j=o:=by
 unfold a6G;rw[List.getD_eq_getElem?_getD,h];rfl
def N8 (ol:List ObR) (al:List Nat):List ObR:=al.map (a6G ol)
theorem a1U {ol:List ObR} {al:List Nat} {i j:Nat} (h:al[i]?=some j):N8 ol (al.take (i+1))=N8 ol (al.take i)++[a6G ol j]:=by
 unfold N8;rw[List.take_add_one,h];simp
structure Pk3 (W:World) (pb:Nat) (hv:Value) (l:List ObR) (wr:World):Prop where
 os:wr.os=W.os
 tape:wr.tape=W.tape
 output:wr.output=W.output
 size:W.heap.size≤wr.heap.size
 c4:wr.cell? ⟨pb,4,none⟩=some hv
 cj:∀j,j≠4→wr.cell? ⟨pb,j,none⟩=W.cell? ⟨pb,j,none⟩
 fz:∀j,wr.frozen? ⟨pb,j,none⟩=W.frozen? ⟨pb,j,none⟩
 row:wr.ownsRow W.heap.size 75 2 hv l.length (l.flatMap ObR.cells)
 blk:∀k,k < W.heap.size→k≠pb→wr.heap[k]?=W.heap[k]?
theorem a4N {own:Own} {mb kb S E:Nat} {g:PgR} {R:McR} {w W1 U4 w4 V wr:World} {al:List Nat} {av sv cv hv:Value} {ol:List ObR} {fl:List FrR}
  (h:A3 w own mb g R) (p1:Pk1 w R al kb av sv ol S E W1) (hU4:Below W1.heap.size W1 U4) (q1:w4.ownsRow U4.heap.size 83 4 cv R.frs.length (fl.flatMap FrR.cells)) (q2:fl.length=R.frs.length)
  (q3:∀(k:Nat) (f:FrR),R.frs[k]?=some f→∃lv sv,fl[k]?=some { f with lv:=lv,sv:=sv }∧w4.ownsRow U4.heap.size 73 2 lv f.loc.length (A5 f.loc)∧w4.ownsRow U4.heap.size 73 2 sv f.stk.length (A5 f.stk)∧∀b,cv.ownBlock=some b→lv.ownBlock≠some b∧sv.ownBlock≠some b)
  (q4:∀(k k':Nat) (t t':Bool) (f f':FrR) (b:Nat),(k < k'∨(k=k'∧t≠t'))→k' < R.frs.length→fl[k]?=some f→fl[k']?=some f'→(f.val t).ownBlock=some b→(f'.val t').ownBlock=some b→False) (b4:Below U4.heap.size U4 w4) (hV:Below w4.heap.size w4 V)
  (hnd:al.Nodup) (hal:∀j,j∈al→j < R.obs.length)
  (p3:Pk3 (V.alloc (.cells #[.slice g.a g.n g.c,.int .i64 R.st,R.ov,cv,.slice none 0 0,.slice none 0 0] 81)) V.heap.size hv (N8 ol al) wr) :
  ∃own',A3 wr own' V.heap.size g ⟨R.st,R.ov,R.out,cv,fl,hv,N8 ol al,.slice none 0 0,[]⟩∧∀b t,own' b=some t↔J5 V.heap.size ⟨R.st,R.ov,R.out,cv,fl,hv,N8 ol al,.slice none 0 0,[]⟩ b t:=by
 have s1:=p1.sE;have s2:=hU4.size;have s3:=b4.size;have s4:=hV.size;have hBV:Below w.heap.size w V:=A1 hV (A1 b4 (A1 hU4 p1.bel));have s5:=hBV.size;have hB1V:Below W1.heap.size W1 V:=A1 hV (A1 b4 hU4);have hW2:(V.alloc (.cells #[.slice g.a g.n g.c,.int .i64 R.st,R.ov,cv,.slice none 0 0,.slice none 0 0] 81)).heap.size=V.heap.size+1:=by simp
 have hwr:=p3.size;rw[hW2] at hwr;have keepV:∀b,b < V.heap.size→wr.heap[b]?=V.heap[b]?:=fun b hb=>by
  rw[p3.blk b (by rw [hW2];omega) Q8];exact (Below.alloc (Below.refl _ _) (Nat.le_refl _) _).block b hb
 have upW:∀{B e size n:Nat} {v:Value} {xs:List Value},w.ownsRow B e size v n xs→wr.ownsRow B e size v n xs:=fun hr=>A2 hr fun b hb=>by
  have:=(hr.lt b hb).2;rw[keepV b Q8];exact hBV.block b this
 have up1:∀{B e size n:Nat} {v:Value} {xs:List Value},W1.ownsRow B e size v n xs→wr.ownsRow B e size v n xs:=fun hr=>A2 hr fun b hb=>by
  have:=(hr.lt b hb).2;rw[keepV b Q8];exact hB1V.block b this
 have up4:∀{B e size n:Nat} {v:Value} {xs:List Value},w4.ownsRow B e size v n xs→wr.ownsRow B e size v n xs:=fun hr=>A2 hr fun b hb=>by
  have:=(hr.lt b hb).2;rw[keepV b Q8];exact hV.block b this
 -- the objects
 have hobj:∀(i:Nat) (O:ObR),(N8 ol al)[i]?=some O→∃j o fv,al[i]?=some j∧R.obs[j]?=some o∧ol[j]?=some { o with fv:=fv }∧O={ o with fv:=fv }∧W1.ownsRow S 73 2 fv o.fl.length (A5 o.fl)∧∀b,fv.ownBlock=some b→b < E:=fun i O hO=>by
  unfold N8 at hO;rw[List.getElem?_map] at hO;obtain⟨j,hj,rfl⟩:=Option.map_eq_some_iff.1 hO;obtain⟨o,ho⟩:∃o,R.obs[j]?=some o:=⟨_,List.getElem?_eq_getElem (hal j (List.mem_of_getElem? hj))⟩
  obtain⟨fv,h1,h2,h3⟩:=p1.new j o ho;exact⟨j,o,fv,hj,ho,h1,fQ h1,h2,h3⟩
 have hfrm:∀(i:Nat) (F:FrR),fl[i]?=some F→∃f lv sv,R.frs[i]?=some f∧F={ f with lv:=lv,sv:=sv }∧w4.ownsRow U4.heap.size 73 2 lv f.loc.length (A5 f.loc)∧w4.ownsRow U4.heap.size 73 2 sv f.stk.length (A5 f.stk)∧∀b,cv.ownBlock=some b→lv.ownBlock≠some b∧sv.ownBlock≠some b:=fun i F hF=>by
  have hi:i < R.frs.length:=by rw [← q2];exact (List.getElem?_eq_some_iff.1 hF).1
  obtain⟨lv,sv,k1,k2,k3,k4⟩:=q3 i _ (List.getElem?_eq_getElem hi);rw[hF] at k1
  cases k1;exact⟨_,lv,sv,List.getElem?_eq_getElem hi,rfl,k2,k3,k4⟩
 obtain⟨R',hR'⟩:∃R':McR,R'=⟨R.st,R.ov,R.out,cv,fl,hv,N8 ol al,.slice none 0 0,[]⟩:=⟨_,rfl⟩
 have bOut:∀b,J5 V.heap.size R' b .out→b < w.heap.size:=fun b hb=>by
  rw[hR'] at hb;exact h.lt b _ (h.out.2 b hb)
 have bFld:∀b j,J5 V.heap.size R' b (.fld j)→S≤b∧b < E:=fun b j hb=>by
  rw[hR'] at hb;obtain⟨O,hO,hb⟩:=hb;obtain⟨_,o,fv,_,_,_,rfl,k2,k3⟩:=hobj j O hO;exact⟨(k2.lt b hb).1,k3 b hb⟩
 have bCal:∀b,J5 V.heap.size R' b .called→U4.heap.size≤b∧b < w4.heap.size:=fun b hb=>by
  rw[hR'] at hb;exact q1.lt b hb
 have bLoc:∀b i,J5 V.heap.size R' b (.loc i)→U4.heap.size≤b∧b < w4.heap.size∧cv.ownBlock≠some b:=fun b i hb=>by
  rw[hR'] at hb;obtain⟨F,hF,hb⟩:=hb;obtain⟨f,lv,sv,_,rfl,k2,k3,k4⟩:=hfrm i F hF;exact⟨(k2.lt b hb).1,(k2.lt b hb).2,fun e=>(k4 b e).1 hb⟩
 have bStk:∀b i,J5 V.heap.size R' b (.stk i)→U4.heap.size≤b∧b < w4.heap.size∧cv.ownBlock≠some b:=fun b i hb=>by
  rw[hR'] at hb;obtain⟨F,hF,hb⟩:=hb;obtain⟨f,lv,sv,_,rfl,k2,k3,k4⟩:=hfrm i F hF;exact⟨(k3.lt b hb).1,(k3.lt b hb).2,fun e=>(k4 b e).2 hb⟩
 have bMac:∀b,J5 V.heap.size R' b .mach→b=V.heap.size:=fun b hb=>hb
 have bSlo:∀b,J5 V.heap.size R' b .slots→V.heap.size+1≤b∧b < wr.heap.size:=fun b hb=>by
  rw[hR'] at hb;have:=p3.row.lt b hb;rw[hW2] at this;exact this
 have bDra:∀b,¬J5 V.heap.size R' b .draws:=fun b hb=>by
  rw[hR'] at hb
  cases hb
 have fLL:∀(b i i':Nat) (t t':Bool) (F F':FrR),R'.frs[i]?=some F→R'.frs[i']?=some F'→(F.val t).ownBlock=some b→(F'.val t').ownBlock=some b→i=i'∧t=t':=fun b i i' t t' F F' hF hF' h1 h2=>by
  rw[hR'] at hF hF';have hi:i < R.frs.length:=by rw [← q2];exact (List.getElem?_eq_some_iff.1 hF).1
  have hi':i' < R.frs.length:=by rw [← q2];exact (List.getElem?_eq_some_iff.1 hF').1
  rcases Nat.lt_trichotomy i i' with hlt | rfl | hlt
  ·exact (q4 i i' t t' F F' b (Or.inl hlt) hi' hF hF' h1 h2).elim
  ·refine ⟨rfl,?_⟩
   by_cases e:t=t'
   ·exact e
   ·exact (q4 i i t t' F F' b (Or.inr ⟨rfl,e⟩) hi hF hF' h1 h2).elim
  ·exact (q4 i' i t' t F' F b (Or.inl hlt) hi hF' hF h2 h1).elim
 have hfun:∀b t t',J5 V.heap.size R' b t→J5 V.heap.size R' b t'→t=t':=fun b t t' ht ht'=>by
  cases t with
  | mach =>
   have e:=bMac b ht
   cases t' with
   | mach=>rfl
   | out=>have:=bOut b ht';omega
   | called=>have:=bCal b ht';omega
   | slots=>have:=bSlo b ht';omega
   | draws=>exact (bDra b ht').elim
   | loc i=>have:=bLoc b i ht';omega
   | stk i=>have:=bStk b i ht';omega
   | fld j=>have:=bFld b j ht';omega
  | out =>
   have e:=bOut b ht
   cases t' with
   | mach=>have:=bMac b ht';omega
   | out=>rfl
   | called=>have:=bCal b ht';omega
   | slots=>have:=bSlo b ht';omega
   | draws=>exact (bDra b ht').elim
   | loc i=>have:=bLoc b i ht';omega
   | stk i=>have:=bStk b i ht';omega
   | fld j=>have:=bFld b j ht';omega
  | called =>
   have e:=bCal b ht;have e':cv.ownBlock=some b:=by rw [hR'] at ht;exact ht
   cases t' with
   | mach=>have:=bMac b ht';omega
   | out=>have:=bOut b ht';omega
   | called=>rfl
   | slots=>have:=bSlo b ht';omega
   | draws=>exact (bDra b ht').elim
   | loc i=>exact ((bLoc b i ht').2.2 e').elim
   | stk i=>exact ((bStk b i ht').2.2 e').elim
   | fld j=>have:=bFld b j ht';omega
  | slots =>
   have e:=bSlo b ht
   cases t' with
   | mach=>have:=bMac b ht';omega
   | out=>have:=bOut b ht';omega
   | called=>have:=bCal b ht';omega
   | slots=>rfl
   | draws=>exact (bDra b ht').elim
   | loc i=>have:=bLoc b i ht';omega
   | stk i=>have:=bStk b i ht';omega
   | fld j=>have:=bFld b j ht';omega
  | draws=>exact (bDra b ht).elim
  | loc i =>
   have e:=bLoc b i ht
   cases t' with
   | mach=>have:=bMac b ht';omega
   | out=>have:=bOut b ht';omega
   | called=>exact (e.2.2 (by rw [hR'] at ht';exact ht')).elim
   | slots=>have:=bSlo b ht';omega
   | draws=>exact (bDra b ht').elim
   | loc i' =>
    obtain⟨F,hF,hb⟩:=ht;obtain⟨F',hF',hb'⟩:=ht';rw[(fLL b i i' false false F F' hF hF' hb hb').1]
   | stk i' =>
    obtain⟨F,hF,hb⟩:=ht;obtain⟨F',hF',hb'⟩:=ht';have:=(fLL b i i' false true F F' hF hF' hb hb').2
    cases this
   | fld j=>have:=bFld b j ht';omega
  | stk i =>
   have e:=bStk b i ht
   cases t' with
   | mach=>have:=bMac b ht';omega
   | out=>have:=bOut b ht';omega
   | called=>exact (e.2.2 (by rw [hR'] at ht';exact ht')).elim
   | slots=>have:=bSlo b ht';omega
   | draws=>exact (bDra b ht').elim
   | loc i' =>
    obtain⟨F,hF,hb⟩:=ht;obtain⟨F',hF',hb'⟩:=ht';have:=(fLL b i i' true false F F' hF hF' hb hb').2
    cases this
   | stk i' =>
    obtain⟨F,hF,hb⟩:=ht;obtain⟨F',hF',hb'⟩:=ht';rw[(fLL b i i' true true F F' hF hF' hb hb').1]
   | fld j=>have:=bFld b j ht';omega
  | fld j =>
   have e:=bFld b j ht
   cases t' with
   | mach=>have:=bMac b ht';omega
   | out=>have:=bOut b ht';omega
   | called=>have:=bCal b ht';omega
   | slots=>have:=bSlo b ht';omega
   | draws=>exact (bDra b ht').elim
   | loc i=>have:=bLoc b i ht';omega
   | stk i=>have:=bStk b i ht';omega
   | fld j' =>
    rw[hR'] at ht ht';obtain⟨O,hO,hb⟩:=ht;obtain⟨O',hO',hb'⟩:=ht';obtain⟨x,o,fv,k1,k2,k3,rfl,_⟩:=hobj j O hO;obtain⟨x',o',fv',k1',k2',k3',rfl,_⟩:=hobj j' O' hO';have hxl:=(List.getElem?_eq_some_iff.1 k2).1;have hxl':=(List.getElem?_eq_some_iff.1 k2').1;rcases Nat.lt_trichotomy x x' with hlt | rfl | hlt
    ·exact (p1.dis x x' _ _ b hlt hxl' k3 k3' hb hb').elim
    ·have hjl:=(List.getElem?_eq_some_iff.1 k1).1
     have hjj:j=j':=(List.getElem?_inj hjl hnd).1 (k1.trans k1'.symm);rw[hjj]
    ·exact (p1.dis x' x _ _ b hlt hxl k3' k3 hb' hb).elim
 have hltp:∀b t,J5 V.heap.size R' b t→b < wr.heap.size:=fun b t ht=>by
  cases t with
  | mach=>have:=bMac b ht;omega
  | out=>have:=bOut b ht;omega
  | called=>have:=bCal b ht;omega
  | slots=>exact (bSlo b ht).2
  | draws=>exact (bDra b ht).elim
  | loc i=>have:=bLoc b i ht;omega
  | stk i=>have:=bStk b i ht;omega
  | fld j=>have:=bFld b j ht;omega
 have hnew:∀b,b < w.heap.size→own b=none→∀t,¬J5 V.heap.size R' b t:=fun b hb hn t ht=>by
  cases t with
  | mach=>have:=bMac b ht;omega
  | out =>
   rw[hR'] at ht;have:=h.out.2 b ht;rw[hn] at this
   cases this
  | called=>have:=bCal b ht;omega
  | slots=>have:=bSlo b ht;omega
  | draws=>exact bDra b ht
  | loc i=>have:=bLoc b i ht;omega
  | stk i=>have:=bStk b i ht;omega
  | fld j=>have:=bFld b j ht;omega
 rw[← hR'];have hpgV:=h.pg.held hBV.size fun k hk=>hBV.block k (h.pg.blk_lt hk)
 have htV:=h.tab.held hBV.size (hBV.block 0 h.tab.1);have hml:0 < V.heap.size:=htV.1;refine fO hfun hltp ?_ ?_ ?_ ?_ ?_ ?_ ?_ ?_ ?_ ?_ ?_ ?_ ?_ ?_ ?_ ?_ ?_ ?_
 ·rw [p3.cj 0 Q7];go_simp
 ·rw [p3.cj 1 Q7,hR'];go_simp
 ·rw [p3.cj 2 Q7,hR'];go_simp
 ·rw [p3.cj 3 Q7,hR'];go_simp
 ·rw [p3.c4,hR']
 ·rw [p3.cj 5 Q7,hR'];go_simp
 ·intro j;rw [p3.fz j];go_simp
 ·rw [hR'];exact upW h.out.1
 ·rw [hR'];show wr.ownsRow 0 83 4 cv fl.length _;rw [q2];exact C5 (up4 q1) (Nat.zero_le _)
 ·rw [hR'];exact C5 p3.row (Nat.zero_le _)
 ·rw [hR'];exact World.ownsRow_nil _ _ _ _
 ·intro i F hF
  rw[hR'] at hF;obtain⟨f,lv,sv,_,rfl,k2,k3,k4⟩:=hfrm i F hF;exact C5 (up4 k2) (Nat.zero_le _)
 ·intro i F hF
  rw[hR'] at hF;obtain⟨f,lv,sv,_,rfl,k2,k3,k4⟩:=hfrm i F hF;exact C5 (up4 k3) (Nat.zero_le _)
 ·intro j O hO
  rw[hR'] at hO;obtain⟨_,o,fv,_,_,_,rfl,k2,k3⟩:=hobj j O hO;exact C5 (up1 k2) (Nat.zero_le _)
 ·exact hpgV.held Q8 fun k hk=>keepV k (hpgV.blk_lt hk)
 ·exact fun k hk=>hnew k (h.pg.blk_lt hk) (h.ro k hk)
 ·exact htV.held Q8 (keepV 0 htV.1)
 ·exact hnew 0 h.tab.1 h.ro0
theorem J3.tag {R:McR} {q:Nat} {v:Value} {l:List Val} {t:Tag} (h:J3 R q v l t):t≠.mach∧t≠.out∧t≠.called∧t≠.slots∧t≠.draws:=by
 rcases h with ⟨i,f,_,_,_,_,rfl⟩ | ⟨i,f,_,_,_,_,rfl⟩ | ⟨j,o,_,_,_,_,rfl⟩ <;> simp
theorem a2N {W:World} {own:Own} {t:Tag} {v:Value} {a:Option Addr} {c wb ab n:Nat} {l:List Val} (hr:Row W own t 73 2 v n (A5 l)) (hn:n=l.length) (hv:v=.slice a n c) (h1:own wb=none) (h2:own ab=none):VIn W wb ab a l:=fun h0=>by
 subst hn;obtain⟨b,c',e,_,hb⟩:=hr.1.form h0;have hrow:=hr.1;have ho:=hr.2 b (by rw [e];rfl);rw[hv] at e hrow
 cases e;refine⟨b,rfl,hb,(fun e=>by rw [e,h1] at ho;cases ho),(fun e=>by rw [e,h2] at ho;cases ho),fun i x hx=>?_⟩;have hi:=(List.getElem?_eq_some_iff.1 hx).1;have hcell:∀j,j < 2→W.cell? ⟨b,i*2+j,none⟩=(N0 x)[j]?:=fun j hj=>by
  rw[hrow.cellAt _ Q8];exact C3 E7 hx hj
 exact⟨hcell 0 Q8,hcell 1 Q8⟩
theorem a6N {W w':World} {own:Own} {pb wb ab:Nat} {g:PgR} {R:McR} {s:McA} (h:A3 W own pb g R) (mv:X0 W own R (C4 (A0 s)) (R.frs.length*2+R.obs.length) 0 w')
  (hst:R.st=s.st) (hout:R.out=s.out) (hfr:R.frs.map FrR.abs=s.frs) (hob:R.obs.map ObR.abs=(A0 s).map fun j=>s.obs.getD j (0,[]))
  (h1:own wb=none) (h2:own ab=none) (b1:¬g.blk wb) (b2:¬g.blk ab):a8P w' wb ab pb g (A9 s):=by
 have keep:∀b t,own b=some t→(t=.mach∨t=.out∨t=.called∨t=.slots)→w'.heap[b]?=W.heap[b]?:=fun b t hb ht=>mv.keep b (h.lt b t hb) fun q v l t' hq e=>by
  rw[hb] at e
  cases e;have:=hq.tag;rcases ht with rfl | rfl | rfl | rfl
  ·exact this.1 rfl
  ·exact this.2.1 rfl
  ·exact this.2.2.1 rfl
  ·exact this.2.2.2.1 rfl
 have hne:∀b t,own b=some t→b≠wb∧b≠ab:=fun b t hb=>⟨(fun e=>by rw [e,h1] at hb;cases hb),(fun e=>by rw [e,h2] at hb;cases hb)⟩
 have hp:=keep pb _ h.me (Or.inl rfl);obtain⟨oa,oc,ho⟩:=C6 h.out;obtain⟨fa,fc,hf⟩:=C6 h.called;obtain⟨ba,bc,hb⟩:=C6 h.slots;have hlst:∀q v l t,J3 R q v l t→q < R.frs.length*2+R.obs.length:=fun q v l t hq=>by
  rcases hq with ⟨i,f,hi,rfl,_⟩ | ⟨i,f,hi,rfl,_⟩ | ⟨j,o,hj,rfl,_⟩
  ·have:=(List.getElem?_eq_some_iff.1 hi).1;omega
  ·have:=(List.getElem?_eq_some_iff.1 hi).1;omega
  ·have:=(List.getElem?_eq_some_iff.1 hj).1;omega
 have hvin:∀q v l t,J3 R q v l t→∃a c,v=.slice a l.length c∧VIn w' wb ab a (l.map (C4 (A0 s))):=fun q v l t hq=>by
  have hr:=mv.rows q v l t hq;have e:dL (C4 (A0 s)) (R.frs.length*2+R.obs.length) 0 q l=l.map (C4 (A0 s)):=by
   unfold dL;rw[if_pos (hlst q v l t hq)]
  rw[e] at hr;obtain⟨a,c,hv⟩:=C6 hr;exact⟨a,c,hv,a2N hr Q9 hv h1 h2⟩
 refine⟨⟨oa,oc,fa,fc,ba,bc,?_,?_,?_,?_,?_,?_,?_,?_⟩,⟨h.pg.held mv.size fun k hk=>mv.keep k (h.pg.blk_lt hk) fun q v l t _=>by rw [h.ro k hk];simp,fun k hk=>⟨fun e=>b1 (e▸hk),fun e=>b2 (e▸hk)⟩⟩,Nat.lt_of_lt_of_le (h.lt pb _ h.me) mv.size,hne pb _ h.me⟩
 ·rw [World.cell?_of_block (w:=W) (a:=⟨pb,0,none⟩) hp];exact h.c0
 ·rw [World.cell?_of_block (w:=W) (a:=⟨pb,1,none⟩) hp,h.c1,hst];rfl
 ·rw [World.cell?_of_block (w:=W) (a:=⟨pb,2,none⟩) hp,h.c2,ho,hout];rfl
 ·rw [World.cell?_of_block (w:=W) (a:=⟨pb,3,none⟩) hp,h.c3,hf]
  have:(A9 s).frs.length=R.frs.length:=by show (s.frs.map _).length=_;rw [← hfr];simp
  rw[this]
 ·rw [World.cell?_of_block (w:=W) (a:=⟨pb,4,none⟩) hp,h.c4,hb]
  have:(A9 s).obs.length=R.obs.length:=by
   show ((A0 s).map _).length=_;have:=congrArg List.length hob;simp only[List.length_map] at this ⊢;omega
  rw[this]
 ·intro h0
  have h0':0 < R.out.length:=by rw [hout];exact h0
  obtain⟨b,c',e,_,hbl⟩:=h.out.1.form h0';have hrow:=h.out.1;have hown:=h.out.2 b (by rw [e];rfl);rw[ho] at e hrow
  cases e;refine⟨b,rfl,Nat.lt_of_lt_of_le hbl mv.size,(hne b _ hown).1,(hne b _ hown).2,fun i x hx=>?_⟩;have hx':R.out[i]?=some x:=by rw [hout];exact hx
  have hi:=(List.getElem?_eq_some_iff.1 hx').1;rw[World.cell?_of_block (w:=W) (a:=⟨b,i,none⟩) (keep b _ hown (Or.inr (Or.inl rfl))),hrow.cellAt i Q8,List.getElem?_map,hx'];rfl
 ·intro h0
  have hl:(A9 s).frs.length=R.frs.length:=by show (s.frs.map _).length=_;rw [← hfr];simp
  obtain⟨b,c',e,_,hbl⟩:=h.called.1.form Q8;have hrow:=h.called.1;have hown:=h.called.2 b (by rw [e];rfl);rw[hf] at e hrow
  cases e;refine⟨b,rfl,Nat.lt_of_lt_of_le hbl mv.size,(hne b _ hown).1,(hne b _ hown).2,fun i f hi=>?_⟩;have hi':((s.frs.map (gH (A0 s)))[i]?:Option FrA)=some f:=hi;rw[← hfr,List.map_map,List.getElem?_map] at hi';obtain⟨F,hF,rfl⟩:=Option.map_eq_some_iff.1 hi';have hil:=(List.getElem?_eq_some_iff.1 hF).1;have hcell:∀j,j < 4→w'.cell? ⟨b,i*4+j,none⟩=F.cells[j]?:=fun j hj=>by
   rw[World.cell?_of_block (w:=W) (a:=⟨b,i*4+j,none⟩) (keep b _ hown (Or.inr (Or.inr (Or.inl rfl)))),hrow.cellAt _ Q8];exact C3 FrR.cells_len hF hj
  obtain⟨la,lc,e1,v1⟩:=hvin (i*2) F.lv F.loc (.loc i) (Or.inl ⟨i,F,hF,rfl,rfl,rfl,rfl⟩);obtain⟨sa,sc,e2,v2⟩:=hvin (i*2+1) F.sv F.stk (.stk i) (Or.inr (Or.inl ⟨i,F,hF,rfl,rfl,rfl,rfl⟩));have k2:w'.cell? ⟨b,i*4+2,none⟩=some F.lv:=hcell 2 Q8;have k3:w'.cell? ⟨b,i*4+3,none⟩=some F.sv:=hcell 3 Q8;refine⟨la,lc,sa,sc,hcell 0 Q8,hcell 1 Q8,?_,?_,v1,v2⟩
  ·rw [k2,e1]
   show some (Value.slice la F.loc.length lc)=some (.slice la (F.loc.map _).length lc);rw[List.length_map]
  ·rw [k3,e2]
   show some (Value.slice sa F.stk.length sc)=some (.slice sa (F.stk.map _).length sc);rw[List.length_map]
 ·intro h0
  have hl:(A9 s).obs.length=R.obs.length:=by
   show ((A0 s).map _).length=_;have:=congrArg List.length hob;simp only[List.length_map] at this ⊢;omega
  obtain⟨b,c',e,_,hbl⟩:=h.slots.1.form Q8;have hrow:=h.slots.1;have hown:=h.slots.2 b (by rw [e];rfl);rw[hb] at e hrow
  cases e;refine⟨b,rfl,Nat.lt_of_lt_of_le hbl mv.size,(hne b _ hown).1,(hne b _ hown).2,fun i o hi=>?_⟩;have hi':(((A0 s).map (N5 s))[i]?:Option Ob)=some o:=hi;rw[List.getElem?_map] at hi';obtain⟨j,hj,rfl⟩:=Option.map_eq_some_iff.1 hi';have hO:(R.obs.map ObR.abs)[i]?=some (s.obs.getD j (0,[])):=by rw [hob,List.getElem?_map,hj];rfl
  rw[List.getElem?_map] at hO;obtain⟨O,hO1,hO2⟩:=Option.map_eq_some_iff.1 hO;have hil:=(List.getElem?_eq_some_iff.1 hO1).1;have hpk:N5 s j=(O.kind,O.fl.map (C4 (A0 s))):=by
   unfold N5;rw[List.getD_eq_getElem?_getD] at hO2
   cases e:s.obs[j]? with
   | none =>
    rw[e] at hO2;have e1:O.kind=0:=congrArg Prod.fst hO2;have e2:O.fl=[]:=congrArg Prod.snd hO2;rw[e1,e2];rfl
   | some q =>
    rw[e] at hO2;have e1:O.kind=q.1:=congrArg Prod.fst hO2;have e2:O.fl=q.2:=congrArg Prod.snd hO2;rw[e1,e2]
  have hcell:∀t,t < 2→w'.cell? ⟨b,i*2+t,none⟩=O.cells[t]?:=fun t ht=>by
   rw[World.cell?_of_block (w:=W) (a:=⟨b,i*2+t,none⟩) (keep b _ hown (Or.inr (Or.inr (Or.inr rfl)))),hrow.cellAt _ Q8];exact C3 ObR.cells_len hO1 ht
  obtain⟨va,vc,e1,v1⟩:=hvin (R.frs.length*2+i) O.fv O.fl (.fld i) (Or.inr (Or.inr ⟨i,O,hO1,rfl,rfl,rfl,rfl⟩));have k1:w'.cell? ⟨b,i*2+1,none⟩=some O.fv:=hcell 1 Q8;rw[hpk];refine⟨va,vc,hcell 0 Q8,?_,v1⟩;rw[k1,e1];show some (Value.slice va O.fl.length vc)=some (.slice va (O.fl.map _).length vc);rw[List.length_map]
theorem Pk3.step {W wr V w5:World} {pb:Nat} {hv hv':Value} {l:List ObR} {o:ObR} (h:Pk3 W pb hv l wr) (hpb:pb < W.heap.size) (hf:W.frozen? ⟨pb,4,none⟩=false) (hB:Below wr.heap.size wr V) (hg:V.grownBy w5 hv.ownBlock) (hr:w5.ownsRow W.heap.size 75 2 hv' (l.length+1) (l.flatMap ObR.cells++o.cells)) :
  w5.cell? ⟨pb,4,none⟩=some hv∧w5.frozen? ⟨pb,4,none⟩=false∧pb < w5.heap.size∧Pk3 W pb hv' (l++[o]) (w5.setCell ⟨pb,4,none⟩ hv'):=by
 have s1:=h.size;have s2:=hB.size;have s3:=hg.size;have hne:∀k,k < W.heap.size→some k≠hv.ownBlock:=fun k hk e=>by have:=(h.row.lt k e.symm).1;omega
 have hb:∀k,k < W.heap.size→w5.heap[k]?=wr.heap[k]?:=fun k hk=>(hg.block k Q8 (hne k hk)).trans (hB.block k Q8)
 have hc:∀j,w5.cell? ⟨pb,j,none⟩=wr.cell? ⟨pb,j,none⟩:=fun j=>World.cell?_of_block (w:=wr) (a:=⟨pb,j,none⟩) (hb pb hpb)
 have hz:∀j,w5.frozen? ⟨pb,j,none⟩=wr.frozen? ⟨pb,j,none⟩:=fun j=>World.frozen?_of_block (w:=wr) (a:=⟨pb,j,none⟩) (hb pb hpb)
 have y0:w5.cell? ⟨pb,4,none⟩=some hv:=(hc 4).trans h.c4;have y1:w5.frozen? ⟨pb,4,none⟩=false:=(hz 4).trans ((h.fz 4).trans hf);refine⟨y0,y1,by omega,hg.os.trans (hB.os.trans h.os),hg.tape.trans (hB.tape.trans h.tape),hg.output.trans (hB.output.trans h.output),by simp;omega,World.cell?_setCell_same _ _ _ y0,fun j hj=>?_,fun j=>?_,?_,fun k hk hkp=>?_⟩
 ·rw [show (w5.setCell ⟨pb,4,none⟩ hv').cell? ⟨pb,j,none⟩=w5.cell? ⟨pb,j,none⟩ from World.cell?_setCell_other _ _ _ _ (fun e=>hj (by injection e with e1 e2;exact e2.symm)),hc]
  exact h.cj j hj
 ·rw [World.frozen?_setCell,hz]
  exact h.fz j
 ·have:(w5.setCell ⟨pb,4,none⟩ hv').ownsRow W.heap.size 75 2 hv' (l.length+1) (l.flatMap ObR.cells++o.cells):=ownsRow_setCell_other hr (a:=⟨pb,4,none⟩) (fun e=>by have:=(hr.lt pb e).1;omega) _
  rw[List.length_append,List.flatMap_append];simpa using this
 ·rw [heap_setCell_other _ _ _ _ hkp,hb k hk]
  exact h.blk k hk hkp
def gP (own:Own) (g:PgR) (R:McR) (w:World) (e:Ending) (w':World):Prop :=
 ∃pb,e=.returned (.pointer (some ⟨pb,0,none⟩))∧Below w.heap.size w w'∧∀wb ab,wb < w.heap.size→ab < w.heap.size→own wb=none→own ab=none→¬g.blk wb→¬g.blk ab→a8P w' wb ab pb g (A9 R.abs)
theorem a7V:(Tryz.prog.info? 75).map (fun i=>(i.zero,i.size,i.bytes))=some (some (.agg #[.int .u8 0,.slice none 0 0]),2,32):=by kernel_rfl
theorem a4M {own:Own} {mb kb S E:Nat} {g:PgR} {R:McR} {w W1 U4 w4 V wr:World} {al:List Nat} {av sv cv hv:Value} {ol:List ObR}
  (h:A3 w own mb g R) (hp:F2 g) (hi:C1 g R.abs) (hal:al=A0 R.abs) (p1:Pk1 w R al kb av sv ol S E W1) (hU4:Below W1.heap.size W1 U4) (hf:fH R.frs U4 (.returned cv) w4) (hV:Below w4.heap.size w4 V)
  (p3:Pk3 (V.alloc (.cells #[.slice g.a g.n g.c,.int .i64 R.st,R.ov,cv,.slice none 0 0,.slice none 0 0] 81)) V.heap.size hv (N8 ol al) wr) :
  Calls Tryz.prog 73 #[.pointer (some ⟨V.heap.size,0,none⟩),.func (.func 74) #[] #[.pointer (some ⟨kb,0,none⟩)]] wr fun e w'=>e=.returned (.tuple #[])∧gP own g R w (.returned (.pointer (some ⟨V.heap.size,0,none⟩))) w':=by
 obtain⟨v,fl,hve,q1,q2,q3,q4,b4⟩:=hf
 cases hve;have ho:=hi.heapOk hp;have hlen40:al.length≤1000:=by rw [hal];exact hi.alive_len
 have hnd:al.Nodup:=by rw [hal];exact hi.alive.nodup
 have hlt:∀j,j∈al→j < R.obs.length:=fun j hj=>by
  rw[hal] at hj;have:=hi.alive.lt j hj;simpa [McR.abs] using this
 obtain⟨own',hm,hown⟩:=a4N h p1 hU4 q1 q2 q3 q4 b4 hV hnd hlt p3;have s1:=p1.sE;have s2:=hU4.size;have s3:=b4.size;have s4:=hV.size;have hBV:Below w.heap.size w V:=A1 hV (A1 b4 (A1 hU4 p1.bel));have hB1V:Below W1.heap.size W1 V:=A1 hV (A1 b4 hU4);have hW2:(V.alloc (.cells #[.slice g.a g.n g.c,.int .i64 R.st,R.ov,cv,.slice none 0 0,.slice none 0 0] 81)).heap.size=V.heap.size+1:=by simp
 have hwr:=p3.size;rw[hW2] at hwr;have s5:=hBV.size;have keepV:∀b,b < V.heap.size→wr.heap[b]?=V.heap[b]?:=fun b hb=>by
  rw[p3.blk b (by rw [hW2];omega) Q8];exact (Below.alloc (Below.refl _ _) (Nat.le_refl _) _).block b hb
 have hBwr:Below w.heap.size w wr:=⟨p3.os.trans hBV.os,p3.tape.trans hBV.tape,p3.output.trans hBV.output,by omega,fun k hk=>(keepV k Q8).trans (hBV.block k hk)⟩
 -- frames and objects,without their places
 have hfl:fl.map FrR.abs=R.frs.map FrR.abs:=by
  apply List.ext_getElem?
  intro i;rw[List.getElem?_map,List.getElem?_map]
  cases e:R.frs[i]? with
  | none=>rw [List.getElem?_eq_none (by rw [q2];exact List.getElem?_eq_none_iff.1 e)]
  | some f=>obtain ⟨lv,sv,k1,_⟩:=q3 i f e;rw [k1];first | rfl | done
 have hob:(N8 ol al).map ObR.abs=al.map fun j=>R.abs.obs.getD j (0,[]):=by
  unfold N8;rw[List.map_map];refine List.map_congr_left fun j hj=>?_
  obtain⟨o,ho⟩:∃o,R.obs[j]?=some o:=⟨_,List.getElem?_eq_getElem (hlt j hj)⟩
  obtain⟨fv,h1,_⟩:=p1.new j o ho;show ObR.abs (a6G ol j)=(R.obs.map ObR.abs).getD j (0,[]);rw[fQ h1,List.getD_eq_getElem?_getD,List.getElem?_map,ho];rfl
 have hlists:∀q v l t,J3 ⟨R.st,R.ov,R.out,cv,fl,hv,N8 ol al,.slice none 0 0,[]⟩ q v l t→l.length≤1000∧∀x,x∈l→x.1=2→0≤x.2:=fun q v l t hq=>by
  have frm:∀(i:Nat) F,fl[i]?=some F→∃f,R.frs[i]?=some f∧F.loc=f.loc∧F.stk=f.stk:=fun i F hF=>by
   have hi:i < R.frs.length:=by rw [← q2];exact (List.getElem?_eq_some_iff.1 hF).1
   obtain⟨lv,sv,k1,_⟩:=q3 i _ (List.getElem?_eq_getElem hi);rw[hF] at k1
   cases k1;exact⟨_,List.getElem?_eq_getElem hi,rfl,rfl⟩
  have fval:∀f,f∈R.frs→∀x,x∈f.loc++f.stk→x.1=2→0≤x.2:=fun f hf x hx h2=>((hi.vals f.abs (List.mem_map.2 ⟨f,hf,rfl⟩) x hx).ref h2).1
  rcases hq with ⟨i,F,hF,rfl,rfl,rfl,rfl⟩ | ⟨i,F,hF,rfl,rfl,rfl,rfl⟩ | ⟨j,O,hO,rfl,rfl,rfl,rfl⟩
  ·obtain ⟨f,hf,e1,e2⟩:=frm i F hF
   have hm:=List.mem_of_getElem? hf;rw[e1];exact⟨(ho.fr f hm).1,fun x hx=>fval f hm x (by simp [hx])⟩
  ·obtain ⟨f,hf,e1,e2⟩:=frm i F hF
   have hm:=List.mem_of_getElem? hf;rw[e2];exact⟨(ho.fr f hm).2,fun x hx=>fval f hm x (by simp [hx])⟩
  ·unfold N8 at hO
   rw[List.getElem?_map] at hO;obtain⟨k,hk,rfl⟩:=Option.map_eq_some_iff.1 hO;obtain⟨o,hko⟩:∃o,R.obs[k]?=some o:=⟨_,List.getElem?_eq_getElem (hlt k (List.mem_of_getElem? hk))⟩
   obtain⟨fv,h1,_⟩:=p1.new k o hko;rw[fQ h1];have hm:=ho.refs o (List.mem_of_getElem? hko);exact⟨hm.2,fun x hx h2=>(hm.1 x hx h2).1⟩
 -- the list of what is alive is no part of it
 have hnot:∀b,w.heap.size≤b→b < V.heap.size→(b < S∨E≤b)→b < W1.heap.size→own' b=none:=fun b h0 hb hz hw1=>by
  cases e:own' b with
  | none=>rfl
  | some t =>
   exfalso
   have ht:=(hown b t).1 e
   cases t with
   | mach=>have:b=V.heap.size:=ht;omega
   | out=>have:=h.lt b _ (h.out.2 b ht);omega
   | called=>have:=q1.lt b ht;omega
   | slots=>have:=p3.row.lt b ht;rw [hW2] at this;omega
   | draws=>cases ht
   | loc i =>
    obtain⟨F,hF,hb'⟩:=ht;have hi:i < R.frs.length:=by rw [← q2];exact (List.getElem?_eq_some_iff.1 hF).1
    obtain⟨lv,sv,k1,k2,_⟩:=q3 i _ (List.getElem?_eq_getElem hi);have hF':fl[i]?=some F:=hF;rw[hF'] at k1
    cases k1;have:=k2.lt b hb';omega
   | stk i =>
    obtain⟨F,hF,hb'⟩:=ht;have hi:i < R.frs.length:=by rw [← q2];exact (List.getElem?_eq_some_iff.1 hF).1
    obtain⟨lv,sv,k1,_,k3,_⟩:=q3 i _ (List.getElem?_eq_getElem hi);have hF':fl[i]?=some F:=hF;rw[hF'] at k1
    cases k1;have:=k3.lt b hb';omega
   | fld j =>
    obtain⟨O,hO,hb'⟩:=ht;have hO':(N8 ol al)[j]?=some O:=hO;unfold N8 at hO';rw[List.getElem?_map] at hO';obtain⟨k,hk,rfl⟩:=Option.map_eq_some_iff.1 hO';obtain⟨o,hko⟩:∃o,R.obs[k]?=some o:=⟨_,List.getElem?_eq_getElem (hlt k (List.mem_of_getElem? hk))⟩
    obtain⟨fv,h1,h2,h3⟩:=p1.new k o hko;rw[fQ h1] at hb';have:=(h2.lt b hb').1;have:=h3 b hb';omega
 have p1V:=p1.later hB1V;have hkeep:vH wr own' kb al:=fun U hU hblk=>by
  have blk:∀b,w.heap.size≤b→(b < S∨E≤b)→b < W1.heap.size→U.heap[b]?=V.heap[b]?:=fun b h0 hz hw1=>(hblk b Q8 (hnot b h0 Q8 hz hw1)).trans (keepV b Q8)
  have hk1:=p1.klt;obtain⟨a,c,e,hna,hbn⟩:=aA.of_owns p1V.arow;have hkc:U.cell? ⟨kb,0,none⟩=some av:=by
   rw[World.cell?_of_block (w:=V) (a:=⟨kb,0,none⟩) (blk kb p1.kge p1.kk hk1)];exact p1V.k0
  refine⟨⟨a,c,by rw [hkc,e],fun h0=>?_⟩,by omega⟩;obtain⟨b,rfl,hb,hc⟩:=hna h0;have hb':av.ownBlock=some b:=by rw [e];rfl
  have hbS:=(p1.ab b hb').1;have hb1:=(p1.arow.lt b hb').2;refine⟨b,rfl,by omega,fun i x hx=>?_⟩;rw[World.cell?_of_block (w:=V) (a:=⟨b,i,none⟩) (blk b (hbn b rfl).1 (Or.inl hbS) hb1)];exact hc i x hx
 refine (a6E hm al hlen40 kb hkeep (by show fl.length≤1000;rw [q2];exact ho.frn) (by show (N8 ol al).length≤1000;unfold N8;rw [List.length_map];exact hlen40) hlists).mono ?_;rintro e w' ⟨rfl,mv⟩;refine⟨rfl,V.heap.size,rfl,⟨mv.os.trans hBwr.os,mv.tape.trans hBwr.tape,mv.output.trans hBwr.output,Nat.le_trans hBwr.size mv.size,fun k hk=>(mv.keep k Q8 fun q v l t hq e=>?_).trans (hBwr.block k hk)⟩,fun wb ab h1 h2 o1 o2 b1 b2=>?_⟩
 ·have ht:=(hown k t).1 e
  rcases hq with ⟨i,F,hF,rfl,rfl,rfl,rfl⟩ | ⟨i,F,hF,rfl,rfl,rfl,rfl⟩ | ⟨j,O,hO,rfl,rfl,rfl,rfl⟩
  ·obtain ⟨F',hF',hb'⟩:=ht
   have hi:i < R.frs.length:=by rw [← q2];exact (List.getElem?_eq_some_iff.1 hF').1
   obtain⟨lv,sv,k1,k2,_⟩:=q3 i _ (List.getElem?_eq_getElem hi);have hF'':fl[i]?=some F':=hF';rw[hF''] at k1
   cases k1;have:=k2.lt k hb';omega
  ·obtain ⟨F',hF',hb'⟩:=ht
   have hi:i < R.frs.length:=by rw [← q2];exact (List.getElem?_eq_some_iff.1 hF').1
   obtain⟨lv,sv,k1,_,k3,_⟩:=q3 i _ (List.getElem?_eq_getElem hi);have hF'':fl[i]?=some F':=hF';rw[hF''] at k1
   cases k1;have:=k3.lt k hb';omega
  ·obtain ⟨O',hO',hb'⟩:=ht
   have hO'':(N8 ol al)[j]?=some O':=hO';unfold N8 at hO'';rw[List.getElem?_map] at hO'';obtain⟨x,hx,rfl⟩:=Option.map_eq_some_iff.1 hO'';obtain⟨o,hko⟩:∃o,R.obs[x]?=some o:=⟨_,List.getElem?_eq_getElem (hlt x (List.mem_of_getElem? hx))⟩
   obtain⟨fv,h1,h2,h3⟩:=p1.new x o hko;rw[fQ h1] at hb';have:=(h2.lt k hb').1;omega
 ·have none_of:∀b,b < w.heap.size→own b=none→own' b=none:=fun b hb hn=>by
   cases e:own' b with
   | none=>rfl
   | some t =>
    exfalso
    have ht:=(hown b t).1 e;have hlow:t=.out:=by
     cases t with
     | mach=>have:b=V.heap.size:=ht;omega
     | out=>rfl
     | called=>have:=q1.lt b ht;omega
     | slots=>have:=p3.row.lt b ht;rw [hW2] at this;omega
     | draws=>cases ht
     | loc i =>
      obtain⟨F,hF,hb'⟩:=ht;have hi:i < R.frs.length:=by rw [← q2];exact (List.getElem?_eq_some_iff.1 hF).1
      obtain⟨lv,sv,k1,k2,_⟩:=q3 i _ (List.getElem?_eq_getElem hi);have hF':fl[i]?=some F:=hF;rw[hF'] at k1
      cases k1;have:=k2.lt b hb';omega
     | stk i =>
      obtain⟨F,hF,hb'⟩:=ht;have hi:i < R.frs.length:=by rw [← q2];exact (List.getElem?_eq_some_iff.1 hF).1
      obtain⟨lv,sv,k1,_,k3,_⟩:=q3 i _ (List.getElem?_eq_getElem hi);have hF':fl[i]?=some F:=hF;rw[hF'] at k1
      cases k1;have:=k3.lt b hb';omega
     | fld j =>
      obtain⟨O,hO,hb'⟩:=ht;have hO':(N8 ol al)[j]?=some O:=hO;unfold N8 at hO';rw[List.getElem?_map] at hO';obtain⟨x,hx,rfl⟩:=Option.map_eq_some_iff.1 hO';obtain⟨o,hko⟩:∃o,R.obs[x]?=some o:=⟨_,List.getElem?_eq_getElem (hlt x (List.mem_of_getElem? hx))⟩
      obtain⟨fv,h1,h2,h3⟩:=p1.new x o hko;rw[fQ h1] at hb';have:=(h2.lt b hb').1;omega
    subst hlow;have:=h.out.2 b ht;rw[hn] at this
    cases this
  have mv':=mv;rw[hal] at mv';exact a6N hm (by rw [← hal];exact mv) rfl rfl hfl (by rw [← hal];exact hob) (none_of wb h1 o1) (none_of ab h2 o2) b1 b2
end Go.Proofs.YtbkmgoffiigdbabGreatDoor
