import Derived.Test.YtbkmgoffiigdbaaGreatDoorVFb
import Derived.Test.YtbkmgoffiigdbaaGreatDoorVEg
namespace Go.Proofs.YtbkmgoffiigdbaaGreatDoor
open Go.RowKit Go.Sort Go.Proofs.Tryz
set_option maxHeartbeats 4000000
set_option maxRecDepth 100000
theorem a2P {own:Own} {mb:Nat} {g:PgR} {R:McR} {w:World} (h:A4 w own mb g R) (hf:R.frs.length<=1000) (hn:R.obs.length<=1000) :
  Calls prog 163 #[zB mb] w fun e w'=>∃v,e=.returned v/\w'.ownsRow w.heap.size 84 1 v (R.frs.length*2+R.obs.length) (T4 R.frs++cJ R.obs)/\L0d w w':=by
 have xu:mb < w.heap.size:=h.lt mb _ h.me;obtain⟨xk,hi,hz,xf,xg⟩:=info_parts sV;have HI:=hid hi;have HZ:=hid hz;have xr:=hid xf;have xo:=hid xg;have HF:Hid (∀W,L0d w W->Calls prog 207 #[.pointer (some ⟨mb,3,none⟩)] W fun e w'=>∃v,e=.returned v/\w'.ownsRow W.heap.size 84 1 v (R.frs.length*2) (T4 R.frs)/\L0d W w'):=fun W hW=>kP (h.same hW.size fun k hk=>hW.block k hk) hf
 have HO:Hid (∀U W v,L0d w U->L0d U W->W.ownsRow U.heap.size 84 1 v (R.frs.length*2) (T4 R.frs)->∀W',L0d W W'->Calls prog 208 #[.pointer (some ⟨mb,4,none⟩)] W' fun e w' =>
   ∃a3 c3,e=.returned (.slice a3 R.obs.length c3)/\w'.ownsRow w.heap.size 84 1 v (R.frs.length*2) (T4 R.frs)/\(0 < R.obs.length->∃d,a3=some d/\∀j u,(cJ R.obs)[j]?=some u->w'.cell? (d.add j)=some u)/\(∀u∈cJ R.obs,u.oneCell'=true)/\L0d w w'):=by
  intro U W v hU hW hrow W' hW';have hB:=A3 hW' (A3 hW hU);refine (qO (h.same hB.size fun k hk=>hB.block k hk) hn).mono ?_;rintro e w' ⟨v3,rfl,xd,xa⟩;obtain⟨a3,c3,rfl,hs⟩:=a3O xd;have xp:=A3 xa hW';refine⟨a3,c3,rfl,E1 (A6 hrow fun b hb=>xp.block b (hrow.lt b hb).2) hU.size,hs,fun u hu=>?_,A3 xa hB⟩;obtain⟨o,ho,rfl⟩:=List.mem_map.1 hu
  obtain⟨k,hk⟩:=List.mem_iff_getElem?.1 ho;obtain⟨fa,fc,e⟩:=E0 (h.fld k o hk);rw[e];rfl
 clear h hi hz xf xg;have xq:(cJ R.obs).length=R.obs.length*1:=by simp [cJ]
 generalize cJ R.obs=fl at *
 generalize T4 R.frs=pl at *
 go_enter func163,ntmps163;go_wp2_with fail;go_region_law (first | (go_simp;go_at_call 207;refine (HF.out _ ?_).mono ?_;exact P5;rintro e w2 ⟨v2,rfl,xb,xh⟩;have xm:=hid (HO.out _ w2 v2 P5 xh xb);clear xb xh;dsimp only) | (go_simp;go_at_call 208;refine (xm.out _ ?_).mono ?_;exact P5;rintro e w3 ⟨a3,c3,rfl,xb,xd,xc,xa⟩;have xj:=hid xb;have xi:=hid xd;have xe:=hid xc;have xs:=hid xa;have xt:=xa.size;clear xb xd xc xa;dsimp only) | (refine zE rfl (.tmp 6) (.tmp 10) 131 rfl w.heap.size 84 xk _ 1 24 underlying131 HI.out HZ.out xr.out xo.out rfl R4 v2 (R.frs.length*2) pl (by first | rfl | simp [Act.eval,Act.put]) (by repeat (first | exact xj.out | refine World.ownsRow.drew ?_)) a3 R.obs.length c3 fl (by first | rfl | simp [Act.eval,Act.put]) xq (by first | exact xi.out | (intro h0;obtain ⟨d,e1,e2⟩:=xi.out h0;exact ⟨d,e1,e2⟩)) xe.out Q7 R5 Q4 ?_;intro v4 w4 hown4 hgrow4 _;have xl:=hid (M8 (by repeat (first | exact xs.out | refine L3c ?_)) (by repeat (first | exact xj.out | refine World.ownsRow.drew ?_)) hgrow4);have xn:=hid hown4;clear hown4 hgrow4))
 all_goals
  go_wp2_with fail;go_ret;exact⟨_,rfl,xn.out,xl.out⟩
theorem a9a {l:List Nat} {x i:Nat} (h:x∉l.take i) (hx:l[i]?=some x):ixA l x=some i:=by
 induction l generalizing i with
 | nil=>simp at hx
 | cons a l ih =>
  cases i with
  | zero =>
   simp at hx;rw[ixA,if_pos hx]
  | succ i =>
   simp at hx;rw[List.take_succ_cons] at h;rw[ixA,if_neg (fun e=>h (by simp [e])),ih (fun e=>h (by simp [e])) hx];rfl
def oV (al:List Nat) (x:Nat):Int:=match ixA al x with | some i=>(i:Int) | none => -1
theorem a2H (a:Option Addr) (l:List Nat) (c x:Nat) (w:World) (hl:l.length<=1000) (hs:Y8 w a l) :
  Calls prog 197 #[.slice a l.length c,J (x:Int)] w fun e w'=>e=.returned (J (oV l x))/\L0d w w':=by
 have HS:=hid hs;clear hs;go_enter func197,ntmps197;go_wp2_with fail;go_loopw [8] (fun v wr=>∃i:Nat,i<=l.length/\v=J i/\x∉l.take i/\L0d w wr) (fun v _=>l.length - (intOf v).toNat)
 case atStart=>exact ⟨0,L4c _,rfl,by simp,L3b _ _⟩
 case round =>
  obtain⟨i,hi,rfl,xd,xa⟩:=hrel;have xb:=hid xa;have xc:=hid xd;by_cases hlt:i < l.length
  ·obtain ⟨b,rfl,hb,hc⟩:=HS.out R5
   obtain⟨y,hy⟩:∃y,l[i]?=some y:=⟨_,L1b hlt⟩
   have k0:=(xa.cell (p:=⟨b,i,none⟩) hb).trans (hc i y hy);have xe:b < wr.heap.size:=L0a hb xa.size;have HY:=hid hy;clear hc xa xd hy
   cases hxy:((x:Int) == (y:Int))
   ·go_wp2_with fail
    go_roundw
    case rel=>exact ⟨i+1,by omega,by go_num,by
     rw[List.take_add_one,HY.out];simp only[Option.toList_some,List.mem_append,List.mem_singleton,not_or];exact⟨xc.out,fun e=>by subst e;simp at hxy⟩,by repeat (first | exact xb.out | refine L3c ?_ | refine Below.drewQ ?_ _)⟩
    case measure=>simp [intOf];omega
   ·have HX:Hid (oV l x=(i:Int)):=by
     refine hid ?_;have:x=y:=by have:=beq_iff_eq.1 hxy;omega
     subst this;unfold oV;rw[a9a xc.out HY.out]
    go_wp2_with fail;go_ret;exact⟨by rw [HX.out];rfl,by repeat (first | exact xb.out | refine L3c ?_ | refine Below.drewQ ?_ _)⟩
  ·obtain rfl:i=l.length:=by omega
   rw[List.take_length] at xc;have HX:Hid (oV l x = -1):=by
    refine hid ?_;unfold oV;rw[a5m xc.out]
   clear xa xd;go_wp2_with fail;go_ret;exact⟨by rw [HX.out];rfl,by repeat (first | exact xb.out | refine L3c ?_ | refine Below.drewQ ?_ _)⟩
structure a1r (W:World) (kb:Nat) (al:List Nat):Prop where
 c0:∃a c,W.cell? ⟨kb,0,none⟩=some (.slice a al.length c)/\Y8 W a al
 lt:kb < W.heap.size
theorem a7y {W:World} {kb:Nat} {al:List Nat} (h:a1r W kb al) (hl:al.length<=1000) (x:Nat) :
  Calls prog 196 #[J (x:Int),zB kb] W fun e w'=>e=.returned (J (oV al x))/\L0d W w':=by
 obtain⟨⟨a,c,c0,hn⟩,hk⟩:=h;have HN:=hid hn;clear hn;go_enter func196,ntmps196;go_wp2_with fail;refine (a2H a al c x _ hl HN.out).mono ?_;rintro e w1 ⟨rfl,hb⟩;have HB:=hid hb;clear hb;go_wp2_with fail;go_ret;exact⟨rfl,HB.out⟩
def gG (r:Int):Val:=if r < 0 then (0,0) else (2,r)
theorem tR (r:Int) (W:World):Calls prog 167 #[J r] W fun e w'=>e=.returned (.agg #[zC (gG r).1,J (gG r).2])/\L0d W w':=by
 go_enter func167,ntmps167;by_cases h:r < 0
 ·have HO:Hid (gG r=(0,0)):=by refine hid ?_;unfold gG;rw [if_pos h]
  go_wp2_with fail;refine bodyPost_ret (v:=.agg #[zC 0,J 0]) (by simp [results,results167,go_sem]) rfl ?_;rw[HO.out];exact⟨rfl,by repeat (first | exact L3b _ _ | refine L3c ?_ | refine Below.drewQ ?_ _ | refine Below.setCell ?_ Q2 _ | refine L3a ?_ Q2 _)⟩
 ·have HO:Hid (gG r=(2,r)):=by refine hid ?_;unfold gG;rw [if_neg h]
  go_wp2_with (go_at_call 214;refine (dS _ _).mono ?_;rintro e w' ⟨rfl,o4,rfl⟩)
  refine bodyPost_ret (v:=.agg #[zC 2,J r]) (by simp [results,results167,go_sem]) rfl ?_;rw[HO.out];exact⟨rfl,by repeat (first | exact L3b _ _ | refine L3c ?_ | refine Below.drewQ ?_ _ | refine Below.setCell ?_ Q2 _ | refine L3a ?_ Q2 _)⟩
theorem a5D (al:List Nat) (x:Nat):J8 al (2,(x:Int))=gG (oV al x):=by
 unfold J8 gG oV;rw[if_pos rfl];have:((2:Int),(x:Int)).2.toNat=x:=by simp
 rw[this]
 cases ixA al x with
 | none=>rfl
 | some i=>simp only;rw [if_neg R5]
section
variable {R:McR} {W wr:World} {g:PgR} {h:Val->Val} {i k mb q:Nat} {l l':List Val} {own:Own} {t:Tag} {v v':Value} {x:Val}
def U0 (R:McR) (q:Nat) (v:Value) (l:List Val) (t:Tag):Prop :=
 (∃i f,R.frs[i]?=some f/\q=i*2/\v=f.lv/\l=f.loc/\t=.loc i) \/
 (∃i f,R.frs[i]?=some f/\q=i*2+1/\v=f.sv/\l=f.stk/\t=.stk i) \/
 (∃j o,R.obs[j]?=some o/\q=R.frs.length*2+j/\v=o.fv/\l=o.fl/\t=.fld j)
theorem oZ {l:List FrR} {f:FrR} (h:l[i]?=some f):(T4 l)[i*2]?=some f.lv/\(T4 l)[i*2+1]?=some f.sv:=by
 have hc:∀x:FrR,([x.lv,x.sv]:List Value).length=2:=fun _=>rfl
 have h0:=D3 (c:=fun f:FrR=>[f.lv,f.sv]) hc (j:=0) h R5;have h1:=D3 (c:=fun f:FrR=>[f.lv,f.sv]) hc (j:=1) h R5;exact⟨h0,h1⟩
theorem U0.get (h:U0 R q v l t):(T4 R.frs++cJ R.obs)[q]?=some v:=by
 rcases h with ⟨i,f,hf,rfl,rfl,_⟩ | ⟨i,f,hf,rfl,rfl,_⟩ | ⟨j,o,ho,rfl,rfl,_⟩
 ·have:=(L1a.1 hf).1
  rw[List.getElem?_append_left (by rw [eT];omega)];exact (oZ hf).1
 ·have:=(L1a.1 hf).1
  rw[List.getElem?_append_left (by rw [eT];omega)];exact (oZ hf).2
 ·rw [List.getElem?_append_right (by rw [eT];omega),eT]
  unfold cJ;rw[List.getElem?_map,Nat.add_sub_cancel_left,ho];rfl
theorem U0.all (h:q < R.frs.length*2+R.obs.length):∃v l t,U0 R q v l t:=by
 by_cases hq:q < R.frs.length*2
 ·obtain ⟨f,hf⟩:∃f,R.frs[q / 2]?=some f:=⟨_,L1b R5⟩
  by_cases h2:q % 2=0
  ·exact ⟨_,_,_,L4a ⟨q / 2,f,hf,by omega,rfl,rfl,rfl⟩⟩
  ·exact ⟨_,_,_,L4b (L4a ⟨q / 2,f,hf,by omega,rfl,rfl,rfl⟩)⟩
 ·obtain ⟨o,ho⟩:∃o,R.obs[q - R.frs.length*2]?=some o:=⟨_,L1b R5⟩
  exact⟨_,_,_,L4b (L4b ⟨q - R.frs.length*2,o,ho,by omega,rfl,rfl,rfl⟩)⟩
theorem U0.inj {q':Nat} (h:U0 R q v l t) (h':U0 R q' v' l' t):q=q':=by
 rcases h with ⟨i,f,hf,rfl,rfl,rfl,rfl⟩ | ⟨i,f,hf,rfl,rfl,rfl,rfl⟩ | ⟨j,o,ho,rfl,rfl,rfl,rfl⟩ <;>
 rcases h' with ⟨i',f',xa,rfl,rfl,rfl,e⟩ | ⟨i',f',xa,rfl,rfl,rfl,e⟩ | ⟨j',o',xb,rfl,rfl,rfl,e⟩ <;>
 first | (cases e;rfl) | cases e
theorem U0.same {t':Tag} (h:U0 R q v l t) (h':U0 R q v' l' t'):v=v'/\l=l'/\t=t':=by
 rcases h with ⟨i,f,hf,rfl,rfl,rfl,rfl⟩ | ⟨i,f,hf,rfl,rfl,rfl,rfl⟩ | ⟨j,o,ho,rfl,rfl,rfl,rfl⟩ <;>
 rcases h' with ⟨i',f',xa,e,rfl,rfl,rfl⟩ | ⟨i',f',xa,e,rfl,rfl,rfl⟩ | ⟨j',o',xb,e,rfl,rfl,rfl⟩
 ·obtain rfl:i=i':=by omega
  rw[hf] at xa;cases xa;exact⟨rfl,rfl,rfl⟩
 ·omega
 ·have:=(L1a.1 hf).1;omega
 ·omega
 ·obtain rfl:i=i':=by omega
  rw[hf] at xa;cases xa;exact⟨rfl,rfl,rfl⟩
 ·have:=(L1a.1 hf).1;omega
 ·have:=(L1a.1 xa).1;omega
 ·have:=(L1a.1 xa).1;omega
 ·obtain rfl:j=j':=by omega
  rw[ho] at xb;cases xb;exact⟨rfl,rfl,rfl⟩
theorem A4.list {w:World} (h:A4 w own mb g R) {q:Nat} {v:Value} {l:List Val} {t:Tag} (hq:U0 R q v l t):Row w own t 92 2 v l.length (A7 l):=by
 rcases hq with ⟨i,f,hf,rfl,rfl,rfl,rfl⟩ | ⟨i,f,hf,rfl,rfl,rfl,rfl⟩ | ⟨j,o,ho,rfl,rfl,rfl,rfl⟩
 ·exact h.loc i f hf
 ·exact h.stk i f hf
 ·exact h.fld j o ho
def dK (h:Val->Val) (i k q:Nat) (l:List Val):List Val:=if q < i then l.map h else if q=i then (l.take k).map h++l.drop k else l
theorem gR (h:Val->Val) (i k:Nat) (l:List Val):dK h i k i l=(l.take k).map h++l.drop k:=by
 unfold dK;rw[if_neg R5,if_pos rfl]
theorem nZ (hx:l[k]?=some x):(dK h i k i l)[k]?=some x:=by
 have hk:=(L1a.1 hx).1;rw[gR,List.getElem?_append_right Q9];simp[Nat.min_eq_left (Nat.le_of_lt hk),hx]
theorem vP (hx:l[k]?=some x):(dK h i k i l).set k (h x)=dK h i (k+1) i l:=by
 have hk:=(L1a.1 hx).1;rw[gR,gR,List.set_append_right _ _ Q9];have e1:k - ((l.take k).map h).length=0:=by simp;omega
 have e2:l.drop k=x::l.drop (k+1):=by
  rw[List.drop_eq_getElem_cons hk];congr 1
  exact (L1a.1 hx).2
 rw[e1,e2,List.set_cons_zero,List.take_add_one,hx];simp
theorem a2j (hx:l[k]?=some x) (he:h x=x):dK h i (k+1) i l=dK h i k i l:=by
 rw[<- vP hx,he];obtain⟨hl,hg⟩:=L1a.1 (nZ (h:=h) (i:=i) hx)
 conv=>lhs;rw [<- hg]
 exact List.set_getElem_self hl
theorem oA {k':Nat} (hq:q≠i) (l:List Val):dK h i k' q l=dK h i k q l:=by
 unfold dK;split
 ·rfl
 ·first | rfl | rw [if_neg hq]
theorem a2i : dK h (i+1) 0 i l=dK h i l.length i l:=by
 rw[gR];unfold dK;rw[if_pos R5];simp
theorem zG (hq:q≠i) (l:List Val):dK h (i+1) 0 q l=dK h i k q l:=by
 unfold dK;by_cases h1:q < i
 ·rw [if_pos R5,if_pos h1]
 ·rw [if_neg R5,if_neg h1,if_neg hq]
  split
  ·simp
  ·rfl
structure bR (W:World) (own:Own) (R:McR) (h:Val->Val) (i k:Nat) (wr:World):Prop where
 os:wr.os=W.os
 tape:wr.tape=W.tape
 output:wr.output=W.output
 size:W.heap.size<=wr.heap.size
 rows:∀q v l t,U0 R q v l t->Row wr own t 92 2 v l.length (A7 (dK h i k q l))
 keep:∀b,b < W.heap.size->(∀q v l t,U0 R q v l t->own b≠some t)->wr.heap[b]?=W.heap[b]?
theorem bR.start (hm:A4 W own mb g R) (h:Val->Val) (hB:L0d W wr):bR W own R h 0 0 wr:=by
 refine⟨hB.os,hB.tape,hB.output,hB.size,fun q v l t hq=>?_,fun b hb _=>hB.block b hb⟩;have e:dK h 0 0 q l=l:=by
  unfold dK;rw[if_neg R5];split
  ·simp
  ·rfl
 rw[e];exact (hm.list hq).kept fun k hk=>⟨hB.block k (hm.lt k _ hk),hk⟩
theorem bR.later {wx:World} (hm:bR W own R h i k wr) (hB:L0d wr wx):bR W own R h i k wx:=by
 refine⟨hB.os.trans hm.os,hB.tape.trans hm.tape,hB.output.trans hm.output,L5a hm.size hB.size,fun q v l t hq=>?_,fun b hb hn=>(hB.block b (L0a hb hm.size)).trans (hm.keep b hb hn)⟩;obtain⟨h1,h2⟩:=hm.rows q v l t hq;exact⟨A6 h1 fun b hb=>hB.block b (h1.lt b hb).2,h2⟩
theorem bR.set {fb fc:Nat} (hm:bR W own R h i k wr) (hq:U0 R i v l t) (hv:v=.slice (zA fb) l.length fc) (hx:l[k]?=some x) :
  bR W own R h i (k+1) ((wr.setCell ⟨fb,k*2,none⟩ (zC (h x).1)).setCell ⟨fb,k*2+1,none⟩ (J (h x).2)):=by
 have hr:=hm.rows i v l t hq;have xb:own fb=some t:=hr.2 fb (by rw [hv];rfl);have xa:∀b,b≠fb->((wr.setCell ⟨fb,k*2,none⟩ (zC (h x).1)).setCell ⟨fb,k*2+1,none⟩ (J (h x).2)).heap[b]?=wr.heap[b]?:=fun b hb=>by
  rw[heap_setCell_other _ _ _ _ hb,heap_setCell_other _ _ _ _ hb]
 refine⟨hm.os,hm.tape,hm.output,by have:=hm.size;simpa using this,fun q v' l' t' hq'=>?_,fun b hb hn=>?_⟩
 ·by_cases e:q=i
  ·subst e
   obtain⟨rfl,rfl,rfl⟩:=hq.same hq';have h1:=hr.1;rw[hv] at h1;have h2:=(World.ownsRow.stored (World.ownsRow.stored h1 (k*2) (zC (h x).1)).1 (k*2+1) (J (h x).2)).1;rw[<- eL (nZ hx),vP hx] at h2;rw[hv];exact⟨h2,fun b hb=>by rw [<- hv] at hb;exact hr.2 b hb⟩
  ·have xc:=hm.rows q v' l' t' hq'
   rw[oA e];exact xc.kept fun b hb=>⟨xa b (fun e'=>by
    rw[e',xb] at hb
    cases hb;exact e (hq'.inj hq)),hb⟩
 ·rw [xa b (fun e=>hn i v l t hq (by rw [e];exact xb))]
  exact hm.keep b hb hn
theorem bR.skip (hm:bR W own R h i k wr) (hq:U0 R i v l t) (hx:l[k]?=some x) (he:h x=x):bR W own R h i (k+1) wr:=by
 refine⟨hm.os,hm.tape,hm.output,hm.size,fun q v' l' t' hq'=>?_,hm.keep⟩;by_cases e:q=i
 ·subst e
  obtain⟨rfl,rfl,rfl⟩:=hq.same hq';rw[a2j hx he];exact hm.rows _ _ _ _ hq
 ·rw [oA e]
  exact hm.rows _ _ _ _ hq'
theorem bR.next (hm:bR W own R h i l.length wr) (hq:U0 R i v l t):bR W own R h (i+1) 0 wr:=by
 refine⟨hm.os,hm.tape,hm.output,hm.size,fun q v' l' t' hq'=>?_,hm.keep⟩;by_cases e:q=i
 ·subst e
  obtain⟨rfl,rfl,rfl⟩:=hq.same hq';rw[a2i];exact hm.rows _ _ _ _ hq
 ·rw [zG (k:=l.length) e]
  exact hm.rows _ _ _ _ hq'
def uZ (W:World) (own:Own) (R:McR) (al:List Nat) (e:Ending) (w':World):Prop:=e=.returned (.tuple #[])/\bR W own R (J8 al) (R.frs.length*2+R.obs.length) 0 w'
def rZ (W:World) (own:Own) (kb:Nat) (al:List Nat):Prop:=∀V:World,W.heap.size<=V.heap.size->(∀b,b < W.heap.size->own b=none->V.heap[b]?=W.heap[b]?)->a1r V kb al
theorem bR.alv {kb:Nat} {al:List Nat} (hm:bR W own R h i k wr) (ha:rZ W own kb al):a1r wr kb al :=
 ha wr hm.size fun b hb hn=>hm.keep b hb fun q v l t _=>by rw [hn];simp
theorem a5u (h:A4 W own mb g R) (al:List Nat) (hal:al.length<=1000) (kb:Nat) (hkp:rZ W own kb al) (hf:R.frs.length<=1000) (hn:R.obs.length<=1000)
  (hls:∀q v l t,U0 R q v l t->l.length<=1000/\∀x,x∈l->x.1=2->0<=x.2) :
  Calls prog 119 #[zB mb,.func (.func 196) #[] #[zB kb]] W fun e w'=>uZ W own R al e w':=by
 have xx:=hid (a2P h hf hn);have yd:Hid (∀wr,L0d W wr->bR W own R (J8 al) 0 0 wr):=fun wr hB=>bR.start h _ hB
 have yj:=hid hkp;have yc:=hid hls;have xv:Hid (∀b t,own b=some t->b < W.heap.size):=h.lt;have xq:Hid (∀q,q < R.frs.length*2+R.obs.length->∃v l t,U0 R q v l t):=fun q hq=>U0.all hq
 have hN:R.frs.length*2+R.obs.length<=3000:=by omega
 have xj:Hid (∀e w',uZ W own R al e w'↔e=.returned (.tuple #[])/\bR W own R (J8 al) (R.frs.length*2+R.obs.length) 0 w'):=fun e w'=>Iff.rfl
 clear h hkp hls hf hn;generalize R.frs.length*2+R.obs.length=N at *
 obtain⟨xs,xw⟩:∃xs,xs=T4 R.frs++cJ R.obs:=⟨_,rfl⟩
 have xr:Hid (∀q v l t,U0 R q v l t->xs[q]?=some v):=fun q v l t hq=>by rw [xw];exact hq.get
 rw[<- xw] at xx;clear xw;go_enter func119,ntmps119;go_wp2_with (go_at_call 163;refine xx.out.mono ?_;rintro e w2 ⟨v2,rfl,xu,yb⟩;obtain ⟨la,lc,rfl⟩:=U8 xu;have ye:=hid xu;have xk:=hid (yd.out _ yb);clear xu yb)
 clear xx yd;go_loopw [11] (fun vi wr=>∃i:Nat,i<=N/\vi=J i/\bR W own R (J8 al) i 0 wr/\wr.ownsRow W.heap.size 84 1 (.slice la N lc) N xs) (fun vi _=>N - (intOf vi).toNat)
 case atStart=>exact ⟨0,L4c _,rfl,xk.out,ye.out⟩
 case round =>
  obtain⟨i,hi,rfl,xn,xa⟩:=hrel;clear xk ye;by_cases hlt:i < N
  ·obtain ⟨v,l,t,hq⟩:=xq.out i hlt
   obtain⟨lb,yn,e,_,yh⟩:=xa.form R5
   cases e;obtain⟨fa,fc,hv⟩:=E0 (xn.rows i v l t hq);have k0:wr.cell? ⟨lb,i,none⟩=some v:=by rw [xa.cellAt i R5];exact xr.out i v l t hq
   rw[hv] at k0;have HQ:=hid hq;have HV:=hid hv;have yo:=(yc.out i v l t hq).1;have xk:=hid xn;have xl:=hid xa;clear xn xa hq hv;go_wp2_with fail;go_loopw [17] (fun vk wx=>∃k:Nat,k<=l.length/\vk=J k/\bR W own R (J8 al) i k wx/\wx.ownsRow W.heap.size 84 1 (.slice (zA lb) N lc) N xs) (fun vk _=>l.length - (intOf vk).toNat)
   case atStart=>exact ⟨0,L4c _,rfl,xk.out,xl.out⟩
   case round =>
    obtain⟨k,hk,rfl,xf,xg⟩:=hrel;clear xk xl k0 yh;by_cases hlk:k < l.length
    ·obtain ⟨x,hx⟩:∃x,l[k]?=some x:=⟨_,L1b hlk⟩
     have xa:=xf.rows i v l t HQ.out;obtain⟨fb,yp,e,_,xi⟩:=xa.1.form R5;have e':=e;rw[HV.out] at e
     cases e;have xm:own fb=some t:=xa.2 fb (by rw [e'];rfl);have xh:=xa.1;rw[e'] at xh;have xb:∀j,j < 2->wr.cell? ⟨fb,k*2+j,none⟩=(O9 x)[j]?:=fun j hj=>by
      rw[xh.cellAt _ R5];exact D3 E6 (nZ hx) hj
     have x0:wr.cell? ⟨fb,k*2,none⟩=some (zC x.1):=xb 0 R5;have x1:wr.cell? ⟨fb,k*2+1,none⟩=some (J x.2):=xb 1 R5;have z0:=xh.frozenAt (k*2);have z1:=xh.frozenAt (k*2+1);have xe:lb≠fb:=by
      have:=xv.out fb t xm;have:=(xg.lt lb rfl).1;omega
     have xc:Hid (∀V,L0d wr V->∀p p':Value,V.ownsRow W.heap.size 84 1 (.slice (zA lb) N lc) N xs/\((V.setCell ⟨fb,k*2,none⟩ p).setCell ⟨fb,k*2+1,none⟩ p').ownsRow W.heap.size 84 1 (.slice (zA lb) N lc) N xs):=fun V hV p p'=>by
      have h1:V.ownsRow W.heap.size 84 1 (.slice (zA lb) N lc) N xs:=A6 xg fun b hb=>hV.block b (xg.lt b hb).2
      exact⟨h1,ownsRow_setCell_other (ownsRow_setCell_other h1 (a:=⟨fb,k*2,none⟩) (by show some lb≠some fb;exact fun e=>xe (L5b e)) _) (a:=⟨fb,k*2+1,none⟩) (by show some lb≠some fb;exact fun e=>xe (L5b e)) _⟩
     have xp:Hid (∀V,L0d wr V->a1r V kb al):=fun V hV=>(xf.later hV).alv yj.out
     have xo:=(yc.out i _ l t HQ.out).2 x (L2a hx);have HX:=hid hx;have xz:=hid xf;have HE:=hid e';clear xf xg xa xh xb hx e' xm xe;by_cases h2:x.1=2
     ·obtain ⟨n,hn⟩:=L5c (xo h2)
      have yl:Hid (J8 al x=gG (oV al n)):=by
       refine hid ?_;rw[<- a5D];congr 1
       exact Prod.ext h2 hn
      rw[h2] at x0;rw[hn] at x1;clear xo h2 hn;have xt:Hid (∀V,L0d wr V->bR W own R (J8 al) i (k+1) ((V.setCell ⟨fb,k*2,none⟩ (zC (gG (oV al n)).1)).setCell ⟨fb,k*2+1,none⟩ (J (gG (oV al n)).2))):=fun V hV=>by
       rw[<- yl.out];exact (xz.out.later hV).set HQ.out HE.out HX.out
      go_wp2_with (first | (go_at_call 164;refine (O7 _ _ _).mono ?_;rintro e w' ⟨rfl,o4,rfl⟩) | (go_at_call 196;refine (a7y (xp.out _ ?_) hal n).mono ?_;exact P5;rintro e w5 ⟨rfl,xy⟩;have yf:Hid (L0d wr w5):=A3 xy P5;clear xy) | (go_at_call 167;refine (tR _ _).mono ?_;rintro e w6 ⟨rfl,ya⟩;have xd:Hid (L0d wr w6):=A3 ya yf.out;have g0:=(xd.out.frozen (p:=⟨fb,k*2,none⟩) xi).trans z0;have g1:=(xd.out.frozen (p:=⟨fb,k*2+1,none⟩) xi).trans z1;have j0:=(xd.out.cell (p:=⟨fb,k*2,none⟩) xi).trans x0;have j1:=(xd.out.cell (p:=⟨fb,k*2+1,none⟩) xi).trans x1;have yg:fb < w6.heap.size:=L0a xi xd.out.size;clear ya))
      go_roundw
      case rel=>exact ⟨k+1,by omega,by go_num,xt.out _ xd.out,(xc.out _ xd.out _ _).2⟩
      case measure=>simp [intOf];omega
     ·have ym:(x.1 == 2)=false:=L2c.2 h2
      have yk:Hid (bR W own R (J8 al) i (k+1) wr):=xz.out.skip HQ.out HX.out (by unfold J8;rw [if_neg h2]);clear xo h2;go_wp2_with (first | (go_at_call 164;refine (O7 _ _ _).mono ?_;rintro e w' ⟨rfl,o4,rfl⟩))
      go_roundw
      case rel=>exact ⟨k+1,by omega,by go_num,yk.out.later P5,(xc.out _ P5 (.bool true) (.bool true)).1⟩
      case measure=>simp [intOf];omega
    ·obtain rfl:k=l.length:=by omega
     have HN:=hid (xf.next HQ.out);have yi:=hid xg;clear xf xg;go_wp2_with fail;go_roundw
     case rel=>exact ⟨i+1,by omega,by go_num,HN.out,yi.out⟩
     case measure=>simp [intOf];omega
  ·obtain rfl:i=N:=by omega
   have HP:=hid ((xj.out _ _).2 ⟨rfl,xn⟩);clear xn xa;go_wp2_with fail;go_end0
   exact HP.out
end
section
variable {R:McR} {W w:World} {al:List Nat} {av sv:Value} {j kb mb:Nat} {ol:List ObR}
def K3 (mb:Nat) (R:McR) (b:Nat):Tag->Prop
 | .mach=>b=mb
 | .out=>R.ov.ownBlock=some b
 | .called=>R.cv.ownBlock=some b
 | .slots=>R.hv.ownBlock=some b
 | .draws=>R.dv.ownBlock=some b
 | .loc i=>∃f,R.frs[i]?=some f/\f.lv.ownBlock=some b
 | .stk i=>∃f,R.frs[i]?=some f/\f.sv.ownBlock=some b
 | .fld j=>∃o,R.obs[j]?=some o/\o.fv.ownBlock=some b
theorem a0u (hfun:∀b t t',K3 mb R b t->K3 mb R b t'->t=t'):∃own:Own,∀b t,own b=some t↔K3 mb R b t:=by
 classical
 refine⟨fun b=>if h:∃t,K3 mb R b t then some h.choose else none,fun b t=>?_⟩;by_cases h:∃t,K3 mb R b t
 ·simp only [dif_pos h]
  constructor
  ·intro e
   have:=h.choose_spec;rw[L5b e] at this;exact this
  ·intro ht
   rw[hfun b _ _ h.choose_spec ht]
 ·simp only [dif_neg h]
  constructor
  ·intro e;cases e
  ·intro ht;exact absurd ⟨t,ht⟩ h
theorem tF {g:PgR} (hfun:∀b t t',K3 mb R b t->K3 mb R b t'->t=t') (hlt:∀b t,K3 mb R b t->b < w.heap.size)
  (c0:w.cell? ⟨mb,0,none⟩=some (.slice g.a g.n g.c)) (c1:w.cell? ⟨mb,1,none⟩=some (J R.st)) (c2:w.cell? ⟨mb,2,none⟩=some R.ov) (c3:w.cell? ⟨mb,3,none⟩=some R.cv) (c4:w.cell? ⟨mb,4,none⟩=some R.hv) (c5:w.cell? ⟨mb,5,none⟩=some R.dv)
  (fz:∀j,w.frozen? ⟨mb,j,none⟩=false) (out:w.ownsRow 0 3 1 R.ov R.out.length (R.out.map fun n=>J n)) (called:w.ownsRow 0 86 4 R.cv R.frs.length (R.frs.flatMap FrR.cells)) (slots:w.ownsRow 0 90 2 R.hv R.obs.length (R.obs.flatMap ObR.cells))
  (draws:w.ownsRow 0 3 1 R.dv R.dr.length (R.dr.map fun n=>J n)) (loc:∀(i:Nat) f,R.frs[i]?=some f->w.ownsRow 0 92 2 f.lv f.loc.length (A7 f.loc)) (stk:∀(i:Nat) f,R.frs[i]?=some f->w.ownsRow 0 92 2 f.sv f.stk.length (A7 f.stk)) (fld:∀(j:Nat) o,R.obs[j]?=some o->w.ownsRow 0 92 2 o.fv o.fl.length (A7 o.fl))
  (pg:I9 w.heap.size w g) (ro:∀k,g.blk k->∀t,¬K3 mb R k t) (tab:Tab w) (ro0:∀t,¬K3 mb R 0 t):∃own,A4 w own mb g R/\∀b t,own b=some t↔K3 mb R b t:=by
 obtain⟨own,ho⟩:=a0u hfun;have xa:∀k,(∀t,¬K3 mb R k t)->own k=none:=fun k hk=>by
  cases e:own k with
  | none=>rfl
  | some t=>exact absurd ((ho k t).1 e) (hk t)
 exact⟨own,⟨fun k t hk=>hlt k t ((ho k t).1 hk),(ho mb .mach).2 rfl,c0,c1,c2,c3,c4,fz,⟨out,fun b hb=>(ho b .out).2 hb⟩,⟨called,fun b hb=>(ho b .called).2 hb⟩,⟨slots,fun b hb=>(ho b .slots).2 hb⟩,
  fun i f hf=>⟨loc i f hf,fun b hb=>(ho b (.loc i)).2 ⟨f,hf,hb⟩⟩,fun i f hf=>⟨stk i f hf,fun b hb=>(ho b (.stk i)).2 ⟨f,hf,hb⟩⟩,fun j o hj=>⟨fld j o hj,fun b hb=>(ho b (.fld j)).2 ⟨o,hj,hb⟩⟩,
  pg,fun k hk=>xa k (ro k hk),tab,xa 0 ro0,c5,⟨draws,fun b hb=>(ho b .draws).2 hb⟩⟩,ho⟩
structure Pk1 (w:World) (R:McR) (al:List Nat) (kb:Nat) (av sv:Value) (ol:List ObR) (S E:Nat) (W:World):Prop where
 bel:L0d w W
 kge:w.heap.size<=kb
 klt:kb < W.heap.size
 k0:W.cell? ⟨kb,0,none⟩=some av
 arow:W.ownsRow w.heap.size 3 1 av al.length (cY al)
 srow:W.ownsRow w.heap.size 90 2 sv R.obs.length (ol.flatMap ObR.cells)
 len:ol.length=R.obs.length
 new:∀(k:Nat) (o:ObR),R.obs[k]?=some o->∃fv,ol[k]?=some { o with fv:=fv }/\W.ownsRow S 92 2 fv o.fl.length (A7 o.fl)/\∀b,fv.ownBlock=some b->b < E
 dis:∀(k k':Nat) (o o':ObR) (b:Nat),k < k'->k' < R.obs.length->ol[k]?=some o->ol[k']?=some o'->o.fv.ownBlock=some b->o'.fv.ownBlock=some b->False
 ab:∀b,av.ownBlock=some b->b < S/\b≠kb
 kk:kb < S\/E<=kb
 sE:w.heap.size<=S/\S<=E/\E<=W.heap.size
theorem Pk1.later {S E:Nat} {V:World} (h:Pk1 w R al kb av sv ol S E W) (hB:L0d W V):Pk1 w R al kb av sv ol S E V:=by
 have up:∀{B e size n:Nat} {v:Value} {xs:List Value},W.ownsRow B e size v n xs->V.ownsRow B e size v n xs:=fun hr=>A6 hr fun b hb=>hB.block b (hr.lt b hb).2
 refine⟨A3 hB h.bel,h.kge,L0a h.klt hB.size,(hB.cell (p:=⟨kb,0,none⟩) h.klt).trans h.k0,up h.arow,up h.srow,h.len,fun k o ho=>?_,h.dis,h.ab,h.kk,h.sE.1,h.sE.2.1,L5a h.sE.2.2 hB.size⟩;obtain⟨fv,h1,h2,h3⟩:=h.new k o ho;exact⟨fv,h1,up h2,h3⟩
theorem a0y {U2 w2 U3 w3:World} (hU2:L0d w U2) (r2:w2.ownsRow U2.heap.size 3 1 av al.length (cY al)) (b2:L0d U2 w2) (hU3:L0d w2 U3) (hs:dY R.obs U3 (.returned sv) w3)
  (hWo:W.os=w3.os) (hWt:W.tape=w3.tape) (hWu:W.output=w3.output) (hWs:w3.heap.size<=W.heap.size) (hWb:∀b,b < w3.heap.size->b≠kb->W.heap[b]?=w3.heap[b]?)
  (hk0:w.heap.size<=kb) (hkW:kb < W.heap.size) (hk:kb < U2.heap.size\/(w2.heap.size<=kb/\kb < U3.heap.size)\/w3.heap.size<=kb) (hc:W.cell? ⟨kb,0,none⟩=some av) :
  ∃ol,Pk1 w R al kb av sv ol U3.heap.size w3.heap.size W:=by
 obtain⟨xg,ol,he,q1,q2,q3,q4,b3⟩:=hs
 cases he;have xf:=A3 b2 hU2;have xe:=A3 hU3 xf;have xa:=A3 b3 xe;have s1:=hU2.size;have s2:=b2.size;have s3:=hU3.size;have s4:=b3.size;have up:∀{B e size n:Nat} {v:Value} {xs:List Value},w3.ownsRow B e size v n xs->v.ownBlock≠some kb->W.ownsRow B e size v n xs:=fun hr hne=>A6 hr fun b hb=>hWb b (hr.lt b hb).2 (fun e=>hne (by rw [<- e];exact hb))
 have xb:∀b,av.ownBlock=some b->b < U3.heap.size/\b≠kb:=fun b hb=>by
  have:=r2.lt b hb;omega
 have xd:w3.ownsRow w.heap.size 3 1 av al.length (cY al):=E1 (A6 r2 fun b hb=>(b3.block b (xb b hb).1).trans (hU3.block b (r2.lt b hb).2)) s1;have xc:L0d w W:=⟨hWo.trans xa.os,hWt.trans xa.tape,hWu.trans xa.output,L5a xa.size hWs,fun b hb=>(hWb b (by have:=xa.size;omega) R5).trans (xa.block b hb)⟩;refine⟨ol,⟨xc,hk0,hkW,hc,up xd (fun e=>(xb kb e).2 rfl),E1 (up q1 fun e=>by have:=q1.lt kb e;omega) R5,q2,fun k o ho=>?_,q4,xb,by omega,by omega,s4,hWs⟩⟩
 obtain⟨fv,h1,h2⟩:=q3 k o ho;exact⟨fv,h1,up h2 (fun e=>by have:=h2.lt kb e;omega),fun b hb=>(h2.lt b hb).2⟩
def a5w (ol:List ObR) (j:Nat):ObR:=ol.getD j ⟨0,zD,[]⟩
theorem eS {o:ObR} (h:ol[j]?=some o):a5w ol j=o:=by
 unfold a5w;rw[List.getD_eq_getElem?_getD,h];rfl
def M3 (ol:List ObR) (al:List Nat):List ObR:=al.map (a5w ol)
theorem a0o {i:Nat} (h:al[i]?=some j):M3 ol (al.take (i+1))=M3 ol (al.take i)++[a5w ol j]:=by
 unfold M3;rw[List.take_add_one,h];simp
structure Pk3 (W:World) (pb:Nat) (hv:Value) (l:List ObR) (wr:World):Prop where
 os:wr.os=W.os
 tape:wr.tape=W.tape
 output:wr.output=W.output
 size:W.heap.size<=wr.heap.size
 c4:wr.cell? ⟨pb,4,none⟩=some hv
 cj:∀j,j≠4->wr.cell? ⟨pb,j,none⟩=W.cell? ⟨pb,j,none⟩
 fz:∀j,wr.frozen? ⟨pb,j,none⟩=W.frozen? ⟨pb,j,none⟩
 row:wr.ownsRow W.heap.size 90 2 hv l.length (l.flatMap ObR.cells)
 blk:∀k,k < W.heap.size->k≠pb->wr.heap[k]?=W.heap[k]?
end
end Go.Proofs.YtbkmgoffiigdbaaGreatDoor
