import Derived.Test.YtbkmgoffiigdbaaGreatDoorVAa
namespace Go.Proofs.YtbkmgoffiigdbaaGreatDoor
open Go.RowKit Go.Sort
section
variable {g:PgR} {t:McA}
variable {sl:List Int} {s t:McA} {fs:List FrA} {f:FrA} {rest args:List Val}
theorem qC:∀(l:List Ob) (n:Nat),L3 l=l.length->freeA l n=none
 | [],_,_=>rfl
 | o::l,n,h=>by
  unfold L3 at h;rw[freeA];by_cases h0:o.1=0
  ·exfalso
   rw[List.filter_cons_of_neg (by simp [h0]),List.length_cons] at h;have:=List.length_filter_le (fun o:Ob=>o.1 != 0) l;omega
  ·rw [if_neg h0]
   refine qC l (n+1) ?_;rw[List.filter_cons_of_pos (by simp [h0]),List.length_cons,List.length_cons] at h;unfold L3;omega
theorem a4b (l:List Ob):L3 l=l.length↔freeA l 0=none :=
 ⟨qC l 0,fun h=>Decidable.byContradiction fun hn=>by
  obtain⟨j,hj⟩:=iX l 0 hn;rw[h] at hj
  cases hj⟩
theorem sN (hi:C8 g t) (hf:(A0 t).length=t.obs.length):J4 t=t:=by
 have xa:∀k,k < t.obs.length->k∈A0 t:=fun k hk=>by
  refine Decidable.byContradiction fun hn=>?_
  have xb:(k::A0 t).Nodup:=List.nodup_cons.2 ⟨hn,hi.alive.nodup⟩;have:=L7 xb (n:=t.obs.length) fun j hj=>by
   rcases List.mem_cons.1 hj with rfl | hj
   ·exact hk
   ·exact hi.alive.lt j hj
  rw[List.length_cons] at this;omega
 have e:V3 t.obs (A0 t)=t.obs:=by
  refine List.ext_getElem? fun k=>?_
  rw[Z2]
  cases ho:t.obs[k]? with
  | none=>rfl
  | some o =>
   have hk:=xa k (L1a.1 ho).1;rw[Option.map_some,if_pos hk];congr 1
   by_cases h3:o.1=3
   ·obtain ⟨w1,w2⟩:=lB hi ho h3
    unfold L2;split
    ·rename_i hc
     have hl:=(wR hi (o.2.headD (0,0))).1 hc.2;have h2:(o.2.headD (0,0)).1≠2:=fun h2=>hl ⟨h2,xa _ ((a6B hi ho h3).lt h2)⟩
     rw[kW w1 (w2 h2)]
    ·rfl
   ·exact dN h3
 unfold J4;rw[e]
theorem C7.room (h:C7 sl s t) (hi:C8 g t):C7 (Y5 t.obs.length sl s).1 (Y5 t.obs.length sl s).2 (F9 t):=by
 unfold F9 Y5;have e:=a4b t.obs;rw[h.freeA] at e;by_cases hc:Z9 sl t.obs.length 0=none
 ·rw [if_pos hc,if_pos (e.2 hc)]
  exact h.collect hi
 ·rw [if_neg hc,if_neg fun c=>hc (e.1 c)]
  exact h
theorem Vat.new (h:Vat sl s t fs f rest args) (hi:C8 g t) (kind:Int) (hk:kind≠0) (fl:List Val) (hfl:∀v,v∈fl->v.1≠2\/v∈args) :
  C7 (cN t.obs.length sl s fs f rest kind fl).1 (cN t.obs.length sl s fs f rest kind fl).2 (X0 t (fs.map (G5 (sig sl))) (G5 (sig sl) f) (rest.map (ren (sig sl))) kind (fl.map (ren (sig sl)))):=by
 have xt:(A0 t).length=(A0 s).length:=by rw [h.v.alive,List.length_map]
 have xr:(A0 s).length<=t.obs.length:=h.v.len_le h.v.reached.nodup h.v.slotted;have xi:=wE hi;have xm:=hi.cap.1;unfold cN X0;by_cases hfull:t.obs.length<=(A0 s).length
 ·rw [if_pos hfull,if_pos (xi.2 R5)]
  have e:F9 t=t:=by
   unfold F9;split
   ·exact sN hi R5
   ·rfl
  rw[e];exact h.v.trap 6
 ·rw [if_neg hfull,if_neg fun c=>hfull (by have:=xi.1 c;omega)]
  have hV:=h.v.room hi;have xg:(Y5 t.obs.length sl s).2.frs=s.frs:=by unfold Y5;split <;> rfl
  have xd:(Y5 t.obs.length sl s).2.obs.length=s.obs.length:=by
   unfold Y5;split
   ·exact fX _ _
   ·rfl
  have xj:∀v,v∈C6 s.frs->ren (sig (Y5 t.obs.length sl s).1) v=ren (sig sl) v:=fun v hv=>by
   unfold Y5;split
   ·exact eJ fun h2=>dC (h.v.reached.roots v hv h2)
   ·rfl
  generalize (Y5 t.obs.length sl s)=c at hV xg xd xj ⊢;have xq:(F9 t).obs.length=t.obs.length:=by
   unfold F9;split
   ·exact T8 _ _
   ·rfl
  have xc:=hV.pick R5 s.dr;rw[xq] at xc;have xp:L3 (F9 t).obs≠(F9 t).obs.length:=fun c=>hfull (by have:=xi.1 c;omega)
  obtain⟨j,hj⟩:=eU (dr:=s.dr) (show 0 < (F9 t).obs.length by omega) xp;rw[h.v.dr,hj];rw[xc] at hj;rw[hj];simp only;obtain⟨xs,xo⟩:=a1b xm hj
  -- the frames' values
  have xf:∀v,v∈C6 s.frs->VS c.1 v:=fun v hv=>hV.vals v (by rw [xg];exact hv)
  have xe:∀{x:FrA},x∈s.frs->∀v,v∈x.loc++x.stk->v∈C6 s.frs:=fun {x} hx v hv=>I2.2 ⟨x,hx,hv⟩
  have hf:f∈s.frs:=by rw [h.frs];simp
  have xh:∀v,v∈f.loc->v∈C6 s.frs:=fun v hv=>xe hf v (by simp [hv])
  have xb:∀v,v∈rest->v∈C6 s.frs:=fun v hv=>xe hf v (by rw [h.stk];simp [hv])
  have xa:∀v,v∈args->v∈C6 s.frs:=fun v hv=>xe hf v (by rw [h.stk];simp [hv])
  have xk:VSs c.1 fl:=fun v hv=>by
   rcases hfl v hv with h2 | hv
   ·exact VS.plain h2
   ·exact xf v (xa v hv)
  have:=hV.lay (j:=j.1) R5 xo hk xk 0 s.out (fs++[⟨f.fn,f.pc+1,f.loc,rest++[(2,(s.obs.length:Int))]⟩]) j.2 (fun x hx=>by
   rcases List.mem_append.1 hx with hx | hx
   ·exact L4a fun v hv=>xf v (xe (by rw [h.frs];simp [hx]) v hv)
   ·rw [List.mem_singleton] at hx
    subst hx;refine L4b ⟨rest,by rw [xd],fun v hv=>?_⟩;rcases List.mem_append.1 hv with hv | hv
    ·exact xf v (xh v hv)
    ·exact xf v (xb v hv))
  have hm:∀l:List Val,(∀v,v∈l->v∈C6 s.frs)->l.map (ren (sig (c.1++[(j.1:Int)])))=l.map (ren (sig sl)):=fun l hl=>List.map_congr_left fun v hv=>by rw [pR (xf v (hl v hv)),xj v (hl v hv)]
  have e1:fs.map (G5 (sig (c.1++[(j.1:Int)])))=fs.map (G5 (sig sl)):=List.map_congr_left fun x hx=>by
   have xl:x∈s.frs:=by rw [h.frs];simp [hx]
   unfold G5;rw[hm x.loc fun v hv=>xe xl v (by simp [hv]),hm x.stk fun v hv=>xe xl v (by simp [hv])]
  have e2:ren (sig (c.1++[(j.1:Int)])) (2,(s.obs.length:Int))=(2,(j.1:Int)):=by
   unfold ren;rw[if_pos rfl];have xn:c.1.length=s.obs.length:=by rw [hV.len,xd]
   have:(c.1++[(j.1:Int)])[s.obs.length]?=some (j.1:Int):=by rw [<- xn];simp
   show ((2:Int),((sig (c.1++[(j.1:Int)]) ((s.obs.length:Int)).toNat:Nat):Int))=_;rw[Int.toNat_natCast,fC this,Int.toNat_natCast]
  have e3:fl.map (ren (sig c.1))=fl.map (ren (sig sl)):=List.map_congr_left fun v hv=>by
   rcases hfl v hv with h2 | hv
   ·rw [I8 h2,I8 h2]
   ·exact xj v (xa v hv)
  rw[List.map_append,List.map_cons,List.map_nil,e1,e3] at this;have e4:G5 (sig (c.1++[(j.1:Int)])) ⟨f.fn,f.pc+1,f.loc,rest++[(2,(s.obs.length:Int))]⟩=⟨f.fn,f.pc+1,f.loc.map (ren (sig sl)),rest.map (ren (sig sl))++[(2,(j.1:Int))]⟩:=by
   unfold G5;simp only;rw[List.map_append,List.map_cons,List.map_nil,hm f.loc xh,hm rest xb,e2]
  rw[e4] at this;rw[h.v.out];exact this
def doD (g:PgR) (cap k:Nat) (a:Int) (sl:List Int) (s:McA) (fs:List FrA) (f:FrA) (rest args:List Val):List Int × McA :=
 match k,args with
 | 16,[]=>cN cap sl s fs f rest 1 (List.replicate a.toNat (0,0))
 | 17,[x]=>if x.1≠1 then (sl,D4 s 2) else if 0<=x.2/\x.2<=12 then cN cap sl s fs f rest 2 (List.replicate x.2.toNat (0,0)) else (sl,D4 s 4)
 | 18,[x]=>if x.1=2 then cN cap sl s fs f rest 3 [x] else (sl,D4 s 2)
 | k,l=>(sl,doA g k a s fs f rest l)
def qA (g:PgR) (cap:Nat) (m:List Int × McA):List Int × McA :=
 match m.2.frs.getLast? with
 | none=>m
 | some f =>
  doD g cap ((g.f f.fn).op f.pc).toNat ((g.f f.fn).ar f.pc) m.1 m.2 m.2.frs.dropLast f
   (f.stk.take (f.stk.length - (U5 ((g.f f.fn).op f.pc) (g.f ((g.f f.fn).ar f.pc).toNat).p).toNat))
   (f.stk.drop (f.stk.length - (U5 ((g.f f.fn).op f.pc) (g.f ((g.f f.fn).ar f.pc).toNat).p).toNat))
theorem a1L (n:Nat) (args:List Val):∀v,v∈List.replicate n ((0,0):Val)->v.1≠2\/v∈args:=fun v hv=>L4a (a0m n v hv)
theorem a4T (g:PgR) (h:Vat sl s t fs f rest args) (hi:C8 g t) {k:Nat} {a:Int} (o:hZ g f k a rest args) (hk:k < 28) :
  C7 (doD g t.obs.length k a sl s fs f rest args).1 (doD g t.obs.length k a sl s fs f rest args).2 (doA g k a t (fs.map (G5 (sig sl))) (G5 (sig sl) f) (rest.map (ren (sig sl))) (args.map (ren (sig sl)))):=by
 have hn:=o.pops;by_cases h16:k=16
 ·subst h16
  obtain rfl:=V6 hn rfl;have:=h.new hi 1 R4 (List.replicate a.toNat (0,0)) (a1L _ _);rw[List.map_replicate,bL] at this;exact this
 ·by_cases h17:k=17
  ·subst h17
   obtain⟨x,rfl⟩:=F8 hn rfl;show C7 (if x.1≠1 then (sl,D4 s 2) else if 0<=x.2/\x.2<=12 then cN t.obs.length sl s fs f rest 2 (List.replicate x.2.toNat (0,0)) else (sl,D4 s 4)).1 (if x.1≠1 then (sl,D4 s 2) else if 0<=x.2/\x.2<=12 then cN t.obs.length sl s fs f rest 2 (List.replicate x.2.toNat (0,0)) else (sl,D4 s 4)).2 (if (ren (sig sl) x).1≠1 then D4 t 2 else if 0<=(ren (sig sl) x).2/\(ren (sig sl) x).2<=12 then X0 t (fs.map (G5 (sig sl))) (G5 (sig sl) f) (rest.map (ren (sig sl))) 2 (List.replicate (ren (sig sl) x).2.toNat (0,0)) else D4 t 4)
   by_cases hx1:x.1=1
   ·have ex:ren (sig sl) x=x:=I8 R5
    rw[ex,if_neg (not_not_intro hx1),if_neg (not_not_intro hx1)];by_cases hc:0<=x.2/\x.2<=12
    ·rw [if_pos hc,if_pos hc]
     have:=h.new hi 2 R4 (List.replicate x.2.toNat (0,0)) (a1L _ _);rw[List.map_replicate,bL] at this;exact this
    ·rw [if_neg hc,if_neg hc];exact h.v.trap _
   ·have xa:(ren (sig sl) x).1≠1:=by rw [G3];exact hx1
    rw[if_pos hx1,if_pos xa];exact h.v.trap _
  ·by_cases h18:k=18
   ·subst h18
    obtain⟨x,rfl⟩:=F8 hn rfl;show C7 (if x.1=2 then cN t.obs.length sl s fs f rest 3 [x] else (sl,D4 s 2)).1 (if x.1=2 then cN t.obs.length sl s fs f rest 3 [x] else (sl,D4 s 2)).2 (if (ren (sig sl) x).1=2 then X0 t (fs.map (G5 (sig sl))) (G5 (sig sl) f) (rest.map (ren (sig sl))) 3 [ren (sig sl) x] else D4 t 2);rw[G3];by_cases h1:x.1=2
    ·rw [if_pos h1,if_pos h1]
     exact h.new hi 3 R4 [x] fun v hv=>L4b hv
    ·rw [if_neg h1,if_neg h1];exact h.v.trap _
   ·have e:doD g t.obs.length k a sl s fs f rest args=(sl,doA g k a s fs f rest args):=by
     unfold doD;split
     ·exact absurd rfl h16
     ·exact absurd rfl h17
     ·exact absurd rfl h18
     ·rfl
    rw[e];exact a7m g h o hk h16 h17 h18
theorem a3X (hp:N3 g) (h:C7 sl s t) (hi:C8 g t) (h0:s.st=0):C7 (qA g t.obs.length (sl,s)).1 (qA g t.obs.length (sl,s)).2 (X2 g t):=by
 have xg:t.frs≠[]:=hi.run (by rw [h.st];exact h0);have xi:s.frs≠[]:=fun e=>xg (by rw [h.frs,e];rfl)
 obtain⟨fs,f,hf⟩:∃fs f,s.frs=fs++[f]:=⟨_,_,(List.dropLast_concat_getLast xi).symm⟩
 have xh:t.frs=fs.map (G5 (sig sl))++[G5 (sig sl) f]:=by rw [h.frs,hf,List.map_append];rfl
 obtain⟨k,a,xc,args',hk,o,e⟩:=hi.opAt hp xh;have xf:(g.f f.fn).op f.pc=(k:Int):=o.op;have xe:(g.f f.fn).ar f.pc=a:=o.ar;have xd:f.stk.map (ren (sig sl))=xc++args':=o.stk;obtain⟨xa,args,hs,rfl,rfl⟩:=List.map_eq_append_iff.1 xd;have xb:U5 k (g.f a.toNat).p=args.length:=by have:=o.pops;rwa [List.length_map] at this
 have o2:hZ g f k a xa args:=⟨xf,xe,hs,xb⟩;have hS:qA g t.obs.length (sl,s)=doD g t.obs.length k a sl s fs f xa args:=by
  have e1:s.frs.getLast?=some f:=by rw [hf];simp
  have e2:s.frs.dropLast=fs:=by rw [hf];simp
  unfold qA;simp only;rw[e1,e2];simp only;rw[xf,xe,xb,hs];have e3:(xa++args).length - ((args.length:Nat):Int).toNat=xa.length:=by simp
  rw[e3,List.take_left,List.drop_left];rfl
 rw[e,hS];exact a4T g ⟨h,hf,hs⟩ hi o2 hk
theorem a0n {k:Nat} {a:Int} {fs:List FrA} {f:FrA} {rest args:List Val} : (doA g k a t fs f rest args).obs.length=t.obs.length:=by
 have hr:(F9 t).obs.length=t.obs.length:=by
  unfold F9;split
  ·exact T8 _ _
  ·rfl
 have xa:∀kind fl,(X0 t fs f rest kind fl).obs.length=t.obs.length:=fun kind fl=>by
  unfold X0;split
  ·exact hr
  ·split
   ·rfl
   ·show ((F9 t).obs.set _ _).length=_
    rw[List.length_set,hr]
 have xb:∀v kind ix y,(setE t fs f rest v kind ix y).obs.length=t.obs.length:=fun v kind ix y=>by
  unfold setE;split
  ·exact List.length_set
  ·rfl
 unfold doA;split <;> first | rfl | exact xa _ _ | exact xb _ _ _ _ | skip
 all_goals first
  | (unfold J6;split <;> rfl)
  | (unfold cU;split <;> rfl)
  | (unfold aO;split <;> rfl)
  | (unfold C9;split <;> rfl)
  | (split <;> first | rfl | exact xa _ _ | (split <;> first | rfl | exact xa _ _))
theorem tG : (X2 g t).obs.length=t.obs.length:=by
 unfold X2;split
 ·rfl
 ·exact a0n
end
section
variable {sl:List Int} {s t:McA}
theorem fU:∀(l:List Int),(l.filter fun x=>decide (0<=x)).length=((List.range l.length).filter fun j=>((l[j]?).map fun x=>decide (0<=x)).getD false).length
 | []=>rfl
 | x::l=>by
  have ih:=fU l;rw[List.length_cons,List.range_succ_eq_map,List.filter_cons,List.filter_cons,List.filter_map,List.getElem?_cons_zero];have e:((fun j=>(((x::l)[j]?).map fun x=>decide (0<=x)).getD false)∘Nat.succ)=fun j=>((l[j]?).map fun x=>decide (0<=x)).getD false:=by funext j;simp
  rw[e];by_cases h:0<=x <;> simp [h,ih]
theorem mN {j:Nat} : ((sl[j]?).map fun x=>decide (0<=x)).getD false=true↔G6 sl j:=by
 unfold G6
 cases sl[j]? with
 | none=>simp
 | some x=>simp
theorem C7.taken (h:C7 sl s t):L3 t.obs=(sl.filter fun x=>decide (0<=x)).length:=by
 rw[fU,fG];have hI:∀j,j∈((List.range sl.length).filter fun j=>((sl[j]?).map fun x=>decide (0<=x)).getD false)↔G6 sl j:=fun j=>by
  rw[List.mem_filter,List.mem_range,mN];exact⟨fun c=>c.2,fun c=>⟨c.lt,c⟩⟩
 have xa:((List.range sl.length).filter fun j=>((sl[j]?).map fun x=>decide (0<=x)).getD false).Nodup:=List.nodup_range.filter _;generalize ((List.range sl.length).filter fun j=>((sl[j]?).map fun x=>decide (0<=x)).getD false)=I at hI xa ⊢;rw[show I.length=(I.map (sig sl)).length from (List.length_map _).symm];have xb:(I.map (sig sl)).Nodup:=by
  rw[List.nodup_iff_pairwise_ne] at xa ⊢;rw[List.pairwise_map];refine List.Pairwise.imp_of_mem ?_ xa;intro a b ha hb hne e;exact hne (h.inj2 ((hI a).1 ha) ((hI b).1 hb) e)
 refine jD (List.nodup_range.filter _) xb fun k=>?_
 rw[List.mem_filter,List.mem_range,List.mem_map];constructor
 ·rintro ⟨hk,hz⟩
  have ho:t.obs[k]?=some t.obs[k]:=L1b hk;rw[ho] at hz;have xc:t.obs[k].1≠0:=by simpa using hz
  have hm:(k:Int)∈sl:=Decidable.byContradiction fun hn=>xc ((h.zero ho).2 hn)
  obtain⟨i,hi,e⟩:=List.mem_iff_getElem.1 hm;have hx:sl[i]?=some (k:Int):=by rw [<- e];exact L1b hi
  exact⟨i,(hI i).2 ⟨_,hx,by omega⟩,by rw [fC hx,Int.toNat_natCast]⟩
 ·rintro ⟨i,hi,rfl⟩
  have xd:=(hI i).1 hi;obtain⟨p,hp,hq⟩:=h.get xd;refine⟨(L1a.1 hq).1,?_⟩;rw[hq];simp[h.kinds p (L2a hp)]
def iZ (sl:List Int) (al:List Nat):Nat:=((List.range sl.length).filter fun i=>decide (i∉al) && ((sl[i]?).map fun x=>decide (0<=x)).getD false).length
theorem C7.freed (h:C7 sl s t):iZ sl (A0 s)+(A0 t).length=L3 t.obs:=by
 rw[h.taken,fU,h.alive,List.length_map];unfold iZ;rw[<- List.length_append];refine jD ?_ (List.nodup_range.filter _) fun j=>?_
 ·rw [List.nodup_append]
  refine⟨List.nodup_range.filter _,h.reached.nodup,fun a ha b hb e=>?_⟩;subst e;have:=(List.mem_filter.1 ha).2;rw[Bool.and_eq_true,decide_eq_true_eq] at this;exact this.1 hb
 ·rw [List.mem_append,List.mem_filter,List.mem_filter,List.mem_range,Bool.and_eq_true,decide_eq_true_eq,mN]
  constructor
  ·rintro (⟨q1,_,q3⟩ | hj)
   ·exact ⟨q1,q3⟩
   ·have:=h.slotted j hj
    exact⟨this.lt,this⟩
  ·rintro ⟨q1,q2⟩
   by_cases hj:j∈A0 s
   ·exact L4b hj
   ·exact L4a ⟨q1,hj,q2⟩
theorem C7.ix (h:C7 sl s t):∀(A:List Nat),(∀j,j∈A->G6 sl j)->∀i,G6 sl i->ixA (A.map (sig sl)) (sig sl i)=ixA A i
 | [],_,_,_=>rfl
 | a::A,hA,i,hi=>by
  rw[List.map_cons,ixA,ixA,h.ix A (fun j hj=>hA j (by simp [hj])) i hi];by_cases e:a=i
  ·rw [if_pos e,if_pos (by rw [e])]
  ·rw [if_neg e,if_neg fun c=>e (h.inj2 (hA a R6) hi c)]
theorem C7.packOne (h:C7 sl s t) {v:Val} (hv:VS sl v):J8 (A0 t) (ren (sig sl) v)=J8 (A0 s) v:=by
 unfold J8;rw[G3];by_cases h2:v.1=2
 ·rw [if_pos h2,if_pos h2,gZ h2,h.alive,h.ix _ h.slotted _ (hv h2).2]
 ·rw [if_neg h2,if_neg h2,I8 h2]
theorem C7.packVs (h:C7 sl s t) {l:List Val} (hl:VSs sl l):(l.map (ren (sig sl))).map (J8 (A0 t))=l.map (J8 (A0 s)):=by
 rw[List.map_map];exact List.map_congr_left fun v hv=>h.packOne (hl v hv)
theorem C7.pack (h:C7 sl s t):N8 t=N8 s:=by
 unfold N8;rw[h.st,h.out];have e1:t.frs.map (oY (A0 t))=s.frs.map (oY (A0 s)):=by
  rw[h.frs,List.map_map];refine List.map_congr_left fun f hf=>?_
  have:=h.frame hf;show (⟨f.fn,f.pc,(f.loc.map (ren (sig sl))).map (J8 (A0 t)),(f.stk.map (ren (sig sl))).map (J8 (A0 t))⟩:FrA)=⟨f.fn,f.pc,f.loc.map (J8 (A0 s)),f.stk.map (J8 (A0 s))⟩;rw[h.packVs this.left,h.packVs this.right]
 have e2:(A0 t).map (cZ t)=(A0 s).map (cZ s):=by
  have:∀j,j∈A0 s->cZ t (sig sl j)=cZ s j:=fun j hj=>by
   obtain⟨o,ho,hq⟩:=h.get (h.slotted j hj);unfold cZ;rw[ho,hq];simp only;rw[h.packVs fun v hv=>h.orefs j o ho (h.slotted j hj) v hv]
  conv=>lhs;rw [h.alive]
  rw[List.map_map];exact List.map_congr_left this
 rw[e1,e2]
theorem C7.begin (n l cap:Nat):C7 [] ⟨0,[],[⟨n,0,List.replicate l (0,0),[]⟩],[],[]⟩ ⟨0,[],[⟨n,0,List.replicate l (0,0),[]⟩],List.replicate cap (0,[]),[]⟩ :=
 ⟨rfl,rfl,rfl,by simp [G5,bL],rfl,fun i x hx=>by simp at hx,fun i j x _ hx=>by simp at hx,fun i o ho=>by simp at ho,fun k o ho _=>by
  have:o∈List.replicate cap ((0,[]):Ob):=L2a ho;exact (List.mem_replicate.1 this).2,fun v hv h2=>by
  obtain⟨f,hf,hv⟩:=I2.1 hv;rw[List.mem_singleton] at hf;subst hf;have:v∈List.replicate l ((0,0):Val):=by simpa using hv
  rw[(List.mem_replicate.1 this).2] at h2;simp at h2,fun i o ho=>by simp at ho,fun o ho=>by simp at ho,fun o ho=>by simp at ho⟩
theorem C7.draw (h:C7 sl s t) (d:List Int):C7 sl { s with dr:=s.dr++d } { t with dr:=t.dr++d } :=
 ⟨h.st,h.out,by show t.dr++d=s.dr++d;rw [h.dr],h.frs,h.len,h.bd,h.inj,h.obs,h.free,h.vals,h.orefs,h.within,h.kinds⟩
end
end Go.Proofs.YtbkmgoffiigdbaaGreatDoor
