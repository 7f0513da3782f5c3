import Derived.Test.YtbkmgoffiigdbaaGreatDoorVAa
namespace Go.Proofs.YtbkmgoffiigdbaaGreatDoor
open Go.RowKit Go.Sort
section
variable {g:PgR} {t:McA}
variable {sl:List Int} {s t:McA} {fs:List FrA} {f:FrA} {rest args:List Val}
theorem nC:∀(l:List Ob) (n:Nat),K3 l=l.length->freeA l n=none
 | [],_,_=>rfl
 | o::l,n,h=>by
  unfold K3 at h;rw[freeA];by_cases h0:o.1=0
  ·exfalso
   rw[List.filter_cons_of_neg (by simp [h0]),List.length_cons] at h;have:=List.length_filter_le (fun o:Ob=>o.1 != 0) l;omega
  ·rw [if_neg h0]
   refine nC l (n+1) ?_;rw[List.filter_cons_of_pos (by simp [h0]),List.length_cons,List.length_cons] at h;unfold K3;omega
theorem a1K (l:List Ob):K3 l=l.length↔freeA l 0=none :=
 ⟨nC l 0,fun h=>Decidable.byContradiction fun hn=>by
  obtain⟨j,hj⟩:=gB l 0 hn;rw[h] at hj
  cases hj⟩
theorem pL (hi:C4 g t) (hf:(A1 t).length=t.obs.length):G5 t=t:=by
 have xa:∀k,k < t.obs.length->k∈A1 t:=fun k hk=>by
  refine Decidable.byContradiction fun hn=>?_
  have xb:(k::A1 t).Nodup:=List.nodup_cons.2 ⟨hn,hi.alive.nodup⟩;have:=K7 xb (n:=t.obs.length) fun j hj=>by
   rcases List.mem_cons.1 hj with rfl | hj
   ·exact hk
   ·exact hi.alive.lt j hj
  rw[List.length_cons] at this;omega
 have e:T7 t.obs (A1 t)=t.obs:=by
  refine List.ext_getElem? fun k=>?_
  rw[Z7]
  cases ho:t.obs[k]? with
  | none=>rfl
  | some o =>
   have hk:=xa k (L1a.1 ho).1;rw[Option.map_some,if_pos hk];congr 1
   by_cases h3:o.1=3
   ·obtain ⟨w1,w2⟩:=jD hi ho h3
    unfold J0;split
    ·rename_i hc
     have hl:=(cM hi (o.2.headD (0,0))).1 hc.2;have h2:(o.2.headD (0,0)).1≠2:=fun h2=>hl ⟨h2,xa _ ((a3P hi ho h3).lt h2)⟩
     rw[iY w1 (w2 h2)]
    ·rfl
   ·exact U0 h3
 unfold G5;rw[e]
theorem D4.room (h:D4 sl s t) (hi:C4 g t):D4 (U4 t.obs.length sl s).1 (U4 t.obs.length sl s).2 (G0 t):=by
 unfold G0 U4;have e:=a1K t.obs;rw[h.freeA] at e;by_cases hc:W0 sl t.obs.length 0=none
 ·rw [if_pos hc,if_pos (e.2 hc)]
  exact h.collect hi
 ·rw [if_neg hc,if_neg fun c=>hc (e.1 c)]
  exact h
theorem Vat.new (h:Vat sl s t fs f rest args) (hi:C4 g t) (kind:Int) (hk:kind≠0) (fl:List Val) (hfl:∀v,v∈fl->v.1≠2\/v∈args) :
  D4 (bK t.obs.length sl s fs f rest kind fl).1 (bK t.obs.length sl s fs f rest kind fl).2 (U3 t (fs.map (D8 (sig sl))) (D8 (sig sl) f) (rest.map (ren (sig sl))) kind (fl.map (ren (sig sl)))):=by
 have xt:(A1 t).length=(A1 s).length:=by rw [h.v.alive,List.length_map]
 have xr:(A1 s).length<=t.obs.length:=h.v.len_le h.v.reached.nodup h.v.slotted;have xj:=sS hi;have xp:=hi.cap.1;unfold bK U3;by_cases hfull:t.obs.length<=(A1 s).length
 ·rw [if_pos hfull,if_pos (xj.2 R4)]
  have e:G0 t=t:=by
   unfold G0;split
   ·exact pL hi R4
   ·rfl
  rw[e];exact h.v.trap 6
 ·rw [if_neg hfull,if_neg fun c=>hfull (by have:=xj.1 c;omega)]
  have hV:=h.v.room hi;have xg:(U4 t.obs.length sl s).2.frs=s.frs:=by unfold U4;split <;> rfl
  have xd:(U4 t.obs.length sl s).2.obs.length=s.obs.length:=by
   unfold U4;split
   ·exact eE _ _
   ·rfl
  have xk:∀v,v∈B7 s.frs->ren (sig (U4 t.obs.length sl s).1) v=ren (sig sl) v:=fun v hv=>by
   unfold U4;split
   ·exact cT fun h2=>bW (h.v.reached.roots v hv h2)
   ·rfl
  generalize (U4 t.obs.length sl s)=c at hV xg xd xk ⊢;have xq:(G0 t).obs.length=t.obs.length:=by
   unfold G0;split
   ·exact L4 _ _
   ·rfl
  have xa:=hV.pick R4 s.dr;rw[xq] at xa;have xn:K3 (G0 t).obs≠(G0 t).obs.length:=fun c=>hfull (by have:=xj.1 c;omega)
  obtain⟨j,hj⟩:=dA (dr:=s.dr) (show 0 < (G0 t).obs.length by omega) xn;rw[h.v.dr,hj];rw[xa] at hj;rw[hj];simp only;obtain⟨xs,xo⟩:=yB xp hj
  -- the frames' values
  have xf:∀v,v∈B7 s.frs->VS c.1 v:=fun v hv=>hV.vals v (by rw [xg];exact hv)
  have xe:∀{x:FrA},x∈s.frs->∀v,v∈x.loc++x.stk->v∈B7 s.frs:=fun {x} hx v hv=>E0.2 ⟨x,hx,hv⟩
  have hf:f∈s.frs:=by rw [h.frs];simp
  have xh:∀v,v∈f.loc->v∈B7 s.frs:=fun v hv=>xe hf v (by simp [hv])
  have xc:∀v,v∈rest->v∈B7 s.frs:=fun v hv=>xe hf v (by rw [h.stk];simp [hv])
  have xb:∀v,v∈args->v∈B7 s.frs:=fun v hv=>xe hf v (by rw [h.stk];simp [hv])
  have xi:VSs c.1 fl:=fun v hv=>by
   rcases hfl v hv with h2 | hv
   ·exact VS.plain h2
   ·exact xf v (xb v hv)
  have:=hV.lay (j:=j.1) R4 xo hk xi 0 s.out (fs++[⟨f.fn,f.pc+1,f.loc,rest++[(2,(s.obs.length:Int))]⟩]) j.2 (fun x hx=>by
   rcases List.mem_append.1 hx with hx | hx
   ·exact Or.inl fun v hv=>xf v (xe (by rw [h.frs];simp [hx]) v hv)
   ·rw [List.mem_singleton] at hx
    subst hx;refine Or.inr ⟨rest,by rw [xd],fun v hv=>?_⟩;rcases List.mem_append.1 hv with hv | hv
    ·exact xf v (xh v hv)
    ·exact xf v (xc v hv))
  have hm:∀l:List Val,(∀v,v∈l->v∈B7 s.frs)->l.map (ren (sig (c.1++[(j.1:Int)])))=l.map (ren (sig sl)):=fun l hl=>List.map_congr_left fun v hv=>by rw [mS (xf v (hl v hv)),xk v (hl v hv)]
  have e1:fs.map (D8 (sig (c.1++[(j.1:Int)])))=fs.map (D8 (sig sl)):=List.map_congr_left fun x hx=>by
   have xl:x∈s.frs:=by rw [h.frs];simp [hx]
   unfold D8;rw[hm x.loc fun v hv=>xe xl v (by simp [hv]),hm x.stk fun v hv=>xe xl v (by simp [hv])]
  have e2:ren (sig (c.1++[(j.1:Int)])) (2,(s.obs.length:Int))=(2,(j.1:Int)):=by
   unfold ren;rw[if_pos rfl];have xm:c.1.length=s.obs.length:=by rw [hV.len,xd]
   have:(c.1++[(j.1:Int)])[s.obs.length]?=some (j.1:Int):=by rw [<- xm];simp
   show ((2:Int),((sig (c.1++[(j.1:Int)]) ((s.obs.length:Int)).toNat:Nat):Int))=_;rw[Int.toNat_natCast,bN this,Int.toNat_natCast]
  have e3:fl.map (ren (sig c.1))=fl.map (ren (sig sl)):=List.map_congr_left fun v hv=>by
   rcases hfl v hv with h2 | hv
   ·rw [G2 h2,G2 h2]
   ·exact xk v (xb v hv)
  rw[List.map_append,List.map_cons,List.map_nil,e1,e3] at this;have e4:D8 (sig (c.1++[(j.1:Int)])) ⟨f.fn,f.pc+1,f.loc,rest++[(2,(s.obs.length:Int))]⟩=⟨f.fn,f.pc+1,f.loc.map (ren (sig sl)),rest.map (ren (sig sl))++[(2,(j.1:Int))]⟩:=by
   unfold D8;simp only;rw[List.map_append,List.map_cons,List.map_nil,hm f.loc xh,hm rest xc,e2]
  rw[e4] at this;rw[h.v.out];exact this
def doD (g:PgR) (cap k:Nat) (a:Int) (sl:List Int) (s:McA) (fs:List FrA) (f:FrA) (rest args:List Val):List Int × McA :=
 match k,args with
 | 16,[]=>bK cap sl s fs f rest 1 (List.replicate a.toNat (0,0))
 | 17,[x]=>if x.1≠1 then (sl,C7 s 2) else if 0<=x.2/\x.2<=12 then bK cap sl s fs f rest 2 (List.replicate x.2.toNat (0,0)) else (sl,C7 s 4)
 | 18,[x]=>if x.1=2 then bK cap sl s fs f rest 3 [x] else (sl,C7 s 2)
 | k,l=>(sl,doA g k a s fs f rest l)
def nB (g:PgR) (cap:Nat) (m:List Int × McA):List Int × McA :=
 match m.2.frs.getLast? with
 | none=>m
 | some f =>
  doD g cap ((g.f f.fn).op f.pc).toNat ((g.f f.fn).ar f.pc) m.1 m.2 m.2.frs.dropLast f
   (f.stk.take (f.stk.length - (N7 ((g.f f.fn).op f.pc) (g.f ((g.f f.fn).ar f.pc).toNat).p).toNat))
   (f.stk.drop (f.stk.length - (N7 ((g.f f.fn).op f.pc) (g.f ((g.f f.fn).ar f.pc).toNat).p).toNat))
theorem zM (n:Nat) (args:List Val):∀v,v∈List.replicate n ((0,0):Val)->v.1≠2\/v∈args:=fun v hv=>Or.inl (wS n v hv)
theorem a2p (g:PgR) (h:Vat sl s t fs f rest args) (hi:C4 g t) {k:Nat} {a:Int} (o:fH g f k a rest args) (hk:k < 28) :
  D4 (doD g t.obs.length k a sl s fs f rest args).1 (doD g t.obs.length k a sl s fs f rest args).2 (doA g k a t (fs.map (D8 (sig sl))) (D8 (sig sl) f) (rest.map (ren (sig sl))) (args.map (ren (sig sl)))):=by
 have hn:=o.pops;by_cases h16:k=16
 ·subst h16
  obtain rfl:=O3 hn rfl;have:=h.new hi 1 R3 (List.replicate a.toNat (0,0)) (zM _ _);rw[List.map_replicate,X7] at this;exact this
 ·by_cases h17:k=17
  ·subst h17
   obtain⟨x,rfl⟩:=F7 hn rfl;show D4 (if x.1≠1 then (sl,C7 s 2) else if 0<=x.2/\x.2<=12 then bK t.obs.length sl s fs f rest 2 (List.replicate x.2.toNat (0,0)) else (sl,C7 s 4)).1 (if x.1≠1 then (sl,C7 s 2) else if 0<=x.2/\x.2<=12 then bK t.obs.length sl s fs f rest 2 (List.replicate x.2.toNat (0,0)) else (sl,C7 s 4)).2 (if (ren (sig sl) x).1≠1 then C7 t 2 else if 0<=(ren (sig sl) x).2/\(ren (sig sl) x).2<=12 then U3 t (fs.map (D8 (sig sl))) (D8 (sig sl) f) (rest.map (ren (sig sl))) 2 (List.replicate (ren (sig sl) x).2.toNat (0,0)) else C7 t 4)
   by_cases hx1:x.1=1
   ·have ex:ren (sig sl) x=x:=G2 R4
    rw[ex,if_neg (not_not_intro hx1),if_neg (not_not_intro hx1)];by_cases hc:0<=x.2/\x.2<=12
    ·rw [if_pos hc,if_pos hc]
     have:=h.new hi 2 R3 (List.replicate x.2.toNat (0,0)) (zM _ _);rw[List.map_replicate,X7] at this;exact this
    ·rw [if_neg hc,if_neg hc];exact h.v.trap _
   ·have xa:(ren (sig sl) x).1≠1:=by rw [G3];exact hx1
    rw[if_pos hx1,if_pos xa];exact h.v.trap _
  ·by_cases h18:k=18
   ·subst h18
    obtain⟨x,rfl⟩:=F7 hn rfl;show D4 (if x.1=2 then bK t.obs.length sl s fs f rest 3 [x] else (sl,C7 s 2)).1 (if x.1=2 then bK t.obs.length sl s fs f rest 3 [x] else (sl,C7 s 2)).2 (if (ren (sig sl) x).1=2 then U3 t (fs.map (D8 (sig sl))) (D8 (sig sl) f) (rest.map (ren (sig sl))) 3 [ren (sig sl) x] else C7 t 2);rw[G3];by_cases h1:x.1=2
    ·rw [if_pos h1,if_pos h1]
     exact h.new hi 3 R3 [x] fun v hv=>Or.inr hv
    ·rw [if_neg h1,if_neg h1];exact h.v.trap _
   ·have e:doD g t.obs.length k a sl s fs f rest args=(sl,doA g k a s fs f rest args):=by
     unfold doD;split
     ·exact absurd rfl h16
     ·exact absurd rfl h17
     ·exact absurd rfl h18
     ·rfl
    rw[e];exact a4A g h o hk h16 h17 h18
theorem a1G (hp:R8 g) (h:D4 sl s t) (hi:C4 g t) (h0:s.st=0):D4 (nB g t.obs.length (sl,s)).1 (nB g t.obs.length (sl,s)).2 (U5 g t):=by
 have xh:t.frs≠[]:=hi.run (by rw [h.st];exact h0);have xg:s.frs≠[]:=fun e=>xh (by rw [h.frs,e];rfl)
 obtain⟨fs,f,hf⟩:∃fs f,s.frs=fs++[f]:=⟨_,_,(List.dropLast_concat_getLast xg).symm⟩
 have xi:t.frs=fs.map (D8 (sig sl))++[D8 (sig sl) f]:=by rw [h.frs,hf,List.map_append];rfl
 obtain⟨k,a,xc,args',hk,o,e⟩:=hi.opAt hp xi;have xf:(g.f f.fn).op f.pc=(k:Int):=o.op;have xe:(g.f f.fn).ar f.pc=a:=o.ar;have xd:f.stk.map (ren (sig sl))=xc++args':=o.stk;obtain⟨xa,args,hs,rfl,rfl⟩:=List.map_eq_append_iff.1 xd;have xb:N7 k (g.f a.toNat).p=args.length:=by have:=o.pops;rwa [List.length_map] at this
 have o2:fH g f k a xa args:=⟨xf,xe,hs,xb⟩;have hS:nB g t.obs.length (sl,s)=doD g t.obs.length k a sl s fs f xa args:=by
  have e1:s.frs.getLast?=some f:=by rw [hf];simp
  have e2:s.frs.dropLast=fs:=by rw [hf];simp
  unfold nB;simp only;rw[e1,e2];simp only;rw[xf,xe,xb,hs];have e3:(xa++args).length - ((args.length:Nat):Int).toNat=xa.length:=by simp
  rw[e3,List.take_left,List.drop_left];rfl
 rw[e,hS];exact a2p g ⟨h,hf,hs⟩ hi o2 hk
theorem wU {k:Nat} {a:Int} {fs:List FrA} {f:FrA} {rest args:List Val} : (doA g k a t fs f rest args).obs.length=t.obs.length:=by
 have hr:(G0 t).obs.length=t.obs.length:=by
  unfold G0;split
  ·exact L4 _ _
  ·rfl
 have xa:∀kind fl,(U3 t fs f rest kind fl).obs.length=t.obs.length:=fun kind fl=>by
  unfold U3;split
  ·exact hr
  ·split
   ·rfl
   ·show ((G0 t).obs.set _ _).length=_
    rw[List.length_set,hr]
 have xb:∀v kind ix y,(setE t fs f rest v kind ix y).obs.length=t.obs.length:=fun v kind ix y=>by
  unfold setE;split
  ·exact List.length_set
  ·rfl
 unfold doA;split <;> first | rfl | exact xa _ _ | exact xb _ _ _ _ | skip
 all_goals first
  | (unfold F9;split <;> rfl)
  | (unfold bF;split <;> rfl)
  | (unfold V8;split <;> rfl)
  | (unfold D2;split <;> rfl)
  | (split <;> first | rfl | exact xa _ _ | (split <;> first | rfl | exact xa _ _))
theorem qJ : (U5 g t).obs.length=t.obs.length:=by
 unfold U5;split
 ·rfl
 ·exact wU
end
section
variable {sl:List Int} {s t:McA}
theorem kC:∀(l:List Int),(l.filter fun x=>decide (0<=x)).length=((List.range l.length).filter fun j=>((l[j]?).map fun x=>decide (0<=x)).getD false).length
 | []=>rfl
 | x::l=>by
  have ih:=kC l;rw[List.length_cons,List.range_succ_eq_map,List.filter_cons,List.filter_cons,List.filter_map,List.getElem?_cons_zero];have e:((fun j=>(((x::l)[j]?).map fun x=>decide (0<=x)).getD false)∘Nat.succ)=fun j=>((l[j]?).map fun x=>decide (0<=x)).getD false:=by funext j;simp
  rw[e];by_cases h:0<=x <;> simp [h,ih]
theorem uE {j:Nat} : ((sl[j]?).map fun x=>decide (0<=x)).getD false=true↔I3 sl j:=by
 unfold I3
 cases sl[j]? with
 | none=>simp
 | some x=>simp
theorem D4.taken (h:D4 sl s t):K3 t.obs=(sl.filter fun x=>decide (0<=x)).length:=by
 rw[kC,dN];have hI:∀j,j∈((List.range sl.length).filter fun j=>((sl[j]?).map fun x=>decide (0<=x)).getD false)↔I3 sl j:=fun j=>by
  rw[List.mem_filter,List.mem_range,uE];exact⟨fun c=>c.2,fun c=>⟨c.lt,c⟩⟩
 have xa:((List.range sl.length).filter fun j=>((sl[j]?).map fun x=>decide (0<=x)).getD false).Nodup:=List.nodup_range.filter _;generalize ((List.range sl.length).filter fun j=>((sl[j]?).map fun x=>decide (0<=x)).getD false)=I at hI xa ⊢;rw[show I.length=(I.map (sig sl)).length from (List.length_map _).symm];have xc:(I.map (sig sl)).Nodup:=by
  rw[List.nodup_iff_pairwise_ne] at xa ⊢;rw[List.pairwise_map];refine List.Pairwise.imp_of_mem ?_ xa;intro a b ha hb hne e;exact hne (h.inj2 ((hI a).1 ha) ((hI b).1 hb) e)
 refine gF (List.nodup_range.filter _) xc fun k=>?_
 rw[List.mem_filter,List.mem_range,List.mem_map];constructor
 ·rintro ⟨hk,hz⟩
  have ho:t.obs[k]?=some t.obs[k]:=L1b hk;rw[ho] at hz;have xb:t.obs[k].1≠0:=by simpa using hz
  have hm:(k:Int)∈sl:=Decidable.byContradiction fun hn=>xb ((h.zero ho).2 hn)
  obtain⟨i,hi,e⟩:=List.mem_iff_getElem.1 hm;have hx:sl[i]?=some (k:Int):=by rw [<- e];exact L1b hi
  exact⟨i,(hI i).2 ⟨_,hx,by omega⟩,by rw [bN hx,Int.toNat_natCast]⟩
 ·rintro ⟨i,hi,rfl⟩
  have xd:=(hI i).1 hi;obtain⟨p,hp,hq⟩:=h.get xd;refine⟨(L1a.1 hq).1,?_⟩;rw[hq];simp[h.kinds p (L2a hp)]
def atT:List Int->Nat->Nat->Option Nat
 | [],_,_=>none
 | x::l,n,k=>if x=(k:Int) then some n else atT l (n+1) k
theorem gY:∀(l:List Int) (n k i:Nat),atT l n k=some i->n<=i/\l[i - n]?=some (k:Int)
 | [],_,_,_,h=>by cases h
 | x::l,n,k,i,h=>by
  rw[atT] at h;by_cases e:x=(k:Int)
  ·rw [if_pos e] at h
   cases h;exact⟨L1c _,by rw [Nat.sub_self,e];rfl⟩
  ·rw [if_neg e] at h
   obtain⟨q1,q2⟩:=gY l (n+1) k i h;refine⟨by omega,?_⟩;rw[show i - n=(i - (n+1))+1 by omega,List.getElem?_cons_succ];exact q2
theorem rU:∀(l:List Int) (n k:Nat),atT l n k=none->¬(k:Int)∈l
 | [],_,_,_=>by simp
 | x::l,n,k,h=>by
  rw[atT] at h;by_cases e:x=(k:Int)
  ·rw [if_pos e] at h;cases h
  ·rw [if_neg e] at h
   have:=rU l (n+1) k h;intro hm;rcases List.mem_cons.1 hm with hm | hm
   ·exact e hm.symm
   ·exact this hm
def a2B (cap:Nat) (sl:List Int) (s:McA):List Ob:=(List.range cap).map fun k=>match atT sl 0 k with
 | none=>(0,[])
 | some i=>((s.obs.getD i (0,[])).1,(s.obs.getD i (0,[])).2.map (ren (sig sl)))
theorem D4.heap (h:D4 sl s t):a2B t.obs.length sl s=t.obs:=by
 refine List.ext_getElem? fun k=>?_
 unfold a2B;rw[List.getElem?_map];by_cases hk:k < t.obs.length
 ·rw [List.getElem?_range hk,Option.map_some]
  have ho:t.obs[k]?=some t.obs[k]:=L1b hk
  cases e:atT sl 0 k with
  | none =>
   have hn:=rU _ _ _ e;rw[ho,h.free k _ ho fun i hi=>hn (L2a hi)]
  | some i =>
   obtain⟨_,hx⟩:=gY _ _ _ _ e;rw[Nat.sub_zero] at hx;obtain⟨p,hp,hq⟩:=h.get (i:=i) ⟨_,hx,by omega⟩;rw[bN hx,Int.toNat_natCast] at hq;rw[hq];simp only;rw[List.getD_eq_getElem?_getD,hp];rfl
 ·rw [List.getElem?_eq_none_iff.2 (by rw [List.length_range];omega),List.getElem?_eq_none_iff.2 R4]
  rfl
def vY (sl:List Int) (al:List Nat):Nat:=((List.range sl.length).filter fun i=>decide (i∉al) && ((sl[i]?).map fun x=>decide (0<=x)).getD false).length
theorem D4.begin (n l cap:Nat):D4 [] ⟨0,[],[⟨n,0,List.replicate l (0,0),[]⟩],[],[]⟩ ⟨0,[],[⟨n,0,List.replicate l (0,0),[]⟩],List.replicate cap (0,[]),[]⟩ :=
 ⟨rfl,rfl,rfl,by simp [D8,X7],rfl,fun i x hx=>by simp at hx,fun i j x _ hx=>by simp at hx,fun i o ho=>by simp at ho,fun k o ho _=>by
  have:o∈List.replicate cap ((0,[]):Ob):=L2a ho;exact (List.mem_replicate.1 this).2,fun v hv h2=>by
  obtain⟨f,hf,hv⟩:=E0.1 hv;rw[List.mem_singleton] at hf;subst hf;have:v∈List.replicate l ((0,0):Val):=by simpa using hv
  rw[(List.mem_replicate.1 this).2] at h2;simp at h2,fun i o ho=>by simp at ho,fun o ho=>by simp at ho,fun o ho=>by simp at ho⟩
end
end Go.Proofs.YtbkmgoffiigdbaaGreatDoor
