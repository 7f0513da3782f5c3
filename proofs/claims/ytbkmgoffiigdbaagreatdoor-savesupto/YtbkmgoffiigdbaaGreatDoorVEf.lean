import Derived.Test.YtbkmgoffiigdbaaGreatDoorVDh
namespace Go.Proofs.YtbkmgoffiigdbaaGreatDoor
open Go.RowKit Go.Sort
section
variable {f:FrA} {fs:List FrA} {g:PgR} {j:Nat} {o:Ob} {obs:List Ob} {s:McA} {v:Val}
structure N3 (g:PgR):Prop where
 sized:X7 g
 legal:fL g
 fits:∀i,i < g.n->(B6 g (g.f i)).Fits
theorem zS (h:sF g (fs++[f]).reverse):jM g f 0/\jO g f.fn fs.reverse:=by
 rw[List.reverse_append] at h;exact h
theorem lL (h1:jM g f 0) (h2:jO g f.fn fs.reverse):sF g (fs++[f]).reverse:=by
 rw[List.reverse_append];exact⟨h1,h2⟩
structure hZ (g:PgR) (f:FrA) (k:Nat) (a:Int) (rest args:List Val):Prop where
 op:(g.f f.fn).op f.pc=k
 ar:(g.f f.fn).ar f.pc=a
 stk:f.stk=rest++args
 pops:U5 k (g.f a.toNat).p=args.length
theorem C8.top (h:C8 g s) {fs:List FrA} {f:FrA} (hf:s.frs=fs++[f]):jM g f 0/\jO g f.fn fs.reverse:=zS (by rw [<- hf];exact h.frs)
theorem jM.at (hp:N3 g) {f:FrA} {q:Int} (h:jM g f q):f.pc < (g.f f.fn).n/\S7 g f.fn f.pc=true/\(B6 g (g.f f.fn)).pop f.pc<=f.stk.length+q/\(B6 g (g.f f.fn)).behind f.pc (f.stk.length+q)<=10:=by
 obtain⟨h1,h2,h3⟩:=(hp.fits _ h.fn).1 _ _ h.reach;exact⟨h1,hp.legal _ h.fn _ h1,h2,h3⟩
theorem C8.setTop (h:C8 g s) {fs:List FrA} {f f':FrA} (hf:s.frs=fs++[f]) (hfn:f'.fn=f.fn) (hl:f'.loc.length=f.loc.length) (hr:(B6 g (g.f f'.fn)).Reach f'.pc f'.stk.length)
  (hv:∀v,v∈f'.loc++f'.stk->VOk s.obs v) (st:Int) (out:List Int) (ho:out.length<=40) (dr:List Int) (hd:dr.length<=200):C8 g ⟨st,out,fs++[f'],s.obs,dr⟩:=by
 obtain⟨h1,h2⟩:=h.top hf;refine⟨fun _=>by simp,lL ⟨by rw [hfn];exact h1.fn,by rw [hfn,hl];exact h1.loc,by rw [Int.add_zero];exact hr⟩ (by rw [hfn];exact h2),?_,fun x hx v hvx=>?_,h.obs,h.cap,ho,hd⟩
 ·have:=h.depth
  rw[hf] at this;simpa using this
 ·rcases List.mem_append.1 hx with hx | hx
  ·exact h.vals x (by rw [hf];simp [hx]) v hvx
  ·rw [List.mem_singleton] at hx
   subst hx;exact hv v hvx
theorem C8.here (h:C8 g s) {fs:List FrA} {f:FrA} (hf:s.frs=fs++[f]) {v:Val} (hv:v∈f.loc++f.stk):VOk s.obs v:=h.vals f (by rw [hf];simp) v hv
theorem hZ.reach (h:C8 g s) {fs:List FrA} {f:FrA} (hf:s.frs=fs++[f]) {k:Nat} {a:Int} {rest args ps:List Val} (o:hZ g f k a rest args) {c:Nat} (hc:c∈D9 f.pc k a) (hps:R7 k=ps.length) :
  (B6 g (g.f f.fn)).Reach c (rest++ps).length:=by
 have h1:=(h.top hf).1.reach;have h2:=G2.reach_next h1 (c:=c) (by show c∈D9 f.pc ((g.f f.fn).op f.pc) ((g.f f.fn).ar f.pc);rw [o.op,o.ar];exact hc);have e:(B6 g (g.f f.fn)).behind f.pc (f.stk.length+0)=(rest++ps).length:=by
  show (f.stk.length:Int)+0 - U5 ((g.f f.fn).op f.pc) (g.f ((g.f f.fn).ar f.pc).toNat).p+R7 ((g.f f.fn).op f.pc)=_;rw[o.op,o.ar,o.pops,hps,o.stk];simp only[List.length_append];omega
 rw[e] at h2;exact h2
theorem Y9 (h:C8 g s) {fs:List FrA} {f:FrA} (hf:s.frs=fs++[f]) {k:Nat} {a:Int} {rest args:List Val} (o:hZ g f k a rest args) (c:Nat) (ps:List Val) (hc:c∈D9 f.pc k a) (hps:R7 k=ps.length) (hv:∀v,v∈ps->VOk s.obs v) :
  C8 g (goA s fs f c (rest++ps)):=by
 refine h.setTop (f':=⟨f.fn,c,f.loc,rest++ps⟩) hf rfl rfl (o.reach h hf hc hps) (fun v hm=>?_) 0 s.out h.out s.dr h.dr;rcases List.mem_append.1 hm with hm | hm
 ·exact h.here hf (by simp [hm])
 ·rcases List.mem_append.1 hm with hm | hm
  ·exact h.here hf (by rw [o.stk];simp [hm])
  ·exact hv v hm
theorem U1 (h:C8 g s) {fs:List FrA} {f:FrA} (hf:s.frs=fs++[f]) (t:Int):C8 g (D4 s t) :=
 ⟨fun _=>by show s.frs≠[];rw [hf];simp,h.frs,h.depth,h.vals,h.obs,h.cap,h.out,h.dr⟩
theorem C8.setObs {s:McA} (h:C8 g s) {obs':List Ob} (hl:obs'.length=s.obs.length) (hv:∀f,f∈s.frs->∀v,v∈f.loc++f.stk->VOk obs' v) (ho:∀o,o∈obs'->OOk obs' o):C8 g { s with obs:=obs' } :=
 ⟨h.run,h.frs,h.depth,hv,ho,by rw [hl];exact h.cap,h.out,h.dr⟩
theorem jK {al:List Nat} (ho:obs[j]?=some o) (hj:j∈al) (hne:o.1≠0):∃o',(V3 obs al)[j]?=some o'/\o'.1≠0 :=
 ⟨L2 (bH obs al) o,by rw [Z2,ho,Option.map_some,if_pos hj],by rw [bY];exact hne⟩
theorem vO (h:C8 g s):∀o,o∈V3 s.obs (A0 s)->OOk (V3 s.obs (A0 s)) o:=by
 intro o ho;obtain⟨j,hj⟩:=List.mem_iff_getElem?.1 ho;rw[Z2] at hj;obtain⟨p,hp,rfl⟩:=Option.map_eq_some_iff.1 hj;have xa:=h.alive;by_cases hm:j∈A0 s
 ·rw [if_pos hm]
  have hk:=h.obs p (L2a hp);have keep:∀v,VOk s.obs v->(v.1=2->v.2.toNat∈A0 s)->VOk (V3 s.obs (A0 s)) v:=fun v hv hin=>hv.mono fun h2 o ho hne=>jK ho (hin h2) hne
  by_cases h3:p.1=3
  ·unfold L2
   split
   ·rename_i hc
    refine L4b (L4b (L4b ⟨h3,(0,0),?_,L4a rfl,by decide⟩));rcases hk with hk | hk | hk | ⟨_,u,hu,_⟩
    ·omega
    ·omega
    ·omega
    ·show p.2.set 0 (0,0)=[(0,0)]
     rw[hu];rfl
   ·rename_i hc
    rcases hk with hk | hk | hk | ⟨_,u,hu,hvu,h1⟩
    ·omega
    ·omega
    ·omega
    ·refine L4b (L4b (L4b ⟨h3,u,hu,hvu.mono fun h2 o ho hne=>?_,h1⟩))
     have hl:¬gD (bH s.obs (A0 s)) u=true:=fun e=>hc ⟨h3,by rw [hu];exact e⟩
     refine jK ho ?_ hne;refine Decidable.byContradiction fun hn=>hl ?_
     unfold gD;rw[if_pos h2,fE,ho,Option.map_some,if_neg hn];rfl
  ·have e:L2 (bH s.obs (A0 s)) p=p:=by unfold L2;rw [if_neg (fun hc=>h3 hc.1)]
   rw[e];exact hk.mono fun v hv hvo=>keep v hvo fun h2=>xa.shut j hm p hp h3 v hv h2
 ·rw [if_neg hm]
  exact L4a ⟨rfl,rfl⟩
theorem gA (h:C8 g s):C8 g (J4 s) :=
 h.setObs (T8 _ _) (fun f hf v hv=>(h.vals f hf v hv).mono fun h2 _ ho hne=>jK ho (h.alive.roots v (I2.2 ⟨f,hf,hv⟩) h2) hne) (vO h)
theorem rR (s:McA):(F9 s).frs=s.frs:=by unfold F9;split <;> rfl
theorem wP (h:C8 g s):C8 g (F9 s):=by
 unfold F9;split
 ·exact gA h
 ·exact h
theorem iW:∀(l:List Ob) (n j:Nat),freeA l n=some j->n<=j/\∃o,l[j - n]?=some o/\o.1=0
 | [],n,j,h=>by cases h
 | o::l,n,j,h=>by
  simp only[freeA] at h;by_cases h0:o.1=0
  ·rw [if_pos h0] at h
   cases h;exact⟨L1c _,o,by simp,h0⟩
  ·rw [if_neg h0] at h
   obtain⟨h1,x,hx,hk⟩:=iW l (n+1) j h;have e:j - n=(j - (n+1))+1:=by omega
   exact⟨by omega,x,by rw [e];simpa using hx,hk⟩
theorem pD {dr:List Int} {j:Nat × List Int} (h:eG obs dr=some j):(∃o,obs[j.1]?=some o/\o.1=0)/\j.2.length<=dr.length:=by
 cases dr with
 | nil =>
  obtain⟨i,hi,rfl⟩:=Option.map_eq_some_iff.1 h;exact⟨by simpa using (iW obs 0 i hi).2,L1c _⟩
 | cons d r =>
  simp only[eG] at h
  cases ho:obs[(d % (obs.length:Int)).toNat]? with
  | none=>rw [ho] at h;cases h
  | some o =>
   rw[ho] at h;simp only at h;split at h
   ·rename_i hk
    cases h;exact⟨⟨o,ho,hk⟩,by simp⟩
   ·obtain ⟨i,hi,rfl⟩:=Option.map_eq_some_iff.1 h
    exact⟨by simpa using (iW obs 0 i hi).2,by simp⟩
theorem VOk.laid {p x:Ob} (h:VOk obs v) (hx:obs[j]?=some x) (hf:x.1=0):VOk (obs.set j p) v :=
 h.mono fun _ o ho hne=>by
  have:j≠v.2.toNat:=fun e=>by subst e;rw [ho] at hx;cases hx;exact hne hf
  exact⟨o,by rw [List.getElem?_set_ne this];exact ho,hne⟩
theorem sX (h:C8 g s) {fs:List FrA} {f:FrA} (hf:s.frs=fs++[f]) {k:Nat} {a:Int} {rest args:List Val} (o:hZ g f k a rest args) (hc:f.pc+1∈D9 f.pc k a) (hps:R7 k=1) (kind:Int) (fl:List Val)
  (hk:kind≠0) (ho:OOk (F9 s).obs (kind,fl)):C8 g (X0 s fs f rest kind fl):=by
 have hr:=wP h;have xb:(F9 s).frs=fs++[f]:=(rR s).trans hf;unfold X0;split
 ·exact U1 hr xb 6
 ·split
  ·exact h
  ·rename_i j hj
   obtain⟨⟨x,hx,xe⟩,hd⟩:=pD hj;have xf:=(L1a.1 hx).1;have xa:∀v,VOk (F9 s).obs v->VOk ((F9 s).obs.set j.1 (kind,fl)) v:=fun v hv=>hv.laid hx xe
   have h1:C8 g { F9 s with obs:=(F9 s).obs.set j.1 (kind,fl) }:=by
    refine hr.setObs R6 (fun f hf v hv=>xa v (hr.vals f hf v hv)) fun p hp=>?_
    rcases List.mem_or_eq_of_mem_set hp with hp | rfl
    ·exact (hr.obs p hp).mono fun v _ hv=>xa v hv
    ·exact ho.mono fun v _ hv=>xa v hv
   have xc:VOk ((F9 s).obs.set j.1 (kind,fl)) (2,(j.1:Int)):=L4b (L4b ⟨rfl,by simp,(kind,fl),by simp [xf],hk⟩);have xd:=h1.setTop (f':=⟨f.fn,f.pc+1,f.loc,rest++[(2,(j.1:Int))]⟩) (fs:=fs) (f:=f) xb rfl rfl (o.reach h hf hc (by rw [hps];rfl)) (fun v hm=>?_) 0 s.out h.out j.2 (L5a hd h.dr)
   ·exact xd
   ·rcases List.mem_append.1 hm with hm | hm
    ·exact h1.here (fs:=fs) (f:=f) xb (by simp [hm])
    ·rcases List.mem_append.1 hm with hm | hm
     ·exact h1.here (fs:=fs) (f:=f) xb (by rw [o.stk];simp [hm])
     ·rw [List.mem_singleton] at hm
      subst hm;exact xc
theorem aT (h:C8 g s) {v:Val} : OOk s.obs (A1 s.obs v):=by
 unfold A1;split
 ·rw [List.getD_eq_getElem?_getD]
  cases e:s.obs[v.2.toNat]? with
  | none=>exact L4a ⟨rfl,rfl⟩
  | some o=>exact h.obs o (L2a e)
 ·exact L4a ⟨rfl,rfl⟩
theorem gH {kind:Int} {ix:Val} (h:F6 o kind ix=0):o.1=kind/\ix.1=1/\0<=ix.2/\ix.2.toNat < o.2.length:=by
 unfold F6 at h;split at h
 ·cases h
 ·rename_i h1
  split at h
  ·rename_i h2
   exact⟨Decidable.byContradiction fun e=>h1 (L4a e),Decidable.byContradiction fun e=>h1 (L4b e),h2.1,by omega⟩
  ·cases h
theorem a1F (h:C8 g s) {fs:List FrA} {f:FrA} (hf:s.frs=fs++[f]) {k:Nat} {a:Int} {rest args:List Val} (o:hZ g f k a rest args) (hc:f.pc+1∈D9 f.pc k a) (hps:R7 k=1) (v:Val) (kind:Int) (ix:Val):C8 g (cU s fs f rest v kind ix):=by
 unfold cU;split
 ·rename_i hr
  obtain⟨_,_,_,hl⟩:=gH hr;refine Y9 h hf o _ _ hc (by rw [hps];rfl) fun u hu=>?_
  rw[List.mem_singleton] at hu;subst hu;refine (aT h (v:=v)).vals (v:=(A1 s.obs v).2.getD ix.2.toNat (0,0)) ?_;rw[List.getD_eq_getElem?_getD,L1b hl];exact List.getElem_mem hl
 ·exact U1 h hf _
theorem eZ (h:(A1 obs v).1≠0):v.1=2/\obs[v.2.toNat]?=some (A1 obs v):=by
 unfold A1 at h ⊢;by_cases h2:v.1=2
 ·rw [if_pos h2,List.getD_eq_getElem?_getD] at h ⊢
  cases e:obs[v.2.toNat]? with
  | none=>rw [e] at h;exact absurd rfl h
  | some o=>exact ⟨h2,rfl⟩
 ·rw [if_neg h2] at h
  exact absurd rfl h
theorem a1G (h:C8 g s) {fs:List FrA} {f:FrA} (hf:s.frs=fs++[f]) {k:Nat} {a:Int} {rest args:List Val} (o:hZ g f k a rest args) (hc:f.pc+1∈D9 f.pc k a) (hps:R7 k=0) (v:Val) (kind:Int) (hkind:kind=1\/kind=2) (ix y:Val) (hy:VOk s.obs y):C8 g (setE s fs f rest v kind ix y):=by
 unfold setE;split
 ·rename_i hr
  obtain⟨hk,_,_,hl⟩:=gH hr;obtain⟨_,hg⟩:=eZ (obs:=s.obs) (v:=v) (by rw [hk];omega);have xe:=(L1a.1 hg).1;have xa:=aT h (v:=v);generalize A1 s.obs v=p at *
  have xb:∀u,VOk s.obs u->VOk (s.obs.set v.2.toNat (p.1,p.2.set ix.2.toNat y)) u:=fun u hu=>hu.mono fun _ q hq hne=>by
   by_cases e:v.2.toNat=u.2.toNat
   ·rw [e] at xe
    rw[e,List.getElem?_set_self xe];exact⟨_,rfl,by show p.1≠0;omega⟩
   ·exact ⟨q,by rw [List.getElem?_set_ne e];exact hq,hne⟩
  have h1:C8 g { s with obs:=s.obs.set v.2.toNat (p.1,p.2.set ix.2.toNat y) }:=by
   refine h.setObs R6 (fun f hf u hu=>xb u (h.vals f hf u hu)) fun q hq=>?_
   rcases List.mem_or_eq_of_mem_set hq with hq | rfl
   ·exact (h.obs q hq).mono fun u _ hu=>xb u hu
   ·have xc:∀u,u∈p.2.set ix.2.toNat y->VOk (s.obs.set v.2.toNat (p.1,p.2.set ix.2.toNat y)) u:=fun u hu=>by
     rcases List.mem_or_eq_of_mem_set hu with hu | rfl
     ·exact xb u (xa.vals hu)
     ·exact xb u hy
    rcases xa with xa | xa | xa | xa
    ·omega
    ·exact L4b (L4a ⟨xa.1,by simpa using xa.2.1,xc⟩)
    ·exact L4b (L4b (L4a ⟨xa.1,by simpa using xa.2.1,xc⟩))
    ·have:=xa.1;omega
  have xd:=o.reach h hf (ps:=[]) hc (by rw [hps];rfl);rw[List.append_nil] at xd;refine h1.setTop (f':=⟨f.fn,f.pc+1,f.loc,rest⟩) (fs:=fs) (f:=f) hf rfl rfl xd (fun u hm=>?_) 0 s.out h.out s.dr h.dr;refine h1.here (fs:=fs) (f:=f) hf ?_;rw[o.stk];rcases List.mem_append.1 hm with hm | hm
  ·simp [hm]
  ·simp [hm]
 ·exact U1 h hf _
theorem a5k (hp:N3 g) {s:McA} (h:C8 g s) {fs:List FrA} {f:FrA} (hf:s.frs=fs++[f]) {a:Int} {rest args:List Val} (o:hZ g f 14 a rest args):C8 g (aO g a s fs f rest args):=by
 unfold aO;split
 ·exact U1 h hf 5
 ·rename_i hd
  obtain⟨h1,h2⟩:=h.top hf;obtain⟨_,hl,_,_⟩:=h1.at hp;have xc:=S8 hl o.op;rw[o.ar] at xc;have xb:a.toNat < g.n:=by omega
  have xe:=hp.sized.bd xb;have xd:(g.f a.toNat).p=args.length:=by have:=o.pops;simpa [U5] using this
  have xa:(B6 g (g.f f.fn)).Reach f.pc (rest.length+(g.f a.toNat).p):=by
   have:=h1.reach;rw[o.stk,List.length_append] at this;rw[xd];simpa using this
  refine⟨fun _=>by simp,lL ⟨xb,?_,by simpa using G2.reach_first _⟩ ?_,by simp;omega,fun x hx v hv=>?_,h.obs,h.cap,h.out,h.dr⟩
  ·simp only [List.length_append,List.length_replicate]
   omega
  ·rw [List.reverse_append]
   exact⟨⟨h1.fn,h1.loc,xa⟩,o.op,by show (g.f f.fn).ar f.pc=(a.toNat:Int);rw [o.ar];omega,h2⟩
  ·rcases List.mem_append.1 hx with hx | hx
   ·rcases List.mem_append.1 hx with hx | hx
    ·exact h.vals x (by rw [hf];simp [hx]) v hv
    ·rw [List.mem_singleton] at hx
     subst hx;refine h.here hf ?_;rw[o.stk];rcases List.mem_append.1 hv with hv | hv
     ·simp [hv]
     ·simp [hv]
   ·rw [List.mem_singleton] at hx
    subst hx;rw[List.append_nil] at hv;rcases List.mem_append.1 hv with hv | hv
    ·exact h.here hf (by rw [o.stk];simp [hv])
    ·exact L4a (List.eq_of_mem_replicate hv)
theorem zX (h:C8 g s) {fs:List FrA} {f:FrA} (hf:s.frs=fs++[f]) {x:Val} (hx:VOk s.obs x):C8 g (C9 s fs x):=by
 unfold C9;split
 ·rename_i he
  rw[List.getLast?_eq_none_iff] at he;exact⟨fun e=>(by cases e),trivial,R6,fun f hf=>(by cases hf),h.obs,h.cap,h.out,h.dr⟩
 ·rename_i c hc
  obtain⟨xb,rfl⟩:∃xb,fs.getLast xb=c:=by
   cases xc:fs with
   | nil=>rw [xc] at hc;cases hc
   | cons y l=>exact ⟨by simp,by rw [xc] at hc;rw [List.getLast?_eq_some_getLast R6] at hc;exact L5b hc⟩
  have xc:fs=fs.dropLast++[fs.getLast xb]:=(List.dropLast_concat_getLast xb).symm;obtain⟨h1,h2⟩:=h.top hf;generalize fs.getLast xb=c at *
  generalize fs.dropLast=r at *
  subst xc;rw[List.reverse_append] at h2;obtain⟨q1,q2,q3,q4⟩:=h2;have xa:(B6 g (g.f c.fn)).Reach (c.pc+1) (c.stk++[x]).length:=by
   have h3:=G2.reach_next q1.reach (c:=c.pc+1) (by show c.pc+1∈D9 c.pc ((g.f c.fn).op c.pc) ((g.f c.fn).ar c.pc);rw [q2];simp [D9]);have e:(B6 g (g.f c.fn)).behind c.pc (c.stk.length+(g.f f.fn).p)=(c.stk++[x]).length:=by
    show (c.stk.length:Int)+(g.f f.fn).p - U5 ((g.f c.fn).op c.pc) (g.f ((g.f c.fn).ar c.pc).toNat).p+R7 ((g.f c.fn).op c.pc)=_;rw[q2,q3];simp[U5,R7]
   rw[e] at h3;exact h3
  refine⟨fun _=>by simp [goA],lL ⟨q1.fn,q1.loc,by rw [Int.add_zero];exact xa⟩ q4,?_,fun y hy v hv=>?_,h.obs,h.cap,h.out,h.dr⟩
  ·have:=h.depth
   rw[hf] at this;simp at this;simp[goA];omega
  ·rcases List.mem_append.1 hy with hy | hy
   ·exact h.vals y (by rw [hf];simp [hy]) v hv
   ·rw [List.mem_singleton] at hy
    subst hy;rcases List.mem_append.1 hv with hv | hv
    ·exact h.vals c (by rw [hf];simp) v (by simp [hv])
    ·rcases List.mem_append.1 hv with hv | hv
     ·exact h.vals c (by rw [hf];simp) v (by simp [hv])
     ·rw [List.mem_singleton] at hv
      subst hv;exact hx
end
section
variable {args:List Val} {g:PgR} {obs:List Ob} {q:Int} {s:McA} {x:Val}
theorem V6 (h:q=(args.length:Int)) (hq:q=0):args=[]:=List.length_eq_zero_iff.1 R5
theorem F8 (h:q=(args.length:Int)) (hq:q=1):∃x,args=[x]:=by
 match args,h with
 | [x],_=>exact ⟨x,rfl⟩
 | [],h=>simp at h;omega
 | _::_::_,h=>simp at h;omega
theorem L4 (h:q=(args.length:Int)) (hq:q=2):∃x y,args=[x,y]:=by
 match args,h with
 | [x,y],_=>exact ⟨x,y,rfl⟩
 | [],h=>simp at h;omega
 | [_],h=>simp at h;omega
 | _::_::_::_,h=>simp at h;omega
theorem a1y (h:q=(args.length:Int)) (hq:q=3):∃x y z,args=[x,y,z]:=by
 match args,h with
 | [x,y,z],_=>exact ⟨x,y,z,rfl⟩
 | [],h=>simp at h;omega
 | [_],h=>simp at h;omega
 | [_,_],h=>simp at h;omega
 | _::_::_::_::_,h=>simp at h;omega
theorem kZ (n:Int):VOk obs (1,n):=L4b (L4a rfl)
theorem uJ : VOk obs (0,0):=L4a rfl
theorem cD (h:VOk obs x):∀v,v∈[x]->VOk obs v:=fun v hv=>by rw [List.mem_singleton] at hv;subst hv;exact h
theorem a1U {y:Val} (h:VOk obs x) (h':VOk obs y):∀v,v∈[x,y]->VOk obs v:=fun v hv=>by
 rcases List.mem_cons.1 hv with rfl | hv
 ·exact h
 ·exact cD h' v hv
theorem eQ (h:C8 g s) {fs:List FrA} {f:FrA} (hf:s.frs=fs++[f]) {k:Nat} {a:Int} {rest args:List Val} (o:hZ g f k a rest args) (hc:f.pc+1∈D9 f.pc k a) (hps:R7 k=1) (x y:Val) (z:Int):C8 g (J6 s fs f rest x y z):=by
 unfold J6;split
 ·exact Y9 h hf o _ _ hc hps (cD (kZ z))
 ·exact U1 h hf 2
theorem a5W (h:C8 g s) {fs:List FrA} {f:FrA} (hf:s.frs=fs++[f]) {v:Val} (hv:v∈f.loc++f.stk):VOk (F9 s).obs v:=(wP h).here ((rR s).trans hf) hv
theorem a8Z (hp:N3 g) {s:McA} (h:C8 g s) {fs:List FrA} {f:FrA} (hf:s.frs=fs++[f]) {k:Nat} {a:Int} {rest args:List Val} (o:hZ g f k a rest args):C8 g (doA g k a s fs f rest args):=by
 obtain⟨h1,h2⟩:=h.top hf;obtain⟨xe,hl,_,_⟩:=h1.at hp;have hk:=gC hl;rw[o.op] at hk;have xa:∀v,v∈args->VOk s.obs v:=fun v hv=>h.here hf (by rw [o.stk];simp [hv])
 have xc:∀v,v∈args->VOk (F9 s).obs v:=fun v hv=>a5W h hf (by rw [o.stk];simp [hv])
 have hn:=o.pops;have xb:k=0\/k=1\/k=2\/k=3\/k=4\/k=5\/k=6\/k=7\/k=8\/k=9\/k=10\/k=11\/k=12\/k=13\/k=14\/k=15\/k=16\/k=17\/k=18\/k=19\/k=20\/k=21\/k=22\/k=23\/k=24\/k=25\/k=26\/k=27:=by omega
 rcases xb with rfl | rfl | rfl | rfl | rfl | rfl | rfl | rfl | rfl | rfl | rfl | rfl | rfl | rfl | rfl | rfl | rfl | rfl | rfl | rfl | rfl | rfl | rfl | rfl | rfl | rfl | rfl | rfl
 ·obtain rfl:=V6 hn rfl
  exact Y9 h hf o _ _ (by simp [D9]) rfl (cD (kZ _))
 ·obtain rfl:=V6 hn rfl
  exact Y9 h hf o _ _ (by simp [D9]) rfl (cD uJ)
 ·obtain rfl:=V6 hn rfl
  refine Y9 h hf o _ _ (by simp [D9]) rfl (cD ?_);rw[List.getD_eq_getElem?_getD]
  cases e:f.loc[a.toNat]? with
  | none=>exact uJ
  | some x=>exact h.here hf (by simp [L2a e])
 ·obtain ⟨x,rfl⟩:=F8 hn rfl
  have hr:=o.reach h hf (ps:=[]) (c:=f.pc+1) (by simp [D9]) rfl;rw[List.append_nil] at hr;refine h.setTop (f':=⟨f.fn,f.pc+1,f.loc.set a.toNat x,rest⟩) hf rfl R6 hr (fun v hv=>?_) 0 s.out h.out s.dr h.dr;rcases List.mem_append.1 hv with hv | hv
  ·rcases List.mem_or_eq_of_mem_set hv with hv | rfl
   ·exact h.here hf (by simp [hv])
   ·exact xa v R6
  ·exact h.here hf (by rw [o.stk];simp [hv])
 ·obtain ⟨x,rfl⟩:=F8 hn rfl
  exact Y9 h hf o _ _ (by simp [D9]) rfl (a1U (xa x R6) (xa x R6))
 ·obtain ⟨x,rfl⟩:=F8 hn rfl
  have:=Y9 h hf o (f.pc+1) [] (by simp [D9]) rfl R6;rwa [List.append_nil] at this
 ·obtain ⟨x,y,rfl⟩:=L4 hn rfl
  exact Y9 h hf o _ _ (by simp [D9]) rfl (a1U (xa y R6) (xa x R6))
 ·obtain ⟨x,y,rfl⟩:=L4 hn rfl
  exact eQ h hf o (by simp [D9]) rfl _ _ _
 ·obtain ⟨x,y,rfl⟩:=L4 hn rfl
  exact eQ h hf o (by simp [D9]) rfl _ _ _
 ·obtain ⟨x,y,rfl⟩:=L4 hn rfl
  exact eQ h hf o (by simp [D9]) rfl _ _ _
 ·obtain ⟨x,y,rfl⟩:=L4 hn rfl
  exact eQ h hf o (by simp [D9]) rfl _ _ _
 ·obtain ⟨x,y,rfl⟩:=L4 hn rfl
  exact Y9 h hf o _ _ (by simp [D9]) rfl (cD (kZ _))
 ·obtain rfl:=V6 hn rfl
  have:=Y9 h hf o a.toNat [] (by simp [D9]) rfl R6;rwa [List.append_nil] at this
 ·obtain ⟨x,rfl⟩:=F8 hn rfl
  show C8 g (if M7 x=true then goA s fs f (f.pc+1) rest else goA s fs f a.toNat rest);split
  ·have:=Y9 h hf o (f.pc+1) [] (by simp [D9]) rfl R6
   rwa [List.append_nil] at this
  ·have:=Y9 h hf o a.toNat [] (by simp [D9]) rfl R6
   rwa [List.append_nil] at this
 ·show C8 g (aO g a s fs f rest args)
  exact a5k hp h hf o
 ·obtain ⟨x,rfl⟩:=F8 hn rfl
  exact zX h hf (xa x R6)
 ·obtain rfl:=V6 hn rfl
  refine sX h hf o (by simp [D9]) rfl _ _ R4 (L4b (L4a ⟨rfl,?_,fun v hv=>L4a (List.eq_of_mem_replicate hv)⟩));have xd:F5 g.n (g.f f.fn).l (g.f f.fn).n ((g.f f.fn).op f.pc) ((g.f f.fn).ar f.pc)=true:=hl;rw[o.op,o.ar] at xd;have:B3 a 0 8=true:=xd;rw[E5] at this;simp only[List.length_replicate];omega
 ·obtain ⟨x,rfl⟩:=F8 hn rfl
  show C8 g (if x.1≠1 then D4 s 2 else if 0<=x.2/\x.2<=12 then X0 s fs f rest 2 (List.replicate x.2.toNat (0,0)) else D4 s 4);split
  ·exact U1 h hf _
  ·split
   ·rename_i hx
    refine sX h hf o (by simp [D9]) rfl _ _ R4 (L4b (L4b (L4a ⟨rfl,?_,fun v hv=>L4a (List.eq_of_mem_replicate hv)⟩)));simp only[List.length_replicate];omega
   ·exact U1 h hf _
 ·obtain ⟨x,rfl⟩:=F8 hn rfl
  show C8 g (if x.1=2 then X0 s fs f rest 3 [x] else D4 s 2);split
  ·rename_i hx
   exact sX h hf o (by simp [D9]) rfl _ _ R4 (L4b (L4b (L4b ⟨rfl,x,rfl,xc x R6,by omega⟩)))
  ·exact U1 h hf _
 ·obtain ⟨x,rfl⟩:=F8 hn rfl
  exact a1F h hf o (by simp [D9]) rfl _ _ _
 ·obtain ⟨x,y,rfl⟩:=L4 hn rfl
  exact a1G h hf o (by simp [D9]) rfl _ _ (L4a rfl) _ _ (xa y R6)
 ·obtain ⟨x,y,rfl⟩:=L4 hn rfl
  exact a1F h hf o (by simp [D9]) rfl _ _ _
 ·obtain ⟨x,y,z,rfl⟩:=a1y hn rfl
  exact a1G h hf o (by simp [D9]) rfl _ _ (L4b rfl) _ _ (xa z R6)
 ·obtain ⟨x,rfl⟩:=F8 hn rfl
  show C8 g (if (A1 s.obs x).1=1\/(A1 s.obs x).1=2 then goA s fs f (f.pc+1) (rest++[(1,((A1 s.obs x).2.length:Int))]) else D4 s 2);split
  ·exact Y9 h hf o _ _ (by simp [D9]) rfl (cD (kZ _))
  ·exact U1 h hf _
 ·obtain ⟨x,rfl⟩:=F8 hn rfl
  show C8 g (if (A1 s.obs x).1=3 then goA s fs f (f.pc+1) (rest++[T7 s ((A1 s.obs x).2.headD (0,0))]) else D4 s 2);split
  ·rename_i h3
   refine Y9 h hf o _ _ (by simp [D9]) rfl (cD ?_);unfold T7;split
   ·rcases aT h (v:=x) with hr | hr | hr | ⟨_,u,hu,hv,_⟩
    ·omega
    ·omega
    ·omega
    ·rw [hu];exact hv
   ·exact uJ
  ·exact U1 h hf _
 ·obtain ⟨x,rfl⟩:=F8 hn rfl
  exact Y9 h hf o _ _ (by simp [D9]) rfl (cD (kZ _))
 ·obtain ⟨x,rfl⟩:=F8 hn rfl
  show C8 g (if x.1≠1 then D4 s 2 else if 40<=s.out.length then D4 s 7 else ⟨0,s.out++[x.2],fs++[⟨f.fn,f.pc+1,f.loc,rest⟩],s.obs,s.dr⟩);split
  ·exact U1 h hf _
  ·split
   ·exact U1 h hf _
   ·rename_i hx ho
    have hr:=o.reach h hf (ps:=[]) (c:=f.pc+1) (by simp [D9]) rfl;rw[List.append_nil] at hr;refine h.setTop (f':=⟨f.fn,f.pc+1,f.loc,rest⟩) hf rfl rfl hr (fun v hv=>?_) 0 _ Q9 s.dr h.dr;rcases List.mem_append.1 hv with hv | hv
    ·exact h.here hf (by simp [hv])
    ·exact h.here hf (by rw [o.stk];simp [hv])
 ·obtain rfl:=V6 hn rfl
  exact⟨fun e=>(by cases e),trivial,L4c _,fun f hf=>(by cases hf),h.obs,h.cap,h.out,h.dr⟩
theorem C8.opAt (hp:N3 g) {s:McA} (h:C8 g s) {fs:List FrA} {f:FrA} (hf:s.frs=fs++[f]) :
  ∃(k:Nat) (a:Int) (rest args:List Val),k < 28/\hZ g f k a rest args/\X2 g s=doA g k a s fs f rest args:=by
 obtain⟨h1,_⟩:=h.top hf;obtain⟨xc,hl,xa,_⟩:=h1.at hp;have hk:=gC hl;obtain⟨k,xb⟩:=L5c hk.1;obtain⟨n,hn⟩:=L5c (show 0<=U5 ((g.f f.fn).op f.pc) (g.f ((g.f f.fn).ar f.pc).toNat).p from ((nG hp.sized hp.legal h1.fn).pop_bd xc).1);have xd:n<=f.stk.length:=by
  have:U5 ((g.f f.fn).op f.pc) (g.f ((g.f f.fn).ar f.pc).toNat).p<=(f.stk.length:Int)+0:=xa;omega
 refine⟨k,(g.f f.fn).ar f.pc,f.stk.take (f.stk.length - n),f.stk.drop (f.stk.length - n),by omega,⟨xb,rfl,by simp,by rw [<- xb,hn];simp;omega⟩,?_⟩;unfold X2;have e1:s.frs.getLast?=some f:=by rw [hf];simp
 have e2:s.frs.dropLast=fs:=by rw [hf];simp
 rw[e1,e2];simp only;rw[hn,xb];rfl
theorem kJ (hp:N3 g) {s:McA} (h:C8 g s) (h0:s.st=0):C8 g (X2 g s):=by
 have xa:=h.run h0;obtain⟨k,a,xc,xb,_,o,e⟩:=h.opAt hp (List.dropLast_concat_getLast xa).symm;rw[e];exact a8Z hp h (List.dropLast_concat_getLast xa).symm o
def L8 (g:PgR):Nat->McA->McA
 | 0,s=>s
 | n+1,s=>if s.st=0 then L8 g n (X2 g s) else s
def E9 (g:PgR):Nat->McA->Nat
 | 0,_=>0
 | n+1,s=>if s.st=0 then E9 g n (X2 g s)+1 else 0
theorem sY (hp:N3 g):∀(n:Nat) {s:McA},C8 g s->C8 g (L8 g n s)
 | 0,_,h=>h
 | n+1,s,h=>by
  rw[L8];split
  ·rename_i h0;exact sY hp n (kJ hp h h0)
  ·exact h
theorem rV (g:PgR):∀(n:Nat) (s:McA),E9 g n s<=n
 | 0,_=>L1c _
 | n+1,s=>by
  rw[E9];split
  ·have:=rV g n (X2 g s);omega
  ·omega
theorem pW (g:PgR) {s:McA} (h:s.st≠0):∀n,L8 g n s=s/\E9 g n s=0
 | 0=>⟨rfl,rfl⟩
 | n+1=>by rw [L8,E9,if_neg h,if_neg h];exact ⟨rfl,rfl⟩
theorem pU (g:PgR):∀(n m:Nat) (s:McA),L8 g (n+m) s=L8 g m (L8 g n s)/\E9 g (n+m) s=E9 g n s+E9 g m (L8 g n s)
 | 0,m,s=>by rw [Nat.zero_add];exact ⟨rfl,by simp [E9,L8]⟩
 | n+1,m,s=>by
  rw[show n+1+m=(n+m)+1 by omega,L8,E9,L8,E9];by_cases h:s.st=0
  ·rw [if_pos h,if_pos h,if_pos h,if_pos h]
   obtain⟨h1,h2⟩:=pU g n m (X2 g s);exact⟨h1,by rw [h2];omega⟩
  ·rw [if_neg h,if_neg h,if_neg h,if_neg h]
   obtain⟨h1,h2⟩:=pW g h m;exact⟨h1.symm,by rw [h2]⟩
theorem pV (g:PgR):∀(n:Nat) (s:McA),L8 g (E9 g n s) s=L8 g n s/\E9 g (E9 g n s) s=E9 g n s
 | 0,_=>⟨rfl,rfl⟩
 | n+1,s=>by
  by_cases h:s.st=0
  ·rw [E9,if_pos h,L8,if_pos h,E9,if_pos h]
   obtain⟨h1,h2⟩:=pV g n (X2 g s);refine⟨?_,by rw [h2]⟩;rw[h1,L8,if_pos h]
  ·rw [E9,if_neg h,L8,L8,if_neg h]
   exact⟨rfl,rfl⟩
end
section
variable {g:PgR} {l:List Val} {met:List Nat} {obs:List Ob} {s:McA}
inductive iM (obs:List Ob) (l:List Val):Nat->Prop
 | root (v:Val) (hv:v∈l) (h2:v.1=2):iM obs l v.2.toNat
 | field (j:Nat) (o:Ob) (v:Val) (hj:iM obs l j) (ho:obs[j]?=some o) (h3:o.1≠3) (hv:v∈o.2) (h2:v.1=2):iM obs l v.2.toNat
theorem gN.of_lead (h:gN obs l met) {j:Nat} (hl:iM obs l j):j∈met:=by
 induction hl with
 | root v hv h2=>exact h.roots v hv h2
 | field j o v _ ho h3 hv h2 ih=>exact h.shut j ih o ho h3 v hv h2
theorem eR {k:List Val} (hm:∀j,j∈met->iM obs l j) (hk:∀v,v∈k->v.1=2->iM obs l v.2.toNat):∀j,j∈C1 met k->iM obs l j:=by
 intro j hj;rcases (aD k met j).1 hj with h | ⟨v,h1,h2,rfl⟩
 ·exact hm j h
 ·exact hk v h1 h2
theorem fH : ∀(n i:Nat) (met:List Nat),(∀j,j∈met->iM obs l j)->∀j,j∈G8 obs n i met->iM obs l j
 | 0,_,_,hm=>hm
 | n+1,i,met,hm=>by
  rw[G8]
  cases hi:met[i]? with
  | none=>exact hm
  | some k =>
   cases ho:obs[k]? with
   | none=>simp only [ho];exact hm
   | some o =>
    simp only[ho];refine fH n (i+1) _ ?_;by_cases h3:o.1=3
    ·rw [if_pos h3];exact hm
    ·rw [if_neg h3]
     exact eR hm fun v hv h2=>iM.field k o v (hm k (L2a hi)) ho h3 hv h2
theorem qP : ∀j,j∈M0 obs l->iM obs l j :=
 fH _ _ _ (eR R6 fun v hv h2=>iM.root v hv h2)
theorem gF:∀{a b:List Nat},a.Nodup->(∀j,j∈a->j∈b)->a.length<=b.length
 | [],_,_,_=>L4c _
 | x::a,b,h,hs=>by
  obtain⟨h1,h2⟩:=List.nodup_cons.1 h;have hx:=hs x R6;have:=gF (b:=b.erase x) h2 fun j hj=>(List.mem_erase_of_ne (fun e=>h1 (by rw [<- e];exact hj))).2 (hs j (by simp [hj]))
  have hp:=List.length_pos_of_mem hx;rw[List.length_erase_of_mem hx] at this;simp only[List.length_cons];omega
theorem jD {a b:List Nat} (ha:a.Nodup) (hb:b.Nodup) (h:∀j,j∈a↔j∈b):a.length=b.length :=
 Nat.le_antisymm (gF ha fun j hj=>(h j).1 hj) (gF hb fun j hj=>(h j).2 hj)
theorem fG (obs:List Ob):L3 obs=((List.range obs.length).filter fun j=>((obs[j]?).map fun o=>o.1 != 0).getD false).length:=by
 unfold L3
 induction obs with
 | nil=>rfl
 | cons o l ih =>
  rw[List.length_cons,List.range_succ_eq_map,List.filter_cons,List.filter_cons,List.filter_map,List.getElem?_cons_zero];have e:((fun j=>(((o::l)[j]?).map fun o=>o.1 != 0).getD false)∘Nat.succ)=fun j=>((l[j]?).map fun o=>o.1 != 0).getD false:=by funext j;simp
  rw[e]
  cases h:(o.1 != 0) <;> simp [h,ih]
theorem dH (h:C8 g s) {j:Nat} (hj:j∈A0 s):∃o,s.obs[j]?=some o/\o.1≠0:=by
 have:=qP j hj
 cases this with
 | root v hv h2 =>
  obtain⟨f,hf,hv⟩:=I2.1 hv;exact ((h.vals f hf v hv).ref h2).2
 | field k o v _ ho h3 hv h2=>exact (((h.obs o (L2a ho)).vals hv).ref h2).2
theorem iH (h:C8 g s):L3 (J4 s).obs=(A0 s).length:=by
 rw[fG];refine jD (List.nodup_range.filter _) h.alive.nodup fun j=>?_
 rw[List.mem_filter,List.mem_range];have e:(J4 s).obs[j]?=(s.obs[j]?).map fun o=>L2 (bH s.obs (A0 s)) (if j∈A0 s then o else (0,[])):=Z2 _ _ _
 constructor
 ·rintro ⟨_,h2⟩
  rw[e] at h2;refine Decidable.byContradiction fun hn=>?_
  cases ho:s.obs[j]? with
  | none=>rw [ho] at h2;simp at h2
  | some o=>rw [ho,Option.map_some,if_neg hn] at h2;simp [bY] at h2
 ·intro hj
  obtain⟨o,ho,xa⟩:=dH h hj;have hl:=(L1a.1 ho).1;refine⟨by show j < (V3 _ _).length;rw [T8];exact hl,?_⟩;rw[e,ho,Option.map_some,if_pos hj];simp[bY,xa]
theorem a5V (s:McA):(F9 s).obs.length=s.obs.length:=by
 unfold F9;split
 ·exact T8 _ _
 ·rfl
end
section
variable {A:List Nat} {r:Nat->Nat} {v:Val}
def ren (r:Nat->Nat) (v:Val):Val:=if v.1=2 then (2,(r v.2.toNat:Int)) else v
def G5 (r:Nat->Nat) (f:FrA):FrA:=⟨f.fn,f.pc,f.loc.map (ren r),f.stk.map (ren r)⟩
theorem G3 (r:Nat->Nat) (v:Val):(ren r v).1=v.1:=by unfold ren;split <;> simp_all
theorem gZ (h:v.1=2):(ren r v).2.toNat=r v.2.toNat:=by unfold ren;rw [if_pos h];rfl
theorem I8 (h:v.1≠2):ren r v=v:=by unfold ren;rw [if_neg h]
theorem xW (r:Nat->Nat) (l:List FrA):C6 (l.map (G5 r))=(C6 l).map (ren r):=by
 unfold C6;rw[List.flatMap_map,List.map_flatMap];congr 1
 funext f
 simp[G5]
def uX (r:Nat->Nat) (A:List Nat):Prop:=∀i j,i∈A->j∈A->r i=r j->i=j
theorem mJ {met:List Nat} (hr:uX r A) (hm:∀j,j∈met->j∈A) {j:Nat} (hj:j∈A):r j∈met.map r↔j∈met:=by
 rw[List.mem_map];constructor
 ·rintro ⟨k,hk,e⟩
  rw[hr k j (hm k hk) hj e] at hk;exact hk
 ·intro h
  exact⟨j,h,rfl⟩
theorem gE (hr:uX r A):∀(l:List Val) (met:List Nat),(∀j,j∈met->j∈A)->(∀v,v∈l->v.1=2->v.2.toNat∈A)->C1 (met.map r) (l.map (ren r))=(C1 met l).map r
 | [],_,_,_=>rfl
 | v::l,met,hm,hl=>by
  rw[List.map_cons,C1,C1];by_cases h2:v.1=2
  ·have hv:=hl v R6 h2
   have e:(ren r v).2.toNat=r v.2.toNat:=gZ h2;by_cases hin:v.2.toNat∈met
   ·rw [if_neg (fun h=>h.2 (by rw [e];exact (mJ hr hm hv).2 hin)),if_neg (fun h=>h.2 hin)]
    exact gE hr l met hm fun u hu=>hl u (by simp [hu])
   ·rw [if_pos ⟨by rw [G3];exact h2,fun h=>hin ((mJ hr hm hv).1 (by rw [<- e];exact h))⟩,if_pos ⟨h2,hin⟩,e]
    have:=gE hr l (met++[v.2.toNat]) (fun j hj=>by
     rcases List.mem_append.1 hj with hj | hj
     ·exact hm j hj
     ·rw [List.mem_singleton] at hj;rw [hj];exact hv) fun u hu=>hl u (by simp [hu])
    rw[List.map_append] at this;exact this
  ·rw [if_neg (fun h=>h2 (by rw [<- G3 r v];exact h.1)),if_neg (fun h=>h2 h.1)]
   exact gE hr l met hm fun u hu=>hl u (by simp [hu])
def a4s (r:Nat->Nat) (A:List Nat) (obs obt:List Ob):Prop :=
 ∀j,j∈A->∃o p,obs[j]?=some o/\obt[r j]?=some p/\p.1=o.1/\(o.1≠3->p.2=o.2.map (ren r))
theorem qD {obs obt:List Ob} (hr:uX r A) (hmv:a4s r A obs obt) (hs:∀j,j∈A->lD obs A j):∀(n i:Nat) (met:List Nat),(∀j,j∈met->j∈A)->G8 obt n i (met.map r)=(G8 obs n i met).map r
 | 0,_,_,_=>rfl
 | n+1,i,met,hm=>by
  rw[G8,G8,List.getElem?_map]
  cases hi:met[i]? with
  | none=>rfl
  | some j =>
   have hj:=hm j (L2a hi);obtain⟨o,p,ho,hp,hk,hf⟩:=hmv j hj;simp only[Option.map_some,ho,hp];by_cases h3:o.1=3
   ·rw [if_pos h3,if_pos (by rw [hk];exact h3)]
    exact qD hr hmv hs n (i+1) met hm
   ·rw [if_neg h3,if_neg (by rw [hk];exact h3),hf h3]
    have hl:∀v,v∈o.2->v.1=2->v.2.toNat∈A:=hs j hj o ho h3
    rw[gE hr o.2 met hm hl];refine qD hr hmv hs n (i+1) _ fun k hk=>?_
    rcases (aD o.2 met k).1 hk with h | ⟨v,hv,h2,rfl⟩
    ·exact hm k h
    ·exact hl v hv h2
end
end Go.Proofs.YtbkmgoffiigdbaaGreatDoor
