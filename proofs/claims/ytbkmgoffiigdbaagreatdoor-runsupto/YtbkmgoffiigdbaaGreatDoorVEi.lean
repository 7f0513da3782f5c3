import Derived.Test.YtbkmgoffiigdbaaGreatDoorVEb
namespace Go.Proofs.YtbkmgoffiigdbaaGreatDoor
open Go.RowKit Go.Sort Go.Proofs.Tryz
section
variable {f:FrA} {fs:List FrA} {g:PgR} {j:Nat} {o:Ob} {obs:List Ob} {s:McA} {v:Val}
structure R8 (g:PgR):Prop where
 sized:T9 g
 legal:dV g
 fits:∀i,i < g.n->(B6 g (g.f i)).Fits
theorem vW (h:pE g (fs++[f]).reverse):gN g f 0/\gO g f.fn fs.reverse:=by
 rw[List.reverse_append] at h;exact h
theorem jM (h1:gN g f 0) (h2:gO g f.fn fs.reverse):pE g (fs++[f]).reverse:=by
 rw[List.reverse_append];exact⟨h1,h2⟩
structure fH (g:PgR) (f:FrA) (k:Nat) (a:Int) (rest args:List Val):Prop where
 op:(g.f f.fn).op f.pc=k
 ar:(g.f f.fn).ar f.pc=a
 stk:f.stk=rest++args
 pops:N7 k (g.f a.toNat).p=args.length
theorem C4.top (h:C4 g s) {fs:List FrA} {f:FrA} (hf:s.frs=fs++[f]):gN g f 0/\gO g f.fn fs.reverse:=vW (by rw [<- hf];exact h.frs)
theorem gN.at (hp:R8 g) {f:FrA} {q:Int} (h:gN g f q):f.pc < (g.f f.fn).n/\N0 g f.fn f.pc=true/\(B6 g (g.f f.fn)).pop f.pc<=f.stk.length+q/\(B6 g (g.f f.fn)).behind f.pc (f.stk.length+q)<=10:=by
 obtain⟨h1,h2,h3⟩:=(hp.fits _ h.fn).1 _ _ h.reach;exact⟨h1,hp.legal _ h.fn _ h1,h2,h3⟩
theorem C4.setTop (h:C4 g s) {fs:List FrA} {f f':FrA} (hf:s.frs=fs++[f]) (hfn:f'.fn=f.fn) (hl:f'.loc.length=f.loc.length) (hr:(B6 g (g.f f'.fn)).Reach f'.pc f'.stk.length)
  (hv:∀v,v∈f'.loc++f'.stk->VOk s.obs v) (st:Int) (out:List Int) (ho:out.length<=40) (dr:List Int) (hd:dr.length<=200):C4 g ⟨st,out,fs++[f'],s.obs,dr⟩:=by
 obtain⟨h1,h2⟩:=h.top hf;refine⟨fun _=>by simp,jM ⟨by rw [hfn];exact h1.fn,by rw [hfn,hl];exact h1.loc,by rw [Int.add_zero];exact hr⟩ (by rw [hfn];exact h2),?_,fun x hx v hvx=>?_,h.obs,h.cap,ho,hd⟩
 ·have:=h.depth
  rw[hf] at this;simpa using this
 ·rcases List.mem_append.1 hx with hx | hx
  ·exact h.vals x (by rw [hf];simp [hx]) v hvx
  ·rw [List.mem_singleton] at hx
   subst hx;exact hv v hvx
theorem C4.here (h:C4 g s) {fs:List FrA} {f:FrA} (hf:s.frs=fs++[f]) {v:Val} (hv:v∈f.loc++f.stk):VOk s.obs v:=h.vals f (by rw [hf];simp) v hv
theorem fH.reach (h:C4 g s) {fs:List FrA} {f:FrA} (hf:s.frs=fs++[f]) {k:Nat} {a:Int} {rest args ps:List Val} (o:fH g f k a rest args) {c:Nat} (hc:c∈D7 f.pc k a) (hps:M2 k=ps.length) :
  (B6 g (g.f f.fn)).Reach c (rest++ps).length:=by
 have h1:=(h.top hf).1.reach;have h2:=G4.reach_next h1 (c:=c) (by show c∈D7 f.pc ((g.f f.fn).op f.pc) ((g.f f.fn).ar f.pc);rw [o.op,o.ar];exact hc);have e:(B6 g (g.f f.fn)).behind f.pc (f.stk.length+0)=(rest++ps).length:=by
  show (f.stk.length:Int)+0 - N7 ((g.f f.fn).op f.pc) (g.f ((g.f f.fn).ar f.pc).toNat).p+M2 ((g.f f.fn).op f.pc)=_;rw[o.op,o.ar,o.pops,hps,o.stk];simp only[List.length_append];omega
 rw[e] at h2;exact h2
theorem U9 (h:C4 g s) {fs:List FrA} {f:FrA} (hf:s.frs=fs++[f]) {k:Nat} {a:Int} {rest args:List Val} (o:fH g f k a rest args) (c:Nat) (ps:List Val) (hc:c∈D7 f.pc k a) (hps:M2 k=ps.length) (hv:∀v,v∈ps->VOk s.obs v) :
  C4 g (goA s fs f c (rest++ps)):=by
 refine h.setTop (f':=⟨f.fn,c,f.loc,rest++ps⟩) hf rfl rfl (o.reach h hf hc hps) (fun v hm=>?_) 0 s.out h.out s.dr h.dr;rcases List.mem_append.1 hm with hm | hm
 ·exact h.here hf (by simp [hm])
 ·rcases List.mem_append.1 hm with hm | hm
  ·exact h.here hf (by rw [o.stk];simp [hm])
  ·exact hv v hm
theorem N5 (h:C4 g s) {fs:List FrA} {f:FrA} (hf:s.frs=fs++[f]) (t:Int):C4 g (C7 s t) :=
 ⟨fun _=>by show s.frs≠[];rw [hf];simp,h.frs,h.depth,h.vals,h.obs,h.cap,h.out,h.dr⟩
theorem C4.setObs {s:McA} (h:C4 g s) {obs':List Ob} (hl:obs'.length=s.obs.length) (hv:∀f,f∈s.frs->∀v,v∈f.loc++f.stk->VOk obs' v) (ho:∀o,o∈obs'->OOk obs' o):C4 g { s with obs:=obs' } :=
 ⟨h.run,h.frs,h.depth,hv,ho,by rw [hl];exact h.cap,h.out,h.dr⟩
theorem gK {al:List Nat} (ho:obs[j]?=some o) (hj:j∈al) (hne:o.1≠0):∃o',(T7 obs al)[j]?=some o'/\o'.1≠0 :=
 ⟨J0 (V4 obs al) o,by rw [Z7,ho,Option.map_some,if_pos hj],by rw [L0];exact hne⟩
theorem sF (h:C4 g s):∀o,o∈T7 s.obs (A1 s)->OOk (T7 s.obs (A1 s)) o:=by
 intro o ho;obtain⟨j,hj⟩:=List.mem_iff_getElem?.1 ho;rw[Z7] at hj;obtain⟨p,hp,rfl⟩:=Option.map_eq_some_iff.1 hj;have xa:=h.alive;by_cases hm:j∈A1 s
 ·rw [if_pos hm]
  have hk:=h.obs p (L2a hp);have keep:∀v,VOk s.obs v->(v.1=2->v.2.toNat∈A1 s)->VOk (T7 s.obs (A1 s)) v:=fun v hv hin=>hv.mono fun h2 o ho hne=>gK ho (hin h2) hne
  by_cases h3:p.1=3
  ·unfold J0
   split
   ·rename_i hc
    refine Or.inr (Or.inr (Or.inr ⟨h3,(0,0),?_,Or.inl rfl,by decide⟩));rcases hk with hk | hk | hk | ⟨_,u,hu,_⟩
    ·omega
    ·omega
    ·omega
    ·show p.2.set 0 (0,0)=[(0,0)]
     rw[hu];rfl
   ·rename_i hc
    rcases hk with hk | hk | hk | ⟨_,u,hu,hvu,h1⟩
    ·omega
    ·omega
    ·omega
    ·refine Or.inr (Or.inr (Or.inr ⟨h3,u,hu,hvu.mono fun h2 o ho hne=>?_,h1⟩))
     have hl:¬cE (V4 s.obs (A1 s)) u=true:=fun e=>hc ⟨h3,by rw [hu];exact e⟩
     refine gK ho ?_ hne;refine Decidable.byContradiction fun hn=>hl ?_
     unfold cE;rw[if_pos h2,dL,ho,Option.map_some,if_neg hn];rfl
  ·have e:J0 (V4 s.obs (A1 s)) p=p:=by unfold J0;rw [if_neg (fun hc=>h3 hc.1)]
   rw[e];exact hk.mono fun v hv hvo=>keep v hvo fun h2=>xa.shut j hm p hp h3 v hv h2
 ·rw [if_neg hm]
  exact Or.inl ⟨rfl,rfl⟩
theorem bS (h:C4 g s):C4 g (G5 s) :=
 h.setObs (L4 _ _) (fun f hf v hv=>(h.vals f hf v hv).mono fun h2 _ ho hne=>gK ho (h.alive.roots v (E0.2 ⟨f,hf,hv⟩) h2) hne) (sF h)
theorem oU (s:McA):(G0 s).frs=s.frs:=by unfold G0;split <;> rfl
theorem tA (h:C4 g s):C4 g (G0 s):=by
 unfold G0;split
 ·exact bS h
 ·exact h
theorem gA:∀(l:List Ob) (n j:Nat),freeA l n=some j->n<=j/\∃o,l[j - n]?=some o/\o.1=0
 | [],n,j,h=>by cases h
 | o::l,n,j,h=>by
  simp only[freeA] at h;by_cases h0:o.1=0
  ·rw [if_pos h0] at h
   cases h;exact⟨L1c _,o,by simp,h0⟩
  ·rw [if_neg h0] at h
   obtain⟨h1,x,hx,hk⟩:=gA l (n+1) j h;have e:j - n=(j - (n+1))+1:=by omega
   exact⟨by omega,x,by rw [e];simpa using hx,hk⟩
theorem xB {dr:List Int} {j:Nat × List Int} (h:cR obs dr=some j):(∃o,obs[j.1]?=some o/\o.1=0)/\j.2.length<=dr.length:=by
 cases dr with
 | nil =>
  obtain⟨i,hi,rfl⟩:=Option.map_eq_some_iff.1 h;exact⟨by simpa using (gA obs 0 i hi).2,L1c _⟩
 | cons d r =>
  simp only[cR] at h
  cases ho:obs[(d % (obs.length:Int)).toNat]? with
  | none=>rw [ho] at h;cases h
  | some o =>
   rw[ho] at h;simp only at h;split at h
   ·rename_i hk
    cases h;exact⟨⟨o,ho,hk⟩,by simp⟩
   ·obtain ⟨i,hi,rfl⟩:=Option.map_eq_some_iff.1 h
    exact⟨by simpa using (gA obs 0 i hi).2,by simp⟩
theorem VOk.laid {p x:Ob} (h:VOk obs v) (hx:obs[j]?=some x) (hf:x.1=0):VOk (obs.set j p) v :=
 h.mono fun _ o ho hne=>by
  have:j≠v.2.toNat:=fun e=>by subst e;rw [ho] at hx;cases hx;exact hne hf
  exact⟨o,by rw [List.getElem?_set_ne this];exact ho,hne⟩
theorem qB (h:C4 g s) {fs:List FrA} {f:FrA} (hf:s.frs=fs++[f]) {k:Nat} {a:Int} {rest args:List Val} (o:fH g f k a rest args) (hc:f.pc+1∈D7 f.pc k a) (hps:M2 k=1) (kind:Int) (fl:List Val)
  (hk:kind≠0) (ho:OOk (G0 s).obs (kind,fl)):C4 g (U3 s fs f rest kind fl):=by
 have hr:=tA h;have xb:(G0 s).frs=fs++[f]:=(oU s).trans hf;unfold U3;split
 ·exact N5 hr xb 6
 ·split
  ·exact h
  ·rename_i j hj
   obtain⟨⟨x,hx,xf⟩,hd⟩:=xB hj;have xe:=(L1a.1 hx).1;have xa:∀v,VOk (G0 s).obs v->VOk ((G0 s).obs.set j.1 (kind,fl)) v:=fun v hv=>hv.laid hx xf
   have h1:C4 g { G0 s with obs:=(G0 s).obs.set j.1 (kind,fl) }:=by
    refine hr.setObs R5 (fun f hf v hv=>xa v (hr.vals f hf v hv)) fun p hp=>?_
    rcases List.mem_or_eq_of_mem_set hp with hp | rfl
    ·exact (hr.obs p hp).mono fun v _ hv=>xa v hv
    ·exact ho.mono fun v _ hv=>xa v hv
   have xc:VOk ((G0 s).obs.set j.1 (kind,fl)) (2,(j.1:Int)):=Or.inr (Or.inr ⟨rfl,by simp,(kind,fl),by simp [xe],hk⟩);have xd:=h1.setTop (f':=⟨f.fn,f.pc+1,f.loc,rest++[(2,(j.1:Int))]⟩) (fs:=fs) (f:=f) xb rfl rfl (o.reach h hf hc (by rw [hps];rfl)) (fun v hm=>?_) 0 s.out h.out j.2 (Nat.le_trans hd h.dr)
   ·exact xd
   ·rcases List.mem_append.1 hm with hm | hm
    ·exact h1.here (fs:=fs) (f:=f) xb (by simp [hm])
    ·rcases List.mem_append.1 hm with hm | hm
     ·exact h1.here (fs:=fs) (f:=f) xb (by rw [o.stk];simp [hm])
     ·rw [List.mem_singleton] at hm
      subst hm;exact xc
theorem aW (h:C4 g s) {v:Val} : OOk s.obs (A0 s.obs v):=by
 unfold A0;split
 ·rw [List.getD_eq_getElem?_getD]
  cases e:s.obs[v.2.toNat]? with
  | none=>exact Or.inl ⟨rfl,rfl⟩
  | some o=>exact h.obs o (L2a e)
 ·exact Or.inl ⟨rfl,rfl⟩
theorem aJ {kind:Int} {ix:Val} (h:E5 o kind ix=0):o.1=kind/\ix.1=1/\0<=ix.2/\ix.2.toNat < o.2.length:=by
 unfold E5 at h;split at h
 ·cases h
 ·rename_i h1
  split at h
  ·rename_i h2
   exact⟨Decidable.byContradiction fun e=>h1 (Or.inl e),Decidable.byContradiction fun e=>h1 (Or.inr e),h2.1,by omega⟩
  ·cases h
theorem zG (h:C4 g s) {fs:List FrA} {f:FrA} (hf:s.frs=fs++[f]) {k:Nat} {a:Int} {rest args:List Val} (o:fH g f k a rest args) (hc:f.pc+1∈D7 f.pc k a) (hps:M2 k=1) (v:Val) (kind:Int) (ix:Val):C4 g (bF s fs f rest v kind ix):=by
 unfold bF;split
 ·rename_i hr
  obtain⟨_,_,_,hl⟩:=aJ hr;refine U9 h hf o _ _ hc (by rw [hps];rfl) fun u hu=>?_
  rw[List.mem_singleton] at hu;subst hu;refine (aW h (v:=v)).vals (v:=(A0 s.obs v).2.getD ix.2.toNat (0,0)) ?_;rw[List.getD_eq_getElem?_getD,L1b hl];exact List.getElem_mem hl
 ·exact N5 h hf _
theorem dG (h:(A0 obs v).1≠0):v.1=2/\obs[v.2.toNat]?=some (A0 obs v):=by
 unfold A0 at h ⊢;by_cases h2:v.1=2
 ·rw [if_pos h2,List.getD_eq_getElem?_getD] at h ⊢
  cases e:obs[v.2.toNat]? with
  | none=>rw [e] at h;exact absurd rfl h
  | some o=>exact ⟨h2,rfl⟩
 ·rw [if_neg h2] at h
  exact absurd rfl h
theorem zH (h:C4 g s) {fs:List FrA} {f:FrA} (hf:s.frs=fs++[f]) {k:Nat} {a:Int} {rest args:List Val} (o:fH g f k a rest args) (hc:f.pc+1∈D7 f.pc k a) (hps:M2 k=0) (v:Val) (kind:Int) (hkind:kind=1\/kind=2) (ix y:Val) (hy:VOk s.obs y):C4 g (setE s fs f rest v kind ix y):=by
 unfold setE;split
 ·rename_i hr
  obtain⟨hk,_,_,hl⟩:=aJ hr;obtain⟨_,hg⟩:=dG (obs:=s.obs) (v:=v) (by rw [hk];omega);have xe:=(L1a.1 hg).1;have xa:=aW h (v:=v);generalize A0 s.obs v=p at *
  have xb:∀u,VOk s.obs u->VOk (s.obs.set v.2.toNat (p.1,p.2.set ix.2.toNat y)) u:=fun u hu=>hu.mono fun _ q hq hne=>by
   by_cases e:v.2.toNat=u.2.toNat
   ·rw [e] at xe
    rw[e,List.getElem?_set_self xe];exact⟨_,rfl,by show p.1≠0;omega⟩
   ·exact ⟨q,by rw [List.getElem?_set_ne e];exact hq,hne⟩
  have h1:C4 g { s with obs:=s.obs.set v.2.toNat (p.1,p.2.set ix.2.toNat y) }:=by
   refine h.setObs R5 (fun f hf u hu=>xb u (h.vals f hf u hu)) fun q hq=>?_
   rcases List.mem_or_eq_of_mem_set hq with hq | rfl
   ·exact (h.obs q hq).mono fun u _ hu=>xb u hu
   ·have xd:∀u,u∈p.2.set ix.2.toNat y->VOk (s.obs.set v.2.toNat (p.1,p.2.set ix.2.toNat y)) u:=fun u hu=>by
     rcases List.mem_or_eq_of_mem_set hu with hu | rfl
     ·exact xb u (xa.vals hu)
     ·exact xb u hy
    rcases xa with xa | xa | xa | xa
    ·omega
    ·exact Or.inr (Or.inl ⟨xa.1,by simpa using xa.2.1,xd⟩)
    ·exact Or.inr (Or.inr (Or.inl ⟨xa.1,by simpa using xa.2.1,xd⟩))
    ·have:=xa.1;omega
  have xc:=o.reach h hf (ps:=[]) hc (by rw [hps];rfl);rw[List.append_nil] at xc;refine h1.setTop (f':=⟨f.fn,f.pc+1,f.loc,rest⟩) (fs:=fs) (f:=f) hf rfl rfl xc (fun u hm=>?_) 0 s.out h.out s.dr h.dr;refine h1.here (fs:=fs) (f:=f) hf ?_;rw[o.stk];rcases List.mem_append.1 hm with hm | hm
  ·simp [hm]
  ·simp [hm]
 ·exact N5 h hf _
theorem a2L (hp:R8 g) {s:McA} (h:C4 g s) {fs:List FrA} {f:FrA} (hf:s.frs=fs++[f]) {a:Int} {rest args:List Val} (o:fH g f 14 a rest args):C4 g (V8 g a s fs f rest args):=by
 unfold V8;split
 ·exact N5 h hf 5
 ·rename_i hd
  obtain⟨h1,h2⟩:=h.top hf;obtain⟨_,hl,_,_⟩:=h1.at hp;have xc:=N1 hl o.op;rw[o.ar] at xc;have xb:a.toNat < g.n:=by omega
  have xe:=hp.sized.bd xb;have xd:(g.f a.toNat).p=args.length:=by have:=o.pops;simpa [N7] using this
  have xa:(B6 g (g.f f.fn)).Reach f.pc (rest.length+(g.f a.toNat).p):=by
   have:=h1.reach;rw[o.stk,List.length_append] at this;rw[xd];simpa using this
  refine⟨fun _=>by simp,jM ⟨xb,?_,by simpa using G4.reach_first _⟩ ?_,by simp;omega,fun x hx v hv=>?_,h.obs,h.cap,h.out,h.dr⟩
  ·simp only [List.length_append,List.length_replicate]
   omega
  ·rw [List.reverse_append]
   exact⟨⟨h1.fn,h1.loc,xa⟩,o.op,by show (g.f f.fn).ar f.pc=(a.toNat:Int);rw [o.ar];omega,h2⟩
  ·rcases List.mem_append.1 hx with hx | hx
   ·rcases List.mem_append.1 hx with hx | hx
    ·exact h.vals x (by rw [hf];simp [hx]) v hv
    ·rw [List.mem_singleton] at hx
     subst hx;refine h.here hf ?_;rw[o.stk];rcases List.mem_append.1 hv with hv | hv
     ·simp [hv]
     ·simp [hv]
   ·rw [List.mem_singleton] at hx
    subst hx;rw[List.append_nil] at hv;rcases List.mem_append.1 hv with hv | hv
    ·exact h.here hf (by rw [o.stk];simp [hv])
    ·exact Or.inl (List.eq_of_mem_replicate hv)
theorem wC (h:C4 g s) {fs:List FrA} {f:FrA} (hf:s.frs=fs++[f]) {x:Val} (hx:VOk s.obs x):C4 g (D2 s fs x):=by
 unfold D2;split
 ·rename_i he
  rw[List.getLast?_eq_none_iff] at he;exact⟨fun e=>(by cases e),trivial,R5,fun f hf=>(by cases hf),h.obs,h.cap,h.out,h.dr⟩
 ·rename_i c hc
  obtain⟨xb,rfl⟩:∃xb,fs.getLast xb=c:=by
   cases xc:fs with
   | nil=>rw [xc] at hc;cases hc
   | cons y l=>exact ⟨by simp,by rw [xc] at hc;rw [List.getLast?_eq_some_getLast R5] at hc;exact Option.some.inj hc⟩
  have xc:fs=fs.dropLast++[fs.getLast xb]:=(List.dropLast_concat_getLast xb).symm;obtain⟨h1,h2⟩:=h.top hf;generalize fs.getLast xb=c at *
  generalize fs.dropLast=r at *
  subst xc;rw[List.reverse_append] at h2;obtain⟨q1,q2,q3,q4⟩:=h2;have xa:(B6 g (g.f c.fn)).Reach (c.pc+1) (c.stk++[x]).length:=by
   have h3:=G4.reach_next q1.reach (c:=c.pc+1) (by show c.pc+1∈D7 c.pc ((g.f c.fn).op c.pc) ((g.f c.fn).ar c.pc);rw [q2];simp [D7]);have e:(B6 g (g.f c.fn)).behind c.pc (c.stk.length+(g.f f.fn).p)=(c.stk++[x]).length:=by
    show (c.stk.length:Int)+(g.f f.fn).p - N7 ((g.f c.fn).op c.pc) (g.f ((g.f c.fn).ar c.pc).toNat).p+M2 ((g.f c.fn).op c.pc)=_;rw[q2,q3];simp[N7,M2]
   rw[e] at h3;exact h3
  refine⟨fun _=>by simp [goA],jM ⟨q1.fn,q1.loc,by rw [Int.add_zero];exact xa⟩ q4,?_,fun y hy v hv=>?_,h.obs,h.cap,h.out,h.dr⟩
  ·have:=h.depth
   rw[hf] at this;simp at this;simp[goA];omega
  ·rcases List.mem_append.1 hy with hy | hy
   ·exact h.vals y (by rw [hf];simp [hy]) v hv
   ·rw [List.mem_singleton] at hy
    subst hy;rcases List.mem_append.1 hv with hv | hv
    ·exact h.vals c (by rw [hf];simp) v (by simp [hv])
    ·rcases List.mem_append.1 hv with hv | hv
     ·exact h.vals c (by rw [hf];simp) v (by simp [hv])
     ·rw [List.mem_singleton] at hv
      subst hv;exact hx
end
section
variable {args:List Val} {g:PgR} {obs:List Ob} {q:Int} {s:McA} {x:Val}
theorem O3 (h:q=(args.length:Int)) (hq:q=0):args=[]:=List.length_eq_zero_iff.1 R4
theorem F7 (h:q=(args.length:Int)) (hq:q=1):∃x,args=[x]:=by
 match args,h with
 | [x],_=>exact ⟨x,rfl⟩
 | [],h=>simp at h;omega
 | _::_::_,h=>simp at h;omega
theorem J8 (h:q=(args.length:Int)) (hq:q=2):∃x y,args=[x,y]:=by
 match args,h with
 | [x,y],_=>exact ⟨x,y,rfl⟩
 | [],h=>simp at h;omega
 | [_],h=>simp at h;omega
 | _::_::_::_,h=>simp at h;omega
theorem yY (h:q=(args.length:Int)) (hq:q=3):∃x y z,args=[x,y,z]:=by
 match args,h with
 | [x,y,z],_=>exact ⟨x,y,z,rfl⟩
 | [],h=>simp at h;omega
 | [_],h=>simp at h;omega
 | [_,_],h=>simp at h;omega
 | _::_::_::_::_,h=>simp at h;omega
theorem jA (n:Int):VOk obs (1,n):=Or.inr (Or.inl rfl)
theorem rK : VOk obs (0,0):=Or.inl rfl
theorem aY (h:VOk obs x):∀v,v∈[x]->VOk obs v:=fun v hv=>by rw [List.mem_singleton] at hv;subst hv;exact h
theorem zW {y:Val} (h:VOk obs x) (h':VOk obs y):∀v,v∈[x,y]->VOk obs v:=fun v hv=>by
 rcases List.mem_cons.1 hv with rfl | hv
 ·exact h
 ·exact aY h' v hv
theorem cZ (h:C4 g s) {fs:List FrA} {f:FrA} (hf:s.frs=fs++[f]) {k:Nat} {a:Int} {rest args:List Val} (o:fH g f k a rest args) (hc:f.pc+1∈D7 f.pc k a) (hps:M2 k=1) (x y:Val) (z:Int):C4 g (F9 s fs f rest x y z):=by
 unfold F9;split
 ·exact U9 h hf o _ _ hc hps (aY (jA z))
 ·exact N5 h hf 2
theorem a3l (h:C4 g s) {fs:List FrA} {f:FrA} (hf:s.frs=fs++[f]) {v:Val} (hv:v∈f.loc++f.stk):VOk (G0 s).obs v:=(tA h).here ((oU s).trans hf) hv
theorem a5Y (hp:R8 g) {s:McA} (h:C4 g s) {fs:List FrA} {f:FrA} (hf:s.frs=fs++[f]) {k:Nat} {a:Int} {rest args:List Val} (o:fH g f k a rest args):C4 g (doA g k a s fs f rest args):=by
 obtain⟨h1,h2⟩:=h.top hf;obtain⟨xe,hl,_,_⟩:=h1.at hp;have hk:=iL hl;rw[o.op] at hk;have xa:∀v,v∈args->VOk s.obs v:=fun v hv=>h.here hf (by rw [o.stk];simp [hv])
 have xb:∀v,v∈args->VOk (G0 s).obs v:=fun v hv=>a3l h hf (by rw [o.stk];simp [hv])
 have hn:=o.pops;have xc:k=0\/k=1\/k=2\/k=3\/k=4\/k=5\/k=6\/k=7\/k=8\/k=9\/k=10\/k=11\/k=12\/k=13\/k=14\/k=15\/k=16\/k=17\/k=18\/k=19\/k=20\/k=21\/k=22\/k=23\/k=24\/k=25\/k=26\/k=27:=by omega
 rcases xc with rfl | rfl | rfl | rfl | rfl | rfl | rfl | rfl | rfl | rfl | rfl | rfl | rfl | rfl | rfl | rfl | rfl | rfl | rfl | rfl | rfl | rfl | rfl | rfl | rfl | rfl | rfl | rfl
 ·obtain rfl:=O3 hn rfl
  exact U9 h hf o _ _ (by simp [D7]) rfl (aY (jA _))
 ·obtain rfl:=O3 hn rfl
  exact U9 h hf o _ _ (by simp [D7]) rfl (aY rK)
 ·obtain rfl:=O3 hn rfl
  refine U9 h hf o _ _ (by simp [D7]) rfl (aY ?_);rw[List.getD_eq_getElem?_getD]
  cases e:f.loc[a.toNat]? with
  | none=>exact rK
  | some x=>exact h.here hf (by simp [L2a e])
 ·obtain ⟨x,rfl⟩:=F7 hn rfl
  have hr:=o.reach h hf (ps:=[]) (c:=f.pc+1) (by simp [D7]) rfl;rw[List.append_nil] at hr;refine h.setTop (f':=⟨f.fn,f.pc+1,f.loc.set a.toNat x,rest⟩) hf rfl R5 hr (fun v hv=>?_) 0 s.out h.out s.dr h.dr;rcases List.mem_append.1 hv with hv | hv
  ·rcases List.mem_or_eq_of_mem_set hv with hv | rfl
   ·exact h.here hf (by simp [hv])
   ·exact xa v R5
  ·exact h.here hf (by rw [o.stk];simp [hv])
 ·obtain ⟨x,rfl⟩:=F7 hn rfl
  exact U9 h hf o _ _ (by simp [D7]) rfl (zW (xa x R5) (xa x R5))
 ·obtain ⟨x,rfl⟩:=F7 hn rfl
  have:=U9 h hf o (f.pc+1) [] (by simp [D7]) rfl R5;rwa [List.append_nil] at this
 ·obtain ⟨x,y,rfl⟩:=J8 hn rfl
  exact U9 h hf o _ _ (by simp [D7]) rfl (zW (xa y R5) (xa x R5))
 ·obtain ⟨x,y,rfl⟩:=J8 hn rfl
  exact cZ h hf o (by simp [D7]) rfl _ _ _
 ·obtain ⟨x,y,rfl⟩:=J8 hn rfl
  exact cZ h hf o (by simp [D7]) rfl _ _ _
 ·obtain ⟨x,y,rfl⟩:=J8 hn rfl
  exact cZ h hf o (by simp [D7]) rfl _ _ _
 ·obtain ⟨x,y,rfl⟩:=J8 hn rfl
  exact cZ h hf o (by simp [D7]) rfl _ _ _
 ·obtain ⟨x,y,rfl⟩:=J8 hn rfl
  exact U9 h hf o _ _ (by simp [D7]) rfl (aY (jA _))
 ·obtain rfl:=O3 hn rfl
  have:=U9 h hf o a.toNat [] (by simp [D7]) rfl R5;rwa [List.append_nil] at this
 ·obtain ⟨x,rfl⟩:=F7 hn rfl
  show C4 g (if K6 x=true then goA s fs f (f.pc+1) rest else goA s fs f a.toNat rest);split
  ·have:=U9 h hf o (f.pc+1) [] (by simp [D7]) rfl R5
   rwa [List.append_nil] at this
  ·have:=U9 h hf o a.toNat [] (by simp [D7]) rfl R5
   rwa [List.append_nil] at this
 ·show C4 g (V8 g a s fs f rest args)
  exact a2L hp h hf o
 ·obtain ⟨x,rfl⟩:=F7 hn rfl
  exact wC h hf (xa x R5)
 ·obtain rfl:=O3 hn rfl
  refine qB h hf o (by simp [D7]) rfl _ _ R3 (Or.inr (Or.inl ⟨rfl,?_,fun v hv=>Or.inl (List.eq_of_mem_replicate hv)⟩));have xd:E9 g.n (g.f f.fn).l (g.f f.fn).n ((g.f f.fn).op f.pc) ((g.f f.fn).ar f.pc)=true:=hl;rw[o.op,o.ar] at xd;have:A9 a 0 8=true:=xd;rw[E4] at this;simp only[List.length_replicate];omega
 ·obtain ⟨x,rfl⟩:=F7 hn rfl
  show C4 g (if x.1≠1 then C7 s 2 else if 0<=x.2/\x.2<=12 then U3 s fs f rest 2 (List.replicate x.2.toNat (0,0)) else C7 s 4);split
  ·exact N5 h hf _
  ·split
   ·rename_i hx
    refine qB h hf o (by simp [D7]) rfl _ _ R3 (Or.inr (Or.inr (Or.inl ⟨rfl,?_,fun v hv=>Or.inl (List.eq_of_mem_replicate hv)⟩)));simp only[List.length_replicate];omega
   ·exact N5 h hf _
 ·obtain ⟨x,rfl⟩:=F7 hn rfl
  show C4 g (if x.1=2 then U3 s fs f rest 3 [x] else C7 s 2);split
  ·rename_i hx
   exact qB h hf o (by simp [D7]) rfl _ _ R3 (Or.inr (Or.inr (Or.inr ⟨rfl,x,rfl,xb x R5,by omega⟩)))
  ·exact N5 h hf _
 ·obtain ⟨x,rfl⟩:=F7 hn rfl
  exact zG h hf o (by simp [D7]) rfl _ _ _
 ·obtain ⟨x,y,rfl⟩:=J8 hn rfl
  exact zH h hf o (by simp [D7]) rfl _ _ (Or.inl rfl) _ _ (xa y R5)
 ·obtain ⟨x,y,rfl⟩:=J8 hn rfl
  exact zG h hf o (by simp [D7]) rfl _ _ _
 ·obtain ⟨x,y,z,rfl⟩:=yY hn rfl
  exact zH h hf o (by simp [D7]) rfl _ _ (Or.inr rfl) _ _ (xa z R5)
 ·obtain ⟨x,rfl⟩:=F7 hn rfl
  show C4 g (if (A0 s.obs x).1=1\/(A0 s.obs x).1=2 then goA s fs f (f.pc+1) (rest++[(1,((A0 s.obs x).2.length:Int))]) else C7 s 2);split
  ·exact U9 h hf o _ _ (by simp [D7]) rfl (aY (jA _))
  ·exact N5 h hf _
 ·obtain ⟨x,rfl⟩:=F7 hn rfl
  show C4 g (if (A0 s.obs x).1=3 then goA s fs f (f.pc+1) (rest++[O4 s ((A0 s.obs x).2.headD (0,0))]) else C7 s 2);split
  ·rename_i h3
   refine U9 h hf o _ _ (by simp [D7]) rfl (aY ?_);unfold O4;split
   ·rcases aW h (v:=x) with hr | hr | hr | ⟨_,u,hu,hv,_⟩
    ·omega
    ·omega
    ·omega
    ·rw [hu];exact hv
   ·exact rK
  ·exact N5 h hf _
 ·obtain ⟨x,rfl⟩:=F7 hn rfl
  exact U9 h hf o _ _ (by simp [D7]) rfl (aY (jA _))
 ·obtain ⟨x,rfl⟩:=F7 hn rfl
  show C4 g (if x.1≠1 then C7 s 2 else if 40<=s.out.length then C7 s 7 else ⟨0,s.out++[x.2],fs++[⟨f.fn,f.pc+1,f.loc,rest⟩],s.obs,s.dr⟩);split
  ·exact N5 h hf _
  ·split
   ·exact N5 h hf _
   ·rename_i hx ho
    have hr:=o.reach h hf (ps:=[]) (c:=f.pc+1) (by simp [D7]) rfl;rw[List.append_nil] at hr;refine h.setTop (f':=⟨f.fn,f.pc+1,f.loc,rest⟩) hf rfl rfl hr (fun v hv=>?_) 0 _ Q8 s.dr h.dr;rcases List.mem_append.1 hv with hv | hv
    ·exact h.here hf (by simp [hv])
    ·exact h.here hf (by rw [o.stk];simp [hv])
 ·obtain rfl:=O3 hn rfl
  exact⟨fun e=>(by cases e),trivial,Nat.zero_le _,fun f hf=>(by cases hf),h.obs,h.cap,h.out,h.dr⟩
theorem C4.opAt (hp:R8 g) {s:McA} (h:C4 g s) {fs:List FrA} {f:FrA} (hf:s.frs=fs++[f]) :
  ∃(k:Nat) (a:Int) (rest args:List Val),k < 28/\fH g f k a rest args/\U5 g s=doA g k a s fs f rest args:=by
 obtain⟨h1,_⟩:=h.top hf;obtain⟨xc,hl,xa,_⟩:=h1.at hp;have hk:=iL hl;obtain⟨k,xb⟩:=Int.eq_ofNat_of_zero_le hk.1;obtain⟨n,hn⟩:=Int.eq_ofNat_of_zero_le (show 0<=N7 ((g.f f.fn).op f.pc) (g.f ((g.f f.fn).ar f.pc).toNat).p from ((kT hp.sized hp.legal h1.fn).pop_bd xc).1);have xd:n<=f.stk.length:=by
  have:N7 ((g.f f.fn).op f.pc) (g.f ((g.f f.fn).ar f.pc).toNat).p<=(f.stk.length:Int)+0:=xa;omega
 refine⟨k,(g.f f.fn).ar f.pc,f.stk.take (f.stk.length - n),f.stk.drop (f.stk.length - n),by omega,⟨xb,rfl,by simp,by rw [<- xb,hn];simp;omega⟩,?_⟩;unfold U5;have e1:s.frs.getLast?=some f:=by rw [hf];simp
 have e2:s.frs.dropLast=fs:=by rw [hf];simp
 rw[e1,e2];simp only;rw[hn,xb];rfl
theorem lZ (hp:R8 g) {s:McA} (h:C4 g s) (h0:s.st=0):C4 g (U5 g s):=by
 have xa:=h.run h0;obtain⟨k,a,xc,xb,_,o,e⟩:=h.opAt hp (List.dropLast_concat_getLast xa).symm;rw[e];exact a5Y hp h (List.dropLast_concat_getLast xa).symm o
def K4 (g:PgR):Nat->McA->McA
 | 0,s=>s
 | n+1,s=>if s.st=0 then K4 g n (U5 g s) else s
def E7 (g:PgR):Nat->McA->Nat
 | 0,_=>0
 | n+1,s=>if s.st=0 then E7 g n (U5 g s)+1 else 0
theorem qC (hp:R8 g):∀(n:Nat) {s:McA},C4 g s->C4 g (K4 g n s)
 | 0,_,h=>h
 | n+1,s,h=>by
  rw[K4];split
  ·rename_i h0;exact qC hp n (lZ hp h h0)
  ·exact h
theorem oY (g:PgR):∀(n:Nat) (s:McA),E7 g n s<=n
 | 0,_=>L1c _
 | n+1,s=>by
  rw[E7];split
  ·have:=oY g n (U5 g s);omega
  ·omega
theorem mX (g:PgR) {s:McA} (h:s.st≠0):∀n,K4 g n s=s/\E7 g n s=0
 | 0=>⟨rfl,rfl⟩
 | n+1=>by rw [K4,E7,if_neg h,if_neg h];exact ⟨rfl,rfl⟩
theorem mV (g:PgR):∀(n m:Nat) (s:McA),K4 g (n+m) s=K4 g m (K4 g n s)/\E7 g (n+m) s=E7 g n s+E7 g m (K4 g n s)
 | 0,m,s=>by rw [Nat.zero_add];exact ⟨rfl,by simp [E7,K4]⟩
 | n+1,m,s=>by
  rw[show n+1+m=(n+m)+1 by omega,K4,E7,K4,E7];by_cases h:s.st=0
  ·rw [if_pos h,if_pos h,if_pos h,if_pos h]
   obtain⟨h1,h2⟩:=mV g n m (U5 g s);exact⟨h1,by rw [h2];omega⟩
  ·rw [if_neg h,if_neg h,if_neg h,if_neg h]
   obtain⟨h1,h2⟩:=mX g h m;exact⟨h1.symm,by rw [h2]⟩
theorem mW (g:PgR):∀(n:Nat) (s:McA),K4 g (E7 g n s) s=K4 g n s/\E7 g (E7 g n s) s=E7 g n s
 | 0,_=>⟨rfl,rfl⟩
 | n+1,s=>by
  by_cases h:s.st=0
  ·rw [E7,if_pos h,K4,if_pos h,E7,if_pos h]
   obtain⟨h1,h2⟩:=mW g n (U5 g s);refine⟨?_,by rw [h2]⟩;rw[h1,K4,if_pos h]
  ·rw [E7,if_neg h,K4,K4,if_neg h]
   exact⟨rfl,rfl⟩
end
section
variable {a b met:List Nat} {g:PgR} {l:List Val} {obs:List Ob} {s:McA}
inductive aT (obs:List Ob) (l:List Val):Nat->Prop
 | root (v:Val) (hv:v∈l) (h2:v.1=2):aT obs l v.2.toNat
 | field (j:Nat) (o:Ob) (v:Val) (hj:aT obs l j) (ho:obs[j]?=some o) (h3:o.1≠3) (hv:v∈o.2) (h2:v.1=2):aT obs l v.2.toNat
theorem U6.of_lead (h:U6 obs l met) {j:Nat} (hl:aT obs l j):j∈met:=by
 induction hl with
 | root v hv h2=>exact h.roots v hv h2
 | field j o v _ ho h3 hv h2 ih=>exact h.shut j ih o ho h3 v hv h2
theorem bI {k:List Val} (hm:∀j,j∈met->aT obs l j) (hk:∀v,v∈k->v.1=2->aT obs l v.2.toNat):∀j,j∈C0 met k->aT obs l j:=by
 intro j hj;rcases (S7 k met j).1 hj with h | ⟨v,h1,h2,rfl⟩
 ·exact hm j h
 ·exact hk v h1 h2
theorem bQ : ∀(n i:Nat) (met:List Nat),(∀j,j∈met->aT obs l j)->∀j,j∈H4 obs n i met->aT obs l j
 | 0,_,_,hm=>hm
 | n+1,i,met,hm=>by
  rw[H4]
  cases hi:met[i]? with
  | none=>exact hm
  | some k =>
   cases ho:obs[k]? with
   | none=>simp only [ho];exact hm
   | some o =>
    simp only[ho];refine bQ n (i+1) _ ?_;by_cases h3:o.1=3
    ·rw [if_pos h3];exact hm
    ·rw [if_neg h3]
     exact bI hm fun v hv h2=>aT.field k o v (hm k (L2a hi)) ho h3 hv h2
theorem aB : ∀j,j∈G7 obs l->aT obs l j :=
 bQ _ _ _ (bI R5 fun v hv h2=>aT.root v hv h2)
theorem eK:∀{a b:List Nat},a.Nodup->(∀j,j∈a->j∈b)->a.length<=b.length
 | [],_,_,_=>Nat.zero_le _
 | x::a,b,h,hs=>by
  obtain⟨h1,h2⟩:=List.nodup_cons.1 h;have hx:=hs x R5;have:=eK (b:=b.erase x) h2 fun j hj=>(List.mem_erase_of_ne (fun e=>h1 (by rw [<- e];exact hj))).2 (hs j (by simp [hj]))
  have hp:=List.length_pos_of_mem hx;rw[List.length_erase_of_mem hx] at this;simp only[List.length_cons];omega
theorem gF (ha:a.Nodup) (hb:b.Nodup) (h:∀j,j∈a↔j∈b):a.length=b.length :=
 Nat.le_antisymm (eK ha fun j hj=>(h j).1 hj) (eK hb fun j hj=>(h j).2 hj)
theorem U6.same (ha:U6 obs l a) (hb:U6 obs l b) (hla:∀j,j∈a->aT obs l j) (hlb:∀j,j∈b->aT obs l j):a.length=b.length :=
 gF ha.nodup hb.nodup fun _=>⟨fun h=>hb.of_lead (hla _ h),fun h=>ha.of_lead (hlb _ h)⟩
theorem dN (obs:List Ob):K3 obs=((List.range obs.length).filter fun j=>((obs[j]?).map fun o=>o.1 != 0).getD false).length:=by
 unfold K3
 induction obs with
 | nil=>rfl
 | cons o l ih =>
  rw[List.length_cons,List.range_succ_eq_map,List.filter_cons,List.filter_cons,List.filter_map,List.getElem?_cons_zero];have e:((fun j=>(((o::l)[j]?).map fun o=>o.1 != 0).getD false)∘Nat.succ)=fun j=>((l[j]?).map fun o=>o.1 != 0).getD false:=by funext j;simp
  rw[e]
  cases h:(o.1 != 0) <;> simp [h,ih]
theorem N8 (h:C4 g s) {j:Nat} (hj:j∈A1 s):∃o,s.obs[j]?=some o/\o.1≠0:=by
 have:=aB j hj
 cases this with
 | root v hv h2 =>
  obtain⟨f,hf,hv⟩:=E0.1 hv;exact ((h.vals f hf v hv).ref h2).2
 | field k o v _ ho h3 hv h2=>exact (((h.obs o (L2a ho)).vals hv).ref h2).2
theorem oD (h:C4 g s):K3 (G5 s).obs=(A1 s).length:=by
 rw[dN];refine gF (List.nodup_range.filter _) h.alive.nodup fun j=>?_
 rw[List.mem_filter,List.mem_range];have e:(G5 s).obs[j]?=(s.obs[j]?).map fun o=>J0 (V4 s.obs (A1 s)) (if j∈A1 s then o else (0,[])):=Z7 _ _ _
 constructor
 ·rintro ⟨_,h2⟩
  rw[e] at h2;refine Decidable.byContradiction fun hn=>?_
  cases ho:s.obs[j]? with
  | none=>rw [ho] at h2;simp at h2
  | some o=>rw [ho,Option.map_some,if_neg hn] at h2;simp [L0] at h2
 ·intro hj
  obtain⟨o,ho,xa⟩:=N8 h hj;have hl:=(L1a.1 ho).1;refine⟨by show j < (T7 _ _).length;rw [L4];exact hl,?_⟩;rw[e,ho,Option.map_some,if_pos hj];simp[L0,xa]
structure yV (obs:List Ob) (l:List Val) (i:Nat) (met:List Nat) (q:List Val):Prop where
 nodup:met.Nodup
 lt:∀j,j∈met->j < obs.length
 lead:∀j,j∈met->aT obs l j
 qlead:∀v,v∈q->v.1=2->aT obs l v.2.toNat
 pre:∀v,v∈l->v∈q
 done:∀k v,k < i->q[k]?=some v->v.1=2->v.2.toNat∈met
 fields:∀j,j∈met->∀o,obs[j]?=some o->o.1≠3->∀v,v∈o.2->v∈q
 len:q.length<=l.length+met.length*12
theorem yV.begin (obs:List Ob) (l:List Val):yV obs l 0 [] l :=
 ⟨List.nodup_nil,by simp,by simp,fun v hv h2=>aT.root v hv h2,fun _ h=>h,fun k v hk=>by omega,by simp,by simp⟩
theorem yV.whole {q:List Val} (hw:eA obs) (hl:∀v,v∈l->v.1=2->v.2.toNat < obs.length) (h:yV obs l q.length met q):met.length=(G7 obs l).length:=by
 have xa:∀v,v∈q->v.1=2->v.2.toNat∈met:=fun v hv h2=>by
  obtain⟨k,hk⟩:=List.mem_iff_getElem?.1 hv;exact h.done k v (L1a.1 hk).1 hk h2
 refine U6.same ⟨h.nodup,h.lt,fun j hj o ho h3 v hv h2=>xa v (h.fields j hj o ho h3 v hv) h2,fun v hv h2=>xa v (h.pre v hv) h2⟩ (W8 hw hl) h.lead (aB ·)
end
section
variable {A:List Nat} {g:PgR} {l:List Val} {obs obt:List Ob} {r:Nat->Nat} {s t:McA} {v:Val}
def ren (r:Nat->Nat) (v:Val):Val:=if v.1=2 then (2,(r v.2.toNat:Int)) else v
def D8 (r:Nat->Nat) (f:FrA):FrA:=⟨f.fn,f.pc,f.loc.map (ren r),f.stk.map (ren r)⟩
theorem G3 (r:Nat->Nat) (v:Val):(ren r v).1=v.1:=by unfold ren;split <;> simp_all
theorem aC (h:v.1=2):(ren r v).2.toNat=r v.2.toNat:=by unfold ren;rw [if_pos h];rfl
theorem G2 (h:v.1≠2):ren r v=v:=by unfold ren;rw [if_neg h]
theorem aL (r:Nat->Nat) (l:List FrA):B7 (l.map (D8 r))=(B7 l).map (ren r):=by
 unfold B7;rw[List.flatMap_map,List.map_flatMap];congr 1
 funext f
 simp[D8]
def dX (r:Nat->Nat) (A:List Nat):Prop:=∀i j,i∈A->j∈A->r i=r j->i=j
theorem bT {met:List Nat} (hr:dX r A) (hm:∀j,j∈met->j∈A) {j:Nat} (hj:j∈A):r j∈met.map r↔j∈met:=by
 rw[List.mem_map];constructor
 ·rintro ⟨k,hk,e⟩
  rw[hr k j (hm k hk) hj e] at hk;exact hk
 ·intro h
  exact⟨j,h,rfl⟩
theorem cO (hr:dX r A):∀(l:List Val) (met:List Nat),(∀j,j∈met->j∈A)->(∀v,v∈l->v.1=2->v.2.toNat∈A)->C0 (met.map r) (l.map (ren r))=(C0 met l).map r
 | [],_,_,_=>rfl
 | v::l,met,hm,hl=>by
  rw[List.map_cons,C0,C0];by_cases h2:v.1=2
  ·have hv:=hl v R5 h2
   have e:(ren r v).2.toNat=r v.2.toNat:=aC h2;by_cases hin:v.2.toNat∈met
   ·rw [if_neg (fun h=>h.2 (by rw [e];exact (bT hr hm hv).2 hin)),if_neg (fun h=>h.2 hin)]
    exact cO hr l met hm fun u hu=>hl u (by simp [hu])
   ·rw [if_pos ⟨by rw [G3];exact h2,fun h=>hin ((bT hr hm hv).1 (by rw [<- e];exact h))⟩,if_pos ⟨h2,hin⟩,e]
    have:=cO hr l (met++[v.2.toNat]) (fun j hj=>by
     rcases List.mem_append.1 hj with hj | hj
     ·exact hm j hj
     ·rw [List.mem_singleton] at hj;rw [hj];exact hv) fun u hu=>hl u (by simp [hu])
    rw[List.map_append] at this;exact this
  ·rw [if_neg (fun h=>h2 (by rw [<- G3 r v];exact h.1)),if_neg (fun h=>h2 h.1)]
   exact cO hr l met hm fun u hu=>hl u (by simp [hu])
def gQ (r:Nat->Nat) (A:List Nat) (obs obt:List Ob):Prop :=
 ∀j,j∈A->∃o p,obs[j]?=some o/\obt[r j]?=some p/\p.1=o.1/\(o.1≠3->p.2=o.2.map (ren r))
theorem jC (hr:dX r A) (hmv:gQ r A obs obt) (hs:∀j,j∈A->jG obs A j):∀(n i:Nat) (met:List Nat),(∀j,j∈met->j∈A)->H4 obt n i (met.map r)=(H4 obs n i met).map r
 | 0,_,_,_=>rfl
 | n+1,i,met,hm=>by
  rw[H4,H4,List.getElem?_map]
  cases hi:met[i]? with
  | none=>rfl
  | some j =>
   have hj:=hm j (L2a hi);obtain⟨o,p,ho,hp,hk,hf⟩:=hmv j hj;simp only[Option.map_some,ho,hp];by_cases h3:o.1=3
   ·rw [if_pos h3,if_pos (by rw [hk];exact h3)]
    exact jC hr hmv hs n (i+1) met hm
   ·rw [if_neg h3,if_neg (by rw [hk];exact h3),hf h3]
    have hl:∀v,v∈o.2->v.1=2->v.2.toNat∈A:=hs j hj o ho h3
    rw[cO hr o.2 met hm hl];refine jC hr hmv hs n (i+1) _ fun k hk=>?_
    rcases (S7 o.2 met k).1 hk with h | ⟨v,hv,h2,rfl⟩
    ·exact hm k h
    ·exact hl v hv h2
theorem bU (hA:U6 obs l A) (hlen:obt.length=obs.length) (hr:dX r A) (hmv:gQ r A obs obt):G7 obt (l.map (ren r))=(G7 obs l).map r:=by
 unfold G7;have h0:∀j,j∈C0 [] l->j∈A:=fun j hj=>by
  rcases (S7 l [] j).1 hj with h | ⟨v,hv,h2,rfl⟩
  ·simp at h
  ·exact hA.roots v hv h2
 rw[hlen,show C0 [] (l.map (ren r))=(C0 [] l).map r from cO hr l [] R5 hA.roots];exact jC hr hmv hA.shut _ _ _ h0
def a5N (r:Nat->Nat) (A T:List Nat) (v u:Val):Prop:=(v.1=2/\v.2.toNat∈A/\u=ren r v)\/(¬(v.1=2/\v.2.toNat∈A)/\¬(u.1=2/\u.2.toNat∈T))
structure Rel (r:Nat->Nat) (s t:McA):Prop where
 st:t.st=s.st
 out:t.out=s.out
 cap:t.obs.length=s.obs.length
 frs:t.frs=s.frs.map (D8 r)
 inj:dX r (A1 s)
 moved:gQ r (A1 s) s.obs t.obs
 weak:∀j o p,j∈A1 s->s.obs[j]?=some o->t.obs[r j]?=some p->o.1=3->a5N r (A1 s) (A1 t) (o.2.headD (0,0)) (p.2.headD (0,0))
theorem Rel.alive (h:Rel r s t) (hi:C4 g s):A1 t=(A1 s).map r:=by
 unfold A1;rw[h.frs,aL];exact bU hi.alive h.cap h.inj h.moved
theorem Rel.len (h:Rel r s t) (hi:C4 g s):(A1 t).length=(A1 s).length:=by rw [h.alive hi,List.length_map]
theorem xQ (v:Val) (h:v.1=2->0<=v.2):ren id v=v:=by
 unfold ren;split
 ·rename_i h2
  have:=h h2;have e:((id v.2.toNat:Nat):Int)=v.2:=by show ((v.2.toNat:Nat):Int)=v.2;omega
  rw[e,<- h2]
 ·rfl
theorem bH (h:∀v,v∈l->v.1=2->0<=v.2):l.map (ren id)=l:=by
 conv=>rhs;rw [<- List.map_id l]
 exact List.map_congr_left fun v hv=>xQ v (h v hv)
end
section
variable {R:McR} {e:Ending} {f:FrR} {fs:List FrR} {g:PgR} {mb sb:Nat} {own:Own} {rest:List Val} {va:Option Addr} {w w':World} {x:Val}
def DoA (own:Own) (mb:Nat) (g:PgR) (s:McA) (w:World) (e:Ending) (w':World):Prop :=
 Y4 own mb g (fun R'=>McR.abs { R' with st:=s.st }=s/\E8 R') s.st w e w'
theorem C5.doA {pc:Nat} {l:List Val} (h:C5 own mb g R fs f pc l (.int .i64 0) w e w') (hq:E8 R):DoA own mb g (goA R.abs (fs.map FrR.abs) f.abs pc l) w e w':=by
 obtain⟨xa,xb,he,hm,ht⟩:=h;exact⟨xa,_,he,hm,⟨a4C R fs f pc l xb,hq⟩,ht⟩
theorem F6.doA {st:Int} (h:F6 st w e w') (hm:A4 w own mb g R) (hq:E8 R):DoA own mb g (C7 R.abs st) w e w':=by
 obtain⟨he,hb⟩:=h;exact⟨own,R,he,hm.same hb.size fun k hk=>hb.block k hk,⟨rfl,hq⟩,A2.of_below hb⟩
theorem tK (hq:E8 R) {k:Nat} (hk:k=0\/k=1) (h:C1 w own mb g R fs f rest [] va sb) (a:Int) (vc:Nat) :
  Calls prog (doT k) #[.pointer (some ⟨mb,0,none⟩),.int .i64 a,.slice va 0 vc] w fun e w'=>DoA own mb g (doA g k a R.abs (fs.map FrR.abs) f.abs rest []) w e w':=by
 rcases hk with rfl | rfl
 ·exact (a0j h a vc).mono fun _ _ h=>h.doA hq
 ·exact (a0l h a vc).mono fun _ _ h=>h.doA hq
theorem a4N (hq:E8 R) (h:C1 w own mb g R fs f rest [] va sb) (a:Int) (h0:0<=a) (hl:a < f.loc.length) (vc:Nat) :
  Calls prog (doT 2) #[.pointer (some ⟨mb,0,none⟩),.int .i64 a,.slice va 0 vc] w fun e w'=>DoA own mb g (doA g 2 a R.abs (fs.map FrR.abs) f.abs rest []) w e w':=by
 obtain⟨n,rfl⟩:=Int.eq_ofNat_of_zero_le h0;obtain⟨x,hx⟩:∃x,f.loc[n]?=some x:=⟨_,L1b R4⟩
 refine (vL h n x hx vc).mono fun _ _ h=>?_
 have e:f.abs.loc.getD (n:Int).toNat (0,0)=x:=by rw [Int.toNat_natCast,List.getD_eq_getElem?_getD];show (f.loc[n]?).getD (0,0)=x;rw [hx];rfl
 have:=h.doA hq;show DoA own mb g (goA R.abs (fs.map FrR.abs) f.abs (f.abs.pc+1) (rest++[f.abs.loc.getD (n:Int).toNat (0,0)])) _ _ _;rw[e];exact this
theorem a2W (hq:E8 R) (h:C1 w own mb g R fs f rest [x] va sb) (a:Int) (h0:0<=a) (hl:a < f.loc.length) (vc:Nat) :
  Calls prog (doT 3) #[.pointer (some ⟨mb,0,none⟩),.int .i64 a,.slice va 1 vc] w fun e w'=>DoA own mb g (doA g 3 a R.abs (fs.map FrR.abs) f.abs rest [x]) w e w':=by
 obtain⟨n,rfl⟩:=Int.eq_ofNat_of_zero_le h0;refine (sL h n R4 vc).mono ?_;rintro e w' ⟨xa,R',he,hm,⟨xb,rfl⟩,ht⟩;exact⟨xa,_,he,hm,⟨by simp [doA,McR.abs,FrR.abs],hq⟩,ht⟩
theorem wW (hq:E8 R) {k:Nat} (hk:k=4\/k=5\/k=25) (h:C1 w own mb g R fs f rest [x] va sb) (a:Int) (vc:Nat) :
  Calls prog (doT k) #[.pointer (some ⟨mb,0,none⟩),.int .i64 a,.slice va 1 vc] w fun e w'=>DoA own mb g (doA g k a R.abs (fs.map FrR.abs) f.abs rest [x]) w e w':=by
 rcases hk with rfl | rfl | rfl
 ·exact (a0h h a vc).mono fun _ _ h=>h.doA hq
 ·refine (a0m h a vc).mono fun _ _ h=>?_
  rw[List.append_nil] at h;exact h.doA hq
 ·exact (sI h a vc).mono fun _ _ h=>h.doA hq
theorem jO {y:Val} (hq:E8 R) {k:Nat} (hk:k=6\/k=7\/k=8\/k=9\/k=10\/k=11) (h:C1 w own mb g R fs f rest [x,y] va sb) (a:Int) (vc:Nat) :
  Calls prog (doT k) #[.pointer (some ⟨mb,0,none⟩),.int .i64 a,.slice va 2 vc] w fun e w'=>DoA own mb g (doA g k a R.abs (fs.map FrR.abs) f.abs rest [x,y]) w e w':=by
 obtain⟨x1,x2⟩:=x;obtain⟨y1,y2⟩:=y;by_cases hc:x1=1/\y1=1
 ·rcases hk with rfl | rfl | rfl | rfl | rfl | rfl
  ·exact (lP h a vc).mono fun _ _ h=>h.doA hq
  ·obtain ⟨rfl,rfl⟩:=hc
   exact (a5P h a vc).mono fun _ _ h=>h.doA hq
  ·obtain ⟨rfl,rfl⟩:=hc
   exact (a5R h a vc).mono fun _ _ h=>h.doA hq
  ·obtain ⟨rfl,rfl⟩:=hc
   exact (a5Q h a vc).mono fun _ _ h=>h.doA hq
  ·obtain ⟨rfl,rfl⟩:=hc
   exact (a4z h a vc).mono fun _ _ h=>h.doA hq
  ·exact (lO h a vc).mono fun _ _ h=>h.doA hq
 ·have e:∀z,F9 R.abs (fs.map FrR.abs) f.abs rest (x1,x2) (y1,y2) z=C7 R.abs 2:=fun z=>if_neg hc
  rcases hk with rfl | rfl | rfl | rfl | rfl | rfl
  ·exact (lP h a vc).mono fun _ _ h=>h.doA hq
  ·refine (vM h hc a vc).mono fun _ _ ht=>?_
   show DoA own mb g (F9 _ _ _ _ _ _ _) _ _ _;rw[e];exact ht.doA h.m hq
  ·refine (vO h hc a vc).mono fun _ _ ht=>?_
   show DoA own mb g (F9 _ _ _ _ _ _ _) _ _ _;rw[e];exact ht.doA h.m hq
  ·refine (vN h hc a vc).mono fun _ _ ht=>?_
   show DoA own mb g (F9 _ _ _ _ _ _ _) _ _ _;rw[e];exact ht.doA h.m hq
  ·refine (sO h hc a vc).mono fun _ _ ht=>?_
   show DoA own mb g (F9 _ _ _ _ _ _ _) _ _ _;rw[e];exact ht.doA h.m hq
  ·exact (lO h a vc).mono fun _ _ h=>h.doA hq
theorem a4M (hq:E8 R) (h:C1 w own mb g R fs f rest [] va sb) (a:Int) (h0:0<=a) (vc:Nat) :
  Calls prog (doT 12) #[.pointer (some ⟨mb,0,none⟩),.int .i64 a,.slice va 0 vc] w fun e w'=>DoA own mb g (doA g 12 a R.abs (fs.map FrR.abs) f.abs rest []) w e w':=by
 obtain⟨n,rfl⟩:=Int.eq_ofNat_of_zero_le h0;exact (lN h n vc).mono fun _ _ h=>h.doA hq
theorem wV (hq:E8 R) (h:C1 w own mb g R fs f rest [x] va sb) (a:Int) (h0:0<=a) (vc:Nat) :
  Calls prog (doT 13) #[.pointer (some ⟨mb,0,none⟩),.int .i64 a,.slice va 1 vc] w fun e w'=>DoA own mb g (doA g 13 a R.abs (fs.map FrR.abs) f.abs rest [x]) w e w':=by
 obtain⟨n,rfl⟩:=Int.eq_ofNat_of_zero_le h0
 cases hg:K6 x
 ·refine (nJ h hg n vc).mono fun _ _ h=>?_
  show DoA own mb g (if K6 x=true then _ else _) _ _ _;rw[hg];exact h.doA hq
 ·refine (pO h hg n vc).mono fun _ _ h=>?_
  show DoA own mb g (if K6 x=true then _ else _) _ _ _;rw[hg];exact h.doA hq
theorem a2V (hq:E8 R) (h:C1 w own mb g R fs f rest [x] va sb) (a:Int) (vc:Nat) :
  Calls prog (doT 26) #[.pointer (some ⟨mb,0,none⟩),.int .i64 a,.slice va 1 vc] w fun e w'=>DoA own mb g (doA g 26 a R.abs (fs.map FrR.abs) f.abs rest [x]) w e w':=by
 obtain⟨x1,x2⟩:=x;by_cases h1:x1=1
 ·subst h1
  by_cases hl:40<=R.out.length
  ·refine (pP h hl a vc).mono fun _ _ ht=>?_
   have e:doA g 26 a R.abs (fs.map FrR.abs) f.abs rest [(1,x2)]=C7 R.abs 7:=by
    have xa:40<=R.abs.out.length:=hl;simp[doA,xa]
   rw[e];exact ht.doA h.m hq
  ·refine (sJ h R4 a vc).mono ?_
   rintro e w' ⟨xb,R',he,hm,⟨xc,xd,rfl⟩,ht⟩;have e:doA g 26 a R.abs (fs.map FrR.abs) f.abs rest [(1,x2)]=⟨0,R.out++[x2],fs.map FrR.abs++[⟨f.fn,f.pc+1,f.loc,rest⟩],R.obs.map ObR.abs,R.dr⟩:=by
    have xa:¬40<=R.abs.out.length:=hl;simp only[doA,xa];rfl
   rw[e];exact⟨xb,_,he,hm,⟨by simp [McR.abs,FrR.abs],fun e=>by simp at e⟩,ht⟩
 ·refine (sK h h1 a vc).mono fun _ _ ht=>?_
  have e:doA g 26 a R.abs (fs.map FrR.abs) f.abs rest [(x1,x2)]=C7 R.abs 2:=if_pos h1;rw[e];exact ht.doA h.m hq
theorem a4L (hq:E8 R) (h:C1 w own mb g R fs f rest [] va sb) (a:Int) (vc:Nat) :
  Calls prog (doT 27) #[.pointer (some ⟨mb,0,none⟩),.int .i64 a,.slice va 0 vc] w fun e w'=>DoA own mb g (doA g 27 a R.abs (fs.map FrR.abs) f.abs rest []) w e w':=by
 refine (vK h.m a _).mono ?_;rintro e w' ⟨xa,R',he,hm,rfl,ht⟩;exact⟨xa,_,he,hm,⟨by simp [doA,McR.abs],hq⟩,ht⟩
end
end Go.Proofs.YtbkmgoffiigdbaaGreatDoor
