import Derived.Test.YtbkmgoffiigdbaaGreatDoorWEc
import Derived.Lib.AppendZeros
namespace Go.Proofs.YtbkmgoffiigdbaaGreatDoor
open Go.RowKit Go.Sort Go.Proofs.Tryz
set_option maxHeartbeats 4000000
set_option maxRecDepth 100000
section
variable {f:FrA} {fs:List FrA} {g:PgR} {j:Nat} {o:Ob} {obs:List Ob} {s:McA} {v:Val}
structure S5 (g:PgR):Prop where
 sized:T7 g
 legal:dH g
 fits:∀i,i < g.n->(B6 g (g.f i)).Fits
theorem vT (h:oX g (fs++[f]).reverse):gN g f 0/\gO g f.fn fs.reverse:=by
 rw[List.reverse_append] at h;exact h
theorem jH (h1:gN g f 0) (h2:gO g f.fn fs.reverse):oX g (fs++[f]).reverse:=by
 rw[List.reverse_append];exact⟨h1,h2⟩
structure fC (g:PgR) (f:FrA) (k:Nat) (a:Int) (rest args:List Val):Prop where
 op:(g.f f.fn).op f.pc=k
 ar:(g.f f.fn).ar f.pc=a
 stk:f.stk=rest++args
 pops:O1 k (g.f a.toNat).p=args.length
theorem D4.top (h:D4 g s) {fs:List FrA} {f:FrA} (hf:s.frs=fs++[f]):gN g f 0/\gO g f.fn fs.reverse:=vT (by rw [<- hf];exact h.frs)
theorem gN.at (hp:S5 g) {f:FrA} {q:Int} (h:gN g f q):f.pc < (g.f f.fn).n/\N5 g f.fn f.pc=true/\(B6 g (g.f f.fn)).pop f.pc<=f.stk.length+q/\(B6 g (g.f f.fn)).behind f.pc (f.stk.length+q)<=10:=by
 obtain⟨h1,h2,h3⟩:=(hp.fits _ h.fn).1 _ _ h.reach;exact⟨h1,hp.legal _ h.fn _ h1,h2,h3⟩
theorem D4.setTop (h:D4 g s) {fs:List FrA} {f f':FrA} (hf:s.frs=fs++[f]) (hfn:f'.fn=f.fn) (hl:f'.loc.length=f.loc.length) (hr:(B6 g (g.f f'.fn)).Reach f'.pc f'.stk.length)
  (hv:∀v,v∈f'.loc++f'.stk->VOk s.obs v) (st:Int) (out:List Int) (ho:out.length<=40) (dr:List Int) (hd:dr.length<=200):D4 g ⟨st,out,fs++[f'],s.obs,dr⟩:=by
 obtain⟨h1,h2⟩:=h.top hf;refine⟨fun _=>by simp,jH ⟨by rw [hfn];exact h1.fn,by rw [hfn,hl];exact h1.loc,by rw [Int.add_zero];exact hr⟩ (by rw [hfn];exact h2),?_,fun x hx v hvx=>?_,h.obs,h.cap,ho,hd⟩
 ·have:=h.depth
  rw[hf] at this;simpa using this
 ·rcases List.mem_append.1 hx with hx | hx
  ·exact h.vals x (by rw [hf];simp [hx]) v hvx
  ·rw [List.mem_singleton] at hx
   subst hx;exact hv v hvx
theorem D4.here (h:D4 g s) {fs:List FrA} {f:FrA} (hf:s.frs=fs++[f]) {v:Val} (hv:v∈f.loc++f.stk):VOk s.obs v:=h.vals f (by rw [hf];simp) v hv
theorem fC.reach (h:D4 g s) {fs:List FrA} {f:FrA} (hf:s.frs=fs++[f]) {k:Nat} {a:Int} {rest args ps:List Val} (o:fC g f k a rest args) {c:Nat} (hc:c∈D5 f.pc k a) (hps:M9 k=ps.length) :
  (B6 g (g.f f.fn)).Reach c (rest++ps).length:=by
 have h1:=(h.top hf).1.reach;have h2:=G1.reach_next h1 (c:=c) (by show c∈D5 f.pc ((g.f f.fn).op f.pc) ((g.f f.fn).ar f.pc);rw [o.op,o.ar];exact hc);have e:(B6 g (g.f f.fn)).behind f.pc (f.stk.length+0)=(rest++ps).length:=by
  show (f.stk.length:Int)+0 - O1 ((g.f f.fn).op f.pc) (g.f ((g.f f.fn).ar f.pc).toNat).p+M9 ((g.f f.fn).op f.pc)=_;rw[o.op,o.ar,o.pops,hps,o.stk];simp only[List.length_append];omega
 rw[e] at h2;exact h2
theorem U6 (h:D4 g s) {fs:List FrA} {f:FrA} (hf:s.frs=fs++[f]) {k:Nat} {a:Int} {rest args:List Val} (o:fC g f k a rest args) (c:Nat) (ps:List Val) (hc:c∈D5 f.pc k a) (hps:M9 k=ps.length) (hv:∀v,v∈ps->VOk s.obs v) :
  D4 g (goA s fs f c (rest++ps)):=by
 refine h.setTop (f':=⟨f.fn,c,f.loc,rest++ps⟩) hf rfl rfl (o.reach h hf hc hps) (fun v hm=>?_) 0 s.out h.out s.dr h.dr;rcases List.mem_append.1 hm with hm | hm
 ·exact h.here hf (by simp [hm])
 ·rcases List.mem_append.1 hm with hm | hm
  ·exact h.here hf (by rw [o.stk];simp [hm])
  ·exact hv v hm
theorem N9 (h:D4 g s) {fs:List FrA} {f:FrA} (hf:s.frs=fs++[f]) (t:Int):D4 g (C7 s t) :=
 ⟨fun _=>by show s.frs≠[];rw [hf];simp,h.frs,h.depth,h.vals,h.obs,h.cap,h.out,h.dr⟩
theorem D4.setObs {s:McA} (h:D4 g s) {obs':List Ob} (hl:obs'.length=s.obs.length) (hv:∀f,f∈s.frs->∀v,v∈f.loc++f.stk->VOk obs' v) (ho:∀o,o∈obs'->OOk obs' o):D4 g { s with obs:=obs' } :=
 ⟨h.run,h.frs,h.depth,hv,ho,by rw [hl];exact h.cap,h.out,h.dr⟩
theorem gK {al:List Nat} (ho:obs[j]?=some o) (hj:j∈al) (hne:o.1≠0):∃o',(R9 obs al)[j]?=some o'/\o'.1≠0 :=
 ⟨K7 (Z1 obs al) o,by rw [Z2,ho,Option.map_some,if_pos hj],by rw [aN];exact hne⟩
theorem sC (h:D4 g s):∀o,o∈R9 s.obs (A1 s)->OOk (R9 s.obs (A1 s)) o:=by
 intro o ho;obtain⟨j,hj⟩:=List.mem_iff_getElem?.1 ho;rw[Z2] at hj;obtain⟨p,hp,rfl⟩:=Option.map_eq_some_iff.1 hj;have xa:=h.alive;by_cases hm:j∈A1 s
 ·rw [if_pos hm]
  have hk:=h.obs p (L2a hp);have keep:∀v,VOk s.obs v->(v.1=2->v.2.toNat∈A1 s)->VOk (R9 s.obs (A1 s)) v:=fun v hv hin=>hv.mono fun h2 o ho hne=>gK ho (hin h2) hne
  by_cases h3:p.1=3
  ·unfold K7
   split
   ·rename_i hc
    refine L4b (L4b (L4b ⟨h3,(0,0),?_,L4a rfl,by decide⟩));rcases hk with hk | hk | hk | ⟨_,u,hu,_⟩
    ·omega
    ·omega
    ·omega
    ·show p.2.set 0 (0,0)=[(0,0)]
     rw[hu];rfl
   ·rename_i hc
    rcases hk with hk | hk | hk | ⟨_,u,hu,hvu,h1⟩
    ·omega
    ·omega
    ·omega
    ·refine L4b (L4b (L4b ⟨h3,u,hu,hvu.mono fun h2 o ho hne=>?_,h1⟩))
     have hl:¬eA (Z1 s.obs (A1 s)) u=true:=fun e=>hc ⟨h3,by rw [hu];exact e⟩
     refine gK ho ?_ hne;refine Decidable.byContradiction fun hn=>hl ?_
     unfold eA;rw[if_pos h2,cW,ho,Option.map_some,if_neg hn];rfl
  ·have e:K7 (Z1 s.obs (A1 s)) p=p:=by unfold K7;rw [if_neg (fun hc=>h3 hc.1)]
   rw[e];exact hk.mono fun v hv hvo=>keep v hvo fun h2=>xa.shut j hm p hp h3 v hv h2
 ·rw [if_neg hm]
  exact L4a ⟨rfl,rfl⟩
theorem dY (h:D4 g s):D4 g (I7 s) :=
 h.setObs (S4 _ _) (fun f hf v hv=>(h.vals f hf v hv).mono fun h2 _ ho hne=>gK ho (h.alive.roots v (F9.2 ⟨f,hf,hv⟩) h2) hne) (sC h)
theorem oN (s:McA):(G0 s).frs=s.frs:=by unfold G0;split <;> rfl
theorem sY (h:D4 g s):D4 g (G0 s):=by
 unfold G0;split
 ·exact dY h
 ·exact h
theorem fZ:∀(l:List Ob) (n j:Nat),freeA l n=some j->n<=j/\∃o,l[j - n]?=some o/\o.1=0
 | [],n,j,h=>by cases h
 | o::l,n,j,h=>by
  simp only[freeA] at h;by_cases h0:o.1=0
  ·rw [if_pos h0] at h
   cases h;exact⟨L1c _,o,by simp,h0⟩
  ·rw [if_neg h0] at h
   obtain⟨h1,x,hx,hk⟩:=fZ l (n+1) j h;have e:j - n=(j - (n+1))+1:=by omega
   exact⟨by omega,x,by rw [e];simpa using hx,hk⟩
theorem wY {dr:List Int} {j:Nat × List Int} (h:cD obs dr=some j):(∃o,obs[j.1]?=some o/\o.1=0)/\j.2.length<=dr.length:=by
 cases dr with
 | nil =>
  obtain⟨i,hi,rfl⟩:=Option.map_eq_some_iff.1 h;exact⟨by simpa using (fZ obs 0 i hi).2,L1c _⟩
 | cons d r =>
  simp only[cD] at h
  cases ho:obs[(d % (obs.length:Int)).toNat]? with
  | none=>rw [ho] at h;cases h
  | some o =>
   rw[ho] at h;simp only at h;split at h
   ·rename_i hk
    cases h;exact⟨⟨o,ho,hk⟩,by simp⟩
   ·obtain ⟨i,hi,rfl⟩:=Option.map_eq_some_iff.1 h
    exact⟨by simpa using (fZ obs 0 i hi).2,by simp⟩
theorem VOk.laid {p x:Ob} (h:VOk obs v) (hx:obs[j]?=some x) (hf:x.1=0):VOk (obs.set j p) v :=
 h.mono fun _ o ho hne=>by
  have:j≠v.2.toNat:=fun e=>by subst e;rw [ho] at hx;cases hx;exact hne hf
  exact⟨o,by rw [List.getElem?_set_ne this];exact ho,hne⟩
theorem pT (h:D4 g s) {fs:List FrA} {f:FrA} (hf:s.frs=fs++[f]) {k:Nat} {a:Int} {rest args:List Val} (o:fC g f k a rest args) (hc:f.pc+1∈D5 f.pc k a) (hps:M9 k=1) (kind:Int) (fl:List Val)
  (hk:kind≠0) (ho:OOk (G0 s).obs (kind,fl)):D4 g (U1 s fs f rest kind fl):=by
 have hr:=sY h;have xb:(G0 s).frs=fs++[f]:=(oN s).trans hf;unfold U1;split
 ·exact N9 hr xb 6
 ·split
  ·exact h
  ·rename_i j hj
   obtain⟨⟨x,hx,xd⟩,hd⟩:=wY hj;have xf:=(L1a.1 hx).1;have xa:∀v,VOk (G0 s).obs v->VOk ((G0 s).obs.set j.1 (kind,fl)) v:=fun v hv=>hv.laid hx xd
   have h1:D4 g { G0 s with obs:=(G0 s).obs.set j.1 (kind,fl) }:=by
    refine hr.setObs R5 (fun f hf v hv=>xa v (hr.vals f hf v hv)) fun p hp=>?_
    rcases List.mem_or_eq_of_mem_set hp with hp | rfl
    ·exact (hr.obs p hp).mono fun v _ hv=>xa v hv
    ·exact ho.mono fun v _ hv=>xa v hv
   have xc:VOk ((G0 s).obs.set j.1 (kind,fl)) (2,(j.1:Int)):=L4b (L4b ⟨rfl,by simp,(kind,fl),by simp [xf],hk⟩);have xe:=h1.setTop (f':=⟨f.fn,f.pc+1,f.loc,rest++[(2,(j.1:Int))]⟩) (fs:=fs) (f:=f) xb rfl rfl (o.reach h hf hc (by rw [hps];rfl)) (fun v hm=>?_) 0 s.out h.out j.2 (L5a hd h.dr)
   ·exact xe
   ·rcases List.mem_append.1 hm with hm | hm
    ·exact h1.here (fs:=fs) (f:=f) xb (by simp [hm])
    ·rcases List.mem_append.1 hm with hm | hm
     ·exact h1.here (fs:=fs) (f:=f) xb (by rw [o.stk];simp [hm])
     ·rw [List.mem_singleton] at hm
      subst hm;exact xc
theorem aQ (h:D4 g s) {v:Val} : OOk s.obs (A0 s.obs v):=by
 unfold A0;split
 ·rw [List.getD_eq_getElem?_getD]
  cases e:s.obs[v.2.toNat]? with
  | none=>exact L4a ⟨rfl,rfl⟩
  | some o=>exact h.obs o (L2a e)
 ·exact L4a ⟨rfl,rfl⟩
theorem eE {kind:Int} {ix:Val} (h:F8 o kind ix=0):o.1=kind/\ix.1=1/\0<=ix.2/\ix.2.toNat < o.2.length:=by
 unfold F8 at h;split at h
 ·cases h
 ·rename_i h1
  split at h
  ·rename_i h2
   exact⟨Decidable.byContradiction fun e=>h1 (L4a e),Decidable.byContradiction fun e=>h1 (L4b e),h2.1,by omega⟩
  ·cases h
theorem zD (h:D4 g s) {fs:List FrA} {f:FrA} (hf:s.frs=fs++[f]) {k:Nat} {a:Int} {rest args:List Val} (o:fC g f k a rest args) (hc:f.pc+1∈D5 f.pc k a) (hps:M9 k=1) (v:Val) (kind:Int) (ix:Val):D4 g (cA s fs f rest v kind ix):=by
 unfold cA;split
 ·rename_i hr
  obtain⟨_,_,_,hl⟩:=eE hr;refine U6 h hf o _ _ hc (by rw [hps];rfl) fun u hu=>?_
  rw[List.mem_singleton] at hu;subst hu;refine (aQ h (v:=v)).vals (v:=(A0 s.obs v).2.getD ix.2.toNat (0,0)) ?_;rw[List.getD_eq_getElem?_getD,L1b hl];exact List.getElem_mem hl
 ·exact N9 h hf _
theorem cS (h:(A0 obs v).1≠0):v.1=2/\obs[v.2.toNat]?=some (A0 obs v):=by
 unfold A0 at h ⊢;by_cases h2:v.1=2
 ·rw [if_pos h2,List.getD_eq_getElem?_getD] at h ⊢
  cases e:obs[v.2.toNat]? with
  | none=>rw [e] at h;exact absurd rfl h
  | some o=>exact ⟨h2,rfl⟩
 ·rw [if_neg h2] at h
  exact absurd rfl h
theorem zE (h:D4 g s) {fs:List FrA} {f:FrA} (hf:s.frs=fs++[f]) {k:Nat} {a:Int} {rest args:List Val} (o:fC g f k a rest args) (hc:f.pc+1∈D5 f.pc k a) (hps:M9 k=0) (v:Val) (kind:Int) (hkind:kind=1\/kind=2) (ix y:Val) (hy:VOk s.obs y):D4 g (setE s fs f rest v kind ix y):=by
 unfold setE;split
 ·rename_i hr
  obtain⟨hk,_,_,hl⟩:=eE hr;obtain⟨_,hg⟩:=cS (obs:=s.obs) (v:=v) (by rw [hk];omega);have xe:=(L1a.1 hg).1;have xa:=aQ h (v:=v);generalize A0 s.obs v=p at *
  have xb:∀u,VOk s.obs u->VOk (s.obs.set v.2.toNat (p.1,p.2.set ix.2.toNat y)) u:=fun u hu=>hu.mono fun _ q hq hne=>by
   by_cases e:v.2.toNat=u.2.toNat
   ·rw [e] at xe
    rw[e,List.getElem?_set_self xe];exact⟨_,rfl,by show p.1≠0;omega⟩
   ·exact ⟨q,by rw [List.getElem?_set_ne e];exact hq,hne⟩
  have h1:D4 g { s with obs:=s.obs.set v.2.toNat (p.1,p.2.set ix.2.toNat y) }:=by
   refine h.setObs R5 (fun f hf u hu=>xb u (h.vals f hf u hu)) fun q hq=>?_
   rcases List.mem_or_eq_of_mem_set hq with hq | rfl
   ·exact (h.obs q hq).mono fun u _ hu=>xb u hu
   ·have xd:∀u,u∈p.2.set ix.2.toNat y->VOk (s.obs.set v.2.toNat (p.1,p.2.set ix.2.toNat y)) u:=fun u hu=>by
     rcases List.mem_or_eq_of_mem_set hu with hu | rfl
     ·exact xb u (xa.vals hu)
     ·exact xb u hy
    rcases xa with xa | xa | xa | xa
    ·omega
    ·exact L4b (L4a ⟨xa.1,by simpa using xa.2.1,xd⟩)
    ·exact L4b (L4b (L4a ⟨xa.1,by simpa using xa.2.1,xd⟩))
    ·have:=xa.1;omega
  have xc:=o.reach h hf (ps:=[]) hc (by rw [hps];rfl);rw[List.append_nil] at xc;refine h1.setTop (f':=⟨f.fn,f.pc+1,f.loc,rest⟩) (fs:=fs) (f:=f) hf rfl rfl xc (fun u hm=>?_) 0 s.out h.out s.dr h.dr;refine h1.here (fs:=fs) (f:=f) hf ?_;rw[o.stk];rcases List.mem_append.1 hm with hm | hm
  ·simp [hm]
  ·simp [hm]
 ·exact N9 h hf _
theorem a2O (hp:S5 g) {s:McA} (h:D4 g s) {fs:List FrA} {f:FrA} (hf:s.frs=fs++[f]) {a:Int} {rest args:List Val} (o:fC g f 14 a rest args):D4 g (aB g a s fs f rest args):=by
 unfold aB;split
 ·exact N9 h hf 5
 ·rename_i hd
  obtain⟨h1,h2⟩:=h.top hf;obtain⟨_,hl,_,_⟩:=h1.at hp;have xc:=N6 hl o.op;rw[o.ar] at xc;have xb:a.toNat < g.n:=by omega
  have xe:=hp.sized.bd xb;have xd:(g.f a.toNat).p=args.length:=by have:=o.pops;simpa [O1] using this
  have xa:(B6 g (g.f f.fn)).Reach f.pc (rest.length+(g.f a.toNat).p):=by
   have:=h1.reach;rw[o.stk,List.length_append] at this;rw[xd];simpa using this
  refine⟨fun _=>by simp,jH ⟨xb,?_,by simpa using G1.reach_first _⟩ ?_,by simp;omega,fun x hx v hv=>?_,h.obs,h.cap,h.out,h.dr⟩
  ·simp only [List.length_append,List.length_replicate]
   omega
  ·rw [List.reverse_append]
   exact⟨⟨h1.fn,h1.loc,xa⟩,o.op,by show (g.f f.fn).ar f.pc=(a.toNat:Int);rw [o.ar];omega,h2⟩
  ·rcases List.mem_append.1 hx with hx | hx
   ·rcases List.mem_append.1 hx with hx | hx
    ·exact h.vals x (by rw [hf];simp [hx]) v hv
    ·rw [List.mem_singleton] at hx
     subst hx;refine h.here hf ?_;rw[o.stk];rcases List.mem_append.1 hv with hv | hv
     ·simp [hv]
     ·simp [hv]
   ·rw [List.mem_singleton] at hx
    subst hx;rw[List.append_nil] at hv;rcases List.mem_append.1 hv with hv | hv
    ·exact h.here hf (by rw [o.stk];simp [hv])
    ·exact L4a (List.eq_of_mem_replicate hv)
theorem vX (h:D4 g s) {fs:List FrA} {f:FrA} (hf:s.frs=fs++[f]) {x:Val} (hx:VOk s.obs x):D4 g (D2 s fs x):=by
 unfold D2;split
 ·rename_i he
  rw[List.getLast?_eq_none_iff] at he;exact⟨fun e=>(by cases e),trivial,R5,fun f hf=>(by cases hf),h.obs,h.cap,h.out,h.dr⟩
 ·rename_i c hc
  obtain⟨xb,rfl⟩:∃xb,fs.getLast xb=c:=by
   cases xc:fs with
   | nil=>rw [xc] at hc;cases hc
   | cons y l=>exact ⟨by simp,by rw [xc] at hc;rw [List.getLast?_eq_some_getLast R5] at hc;exact L5b hc⟩
  have xc:fs=fs.dropLast++[fs.getLast xb]:=(List.dropLast_concat_getLast xb).symm;obtain⟨h1,h2⟩:=h.top hf;generalize fs.getLast xb=c at *
  generalize fs.dropLast=r at *
  subst xc;rw[List.reverse_append] at h2;obtain⟨q1,q2,q3,q4⟩:=h2;have xa:(B6 g (g.f c.fn)).Reach (c.pc+1) (c.stk++[x]).length:=by
   have h3:=G1.reach_next q1.reach (c:=c.pc+1) (by show c.pc+1∈D5 c.pc ((g.f c.fn).op c.pc) ((g.f c.fn).ar c.pc);rw [q2];simp [D5]);have e:(B6 g (g.f c.fn)).behind c.pc (c.stk.length+(g.f f.fn).p)=(c.stk++[x]).length:=by
    show (c.stk.length:Int)+(g.f f.fn).p - O1 ((g.f c.fn).op c.pc) (g.f ((g.f c.fn).ar c.pc).toNat).p+M9 ((g.f c.fn).op c.pc)=_;rw[q2,q3];simp[O1,M9]
   rw[e] at h3;exact h3
  refine⟨fun _=>by simp [goA],jH ⟨q1.fn,q1.loc,by rw [Int.add_zero];exact xa⟩ q4,?_,fun y hy v hv=>?_,h.obs,h.cap,h.out,h.dr⟩
  ·have:=h.depth
   rw[hf] at this;simp at this;simp[goA];omega
  ·rcases List.mem_append.1 hy with hy | hy
   ·exact h.vals y (by rw [hf];simp [hy]) v hv
   ·rw [List.mem_singleton] at hy
    subst hy;rcases List.mem_append.1 hv with hv | hv
    ·exact h.vals c (by rw [hf];simp) v (by simp [hv])
    ·rcases List.mem_append.1 hv with hv | hv
     ·exact h.vals c (by rw [hf];simp) v (by simp [hv])
     ·rw [List.mem_singleton] at hv
      subst hv;exact hx
end
section
variable {args:List Val} {g:PgR} {obs:List Ob} {q:Int} {s:McA} {x:Val}
theorem O6 (h:q=(args.length:Int)) (hq:q=0):args=[]:=List.length_eq_zero_iff.1 R4
theorem F4 (h:q=(args.length:Int)) (hq:q=1):∃x,args=[x]:=by
 match args,h with
 | [x],_=>exact ⟨x,rfl⟩
 | [],h=>simp at h;omega
 | _::_::_,h=>simp at h;omega
theorem K0 (h:q=(args.length:Int)) (hq:q=2):∃x y,args=[x,y]:=by
 match args,h with
 | [x,y],_=>exact ⟨x,y,rfl⟩
 | [],h=>simp at h;omega
 | [_],h=>simp at h;omega
 | _::_::_::_,h=>simp at h;omega
theorem yV (h:q=(args.length:Int)) (hq:q=3):∃x y z,args=[x,y,z]:=by
 match args,h with
 | [x,y,z],_=>exact ⟨x,y,z,rfl⟩
 | [],h=>simp at h;omega
 | [_],h=>simp at h;omega
 | [_,_],h=>simp at h;omega
 | _::_::_::_::_,h=>simp at h;omega
theorem iY (n:Int):VOk obs (1,n):=L4b (L4a rfl)
theorem rE : VOk obs (0,0):=L4a rfl
theorem aS (h:VOk obs x):∀v,v∈[x]->VOk obs v:=fun v hv=>by rw [List.mem_singleton] at hv;subst hv;exact h
theorem zT {y:Val} (h:VOk obs x) (h':VOk obs y):∀v,v∈[x,y]->VOk obs v:=fun v hv=>by
 rcases List.mem_cons.1 hv with rfl | hv
 ·exact h
 ·exact aS h' v hv
theorem cK (h:D4 g s) {fs:List FrA} {f:FrA} (hf:s.frs=fs++[f]) {k:Nat} {a:Int} {rest args:List Val} (o:fC g f k a rest args) (hc:f.pc+1∈D5 f.pc k a) (hps:M9 k=1) (x y:Val) (z:Int):D4 g (F6 s fs f rest x y z):=by
 unfold F6;split
 ·exact U6 h hf o _ _ hc hps (aS (iY z))
 ·exact N9 h hf 2
theorem a3o (h:D4 g s) {fs:List FrA} {f:FrA} (hf:s.frs=fs++[f]) {v:Val} (hv:v∈f.loc++f.stk):VOk (G0 s).obs v:=(sY h).here ((oN s).trans hf) hv
theorem a6c (hp:S5 g) {s:McA} (h:D4 g s) {fs:List FrA} {f:FrA} (hf:s.frs=fs++[f]) {k:Nat} {a:Int} {rest args:List Val} (o:fC g f k a rest args):D4 g (doA g k a s fs f rest args):=by
 obtain⟨h1,h2⟩:=h.top hf;obtain⟨xe,hl,_,_⟩:=h1.at hp;have hk:=iI hl;rw[o.op] at hk;have xa:∀v,v∈args->VOk s.obs v:=fun v hv=>h.here hf (by rw [o.stk];simp [hv])
 have xb:∀v,v∈args->VOk (G0 s).obs v:=fun v hv=>a3o h hf (by rw [o.stk];simp [hv])
 have hn:=o.pops;have xc:k=0\/k=1\/k=2\/k=3\/k=4\/k=5\/k=6\/k=7\/k=8\/k=9\/k=10\/k=11\/k=12\/k=13\/k=14\/k=15\/k=16\/k=17\/k=18\/k=19\/k=20\/k=21\/k=22\/k=23\/k=24\/k=25\/k=26\/k=27:=by omega
 rcases xc with rfl | rfl | rfl | rfl | rfl | rfl | rfl | rfl | rfl | rfl | rfl | rfl | rfl | rfl | rfl | rfl | rfl | rfl | rfl | rfl | rfl | rfl | rfl | rfl | rfl | rfl | rfl | rfl
 ·obtain rfl:=O6 hn rfl
  exact U6 h hf o _ _ (by simp [D5]) rfl (aS (iY _))
 ·obtain rfl:=O6 hn rfl
  exact U6 h hf o _ _ (by simp [D5]) rfl (aS rE)
 ·obtain rfl:=O6 hn rfl
  refine U6 h hf o _ _ (by simp [D5]) rfl (aS ?_);rw[List.getD_eq_getElem?_getD]
  cases e:f.loc[a.toNat]? with
  | none=>exact rE
  | some x=>exact h.here hf (by simp [L2a e])
 ·obtain ⟨x,rfl⟩:=F4 hn rfl
  have hr:=o.reach h hf (ps:=[]) (c:=f.pc+1) (by simp [D5]) rfl;rw[List.append_nil] at hr;refine h.setTop (f':=⟨f.fn,f.pc+1,f.loc.set a.toNat x,rest⟩) hf rfl R5 hr (fun v hv=>?_) 0 s.out h.out s.dr h.dr;rcases List.mem_append.1 hv with hv | hv
  ·rcases List.mem_or_eq_of_mem_set hv with hv | rfl
   ·exact h.here hf (by simp [hv])
   ·exact xa v R5
  ·exact h.here hf (by rw [o.stk];simp [hv])
 ·obtain ⟨x,rfl⟩:=F4 hn rfl
  exact U6 h hf o _ _ (by simp [D5]) rfl (zT (xa x R5) (xa x R5))
 ·obtain ⟨x,rfl⟩:=F4 hn rfl
  have:=U6 h hf o (f.pc+1) [] (by simp [D5]) rfl R5;rwa [List.append_nil] at this
 ·obtain ⟨x,y,rfl⟩:=K0 hn rfl
  exact U6 h hf o _ _ (by simp [D5]) rfl (zT (xa y R5) (xa x R5))
 ·obtain ⟨x,y,rfl⟩:=K0 hn rfl
  exact cK h hf o (by simp [D5]) rfl _ _ _
 ·obtain ⟨x,y,rfl⟩:=K0 hn rfl
  exact cK h hf o (by simp [D5]) rfl _ _ _
 ·obtain ⟨x,y,rfl⟩:=K0 hn rfl
  exact cK h hf o (by simp [D5]) rfl _ _ _
 ·obtain ⟨x,y,rfl⟩:=K0 hn rfl
  exact cK h hf o (by simp [D5]) rfl _ _ _
 ·obtain ⟨x,y,rfl⟩:=K0 hn rfl
  exact U6 h hf o _ _ (by simp [D5]) rfl (aS (iY _))
 ·obtain rfl:=O6 hn rfl
  have:=U6 h hf o a.toNat [] (by simp [D5]) rfl R5;rwa [List.append_nil] at this
 ·obtain ⟨x,rfl⟩:=F4 hn rfl
  show D4 g (if L0 x=true then goA s fs f (f.pc+1) rest else goA s fs f a.toNat rest);split
  ·have:=U6 h hf o (f.pc+1) [] (by simp [D5]) rfl R5
   rwa [List.append_nil] at this
  ·have:=U6 h hf o a.toNat [] (by simp [D5]) rfl R5
   rwa [List.append_nil] at this
 ·show D4 g (aB g a s fs f rest args)
  exact a2O hp h hf o
 ·obtain ⟨x,rfl⟩:=F4 hn rfl
  exact vX h hf (xa x R5)
 ·obtain rfl:=O6 hn rfl
  refine pT h hf o (by simp [D5]) rfl _ _ R3 (L4b (L4a ⟨rfl,?_,fun v hv=>L4a (List.eq_of_mem_replicate hv)⟩));have xd:E7 g.n (g.f f.fn).l (g.f f.fn).n ((g.f f.fn).op f.pc) ((g.f f.fn).ar f.pc)=true:=hl;rw[o.op,o.ar] at xd;have:B0 a 0 8=true:=xd;rw[E2] at this;simp only[List.length_replicate];omega
 ·obtain ⟨x,rfl⟩:=F4 hn rfl
  show D4 g (if x.1≠1 then C7 s 2 else if 0<=x.2/\x.2<=12 then U1 s fs f rest 2 (List.replicate x.2.toNat (0,0)) else C7 s 4);split
  ·exact N9 h hf _
  ·split
   ·rename_i hx
    refine pT h hf o (by simp [D5]) rfl _ _ R3 (L4b (L4b (L4a ⟨rfl,?_,fun v hv=>L4a (List.eq_of_mem_replicate hv)⟩)));simp only[List.length_replicate];omega
   ·exact N9 h hf _
 ·obtain ⟨x,rfl⟩:=F4 hn rfl
  show D4 g (if x.1=2 then U1 s fs f rest 3 [x] else C7 s 2);split
  ·rename_i hx
   exact pT h hf o (by simp [D5]) rfl _ _ R3 (L4b (L4b (L4b ⟨rfl,x,rfl,xb x R5,by omega⟩)))
  ·exact N9 h hf _
 ·obtain ⟨x,rfl⟩:=F4 hn rfl
  exact zD h hf o (by simp [D5]) rfl _ _ _
 ·obtain ⟨x,y,rfl⟩:=K0 hn rfl
  exact zE h hf o (by simp [D5]) rfl _ _ (L4a rfl) _ _ (xa y R5)
 ·obtain ⟨x,y,rfl⟩:=K0 hn rfl
  exact zD h hf o (by simp [D5]) rfl _ _ _
 ·obtain ⟨x,y,z,rfl⟩:=yV hn rfl
  exact zE h hf o (by simp [D5]) rfl _ _ (L4b rfl) _ _ (xa z R5)
 ·obtain ⟨x,rfl⟩:=F4 hn rfl
  show D4 g (if (A0 s.obs x).1=1\/(A0 s.obs x).1=2 then goA s fs f (f.pc+1) (rest++[(1,((A0 s.obs x).2.length:Int))]) else C7 s 2);split
  ·exact U6 h hf o _ _ (by simp [D5]) rfl (aS (iY _))
  ·exact N9 h hf _
 ·obtain ⟨x,rfl⟩:=F4 hn rfl
  show D4 g (if (A0 s.obs x).1=3 then goA s fs f (f.pc+1) (rest++[O7 s ((A0 s.obs x).2.headD (0,0))]) else C7 s 2);split
  ·rename_i h3
   refine U6 h hf o _ _ (by simp [D5]) rfl (aS ?_);unfold O7;split
   ·rcases aQ h (v:=x) with hr | hr | hr | ⟨_,u,hu,hv,_⟩
    ·omega
    ·omega
    ·omega
    ·rw [hu];exact hv
   ·exact rE
  ·exact N9 h hf _
 ·obtain ⟨x,rfl⟩:=F4 hn rfl
  exact U6 h hf o _ _ (by simp [D5]) rfl (aS (iY _))
 ·obtain ⟨x,rfl⟩:=F4 hn rfl
  show D4 g (if x.1≠1 then C7 s 2 else if 40<=s.out.length then C7 s 7 else ⟨0,s.out++[x.2],fs++[⟨f.fn,f.pc+1,f.loc,rest⟩],s.obs,s.dr⟩);split
  ·exact N9 h hf _
  ·split
   ·exact N9 h hf _
   ·rename_i hx ho
    have hr:=o.reach h hf (ps:=[]) (c:=f.pc+1) (by simp [D5]) rfl;rw[List.append_nil] at hr;refine h.setTop (f':=⟨f.fn,f.pc+1,f.loc,rest⟩) hf rfl rfl hr (fun v hv=>?_) 0 _ Q8 s.dr h.dr;rcases List.mem_append.1 hv with hv | hv
    ·exact h.here hf (by simp [hv])
    ·exact h.here hf (by rw [o.stk];simp [hv])
 ·obtain rfl:=O6 hn rfl
  exact⟨fun e=>(by cases e),trivial,L4c _,fun f hf=>(by cases hf),h.obs,h.cap,h.out,h.dr⟩
theorem D4.opAt (hp:S5 g) {s:McA} (h:D4 g s) {fs:List FrA} {f:FrA} (hf:s.frs=fs++[f]) :
  ∃(k:Nat) (a:Int) (rest args:List Val),k < 28/\fC g f k a rest args/\U3 g s=doA g k a s fs f rest args:=by
 obtain⟨h1,_⟩:=h.top hf;obtain⟨xc,hl,xb,_⟩:=h1.at hp;have hk:=iI hl;obtain⟨k,xa⟩:=L5c hk.1;obtain⟨n,hn⟩:=L5c (show 0<=O1 ((g.f f.fn).op f.pc) (g.f ((g.f f.fn).ar f.pc).toNat).p from ((kO hp.sized hp.legal h1.fn).pop_bd xc).1);have xd:n<=f.stk.length:=by
  have:O1 ((g.f f.fn).op f.pc) (g.f ((g.f f.fn).ar f.pc).toNat).p<=(f.stk.length:Int)+0:=xb;omega
 refine⟨k,(g.f f.fn).ar f.pc,f.stk.take (f.stk.length - n),f.stk.drop (f.stk.length - n),by omega,⟨xa,rfl,by simp,by rw [<- xa,hn];simp;omega⟩,?_⟩;unfold U3;have e1:s.frs.getLast?=some f:=by rw [hf];simp
 have e2:s.frs.dropLast=fs:=by rw [hf];simp
 rw[e1,e2];simp only;rw[hn,xa];rfl
theorem lV (hp:S5 g) {s:McA} (h:D4 g s) (h0:s.st=0):D4 g (U3 g s):=by
 have xa:=h.run h0;obtain⟨k,a,xc,xb,_,o,e⟩:=h.opAt hp (List.dropLast_concat_getLast xa).symm;rw[e];exact a6c hp h (List.dropLast_concat_getLast xa).symm o
def K8 (g:PgR):Nat->McA->McA
 | 0,s=>s
 | n+1,s=>if s.st=0 then K8 g n (U3 g s) else s
def E5 (g:PgR):Nat->McA->Nat
 | 0,_=>0
 | n+1,s=>if s.st=0 then E5 g n (U3 g s)+1 else 0
theorem pU (hp:S5 g):∀(n:Nat) {s:McA},D4 g s->D4 g (K8 g n s)
 | 0,_,h=>h
 | n+1,s,h=>by
  rw[K8];split
  ·rename_i h0;exact pU hp n (lV hp h h0)
  ·exact h
theorem oR (g:PgR):∀(n:Nat) (s:McA),E5 g n s<=n
 | 0,_=>L1c _
 | n+1,s=>by
  rw[E5];split
  ·have:=oR g n (U3 g s);omega
  ·omega
theorem mS (g:PgR) {s:McA} (h:s.st≠0):∀n,K8 g n s=s/\E5 g n s=0
 | 0=>⟨rfl,rfl⟩
 | n+1=>by rw [K8,E5,if_neg h,if_neg h];exact ⟨rfl,rfl⟩
theorem mQ (g:PgR):∀(n m:Nat) (s:McA),K8 g (n+m) s=K8 g m (K8 g n s)/\E5 g (n+m) s=E5 g n s+E5 g m (K8 g n s)
 | 0,m,s=>by rw [Nat.zero_add];exact ⟨rfl,by simp [E5,K8]⟩
 | n+1,m,s=>by
  rw[show n+1+m=(n+m)+1 by omega,K8,E5,K8,E5];by_cases h:s.st=0
  ·rw [if_pos h,if_pos h,if_pos h,if_pos h]
   obtain⟨h1,h2⟩:=mQ g n m (U3 g s);exact⟨h1,by rw [h2];omega⟩
  ·rw [if_neg h,if_neg h,if_neg h,if_neg h]
   obtain⟨h1,h2⟩:=mS g h m;exact⟨h1.symm,by rw [h2]⟩
theorem mR (g:PgR):∀(n:Nat) (s:McA),K8 g (E5 g n s) s=K8 g n s/\E5 g (E5 g n s) s=E5 g n s
 | 0,_=>⟨rfl,rfl⟩
 | n+1,s=>by
  by_cases h:s.st=0
  ·rw [E5,if_pos h,K8,if_pos h,E5,if_pos h]
   obtain⟨h1,h2⟩:=mR g n (U3 g s);refine⟨?_,by rw [h2]⟩;rw[h1,K8,if_pos h]
  ·rw [E5,if_neg h,K8,K8,if_neg h]
   exact⟨rfl,rfl⟩
end
def aG (w:World) (a:Option Addr) (l:List Nat):Prop:=0 < l.length->∃b,a=some ⟨b,0,none⟩/\b < w.heap.size/\∀(i x:Nat),l[i]?=some x->w.cell? ⟨b,i,none⟩=some (.int .i64 (x:Int))
theorem a0A (a:Option Addr) (l:List Nat) (c x:Nat) (w:World) (hl:l.length<=1000) (hs:aG w a l) :
  Calls prog 197 #[.slice a l.length c,.int .i64 (x:Int)] w fun e w'=>(∃r:Int,e=.returned (.int .i64 r)/\(0<=r↔x∈l))/\L0d w w':=by
 have HS:=hid hs;clear hs;go_enter func197,ntmps197;go_wp2_with fail;go_loopw [8] (fun v wr=>∃i:Nat,i<=l.length/\v=.int .i64 i/\x∉l.take i/\L0d w wr) (fun v _=>l.length - (intOf v).toNat)
 case atStart=>exact ⟨0,L4c _,rfl,by simp,L3b _ _⟩
 case round =>
  obtain⟨i,hi,rfl,xc,xa⟩:=hrel;have xb:=hid xa;have xd:=hid xc;by_cases hlt:i < l.length
  ·obtain ⟨b,rfl,hb,hc⟩:=HS.out R4
   obtain⟨y,hy⟩:∃y,l[i]?=some y:=⟨_,L1b hlt⟩
   have k0:=(xa.cell (p:=⟨b,i,none⟩) hb).trans (hc i y hy);have xe:b < wr.heap.size:=L0a hb xa.size;have HY:=hid hy;clear hc xa xc hy
   cases hxy:((x:Int) == (y:Int))
   ·go_wp2_with fail
    go_roundw
    case rel=>exact ⟨i+1,by omega,by go_num,by
     rw[List.take_add_one,HY.out];simp only[Option.toList_some,List.mem_append,List.mem_singleton,not_or];exact⟨xd.out,fun e=>by subst e;simp at hxy⟩,by repeat (first | exact xb.out | refine L3c ?_ | refine Below.drewQ ?_ _)⟩
    case measure=>simp [intOf];omega
   ·go_wp2_with fail
    go_ret;refine⟨⟨(i:Int),rfl,⟨fun _=>?_,fun _=>by omega⟩⟩,by repeat (first | exact xb.out | refine L3c ?_ | refine Below.drewQ ?_ _)⟩;have:x=y:=by have:=beq_iff_eq.1 hxy;omega
    rw[this];exact L2a HY.out
  ·obtain rfl:i=l.length:=by omega
   clear xa xc;go_wp2_with fail;go_ret;refine⟨⟨-1,rfl,⟨fun h=>by omega,fun h=>?_⟩⟩,xb.out⟩;have:=xd.out;rw[List.take_length] at this;exact absurd h this
section
variable {P:Program}
theorem gI (w:World) (t ty:TypeId) (base:Nat) (e:TypeId) (i:TypeInfo) (size:Nat) (ht:P.underlying t=some (.slice e)) (hi:P.info? e=some i) (v:Value) (n:Nat) (xs:List Value) (hown:w.ownsRow base e size v n xs) (a:Option Addr) (c:Nat) :
  (Builtin.append_ #[t,t] ty #[v,.slice a 0 c]).run P w=.ok v w:=by
 have hv:(v=.slice none 0 0/\n=0)\/∃g cap,v=.slice (some ⟨g,0,none⟩) n cap/\n<=cap:=by
  rcases hown.2 with h | ⟨g,cap,cur,h1,_,_,h2,_⟩
  ·exact L4a h
  ·exact L4b ⟨g,cap,h1,h2⟩
 have hf:(Builtin.firstCells i.size 0 (.slice a 0 c)).run P w=.ok #[] w:=by
  cases a with
  | none=>simp [Builtin.firstCells]
  | some ad=>simpa using run_firstCells_some (P:=P) w i.size 0 ad 0 c [] R5 R5
 rcases hv with ⟨rfl,rfl⟩ | ⟨g,cap,rfl,xa⟩
 ·simp [Builtin.append_,run_underlying ht,sizeOf,typeInfo,hi,Builtin.lenOf,hf]
 ·simp [Builtin.append_,run_underlying ht,sizeOf,typeInfo,hi,Builtin.lenOf,hf,xa,storeCells]
theorem mT (w:World) (t ty:TypeId) (base:Nat) (e:TypeId) (i:TypeInfo) (z:Value) (size bytes:Nat) (ht:P.underlying t=some (.slice e)) (hi:P.info? e=some i) (hz:i.zero=some z)
  (hsize:i.size=size) (hby:i.bytes=bytes) (hzs:z.cells.size=size) (hsz:0 < size) (v:Value) (n:Nat) (xs:List Value) (hown:w.ownsRow base e size v n xs)
  (a:Option Addr) (m c:Nat) (news:List Value) (hl:news.length=m*size) (hnews:0 < m->∃ad,a=some ad/\∀j u,news[j]?=some u->w.cell? (ad.add j)=some u) (h1:∀u∈news,u.oneCell'=true)
  (h63:n+m<=maxLen) (hbytes:(n+m)*bytes<=140737488355328) (hbase:base<=w.heap.size) :
  ∃v' w',(Builtin.append_ #[t,t] ty #[v,.slice a m c]).run P w=.ok v' w'/\w'.ownsRow base e size v' (n+m) (xs++news)/\w.grownBy w' v.ownBlock/\∀g,v'.ownBlock=some g->v.ownBlock=some g\/g=w.heap.size:=by
 rcases Nat.eq_zero_or_pos m with rfl | hm
 ·have h0:news=[]:=List.length_eq_zero_iff.1 R4
  subst h0;exact⟨v,w,gI w t ty base e i size ht hi v n xs hown a c,by simpa using hown,⟨rfl,rfl,rfl,L1c _,fun _ _ _=>rfl⟩,fun _ h=>L4a h⟩
 ·obtain ⟨ad,rfl,hc⟩:=hnews hm
  obtain⟨g,xa,w',hr,h2,h3,h4,_⟩:=run_append_lies (P:=P) w t ty base e i z size bytes ht hi hz hsize hby hzs hsz v n xs hown ad m c news hl hc h1 hm h63 hbytes hbase _ rfl
  exact⟨_,w',hr,h2,h3,fun b hb=>by obtain rfl:g=b:=by simpa [Value.ownBlock] using hb
                                   exact h4⟩
theorem fM (w:World) {o:Oper} {a:Act} {K:Act->World->Prop} {Q:Exit->Act->World->Prop} (s x:Operand) (t:TypeId)
  (ho:o.op=.call { callee:=.builtin .append,args:=#[s,x],argTypes:=#[t,t] })
  (base:Nat) (e:TypeId) (i:TypeInfo) (z:Value) (size bytes:Nat) (ht:P.underlying t=some (.slice e)) (hi:P.info? e=some i) (hz:i.zero=some z)
  (hsize:i.size=size) (hby:i.bytes=bytes) (hzs:z.cells.size=size) (hsz:0 < size)
  (v:Value) (n:Nat) (xs:List Value) (hs:a.eval s=v) (hown:w.ownsRow base e size v n xs)
  (ad:Option Addr) (m c:Nat) (news:List Value) (hx:a.eval x=.slice ad m c) (hl:news.length=m*size) (hnews:0 < m->∃d,ad=some d/\∀j u,news[j]?=some u->w.cell? (d.add j)=some u) (h1:∀u∈news,u.oneCell'=true)
  (h63:n+m<=maxLen) (hbytes:(n+m)*bytes<=140737488355328) (hbase:base<=w.heap.size)
  (h:∀v' w',w'.ownsRow base e size v' (n+m) (xs++news)->w.grownBy w' v.ownBlock->(∀g,v'.ownBlock=some g->v.ownBlock=some g\/g=w.heap.size)->K (a.put o.dst v') w'):o.wp P a w K Q:=by
 obtain⟨v',w',hr,h2,h3,h4⟩:=mT (P:=P) w t o.type base e i z size bytes ht hi hz hsize hby hzs hsz v n xs hown ad m c news hl hnews h1 h63 hbytes hbase;unfold Oper.wp execOp;simp only[ho,resolve,invoke,builtin,Sem.run_bind,Sem.run_pure,Result.andThen_ok,List.map_toArray,List.map_cons,List.map_nil,hs,hx,hr];exact h v' w' h2 h3 h4
theorem A9 (w:World) {ops:Array Oper} {rest:List Oper} {o:Oper} {a:Act} {Q:Exit->Act->World->Prop} (hgd:o.guard=none) (s x:Operand) (t:TypeId)
  (ho:o.op=.call { callee:=.builtin .append,args:=#[s,x],argTypes:=#[t,t] })
  (base:Nat) (e:TypeId) (i:TypeInfo) (z:Value) (size bytes:Nat) (ht:P.underlying t=some (.slice e)) (hi:P.info? e=some i) (hz:i.zero=some z)
  (hsize:i.size=size) (hby:i.bytes=bytes) (hzs:z.cells.size=size) (hsz:0 < size)
  (v:Value) (n:Nat) (xs:List Value) (hs:a.eval s=v) (hown:w.ownsRow base e size v n xs)
  (ad:Option Addr) (m c:Nat) (news:List Value) (hx:a.eval x=.slice ad m c) (hl:news.length=m*size) (hnews:0 < m->∃d,ad=some d/\∀j u,news[j]?=some u->w.cell? (d.add j)=some u) (h1:∀u∈news,u.oneCell'=true)
  (h63:n+m<=maxLen) (hbytes:(n+m)*bytes<=140737488355328) (hbase:base<=w.heap.size)
  (h:∀v' w',w'.ownsRow base e size v' (n+m) (xs++news)->w.grownBy w' v.ownBlock->(∀g,v'.ownBlock=some g->v.ownBlock=some g\/g=w.heap.size)->wpList P ops Q rest (a.put o.dst v') w'):wpList P ops Q (o::rest) a w :=
 wpList_plain hgd fun _ hK=>fM w s x t ho base e i z size bytes ht hi hz hsize hby hzs hsz v n xs hs hown ad m c news hx hl hnews h1 h63 hbytes hbase fun v' w' h2 h3 h4=>hK _ _ (h v' w' h2 h3 h4)
end
section
variable {W w:World} {v:Value}
def M0 (l:List FrR):List Val:=l.flatMap fun f=>f.loc++f.stk
theorem kE (l:List FrR):C4 (l.map FrR.abs)=M0 l:=by
 unfold C4 M0;rw[List.flatMap_map];rfl
theorem uG (l:List FrR) (k:Nat) (h:∀f,f∈l->f.loc.length<=k/\f.stk.length<=k):(M0 l).length<=l.length*(2*k):=by
 induction l with
 | nil=>simp [M0]
 | cons f l ih =>
  have h1:=ih fun x hx=>h x (by simp [hx])
  have h2:=h f R5;unfold M0 at h1 ⊢;simp only[List.flatMap_cons,List.length_append,List.length_cons];rw[Nat.add_mul];omega
def lA (l:List Val) (w:World) (e:Ending) (w':World):Prop:=∃v,e=.returned v/\w'.ownsRow w.heap.size 92 2 v l.length (A5 l)/\L0d w w'
theorem M8 {w':World} {e size n:Nat} {xs:List Value} (hB:L0d w W) (ho:W.ownsRow w.heap.size e size v n xs) (hg:W.grownBy w' v.ownBlock):L0d w w' :=
 ⟨hg.os.trans hB.os,hg.tape.trans hB.tape,hg.output.trans hB.output,L5a hB.size hg.size,fun k hk=>(hg.block k (L0a hk hB.size) (fun e=>by have:=(ho.lt k e.symm).1;omega)).trans (hB.block k hk)⟩
theorem Row.src {own:Own} {t:Tag} {l:List Val} {a:Option Addr} {c:Nat} (h:Row w own t 92 2 v l.length (A5 l)) (hv:v=.slice a l.length c) (hB:L0d w W):0 < l.length->∃d,a=some d/\∀j u,(A5 l)[j]?=some u->W.cell? (d.add j)=some u:=fun h0=>by
 obtain⟨b,c',e,_,hb⟩:=h.1.form h0;have h1:=h.1;rw[e] at hv h1
 cases hv;refine⟨_,rfl,fun j u hu=>?_⟩;have hj:=(L1a.1 hu).1;rw[D3] at hj;rw[W9,hB.cell (p:=⟨b,j,none⟩) hb,h1.cellAt j hj];exact hu
end
section
variable {g:PgR} {l:List Val} {met:List Nat} {obs:List Ob} {s:McA}
inductive fR (obs:List Ob) (l:List Val):Nat->Prop
 | root (v:Val) (hv:v∈l) (h2:v.1=2):fR obs l v.2.toNat
 | field (j:Nat) (o:Ob) (v:Val) (hj:fR obs l j) (ho:obs[j]?=some o) (h3:o.1≠3) (hv:v∈o.2) (h2:v.1=2):fR obs l v.2.toNat
theorem eK.of_lead (h:eK obs l met) {j:Nat} (hl:fR obs l j):j∈met:=by
 induction hl with
 | root v hv h2=>exact h.roots v hv h2
 | field j o v _ ho h3 hv h2 ih=>exact h.shut j ih o ho h3 v hv h2
theorem cL {k:List Val} (hm:∀j,j∈met->fR obs l j) (hk:∀v,v∈k->v.1=2->fR obs l v.2.toNat):∀j,j∈C1 met k->fR obs l j:=by
 intro j hj;rcases (V8 k met j).1 hj with h | ⟨v,h1,h2,rfl⟩
 ·exact hm j h
 ·exact hk v h1 h2
theorem cZ : ∀(n i:Nat) (met:List Nat),(∀j,j∈met->fR obs l j)->∀j,j∈G7 obs n i met->fR obs l j
 | 0,_,_,hm=>hm
 | n+1,i,met,hm=>by
  rw[G7]
  cases hi:met[i]? with
  | none=>exact hm
  | some k =>
   cases ho:obs[k]? with
   | none=>simp only [ho];exact hm
   | some o =>
    simp only[ho];refine cZ n (i+1) _ ?_;by_cases h3:o.1=3
    ·rw [if_pos h3];exact hm
    ·rw [if_neg h3]
     exact cL hm fun v hv h2=>fR.field k o v (hm k (L2a hi)) ho h3 hv h2
theorem nM : ∀j,j∈K6 obs l->fR obs l j :=
 cZ _ _ _ (cL R5 fun v hv h2=>fR.root v hv h2)
theorem eC:∀{a b:List Nat},a.Nodup->(∀j,j∈a->j∈b)->a.length<=b.length
 | [],_,_,_=>L4c _
 | x::a,b,h,hs=>by
  obtain⟨h1,h2⟩:=List.nodup_cons.1 h;have hx:=hs x R5;have:=eC (b:=b.erase x) h2 fun j hj=>(List.mem_erase_of_ne (fun e=>h1 (by rw [<- e];exact hj))).2 (hs j (by simp [hj]))
  have hp:=List.length_pos_of_mem hx;rw[List.length_erase_of_mem hx] at this;simp only[List.length_cons];omega
theorem gF {a b:List Nat} (ha:a.Nodup) (hb:b.Nodup) (h:∀j,j∈a↔j∈b):a.length=b.length :=
 Nat.le_antisymm (eC ha fun j hj=>(h j).1 hj) (eC hb fun j hj=>(h j).2 hj)
theorem cY (obs:List Ob):I8 obs=((List.range obs.length).filter fun j=>((obs[j]?).map fun o=>o.1 != 0).getD false).length:=by
 unfold I8
 induction obs with
 | nil=>rfl
 | cons o l ih =>
  rw[List.length_cons,List.range_succ_eq_map,List.filter_cons,List.filter_cons,List.filter_map,List.getElem?_cons_zero];have e:((fun j=>(((o::l)[j]?).map fun o=>o.1 != 0).getD false)∘Nat.succ)=fun j=>((l[j]?).map fun o=>o.1 != 0).getD false:=by funext j;simp
  rw[e]
  cases h:(o.1 != 0) <;> simp [h,ih]
theorem bN (h:D4 g s) {j:Nat} (hj:j∈A1 s):∃o,s.obs[j]?=some o/\o.1≠0:=by
 have:=nM j hj
 cases this with
 | root v hv h2 =>
  obtain⟨f,hf,hv⟩:=F9.1 hv;exact ((h.vals f hf v hv).ref h2).2
 | field k o v _ ho h3 hv h2=>exact (((h.obs o (L2a ho)).vals hv).ref h2).2
theorem fL (h:D4 g s):I8 (I7 s).obs=(A1 s).length:=by
 rw[cY];refine gF (List.nodup_range.filter _) h.alive.nodup fun j=>?_
 rw[List.mem_filter,List.mem_range];have e:(I7 s).obs[j]?=(s.obs[j]?).map fun o=>K7 (Z1 s.obs (A1 s)) (if j∈A1 s then o else (0,[])):=Z2 _ _ _
 constructor
 ·rintro ⟨_,h2⟩
  rw[e] at h2;refine Decidable.byContradiction fun hn=>?_
  cases ho:s.obs[j]? with
  | none=>rw [ho] at h2;simp at h2
  | some o=>rw [ho,Option.map_some,if_neg hn] at h2;simp [aN] at h2
 ·intro hj
  obtain⟨o,ho,xa⟩:=bN h hj;have hl:=(L1a.1 ho).1;refine⟨by show j < (R9 _ _).length;rw [S4];exact hl,?_⟩;rw[e,ho,Option.map_some,if_pos hj];simp[aN,xa]
end
section
variable {A:List Nat} {r:Nat->Nat} {v:Val}
def ren (r:Nat->Nat) (v:Val):Val:=if v.1=2 then (2,(r v.2.toNat:Int)) else v
def G4 (r:Nat->Nat) (f:FrA):FrA:=⟨f.fn,f.pc,f.loc.map (ren r),f.stk.map (ren r)⟩
theorem I3 (r:Nat->Nat) (v:Val):(ren r v).1=v.1:=by unfold ren;split <;> simp_all
theorem iT (h:v.1=2):(ren r v).2.toNat=r v.2.toNat:=by unfold ren;rw [if_pos h];rfl
theorem K4 (h:v.1≠2):ren r v=v:=by unfold ren;rw [if_neg h]
theorem uF (r:Nat->Nat) (l:List FrA):C4 (l.map (G4 r))=(C4 l).map (ren r):=by
 unfold C4;rw[List.flatMap_map,List.map_flatMap];congr 1
 funext f
 simp[G4]
def rN (r:Nat->Nat) (A:List Nat):Prop:=∀i j,i∈A->j∈A->r i=r j->i=j
theorem jY {met:List Nat} (hr:rN r A) (hm:∀j,j∈met->j∈A) {j:Nat} (hj:j∈A):r j∈met.map r↔j∈met:=by
 rw[List.mem_map];constructor
 ·rintro ⟨k,hk,e⟩
  rw[hr k j (hm k hk) hj e] at hk;exact hk
 ·intro h
  exact⟨j,h,rfl⟩
theorem eB (hr:rN r A):∀(l:List Val) (met:List Nat),(∀j,j∈met->j∈A)->(∀v,v∈l->v.1=2->v.2.toNat∈A)->C1 (met.map r) (l.map (ren r))=(C1 met l).map r
 | [],_,_,_=>rfl
 | v::l,met,hm,hl=>by
  rw[List.map_cons,C1,C1];by_cases h2:v.1=2
  ·have hv:=hl v R5 h2
   have e:(ren r v).2.toNat=r v.2.toNat:=iT h2;by_cases hin:v.2.toNat∈met
   ·rw [if_neg (fun h=>h.2 (by rw [e];exact (jY hr hm hv).2 hin)),if_neg (fun h=>h.2 hin)]
    exact eB hr l met hm fun u hu=>hl u (by simp [hu])
   ·rw [if_pos ⟨by rw [I3];exact h2,fun h=>hin ((jY hr hm hv).1 (by rw [<- e];exact h))⟩,if_pos ⟨h2,hin⟩,e]
    have:=eB hr l (met++[v.2.toNat]) (fun j hj=>by
     rcases List.mem_append.1 hj with hj | hj
     ·exact hm j hj
     ·rw [List.mem_singleton] at hj;rw [hj];exact hv) fun u hu=>hl u (by simp [hu])
    rw[List.map_append] at this;exact this
  ·rw [if_neg (fun h=>h2 (by rw [<- I3 r v];exact h.1)),if_neg (fun h=>h2 h.1)]
   exact eB hr l met hm fun u hu=>hl u (by simp [hu])
def a1Y (r:Nat->Nat) (A:List Nat) (obs obt:List Ob):Prop :=
 ∀j,j∈A->∃o p,obs[j]?=some o/\obt[r j]?=some p/\p.1=o.1/\(o.1≠3->p.2=o.2.map (ren r))
theorem mZ {obs obt:List Ob} (hr:rN r A) (hmv:a1Y r A obs obt) (hs:∀j,j∈A->jC obs A j):∀(n i:Nat) (met:List Nat),(∀j,j∈met->j∈A)->G7 obt n i (met.map r)=(G7 obs n i met).map r
 | 0,_,_,_=>rfl
 | n+1,i,met,hm=>by
  rw[G7,G7,List.getElem?_map]
  cases hi:met[i]? with
  | none=>rfl
  | some j =>
   have hj:=hm j (L2a hi);obtain⟨o,p,ho,hp,hk,hf⟩:=hmv j hj;simp only[Option.map_some,ho,hp];by_cases h3:o.1=3
   ·rw [if_pos h3,if_pos (by rw [hk];exact h3)]
    exact mZ hr hmv hs n (i+1) met hm
   ·rw [if_neg h3,if_neg (by rw [hk];exact h3),hf h3]
    have hl:∀v,v∈o.2->v.1=2->v.2.toNat∈A:=hs j hj o ho h3
    rw[eB hr o.2 met hm hl];refine mZ hr hmv hs n (i+1) _ fun k hk=>?_
    rcases (V8 o.2 met k).1 hk with h | ⟨v,hv,h2,rfl⟩
    ·exact hm k h
    ·exact hl v hv h2
end
theorem fN (a b:Value) (n:Nat):(Builtin.zeroCells #[a,b] n).size=n*2:=by simp [Builtin.zeroCells]
def kU (w:World) (e:Ending) (w':World):Prop:=∃v,e=.returned v/\w'.ownsRow w.heap.size 92 2 v 0 []/\L0d w w'
theorem a0w (w:World):Calls prog 235 #[.slice none 0 0,.int .i64 0] w fun e w'=>kU w e w':=by
 go_enter func235,ntmps235;go_wp2_with fail;go_ret;exact⟨_,rfl,World.ownsRow_nil _ _ _ _,L3b _ _⟩
theorem a0x (n:Nat) (h0:0 < n) (hn:n<=4000000) (w:World):Calls prog 235 #[.slice none 0 0,.int .i64 (n:Int)] w fun e w'=>kU w e w':=by
 obtain⟨xa,hi,hz,xb,xc⟩:=info_parts I2;have hr:∀W:World,(Builtin.append_ #[84,3] 84 #[.slice none 0 0,.int .i64 (n:Int)]).run prog W=_:=fun W=>Go.Lib.run_append_nil_zeros W 84 3 84 92 xa _ .i64 .i64 underlying84 underlying3 hi hz n h0 (by rw [xb];decide) R4 (by rw [xc];omega)
 have HR:=hid hr;clear hr hi hz xb xc;go_enter func235,ntmps235;go_wp2_with (at_builtin;go_must (refine Go.Lib.wpList_append_run _ rfl (.tmp 20) (.tmp 21) 84 3 rfl (.slice none 0 0) (.int .i64 (n:Int)) rfl rfl _ _ (HR.out _) ?_))
 go_ret;have h1:=grownCap_ge w n 0 92;refine⟨_,rfl,World.ownsRow.drew (World.ownsRow_made w _ _ (L1c _) (grownCap_le_maxLen w n 0 92 Q5) ?_),L3c (L3a (L3b _ _) (L1c _) _)⟩;rw[Array.size_append,fN,fN];omega
theorem a4I:(prog.info? 84).map (fun i=>(i.zero,i.size,i.bytes))=some (some (.slice none 0 0),1,24):=by kernel_rfl
def eD (l:List FrR):List Value:=l.flatMap fun f=>[f.lv,f.sv]
theorem tN {l:List FrR} {i:Nat} {f:FrR} (h:l[i]?=some f):eD (l.take (i+1))=eD (l.take i)++[f.lv,f.sv]:=by
 have e:l.take (i+1)=l.take i++[f]:=by rw [List.take_add_one,h];rfl
 rw[e];simp[eD]
def zX (l:List FrR) (w:World) (e:Ending) (w':World):Prop:=∃v,e=.returned v/\w'.ownsRow w.heap.size 84 1 v (l.length*2) (eD l)/\L0d w w'
theorem qD {own:Own} {mb:Nat} {g:PgR} {R:McR} {w:World} (h:A4 w own mb g R) (hn:R.frs.length<=1000) :
  Calls prog 207 #[.pointer (some ⟨mb,3,none⟩)] w fun e w'=>zX R.frs w e w':=by
 have c3:=h.c3;obtain⟨ca,cc,xi⟩:=G3 h.called;rw[xi] at c3;have xw:mb < w.heap.size:=h.lt mb _ h.me;obtain⟨xs,hi,hz,xm,xj⟩:=info_parts a4I;have HI:=hid hi;have HZ:=hid hz;have xt:=hid xm;have xq:=hid xj;have HH:=hid h;have xl:=hid xi;clear h xi hi hz xm xj;go_enter func207,ntmps207;go_wp2_with fail;go_loopw [3,11] (fun vl vi wr=>∃i:Nat,i<=R.frs.length/\vi=.int .i64 i/\wr.ownsRow w.heap.size 84 1 vl (i*2) (eD (R.frs.take i))/\L0d w wr) (fun _ vi _=>R.frs.length - (intOf vi).toNat)
 case atStart=>exact ⟨0,L4c _,rfl,World.ownsRow_nil _ _ _ _,L3b _ _⟩
 case round =>
  obtain⟨i,hi,rfl,xe,xb⟩:=hrel;have xc:=hid xb;have xd:=hid xe;by_cases hlt:i < R.frs.length
  ·obtain ⟨f,hf⟩:∃f,R.frs[i]?=some f:=⟨_,L1b hlt⟩
   obtain⟨cb,xy,e,_,xk⟩:=HH.out.called.1.form R4;have xh:=HH.out.called.1;rw[xl.out] at e
   cases e;rw[xl.out] at xh;have xa:∀j,j < 4->wr.cell? ⟨cb,i*4+j,none⟩=f.cells[j]?:=fun j hj=>by
    rw[xb.cell (p:=⟨cb,_,none⟩) xk,xh.cellAt _ R4];exact E0 FrR.cells_len hf hj
   obtain⟨la,lc,xf⟩:=G3 (HH.out.loc i f hf);obtain⟨sa,sc,xg⟩:=G3 (HH.out.stk i f hf);have k0:wr.cell? ⟨cb,i*4,none⟩=some (.int .i64 f.fn):=xa 0 R4;have k1:wr.cell? ⟨cb,i*4+1,none⟩=some (.int .i64 f.pc):=xa 1 R4;have k2:wr.cell? ⟨cb,i*4+2,none⟩=some f.lv:=xa 2 R4;have k3:wr.cell? ⟨cb,i*4+3,none⟩=some f.sv:=xa 3 R4;rw[xf] at k2;rw[xg] at k3;have xx:cb < wr.heap.size:=L0a xk xb.size
   have xo:=hid (tN hf);have xr:=hid xf;have xv:=hid xg;clear xa xh xe xb hf xf xg;have xz:w.heap.size<=wr.heap.size:=xc.out.size;go_wp2_with (at_builtin;go_must (refine wpList_append_lies _ rfl (.tmp 15) (.tmp 20) 131 rfl w.heap.size 84 xs _ 1 24 underlying131 HI.out HZ.out xt.out xq.out rfl R3 _ (i*2) (eD (R.frs.take i)) rfl ((xd.out.alloc _).alloc _) _ 2 2 [.slice la f.loc.length lc,.slice sa f.stk.length sc] rfl rfl (World.news_of_block (cs:=#[.slice la f.loc.length lc,.slice sa f.stk.length sc]) (t:=84) (fr:=(0,0)) (B1 R5)) (by intro u hu;simp at hu;rcases hu with rfl | rfl <;> rfl) R4 Q5 R4 Q8 _ rfl ?_))
   intro g1 cap1 w1 hown1 hgrow1 _ _;have xn:=M8 (L3a (L3a xc.out xc.out.size _) Q8 _) ((xd.out.alloc _).alloc _) hgrow1;have xp:=hid xn;have xu:=hid hown1;clear xn hown1 hgrow1 k0 k1 k2 k3;go_wp2_with fail;go_roundw
   case rel=>exact ⟨i+1,by omega,by go_num,by
    rw[xo.out,xr.out,xv.out,show (i+1)*2=i*2+2 by omega];exact xu.out,xp.out⟩
   case measure=>simp [intOf];omega
  ·obtain rfl:i=R.frs.length:=by omega
   rw[List.take_length] at xd;clear xb xe;go_wp2_with fail;go_ret;exact⟨_,rfl,xd.out,xc.out⟩
def yR (W:World) (a:Option Addr) (ls:List (Value × List Val)):Prop :=
 0 < ls.length->∃b,a=some ⟨b,0,none⟩/\b < W.heap.size/\∀(i:Nat) (p:Value × List Val),ls[i]?=some p->W.cell? ⟨b,i,none⟩=some p.1 /\
  ∃la lc,p.1=.slice la p.2.length lc/\(0 < p.2.length->∃d,la=some ⟨d,0,none⟩/\d < W.heap.size/\∀(j:Nat) (u:Value),(A5 p.2)[j]?=some u->W.cell? ⟨d,j,none⟩=some u)
def dO (ls:List (Value × List Val)):List Val:=ls.flatMap (·.2)
theorem oB {ls:List (Value × List Val)} {i:Nat} {p:Value × List Val} (h:ls[i]?=some p):dO (ls.take (i+1))=dO (ls.take i)++p.2:=by
 have e:ls.take (i+1)=ls.take i++[p]:=by rw [List.take_add_one,h];rfl
 rw[e];simp[dO]
theorem a2k (ls:List (Value × List Val)) (h:∀p,p∈ls->p.2.length<=1000):(dO ls).length<=ls.length*1000:=by
 induction ls with
 | nil=>simp [dO]
 | cons p l ih =>
  have h1:=ih fun x hx=>h x (by simp [hx])
  have h2:=h p R5;unfold dO at h1 ⊢;simp only[List.flatMap_cons,List.length_append,List.length_cons];rw[Nat.add_mul];omega
theorem a2D (n:Nat) (hn:n<=4000000) (w:World):Calls prog 235 #[.slice none 0 0,.int .i64 (n:Int)] w fun e w'=>kU w e w':=by
 rcases Nat.eq_zero_or_pos n with rfl | h
 ·exact a0w w
 ·exact a0x n h hn w
theorem vE (a:Option Addr) (c:Nat) (ls:List (Value × List Val)) (w:World) (hn:ls.length<=2000) (hl:∀p,p∈ls->p.2.length<=1000) (hs:yR w a ls) :
  Calls prog 227 #[.slice a ls.length c] w fun e w'=>lA (dO ls) w e w':=by
 obtain⟨xk,hi,hz,xn,xl⟩:=info_parts I2;have HI:=hid hi;have HZ:=hid hz;have xq:=hid xn;have xp:=hid xl;have HS:=hid hs;have HL:=hid hl;have HT:Hid (∀i,(dO (ls.take i)).length<=2000000):=fun i=>by
  have:=a2k (ls.take i) fun p hp=>hl p (List.mem_of_mem_take hp)
  rw[List.length_take] at this;have:min i ls.length*1000<=2000*1000:=Nat.mul_le_mul_right _ R4;omega
 clear hi hz xn xl hs hl;go_enter func227,ntmps227;go_wp2_with fail;go_loopw [3,11] (fun vs vi wr=>∃i:Nat,i<=ls.length/\vi=.int .i64 i/\vs=.int .i64 ((dO (ls.take i)).length:Int)/\L0d w wr) (fun _ vi _=>ls.length - (intOf vi).toNat)
 case atStart=>exact ⟨0,L4c _,rfl,rfl,L3b _ _⟩
 case round =>
  obtain⟨i,hi,rfl,rfl,xa⟩:=hrel;by_cases hlt:i < ls.length
  ·obtain ⟨p,hp⟩:∃p,ls[i]?=some p:=⟨_,L1b hlt⟩
   obtain⟨b,rfl,hb,xg⟩:=HS.out R4;obtain⟨k0,la,lc,hv,_⟩:=xg i p hp;rw[hv,<- xa.cell (p:=⟨b,i,none⟩) hb] at k0;have xs:b < wr.heap.size:=L0a hb xa.size;have xb:=hid xa;have ht:=HT.out i;have xx:=HT.out (i+1);have xi:=hid (oB hp);have xv:=HL.out p (L2a hp);clear xg hv hp xa;generalize hq:(dO (ls.take i)).length=q at *
   go_wp2_with fail;go_roundw
   case rel=>exact ⟨i+1,by omega,by go_num,by rw [xi.out,List.length_append,hq];go_num,xb.out⟩
   case measure=>simp [intOf];omega
  ·obtain rfl:i=ls.length:=by omega
   have ht:=HT.out ls.length;rw[List.take_length] at ht ⊢;generalize hq:(dO ls).length=q at *
   have xe:=hid xa;clear xa;go_wp2_with fail;refine (a2D q R4 _).mono ?_;rintro e w1 ⟨v1,rfl,xd,xm⟩;have xr:=hid (D6 xd xe.out.size);have xo:=hid (A7 xm xe.out);clear xd xm;go_wp2_with fail;go_loopw [6,27] (fun vl vi wr=>∃i:Nat,i<=ls.length/\vi=.int .i64 i/\wr.ownsRow w.heap.size 92 2 vl (dO (ls.take i)).length (A5 (dO (ls.take i)))/\L0d w wr) (fun _ vi _=>ls.length - (intOf vi).toNat)
   case atStart=>exact ⟨0,L4c _,rfl,xr.out,xo.out⟩
   case round =>
    obtain⟨i,hi,rfl,xf,xa⟩:=hrel;have xb:=hid xa;have xc:=hid xf;by_cases hlt:i < ls.length
    ·obtain ⟨p,hp⟩:∃p,ls[i]?=some p:=⟨_,L1b hlt⟩
     obtain⟨b,rfl,hb,xg⟩:=HS.out R4;obtain⟨k0,la,lc,hv,xh⟩:=xg i p hp;rw[hv,<- xa.cell (p:=⟨b,i,none⟩) hb] at k0;have xs:b < wr.heap.size:=L0a hb xa.size;have ht:=HT.out i;have xi:=hid (oB hp);have xv:=HL.out p (L2a hp);have xj:Hid (0 < p.2.length->∃d,la=some d/\∀j u,(A5 p.2)[j]?=some u->wr.cell? (d.add j)=some u):=fun h0=>by
      obtain⟨d,e1,e2,e3⟩:=xh h0;refine⟨_,e1,fun j u hu=>?_⟩;rw[W9,xa.cell (p:=⟨d,j,none⟩) e2];exact e3 j u hu
     have xw:w.heap.size<=wr.heap.size:=xa.size;clear xg hv hp xh xa xf;go_wp2_with (at_builtin;go_must (refine A9 _ rfl (.tmp 31) (.tmp 32) 84 rfl w.heap.size 92 xk _ 2 16 underlying84 HI.out HZ.out xq.out xp.out rfl R3 _ (dO (ls.take i)).length (A5 (dO (ls.take i))) rfl xc.out la p.2.length lc (A5 p.2) rfl (D3 _) xj.out (W5 _) Q5 R4 R4 ?_))
     intro v2 w2 hown2 hgrow2 _;have xu:=hid (M8 xb.out xc.out hgrow2);have xt:=hid hown2;clear hown2 hgrow2 k0;go_wp2_with fail;go_roundw
     case rel=>exact ⟨i+1,by omega,by go_num,by
      rw[xi.out,G5,List.length_append];exact xt.out,xu.out⟩
     case measure=>simp [intOf];omega
    ·obtain rfl:i=ls.length:=by omega
     rw[List.take_length] at xc;clear xa xf;go_wp2_with fail;go_ret;exact⟨_,rfl,xc.out,xb.out⟩
section
variable {own:Own} {w:World}
def Y7 (l:List FrR):List (Value × List Val):=l.flatMap fun f=>[(f.lv,f.loc),(f.sv,f.stk)]
theorem gD (l:List FrR):(Y7 l).length=l.length*2:=by
 induction l with
 | nil=>rfl
 | cons f l ih=>unfold Y7 at ih ⊢;simp only [List.flatMap_cons,List.length_append,List.length_cons,List.length_nil];omega
theorem wH (l:List FrR):dO (Y7 l)=M0 l:=by
 induction l with
 | nil=>rfl
 | cons f l ih=>unfold Y7 dO M0 at ih ⊢;simp only [List.flatMap_cons,List.flatMap_append,List.flatMap_nil,List.append_nil,ih]
theorem wI (l:List FrR):eD l=(Y7 l).map (·.1):=by
 induction l with
 | nil=>rfl
 | cons f l ih=>unfold Y7 eD at ih ⊢;simp only [List.flatMap_cons,List.map_append,List.map_cons,List.map_nil,ih]
theorem lZ {l:List FrR} {p:Value × List Val} (h:p∈Y7 l):∃(i:Nat) (f:FrR),l[i]?=some f/\(p=(f.lv,f.loc)\/p=(f.sv,f.stk)):=by
 unfold Y7 at h;obtain⟨f,hf,hp⟩:=List.mem_flatMap.1 h;obtain⟨i,hi⟩:=List.mem_iff_getElem?.1 hf;refine⟨i,f,hi,?_⟩;simpa using hp
theorem zQ {t:Tag} {v:Value} {l:List Val} (h:Row w own t 92 2 v l.length (A5 l)) {W:World} (hB:L0d w W):∃la lc,v=.slice la l.length lc/\(0 < l.length->∃d,la=some ⟨d,0,none⟩/\d < W.heap.size/\∀(j:Nat) (u:Value),(A5 l)[j]?=some u->W.cell? ⟨d,j,none⟩=some u):=by
 obtain⟨la,lc,hv⟩:=G3 h;refine⟨la,lc,hv,fun h0=>?_⟩;obtain⟨b,c',e,_,hb⟩:=h.1.form h0;have h1:=h.1;rw[e] at hv h1
 cases hv;refine⟨b,rfl,L0a hb hB.size,fun j u hu=>?_⟩;have hj:=(L1a.1 hu).1;rw[D3] at hj;rw[hB.cell (p:=⟨b,j,none⟩) hb,h1.cellAt j hj];exact hu
theorem uH {mb:Nat} {g:PgR} {R:McR} (h:A4 w own mb g R) (hn:R.frs.length<=1000) (hf:∀f,f∈R.frs->f.loc.length<=1000/\f.stk.length<=1000) :
  Calls prog 189 #[.pointer (some ⟨mb,3,none⟩)] w fun e w'=>lA (M0 R.frs) w e w':=by
 have HH:=hid h;have HF:=hid hf;clear h hf;go_enter func189,ntmps189;go_wp2_with fail;refine (qD HH.out hn).mono ?_;rintro e w1 ⟨v,rfl,xa,hb⟩;obtain⟨la,lc,rfl⟩:∃la lc,v=.slice la (Y7 R.frs).length lc:=by
  rw[gD];rcases xa.2 with ⟨h1,h2⟩ | ⟨g,xh,xi,h1,_⟩
  ·exact ⟨none,0,by rw [h1,h2]⟩
  ·exact ⟨_,_,h1⟩
 have HL:Hid (yR w1 la (Y7 R.frs)):=fun h0=>by
  have xa:=xa;rw[<- gD] at xa;obtain⟨b,c',e,_,xe⟩:=xa.form h0
  cases e;refine⟨b,rfl,xe,fun i p hp=>?_⟩;have hi:=(L1a.1 hp).1;refine⟨?_,?_⟩
  ·rw [xa.cellAt i R4,wI,List.getElem?_map,hp]
   rfl
  ·obtain ⟨k,f,hk,he⟩:=lZ (L2a hp)
   rcases he with rfl | rfl
   ·exact zQ (HH.out.loc k f hk) hb
   ·exact zQ (HH.out.stk k f hk) hb
 have HB:=hid hb;have xd:(Y7 R.frs).length<=2000:=by rw [gD];omega
 have HM:Hid (∀p,p∈Y7 R.frs->p.2.length<=1000):=fun p hp=>by
  obtain⟨k,f,hk,he⟩:=lZ hp;have:=HF.out f (L2a hk);rcases he with rfl | rfl
  ·exact this.1
  ·exact this.2
 have HC:=hid (wH R.frs);clear xa hb;generalize Y7 R.frs=ls at *
 go_wp2_with fail;refine (vE la lc ls w1 xd HM.out HL.out).mono ?_;rintro e w2 ⟨v2,rfl,xb,xc⟩;rw[HC.out] at xb;have xf:=hid (D6 xb HB.out.size);have xg:=hid (A7 xc HB.out);clear xb xc;go_wp2_with fail;go_ret;exact⟨_,rfl,xf.out,xg.out⟩
end
section
variable {R:McR} {e:Ending} {f:FrR} {fs:List FrR} {g:PgR} {mb sb:Nat} {own:Own} {rest:List Val} {va:Option Addr} {w w':World} {x:Val}
def DoA (own:Own) (mb:Nat) (g:PgR) (s:McA) (w:World) (e:Ending) (w':World):Prop :=
 X7 own mb g (fun R'=>McR.abs { R' with st:=s.st }=s/\E6 R') s.st w e w'
theorem C3.doA {pc:Nat} {l:List Val} (h:C3 own mb g R fs f pc l (.int .i64 0) w e w') (hq:E6 R):DoA own mb g (goA R.abs (fs.map FrR.abs) f.abs pc l) w e w':=by
 obtain⟨xa,xb,he,hm,ht⟩:=h;exact⟨xa,_,he,hm,⟨a4F R fs f pc l xb,hq⟩,ht⟩
theorem E9.doA {st:Int} (h:E9 st w e w') (hm:A4 w own mb g R) (hq:E6 R):DoA own mb g (C7 R.abs st) w e w':=by
 obtain⟨he,hb⟩:=h;exact⟨own,R,he,hm.same hb.size fun k hk=>hb.block k hk,⟨rfl,hq⟩,A2.of_below hb⟩
theorem tJ (hq:E6 R) {k:Nat} (hk:k=0\/k=1) (h:C0 w own mb g R fs f rest [] va sb) (a:Int) (vc:Nat) :
  Calls prog (doT k) #[.pointer (some ⟨mb,0,none⟩),.int .i64 a,.slice va 0 vc] w fun e w'=>DoA own mb g (doA g k a R.abs (fs.map FrR.abs) f.abs rest []) w e w':=by
 rcases hk with rfl | rfl
 ·exact (a0g h a vc).mono fun _ _ h=>h.doA hq
 ·exact (a0i h a vc).mono fun _ _ h=>h.doA hq
theorem a4R (hq:E6 R) (h:C0 w own mb g R fs f rest [] va sb) (a:Int) (h0:0<=a) (hl:a < f.loc.length) (vc:Nat) :
  Calls prog (doT 2) #[.pointer (some ⟨mb,0,none⟩),.int .i64 a,.slice va 0 vc] w fun e w'=>DoA own mb g (doA g 2 a R.abs (fs.map FrR.abs) f.abs rest []) w e w':=by
 obtain⟨n,rfl⟩:=L5c h0;obtain⟨x,hx⟩:∃x,f.loc[n]?=some x:=⟨_,L1b R4⟩
 refine (vI h n x hx vc).mono fun _ _ h=>?_
 have e:f.abs.loc.getD (n:Int).toNat (0,0)=x:=by rw [Int.toNat_natCast,List.getD_eq_getElem?_getD];show (f.loc[n]?).getD (0,0)=x;rw [hx];rfl
 have:=h.doA hq;show DoA own mb g (goA R.abs (fs.map FrR.abs) f.abs (f.abs.pc+1) (rest++[f.abs.loc.getD (n:Int).toNat (0,0)])) _ _ _;rw[e];exact this
theorem a2Y (hq:E6 R) (h:C0 w own mb g R fs f rest [x] va sb) (a:Int) (h0:0<=a) (hl:a < f.loc.length) (vc:Nat) :
  Calls prog (doT 3) #[.pointer (some ⟨mb,0,none⟩),.int .i64 a,.slice va 1 vc] w fun e w'=>DoA own mb g (doA g 3 a R.abs (fs.map FrR.abs) f.abs rest [x]) w e w':=by
 obtain⟨n,rfl⟩:=L5c h0;refine (sI h n R4 vc).mono ?_;rintro e w' ⟨xa,R',he,hm,⟨xb,rfl⟩,ht⟩;exact⟨xa,_,he,hm,⟨by simp [doA,McR.abs,FrR.abs],hq⟩,ht⟩
theorem wT (hq:E6 R) {k:Nat} (hk:k=4\/k=5\/k=25) (h:C0 w own mb g R fs f rest [x] va sb) (a:Int) (vc:Nat) :
  Calls prog (doT k) #[.pointer (some ⟨mb,0,none⟩),.int .i64 a,.slice va 1 vc] w fun e w'=>DoA own mb g (doA g k a R.abs (fs.map FrR.abs) f.abs rest [x]) w e w':=by
 rcases hk with rfl | rfl | rfl
 ·exact (a0e h a vc).mono fun _ _ h=>h.doA hq
 ·refine (a0j h a vc).mono fun _ _ h=>?_
  rw[List.append_nil] at h;exact h.doA hq
 ·exact (sF h a vc).mono fun _ _ h=>h.doA hq
theorem jJ {y:Val} (hq:E6 R) {k:Nat} (hk:k=6\/k=7\/k=8\/k=9\/k=10\/k=11) (h:C0 w own mb g R fs f rest [x,y] va sb) (a:Int) (vc:Nat) :
  Calls prog (doT k) #[.pointer (some ⟨mb,0,none⟩),.int .i64 a,.slice va 2 vc] w fun e w'=>DoA own mb g (doA g k a R.abs (fs.map FrR.abs) f.abs rest [x,y]) w e w':=by
 obtain⟨x1,x2⟩:=x;obtain⟨y1,y2⟩:=y;by_cases hc:x1=1/\y1=1
 ·rcases hk with rfl | rfl | rfl | rfl | rfl | rfl
  ·exact (lN h a vc).mono fun _ _ h=>h.doA hq
  ·obtain ⟨rfl,rfl⟩:=hc
   exact (a5S h a vc).mono fun _ _ h=>h.doA hq
  ·obtain ⟨rfl,rfl⟩:=hc
   exact (a5U h a vc).mono fun _ _ h=>h.doA hq
  ·obtain ⟨rfl,rfl⟩:=hc
   exact (a5T h a vc).mono fun _ _ h=>h.doA hq
  ·obtain ⟨rfl,rfl⟩:=hc
   exact (a4C h a vc).mono fun _ _ h=>h.doA hq
  ·exact (lM h a vc).mono fun _ _ h=>h.doA hq
 ·have e:∀z,F6 R.abs (fs.map FrR.abs) f.abs rest (x1,x2) (y1,y2) z=C7 R.abs 2:=fun z=>if_neg hc
  rcases hk with rfl | rfl | rfl | rfl | rfl | rfl
  ·exact (lN h a vc).mono fun _ _ h=>h.doA hq
  ·refine (vJ h hc a vc).mono fun _ _ ht=>?_
   show DoA own mb g (F6 _ _ _ _ _ _ _) _ _ _;rw[e];exact ht.doA h.m hq
  ·refine (vL h hc a vc).mono fun _ _ ht=>?_
   show DoA own mb g (F6 _ _ _ _ _ _ _) _ _ _;rw[e];exact ht.doA h.m hq
  ·refine (vK h hc a vc).mono fun _ _ ht=>?_
   show DoA own mb g (F6 _ _ _ _ _ _ _) _ _ _;rw[e];exact ht.doA h.m hq
  ·refine (sL h hc a vc).mono fun _ _ ht=>?_
   show DoA own mb g (F6 _ _ _ _ _ _ _) _ _ _;rw[e];exact ht.doA h.m hq
  ·exact (lM h a vc).mono fun _ _ h=>h.doA hq
theorem a4Q (hq:E6 R) (h:C0 w own mb g R fs f rest [] va sb) (a:Int) (h0:0<=a) (vc:Nat) :
  Calls prog (doT 12) #[.pointer (some ⟨mb,0,none⟩),.int .i64 a,.slice va 0 vc] w fun e w'=>DoA own mb g (doA g 12 a R.abs (fs.map FrR.abs) f.abs rest []) w e w':=by
 obtain⟨n,rfl⟩:=L5c h0;exact (lL h n vc).mono fun _ _ h=>h.doA hq
theorem wS (hq:E6 R) (h:C0 w own mb g R fs f rest [x] va sb) (a:Int) (h0:0<=a) (vc:Nat) :
  Calls prog (doT 13) #[.pointer (some ⟨mb,0,none⟩),.int .i64 a,.slice va 1 vc] w fun e w'=>DoA own mb g (doA g 13 a R.abs (fs.map FrR.abs) f.abs rest [x]) w e w':=by
 obtain⟨n,rfl⟩:=L5c h0
 cases hg:L0 x
 ·refine (nF h hg n vc).mono fun _ _ h=>?_
  show DoA own mb g (if L0 x=true then _ else _) _ _ _;rw[hg];exact h.doA hq
 ·refine (pG h hg n vc).mono fun _ _ h=>?_
  show DoA own mb g (if L0 x=true then _ else _) _ _ _;rw[hg];exact h.doA hq
theorem a2X (hq:E6 R) (h:C0 w own mb g R fs f rest [x] va sb) (a:Int) (vc:Nat) :
  Calls prog (doT 26) #[.pointer (some ⟨mb,0,none⟩),.int .i64 a,.slice va 1 vc] w fun e w'=>DoA own mb g (doA g 26 a R.abs (fs.map FrR.abs) f.abs rest [x]) w e w':=by
 obtain⟨x1,x2⟩:=x;by_cases h1:x1=1
 ·subst h1
  by_cases hl:40<=R.out.length
  ·refine (pH h hl a vc).mono fun _ _ ht=>?_
   have e:doA g 26 a R.abs (fs.map FrR.abs) f.abs rest [(1,x2)]=C7 R.abs 7:=by
    have xb:40<=R.abs.out.length:=hl;simp[doA,xb]
   rw[e];exact ht.doA h.m hq
  ·refine (sG h R4 a vc).mono ?_
   rintro e w' ⟨xa,R',he,hm,⟨xc,xd,rfl⟩,ht⟩;have e:doA g 26 a R.abs (fs.map FrR.abs) f.abs rest [(1,x2)]=⟨0,R.out++[x2],fs.map FrR.abs++[⟨f.fn,f.pc+1,f.loc,rest⟩],R.obs.map ObR.abs,R.dr⟩:=by
    have xb:¬40<=R.abs.out.length:=hl;simp only[doA,xb];rfl
   rw[e];exact⟨xa,_,he,hm,⟨by simp [McR.abs,FrR.abs],fun e=>by simp at e⟩,ht⟩
 ·refine (sH h h1 a vc).mono fun _ _ ht=>?_
  have e:doA g 26 a R.abs (fs.map FrR.abs) f.abs rest [(x1,x2)]=C7 R.abs 2:=if_pos h1;rw[e];exact ht.doA h.m hq
theorem a4P (hq:E6 R) (h:C0 w own mb g R fs f rest [] va sb) (a:Int) (vc:Nat) :
  Calls prog (doT 27) #[.pointer (some ⟨mb,0,none⟩),.int .i64 a,.slice va 0 vc] w fun e w'=>DoA own mb g (doA g 27 a R.abs (fs.map FrR.abs) f.abs rest []) w e w':=by
 refine (vH h.m a _).mono ?_;rintro e w' ⟨xa,R',he,hm,rfl,ht⟩;exact⟨xa,_,he,hm,⟨by simp [doA,McR.abs],hq⟩,ht⟩
end
section
variable {R:McR} {W w:World} {g:PgR} {mb:Nat} {own:Own} {v:Value}
def K5 (ty size n:Nat) (xs:List Value) (w:World) (e:Ending) (w':World):Prop :=
 ∃v,e=.returned v/\w'.ownsRow w.heap.size ty size v n xs/\L0d w w'
theorem rY (d:Addr) (n c:Nat) (xs:List Value) (w:World) (hm:n<=100000) (hl:xs.length=n*2) (hx:∀W,L0d w W->∀j u,xs[j]?=some u->W.cell? (d.add j)=some u) (h1:∀u∈xs,u.oneCell'=true) :
  Calls prog 90 #[.slice (some d) n c] w fun e w'=>K5 92 2 n xs w e w':=by
 have HX:=hid hx;have HL:=hid hl;have H1:=hid h1;clear hx hl h1;go_enter func90,ntmps90;have xe:∀W:World,(binOp .eql 84 (.slice (some d) n c) (.slice none 0 0)).run prog W=.ok (.bool false) W:=fun W=>Go.Lib.run_eql_slice_nil W 84 92 _ n c 0 0 underlying84
 obtain⟨i,hi,hz,xa,xb⟩:=info_parts I2;have HI:=hid hi;have HZ:=hid hz;have xc:=hid xa;have xd:=hid xb;clear hi hz xa xb;go_wp2_with (at_builtin;go_must (refine A9 _ rfl (.tmp 5) (.tmp 6) 84 rfl w.heap.size 92 i _ 2 16 underlying84 HI.out HZ.out xc.out xd.out rfl R3 (.slice (some ⟨w.heap.size,0,none⟩) 0 0) 0 [] rfl (World.ownsRow_made w #[] 0 (L1c _) (L4c _) rfl) (some d) n c xs rfl HL.out (fun _=>⟨d,rfl,HX.out _ (L3a (L3b _ _) (L1c _) _)⟩) H1.out Q5 R4 R5 ?_))
 intro v' w5 hown hgrow _;have HB:Hid (L0d w w5):=V5 (v:=.slice (some ⟨w.heap.size,0,none⟩) 0 0) (L3a (L3b _ _) (L1c _) _) rfl (L1c _) hgrow;have ho:w5.ownsRow w.heap.size 92 2 v' n xs:=by simpa using hown
 have HO:=hid ho;clear hown hgrow ho;go_wp2_with fail;go_ret;exact⟨v',rfl,HO.out,HB.out⟩
theorem vA (n c:Nat) (w:World):Calls prog 90 #[.slice none n c] w fun e w'=>K5 92 2 0 [] w e w':=by
 have xa:∀W:World,(binOp .eql 84 (.slice none n c) (.slice none 0 0)).run prog W=.ok (.bool true) W:=fun W=>Go.Lib.run_eql_slice_nil W 84 92 none n c 0 0 underlying84
 go_enter func90,ntmps90;go_wp2_with fail;go_ret;exact⟨_,rfl,World.ownsRow_nil _ _ _ _,L3b _ _⟩
theorem fX {t:Tag} {l:List Val} {a:Option Addr} {c:Nat} (h:Row w own t 92 2 v l.length (A5 l)) (hv:v=.slice a l.length c) (hB:L0d w W) (hm:l.length<=1000) :
  Calls prog 90 #[.slice a l.length c] W fun e w'=>K5 92 2 l.length (A5 l) W e w':=by
 cases a with
 | none =>
  have h0:l.length=0:=by
   rcases Nat.eq_zero_or_pos l.length with h0 | h0
   ·exact h0
   ·obtain ⟨d,hd,_⟩:=h.src hv hB h0;cases hd
  have xa:=List.length_eq_zero_iff.1 h0;subst xa;exact vA _ _ _
 | some d =>
  refine rY d l.length c (A5 l) W R4 (D3 _) (fun V hV j u hu=>?_) (W5 _);have hj:=(L1a.1 hu).1;rw[D3] at hj;obtain⟨d',hd,hc⟩:=h.src hv (A7 hV hB) R4
  cases hd;exact hc j u hu
theorem rW (d:Addr) (n c:Nat) (xs:List Value) (w:World) (hm:n<=100000) (hl:xs.length=n*4) (hx:∀W,L0d w W->∀j u,xs[j]?=some u->W.cell? (d.add j)=some u) (h1:∀u∈xs,u.oneCell'=true) :
  Calls prog 89 #[.slice (some d) n c] w fun e w'=>K5 86 4 n xs w e w':=by
 have HX:=hid hx;have HL:=hid hl;have H1:=hid h1;clear hx hl h1;go_enter func89,ntmps89;have xe:∀W:World,(binOp .eql 66 (.slice (some d) n c) (.slice none 0 0)).run prog W=.ok (.bool false) W:=fun W=>Go.Lib.run_eql_slice_nil W 66 86 _ n c 0 0 underlying66
 obtain⟨i,hi,hz,xa,xb⟩:=info_parts dX;have HI:=hid hi;have HZ:=hid hz;have xc:=hid xa;have xd:=hid xb;clear hi hz xa xb;go_wp2_with (at_builtin;go_must (refine A9 _ rfl (.tmp 5) (.tmp 6) 66 rfl w.heap.size 86 i _ 4 64 underlying66 HI.out HZ.out xc.out xd.out rfl R3 (.slice (some ⟨w.heap.size,0,none⟩) 0 0) 0 [] rfl (World.ownsRow_made w #[] 0 (L1c _) (L4c _) rfl) (some d) n c xs rfl HL.out (fun _=>⟨d,rfl,HX.out _ (L3a (L3b _ _) (L1c _) _)⟩) H1.out Q5 R4 R5 ?_))
 intro v' w5 hown hgrow _;have HB:Hid (L0d w w5):=V5 (v:=.slice (some ⟨w.heap.size,0,none⟩) 0 0) (L3a (L3b _ _) (L1c _) _) rfl (L1c _) hgrow;have ho:w5.ownsRow w.heap.size 86 4 v' n xs:=by simpa using hown
 have HO:=hid ho;clear hown hgrow ho;go_wp2_with fail;go_ret;exact⟨v',rfl,HO.out,HB.out⟩
theorem uX (n c:Nat) (w:World):Calls prog 89 #[.slice none n c] w fun e w'=>K5 86 4 0 [] w e w':=by
 have xa:∀W:World,(binOp .eql 66 (.slice none n c) (.slice none 0 0)).run prog W=.ok (.bool true) W:=fun W=>Go.Lib.run_eql_slice_nil W 66 86 none n c 0 0 underlying66
 go_enter func89,ntmps89;go_wp2_with fail;go_ret;exact⟨_,rfl,World.ownsRow_nil _ _ _ _,L3b _ _⟩
theorem lQ (h:A4 w own mb g R):∀u∈R.frs.flatMap FrR.cells,u.oneCell'=true:=by
 intro u hu;obtain⟨f,hf,hu⟩:=List.mem_flatMap.1 hu;obtain⟨i,hi⟩:=List.mem_iff_getElem?.1 hf;obtain⟨la,lc,xb⟩:=G3 (h.loc i f hi);obtain⟨sa,sc,xa⟩:=G3 (h.stk i f hi);simp only[FrR.cells,List.mem_cons,List.not_mem_nil,or_false] at hu;rcases hu with rfl | rfl | rfl | rfl
 ·rfl
 ·rfl
 ·rw [xb];rfl
 ·rw [xa];rfl
theorem lI (h:A4 w own mb g R) (hB:L0d w W) (hn:R.frs.length<=1000) {a:Option Addr} {c:Nat} (hv:R.cv=.slice a R.frs.length c) :
  Calls prog 89 #[.slice a R.frs.length c] W fun e w'=>K5 86 4 R.frs.length (R.frs.flatMap FrR.cells) W e w':=by
 cases a with
 | none =>
  have h0:R.frs.length=0:=by
   rcases h.called.1.2 with ⟨_,e⟩ | ⟨_,_,_,e,_⟩
   ·exact e
   ·rw [hv] at e;cases e
  have xb:=List.length_eq_zero_iff.1 h0;rw[xb];exact uX _ _ _
 | some d =>
  refine rW d R.frs.length c _ W R4 (X1 FrR.cells_len _) (fun V hV j u hu=>?_) (lQ h);have hj:=(L1a.1 hu).1;rw[X1 FrR.cells_len] at hj;obtain⟨b,c',e,_,hb⟩:=h.called.1.form R4;have xa:=h.called.1;rw[hv] at e
  cases e;rw[hv] at xa;rw[W9,(A7 hV hB).cell (p:=⟨b,j,none⟩) hb,xa.cellAt j hj];exact hu
theorem eS {B e size n:Nat} {xs:List Value} (h:w.ownsRow B e size v n xs):∃a c,v=.slice a n c:=by
 rcases h.2 with ⟨e,e0⟩ | ⟨gb,xa,_,e,_⟩
 ·exact ⟨none,0,by rw [e,e0]⟩
 ·exact ⟨_,_,e⟩
end
end Go.Proofs.YtbkmgoffiigdbaaGreatDoor
