import Derived.Test.YtbkmgoffiigdbaaGreatDoorVEf
namespace Go.Proofs.YtbkmgoffiigdbaaGreatDoor
open Go.RowKit Go.Sort
section
variable {all:List Ob} {g:PgR} {o:Ob} {r:Nat->Nat} {s t:McA}
theorem a1g (q r:Nat->Nat) (f:FrA):D8 q (D8 r f)=D8 (fun x=>q (r x)) f:=by
 have e:∀v,ren q (ren r v)=ren (fun x=>q (r x)) v:=fun v=>by
  by_cases h:v.1=2
  ·unfold ren
   rw[if_pos h,if_pos rfl,if_pos h];rfl
  ·rw [G2 h,G2 h,G2 h]
 simp[D8,e,Function.comp_def]
theorem tV (q r:Nat->Nat) (v:Val):ren q (ren r v)=ren (fun x=>q (r x)) v:=by
 by_cases h:v.1=2
 ·unfold ren
  rw[if_pos h,if_pos rfl,if_pos h];rfl
 ·rw [G2 h,G2 h,G2 h]
theorem Rel.go {s' t':McA} (h:Rel r s t) (hi:C4 g s) (hs:s'.obs=s.obs) (ht:t'.obs=t.obs) (hst:t'.st=s'.st) (hout:t'.out=s'.out) (hfr:t'.frs=s'.frs.map (D8 r))
  (hv:∀v,v∈B7 s'.frs->v.1=2->v.2.toNat∈A1 s):Rel r s' t':=by
 have xf:U6 s'.obs (B7 s'.frs) (A1 s'):=by
  refine W8 ?_ fun v hv' h2=>?_
  ·rw [hs];exact hi.within
  ·rw [hs];exact hi.alive.lt _ (hv v hv' h2)
 have xa:∀j,j∈A1 s'->j∈A1 s:=fun j hj=>by
  have hl:aT s'.obs (B7 s'.frs) j:=aB j hj;rw[hs] at hl
  induction hl with
  | root v hv' h2=>exact hv v hv' h2
  | field k o v hk ho h3 hv' h2 ih =>
   have xg:k∈A1 s':=xf.of_lead (by rw [hs];exact hk);exact hi.alive.shut k (ih xg) o ho h3 v hv' h2
 have xb:dX r (A1 s'):=fun i j h1 h2=>h.inj i j (xa i h1) (xa j h2)
 have xd:gQ r (A1 s') s'.obs t'.obs:=fun j hj=>by rw [hs,ht];exact h.moved j (xa j hj)
 have xe:A1 t'=(A1 s').map r:=by
  unfold A1;rw[hfr,aL];exact bU xf (by rw [hs,ht];exact h.cap) xb xd
 have xc:=h.alive hi;refine⟨hst,hout,by rw [hs,ht];exact h.cap,hfr,xb,xd,fun j o p hj ho hp h3=>?_⟩;rw[hs] at ho;rw[ht] at hp;rcases h.weak j o p (xa j hj) ho hp h3 with ⟨h1,h2,h4⟩ | ⟨h1,h2⟩
 ·by_cases hin:(o.2.headD (0,0)).2.toNat∈A1 s'
  ·exact Or.inl ⟨h1,hin,h4⟩
  ·refine Or.inr ⟨fun e=>hin e.2,fun e=>hin ?_⟩
   rw[h4,aC h1,xe] at e;exact (bT h.inj xa h2).1 e.2
 ·refine Or.inr ⟨fun e=>h1 ⟨e.1,xa _ e.2⟩,fun e=>h2 ⟨e.1,?_⟩⟩
  rw[xe] at e;rw[xc];obtain⟨k,hk,e'⟩:=List.mem_map.1 e.2;exact List.mem_map.2 ⟨k,xa k hk,e'⟩
theorem Rel.trans {q:Nat->Nat} {u:McA} (h:Rel r s t) (k:Rel q t u) (hi:C4 g s) (_hj:C4 g t):Rel (fun x=>q (r x)) s u:=by
 have xf:=h.alive hi;have xa:∀j,j∈A1 s->r j∈A1 t:=fun j hj=>by rw [xf];exact List.mem_map.2 ⟨j,hj,rfl⟩
 refine⟨k.st.trans h.st,k.out.trans h.out,k.cap.trans h.cap,?_,fun i j h1 h2 e=>h.inj i j h1 h2 (k.inj _ _ (xa i h1) (xa j h2) e),fun j hj=>?_,fun j o p hj ho hp h3=>?_⟩
 ·rw [k.frs,h.frs,List.map_map]
  exact List.map_congr_left fun f _=>a1g q r f
 ·obtain ⟨o,p,ho,hp,hk,hf⟩:=h.moved j hj
  obtain⟨p',x,xc,hx,xe,xd⟩:=k.moved (r j) (xa j hj);rw[hp] at xc
  cases xc;refine⟨o,x,ho,hx,xe.trans hk,fun h3=>?_⟩;rw[xd (by rw [hk];exact h3),hf h3,List.map_map];exact List.map_congr_left fun v _=>tV q r v
 ·obtain ⟨o',m,xb,hm,hk,hf⟩:=h.moved j hj
  rw[ho] at xb
  cases xb;have w1:=h.weak j o m hj ho hm h3;have w2:=k.weak (r j) m p (xa j hj) hm hp (by rw [hk];exact h3);rcases w1 with ⟨a1,a2,a3⟩ | ⟨a1,a2⟩
  ·rcases w2 with ⟨b1,b2,b3⟩ | ⟨b1,b2⟩
   ·exact Or.inl ⟨a1,a2,by rw [b3,a3,tV]⟩
   ·exact absurd ⟨by rw [a3,G3];exact a1,by rw [a3,aC a1];exact xa _ a2⟩ b1
  ·rcases w2 with ⟨b1,b2,b3⟩ | ⟨b1,b2⟩
   ·exact absurd ⟨b1,b2⟩ a2
   ·exact Or.inr ⟨a1,b2⟩
theorem a2M (h:C4 g s):∀v,v∈B7 s.frs->v.1=2->0<=v.2:=fun v hv h2=>by
 obtain⟨f,hf,hv⟩:=E0.1 hv;exact ((h.vals f hf v hv).ref h2).1
theorem eI (h:C4 g s) {j:Nat} {o:Ob} (ho:s.obs[j]?=some o):∀v,v∈o.2->v.1=2->0<=v.2:=fun _ hv h2=>(((h.obs o (L2a ho)).vals hv).ref h2).1
theorem a2y (h:C4 g s):s.frs.map (D8 id)=s.frs:=by
 conv=>rhs;rw [<- List.map_id s.frs]
 refine List.map_congr_left fun f hf=>?_
 have hv:∀v,v∈f.loc++f.stk->v.1=2->0<=v.2:=fun v hv h2=>((h.vals f hf v hv).ref h2).1
 show FrA.mk f.fn f.pc (f.loc.map (ren id)) (f.stk.map (ren id))=f;rw[bH fun v hv'=>hv v (by simp [hv']),bH fun v hv'=>hv v (by simp [hv'])]
theorem aF {j:Nat} (ho:s.obs[j]?=some o) (hj:j∈A1 s):(G5 s).obs[j]?=some (J0 (V4 s.obs (A1 s)) o):=by
 show (T7 s.obs (A1 s))[j]?=_;rw[Z7,ho,Option.map_some,if_pos hj]
theorem U0 (h:o.1≠3):J0 all o=o:=by unfold J0;rw [if_neg (fun hc=>h hc.1)]
theorem cM (h:C4 g s) (v:Val):cE (V4 s.obs (A1 s)) v=true↔¬(v.1=2/\v.2.toNat∈A1 s):=by
 unfold cE;by_cases h2:v.1=2
 ·rw [if_pos h2,dL]
  by_cases hin:v.2.toNat∈A1 s
  ·obtain ⟨o,ho,xa⟩:=N8 h hin
   simp[ho,hin,xa,h2]
  ·cases ho:s.obs[v.2.toNat]? with
   | none=>simp [hin]
   | some o=>simp [hin]
 ·simp [h2]
theorem pB (h3:o.1=3) (hn:o.2≠[]):(J0 all o).2.headD (0,0)=if cE all (o.2.headD (0,0))=true then (0,0) else o.2.headD (0,0):=by
 unfold J0;by_cases hl:cE all (o.2.headD (0,0))=true
 ·rw [if_pos ⟨h3,hl⟩,if_pos hl]
  cases h:o.2 with
  | nil=>exact absurd h hn
  | cons a l=>simp
 ·rw [if_neg (fun e=>hl e.2),if_neg hl]
theorem jX (h:C4 g s) {j:Nat} {o:Ob} (ho:s.obs[j]?=some o) (h3:o.1=3):o.2≠[]:=by
 rcases h.obs o (L2a ho) with ⟨e,_⟩ | ⟨e,_⟩ | ⟨e,_⟩ | ⟨_,u,e,_⟩
 ·omega
 ·omega
 ·omega
 ·rw [e];simp
theorem mR (h:C4 g s) {j:Nat} {o:Ob} (ho:s.obs[j]?=some o) (h3:o.1=3) (h2:(o.2.headD (0,0)).1=2):0<=(o.2.headD (0,0)).2:=by
 have hn:=jX h ho h3
 cases e:o.2 with
 | nil=>exact absurd e hn
 | cons a l =>
  rw[e] at h2;exact eI h ho a (by rw [e];simp) h2
theorem fM (h:C4 g s):gQ id (A1 s) s.obs (G5 s).obs:=fun j hj=>by
 obtain⟨o,ho,_⟩:=N8 h hj;refine⟨o,_,ho,aF ho hj,L0 _ _,fun h3=>?_⟩;rw[U0 h3,bH (eI h ho)]
theorem lY (A:List Nat):dX id A:=fun _ _ _ _ e=>e
theorem bC (h:C4 g s):A1 (G5 s)=A1 s:=by
 have e:G7 (G5 s).obs ((B7 s.frs).map (ren id))=(G7 s.obs (B7 s.frs)).map id:=bU h.alive (L4 _ _) (lY _) (fM h);rw[bH (a2M h),List.map_id] at e;exact e
theorem kG (h:C4 g s):Rel id s (G5 s):=by
 refine⟨rfl,rfl,L4 _ _,(a2y h).symm,lY _,fM h,fun j o p hj ho hp h3=>?_⟩;rw[show (id j:Nat)=j from rfl,aF ho hj] at hp
 cases hp;rw[pB h3 (jX h ho h3),bC h];by_cases hl:cE (V4 s.obs (A1 s)) (o.2.headD (0,0))=true
 ·rw [if_pos hl]
  exact Or.inr ⟨(cM h _).1 hl,by simp⟩
 ·rw [if_neg hl]
  have:=Decidable.not_not.1 fun e=>hl ((cM h _).2 e)
  exact Or.inl ⟨this.1,this.2,(xQ _ fun h2=>mR h ho h3 h2).symm⟩
theorem nS (h:C4 g s):Rel id (G5 s) s:=by
 have xa:=bC h;refine⟨rfl,rfl,(L4 _ _).symm,(a2y (bS h)).symm,lY _,fun j hj=>?_,fun j o p hj ho hp h3=>?_⟩
 ·rw [xa] at hj
  obtain⟨o,ho,_⟩:=N8 h hj;refine⟨_,o,aF ho hj,ho,(L0 _ _).symm,fun h3=>?_⟩;rw[L0] at h3;rw[U0 h3,bH (eI h ho)]
 ·rw [xa] at hj ⊢
  rw[show (id j:Nat)=j from rfl] at hp;rw[aF hp hj] at ho
  cases ho;rw[L0] at h3;rw[pB h3 (jX h hp h3)];by_cases hl:cE (V4 s.obs (A1 s)) (p.2.headD (0,0))=true
  ·rw [if_pos hl]
   exact Or.inr ⟨by simp,(cM h _).1 hl⟩
  ·rw [if_neg hl]
   have:=Decidable.not_not.1 fun e=>hl ((cM h _).2 e)
   exact Or.inl ⟨this.1,this.2,(xQ _ fun h2=>mR h hp h3 h2).symm⟩
end
section
variable {f:FrA} {fs:List FrA} {g:PgR} {k l:List Val} {r:Nat->Nat} {s t:McA} {v:Val}
def In (s:McA) (l:List Val):Prop:=∀v,v∈l->v.1=2->v.2.toNat∈A1 s
theorem In.app (h:In s l) (h':In s k):In s (l++k):=fun v hv h2=>by
 rcases List.mem_append.1 hv with hv | hv
 ·exact h v hv h2
 ·exact h' v hv h2
theorem In.left (h:In s (l++k)):In s l:=fun v hv=>h v (by simp [hv])
theorem In.right (h:In s (l++k)):In s k:=fun v hv=>h v (by simp [hv])
theorem In.one (h:v.1=2->v.2.toNat∈A1 s):In s [v]:=fun u hu=>by rw [List.mem_singleton] at hu;subst hu;exact h
theorem In.plain (h:v.1≠2):In s [v]:=In.one fun h2=>absurd h2 h
theorem In.nil : In s []:=fun v hv=>by simp at hv
theorem In.frs (hi:C4 g s) {f:FrA} (hf:f∈s.frs):In s (f.loc++f.stk):=fun v hv h2=>hi.alive.roots v (E0.2 ⟨f,hf,hv⟩) h2
structure At (g:PgR) (r:Nat->Nat) (s t:McA) (fs:List FrA) (f:FrA) (rest args:List Val):Prop where
 rel:Rel r s t
 inv:C4 g s
 inv':C4 g t
 frs:s.frs=fs++[f]
 stk:f.stk=rest++args
theorem At.f_in {rest args:List Val} (h:At g r s t fs f rest args):In s (f.loc++f.stk):=In.frs h.inv (by rw [h.frs];simp)
theorem At.loc {rest args:List Val} (h:At g r s t fs f rest args):In s f.loc:=h.f_in.left
theorem At.rest {rest args:List Val} (h:At g r s t fs f rest args):In s rest:=by
 have:=h.f_in.right;rw[h.stk] at this;exact this.left
theorem At.args {rest args:List Val} (h:At g r s t fs f rest args):In s args:=by
 have:=h.f_in.right;rw[h.stk] at this;exact this.right
theorem At.put {rest args:List Val} (h:At g r s t fs f rest args) (st:Int) (out:List Int) (fl:List FrA) (hin:∀x,x∈fl->x∈fs\/In s (x.loc++x.stk)) (d d':List Int) :
  Rel r ⟨st,out,fl,s.obs,d⟩ ⟨st,out,fl.map (D8 r),t.obs,d'⟩ :=
 h.rel.go h.inv rfl rfl rfl rfl rfl fun v hv h2=>by
  obtain⟨x,hx,hv⟩:=E0.1 hv;rcases hin x hx with hx | hx
  ·exact In.frs h.inv (by rw [h.frs];simp [hx]) v hv h2
  ·exact hx v hv h2
theorem At.goA {rest args:List Val} (h:At g r s t fs f rest args) (pc:Nat) (l:List Val) (hl:In s l) :
  Rel r (goA s fs f pc l) (goA t (fs.map (D8 r)) (D8 r f) pc (l.map (ren r))):=by
 have:=h.put 0 s.out (fs++[⟨f.fn,pc,f.loc,l⟩]) (fun x hx=>by
  rcases List.mem_append.1 hx with hx | hx
  ·exact Or.inl hx
  ·rw [List.mem_singleton] at hx;subst hx;exact Or.inr (h.loc.app hl)) s.dr t.dr
 unfold Go.Proofs.YtbkmgoffiigdbaaGreatDoor.goA;rw[h.rel.out];rw[List.map_append] at this;exact this
theorem At.goE {rest args:List Val} (h:At g r s t fs f rest args) (pc:Nat) (l l':List Val) (hl:In s l) (hl':l'=l.map (ren r)) :
  ∃q,Rel q (Go.Proofs.YtbkmgoffiigdbaaGreatDoor.goA s fs f pc l) (Go.Proofs.YtbkmgoffiigdbaaGreatDoor.goA t (fs.map (D8 r)) (D8 r f) pc l'):=⟨r,by rw [hl'];exact h.goA pc l hl⟩
theorem At.trap {rest args:List Val} (h:At g r s t fs f rest args) (st:Int):∃q,Rel q (C7 s st) (C7 t st) :=
 ⟨r,h.rel.go h.inv rfl rfl rfl h.rel.out h.rel.frs fun v hv h2=>h.inv.alive.roots v hv h2⟩
theorem iV (r:Nat->Nat) (z:Int):ren r (1,z)=(1,z):=G2 (show (1:Int)≠2 by decide)
theorem X7 (r:Nat->Nat):ren r (0,0)=(0,0):=G2 R3
end
section
variable {args rest:List Val} {f:FrA} {fs:List FrA} {g:PgR} {r:Nat->Nat} {s t:McA}
theorem iU (h:Rel r s t) (_hi:C4 g s) {v:Val} (hv:v.1=2->v.2.toNat∈A1 s) :
  (A0 t.obs (ren r v)).1=(A0 s.obs v).1/\((A0 s.obs v).1≠3->(A0 t.obs (ren r v)).2=(A0 s.obs v).2.map (ren r))/\(v.1=2->s.obs[v.2.toNat]?=some (A0 s.obs v)/\t.obs[r v.2.toNat]?=some (A0 t.obs (ren r v))):=by
 by_cases h2:v.1=2
 ·obtain ⟨o,p,ho,hp,hk,hf⟩:=h.moved _ (hv h2)
  have e1:A0 s.obs v=o:=by
   unfold A0;rw[if_pos h2,List.getD,ho];rfl
  have e2:A0 t.obs (ren r v)=p:=by
   unfold A0;rw[if_pos (by rw [G3];exact h2),aC h2,List.getD,hp];rfl
  rw[e1,e2];exact⟨hk,hf,fun _=>⟨ho,hp⟩⟩
 ·have e1:A0 s.obs v=(0,[]):=by unfold A0;rw [if_neg h2]
  have e2:A0 t.obs (ren r v)=(0,[]):=by unfold A0;rw [if_neg (by rw [G3];exact h2)]
  rw[e1,e2];exact⟨rfl,fun _=>rfl,fun e=>absurd e h2⟩
theorem mM {o p:Ob} {kind:Int} (hk3:kind≠3) {ix ix':Val} {r:Nat->Nat} (h1:p.1=o.1) (h2:o.1≠3->p.2=o.2.map (ren r)) (hi1:ix'.1=ix.1) (hi2:ix.1=1->ix'.2=ix.2):E5 p kind ix'=E5 o kind ix:=by
 unfold E5;rw[h1,hi1];by_cases hc:o.1≠kind\/ix.1≠1
 ·rw [if_pos hc,if_pos hc]
 ·rw [if_neg hc,if_neg hc]
  have e1:o.1=kind:=Decidable.not_not.1 fun e=>hc (Or.inl e)
  have e2:ix.1=1:=Decidable.not_not.1 fun e=>hc (Or.inr e)
  rw[h2 (by rw [e1];exact hk3),hi2 e2,List.length_map]
theorem lX (l:List Val) (i:Nat):(l.map (ren r)).getD i (0,0)=ren r (l.getD i (0,0)):=by
 rw[List.getD_eq_getElem?_getD,List.getD_eq_getElem?_getD,List.getElem?_map]
 cases l[i]? with
 | none=>exact (X7 r).symm
 | some x=>rfl
theorem a2w (hi:C4 g s) {v:Val} (hv:v.1=2->v.2.toNat∈A1 s) (h3:(A0 s.obs v).1≠3) (i:Nat):((A0 s.obs v).2.getD i (0,0)).1=2->((A0 s.obs v).2.getD i (0,0)).2.toNat∈A1 s:=fun h2=>by
 by_cases hr:v.1=2
 ·have hj:=hv hr
  obtain⟨o,ho,_⟩:=N8 hi hj;have e1:A0 s.obs v=o:=by unfold A0;rw [if_pos hr,List.getD,ho];rfl
  rw[e1] at h2 h3 ⊢;rw[List.getD_eq_getElem?_getD] at h2 ⊢
  cases hx:o.2[i]? with
  | none=>rw [hx] at h2;simp at h2
  | some x =>
   rw[hx] at h2;exact hi.alive.shut _ hj o ho h3 x (L2a hx) h2
 ·have e1:A0 s.obs v=(0,[]):=by unfold A0;rw [if_neg hr]
  rw[e1] at h2;simp at h2
theorem At.get (h:At g r s t fs f rest args) {v ix ix':Val} (hv:v∈args) (kind:Int) (hk3:kind≠3) (hi1:ix'.1=ix.1) (hi2:ix.1=1->ix'.2=ix.2) :
  ∃q,Rel q (bF s fs f rest v kind ix) (bF t (fs.map (D8 r)) (D8 r f) (rest.map (ren r)) (ren r v) kind ix'):=by
 have xa:=h.args v hv;obtain⟨e1,e2,_⟩:=iU h.rel h.inv xa;have hT:=mM hk3 e1 e2 hi1 hi2;unfold bF;rw[hT];by_cases h0:E5 (A0 s.obs v) kind ix=0
 ·rw [if_pos h0,if_pos h0]
  obtain⟨q1,q2,_⟩:=aJ h0;have h3:(A0 s.obs v).1≠3:=by rw [q1];exact hk3
  refine h.goE _ _ _ (h.rest.app (In.one (a2w h.inv xa h3 _))) ?_;rw[e2 h3,hi2 q2,lX,List.map_append];rfl
 ·rw [if_neg h0,if_neg h0]
  exact h.trap _
theorem At.set (h:At g r s t fs f rest args) {v ix ix' y:Val} (hv:v∈args) (hy:y∈args) (kind:Int) (hk3:kind≠3) (hi1:ix'.1=ix.1) (hi2:ix.1=1->ix'.2=ix.2)
  (hinv:∀st,st=setE s fs f rest v kind ix y->C4 g st) :
  ∃q,Rel q (setE s fs f rest v kind ix y) (setE t (fs.map (D8 r)) (D8 r f) (rest.map (ren r)) (ren r v) kind ix' (ren r y)):=by
 have xp:=h.args v hv;obtain⟨e1,e2,e3⟩:=iU h.rel h.inv xp;have hT:=mM hk3 e1 e2 hi1 hi2;have hI:=hinv _ rfl;unfold setE at hI ⊢;rw[hT];by_cases h0:E5 (A0 s.obs v) kind ix=0
 ·rw [if_pos h0] at hI
  rw[if_pos h0,if_pos h0];obtain⟨q1,q2,_,_⟩:=aJ h0;have h3:(A0 s.obs v).1≠3:=by rw [q1];exact hk3
  have hr:v.1=2:=Decidable.not_not.1 fun e=>by
   have e4:A0 s.obs v=(0,[]):=by unfold A0;rw [if_neg e]
   obtain⟨_,_,_,q5⟩:=aJ h0;rw[e4] at q5;simp at q5
  obtain⟨ho,hp⟩:=e3 hr;have xk:=xp hr;rw[e1,e2 h3,hi2 q2,aC hr];generalize hO:A0 s.obs v=o at *
  generalize hj:v.2.toNat=j at *
  generalize ix.2.toNat=i at *
  obtain⟨s',xe⟩:∃s':McA,s'=⟨0,s.out,fs++[⟨f.fn,f.pc+1,f.loc,rest⟩],s.obs.set j (o.1,o.2.set i y),s.dr⟩:=⟨_,rfl⟩
  rw[<- xe] at hI ⊢;have xv:j < s.obs.length:=(L1a.1 ho).1;have xi:s'.obs=s.obs.set j (o.1,o.2.set i y):=by rw [xe]
  have xd:∀k,k≠j->s'.obs[k]?=s.obs[k]?:=fun k hk=>by rw [xi,List.getElem?_set_ne (Ne.symm hk)]
  have xb:s'.obs[j]?=some (o.1,o.2.set i y):=by rw [xi,List.getElem?_set_self xv]
  -- what is alive now was alive
  have xf:∀u,u∈B7 s'.frs->u.1=2->u.2.toNat∈A1 s:=fun u hu h2=>by
   rw[xe] at hu;obtain⟨x,hx,hu⟩:=E0.1 hu;rcases List.mem_append.1 hx with hx | hx
   ·exact In.frs h.inv (by rw [h.frs];simp [hx]) u hu h2
   ·rw [List.mem_singleton] at hx;subst hx;exact (h.loc.app h.rest) u hu h2
  have xa:∀k,k∈A1 s'->k∈A1 s:=fun k hk=>by
   have hl:aT s'.obs (B7 s'.frs) k:=aB k hk;clear hk
   induction hl with
   | root u hu h2=>exact xf u hu h2
   | field m p u hm hp' h3' hu h2 ih =>
    by_cases e:m=j
    ·subst e
     rw[xb] at hp'
     cases hp';rcases List.mem_or_eq_of_mem_set hu with hu | hu
     ·exact h.inv.alive.shut _ ih o ho h3' u hu h2
     ·subst hu;exact h.args _ hy h2
    ·rw [xd m e] at hp'
     exact h.inv.alive.shut m ih p hp' h3' u hu h2
  have xg:dX r (A1 s'):=fun a b h1 h2=>h.rel.inj a b (xa a h1) (xa b h2)
  have xn:∀k,k∈A1 s->k≠j->r k≠r j:=fun k hk xj e=>xj (h.rel.inj k j hk xk e)
  have xs:r j < t.obs.length:=(L1a.1 hp).1;have xo:gQ r (A1 s') s'.obs (t.obs.set (r j) (o.1,(o.2.map (ren r)).set i (ren r y))):=fun k hk=>by
   by_cases e:k=j
   ·subst e
    refine⟨(o.1,o.2.set i y),(o.1,(o.2.map (ren r)).set i (ren r y)),xb,by rw [List.getElem?_set_self xs],rfl,fun _=>?_⟩;show (o.2.map (ren r)).set i (ren r y)=(o.2.set i y).map (ren r);rw[List.map_set]
   ·obtain ⟨a,b,ha,hb,xu,xr⟩:=h.rel.moved k (xa k hk)
    exact⟨a,b,by rw [xd k e];exact ha,by rw [List.getElem?_set_ne (Ne.symm (xn k (xa k hk) e))];exact hb,xu,xr⟩
  obtain⟨t',xc⟩:∃t':McA,t'=⟨0,t.out,fs.map (D8 r)++[⟨(D8 r f).fn,(D8 r f).pc+1,(D8 r f).loc,rest.map (ren r)⟩],t.obs.set (r j) (o.1,(o.2.map (ren r)).set i (ren r y)),t.dr⟩:=⟨_,rfl⟩
  rw[<- xc];have xm:t'.frs=s'.frs.map (D8 r):=by rw [xc,xe,List.map_append];rfl
  have xh:t'.obs.length=s'.obs.length:=by rw [xc,xe];show (t.obs.set _ _).length=(s.obs.set _ _).length;rw [List.length_set,List.length_set];exact h.rel.cap
  have xq:A1 t'=(A1 s').map r:=by
   unfold A1;rw[xm,aL];refine bU hI.alive xh xg ?_;rw[xc];exact xo
  have xl:=h.rel.alive h.inv;refine⟨r,by rw [xc,xe],by rw [xc,xe];exact h.rel.out,xh,xm,xg,by rw [xc];exact xo,fun k a b hk ha hb h3'=>?_⟩;have xj:k≠j:=by
   rintro rfl;rw[xb] at ha
   cases ha;exact h3 h3'
  rw[xd k xj] at ha;rw[xc] at hb;have xt:t.obs[r k]?=some b:=by
   rw[show (t.obs.set (r j) (o.1,(o.2.map (ren r)).set i (ren r y)))[r k]?=t.obs[r k]? from List.getElem?_set_ne (Ne.symm (xn k (xa k hk) xj))] at hb;exact hb
  rcases h.rel.weak k a b (xa k hk) ha xt h3' with ⟨a1,a2,a3⟩ | ⟨a1,a2⟩
  ·by_cases hin:(a.2.headD (0,0)).2.toNat∈A1 s'
   ·exact Or.inl ⟨a1,hin,a3⟩
   ·refine Or.inr ⟨fun e=>hin e.2,fun e=>hin ?_⟩
    rw[a3,aC a1,xq] at e;exact (bT h.rel.inj xa a2).1 e.2
  ·refine Or.inr ⟨fun e=>a1 ⟨e.1,xa _ e.2⟩,fun e=>a2 ⟨e.1,?_⟩⟩
   rw[xq] at e;rw[xl];obtain⟨m,hm,e'⟩:=List.mem_map.1 e.2;exact List.mem_map.2 ⟨m,xa m hm,e'⟩
 ·rw [if_neg h0,if_neg h0]
  exact h.trap _
end
section
variable {g:PgR} {s:McA}
theorem a1Y (h:C4 g s):(A1 s).length<=K3 s.obs:=by
 rw[dN];refine eK h.alive.nodup fun j hj=>?_
 obtain⟨o,ho,xa⟩:=N8 h hj;rw[List.mem_filter,List.mem_range];exact⟨(L1a.1 ho).1,by rw [ho];simp [xa]⟩
theorem a1L (obs:List Ob):K3 obs<=obs.length:=List.length_filter_le _ _
theorem sS (h:C4 g s):K3 (G0 s).obs=(G0 s).obs.length↔(A1 s).length=s.obs.length:=by
 unfold G0;have h1:=a1Y h;have h2:=a1L s.obs;split
 ·rename_i e
  rw[oD h];show _=(T7 _ _).length↔_;rw[L4]
 ·rename_i e
  constructor
  ·intro q;exact absurd q e
  ·intro q;exact absurd R4 e
theorem Rel.room {r:Nat->Nat} {t:McA} (h:Rel r s t) (hi:C4 g s) (hj:C4 g t):Rel r (G0 s) (G0 t):=by
 have hR:Rel r s (G5 t):=h.trans (kG hj) hi hj;have hL:Rel r (G5 s) t:=(nS hi).trans h (bS hi) hi;have hB:Rel r (G5 s) (G5 t):=hL.trans (kG hj) (bS hi) hj;unfold G0;split
 ·split
  ·exact hB
  ·exact hL
 ·split
  ·exact hR
  ·exact h
theorem a3P (h:C4 g s) {j:Nat} {o:Ob} (ho:s.obs[j]?=some o) (h3:o.1=3):VOk s.obs (o.2.headD (0,0)):=by
 rcases h.obs o (L2a ho) with ⟨e,_⟩ | ⟨e,_⟩ | ⟨e,_⟩ | ⟨_,u,e,hu,_⟩
 ·omega
 ·omega
 ·omega
 ·rw [e];exact hu
end
section
variable {l:List Val} {s:McA}
theorem In.getD (h:In s l) (i:Nat):In s [l.getD i (0,0)]:=In.one fun h2=>by
 rw[List.getD_eq_getElem?_getD] at h2 ⊢
 cases hx:l[i]? with
 | none=>rw [hx] at h2;simp at h2
 | some x=>rw [hx] at h2;exact h x (L2a hx) h2
theorem In.set (h:In s l) (i:Nat) {x:Val} (hx:x.1=2->x.2.toNat∈A1 s):In s (l.set i x):=fun v hv h2=>by
 rcases List.mem_or_eq_of_mem_set hv with hv | rfl
 ·exact h v hv h2
 ·exact hx h2
theorem In.nils (n:Nat):In s (List.replicate n (0,0)):=fun v hv h2=>by
 rw[(List.mem_replicate.1 hv).2] at h2;simp at h2
theorem wS (n:Nat):∀v,v∈List.replicate n ((0,0):Val)->v.1≠2:=fun v hv=>by rw [(List.mem_replicate.1 hv).2];show (0:Int)≠2;decide
section
variable {g:PgR} {r:Nat->Nat} {s t:McA} {fs:List FrA} {f:FrA} {rest args:List Val}
theorem At.call (h:At g r s t fs f rest args) (a:Int) (l:List Val) (hl:In s l):∃q,Rel q (V8 g a s fs f rest l) (V8 g a t (fs.map (D8 r)) (D8 r f) (rest.map (ren r)) (l.map (ren r))):=by
 unfold V8;rw[List.length_map,List.length_map];by_cases hc:12<=fs.length+1
 ·rw [if_pos hc,if_pos hc];exact h.trap _
 ·rw [if_neg hc,if_neg hc]
  have:=h.put 0 s.out (fs++[⟨f.fn,f.pc,f.loc,rest⟩]++[⟨a.toNat,0,l++List.replicate ((g.f a.toNat).l.toNat - l.length) (0,0),[]⟩]) (fun x hx=>by
   rcases List.mem_append.1 hx with hx | hx
   ·rcases List.mem_append.1 hx with hx | hx
    ·exact Or.inl hx
    ·rw [List.mem_singleton] at hx;subst hx;exact Or.inr (h.loc.app h.rest)
   ·rw [List.mem_singleton] at hx;subst hx;exact Or.inr ((hl.app (In.nils _)).app In.nil)) s.dr t.dr
  rw[h.rel.out];refine⟨r,?_⟩;have e:(List.replicate ((g.f a.toNat).l.toNat - l.length) ((0,0):Val)).map (ren r)=List.replicate ((g.f a.toNat).l.toNat - l.length) (0,0):=by rw [List.map_replicate,X7]
  simp only[List.map_append,List.map_cons,List.map_nil,D8,e] at this ⊢;exact this
theorem vZ (x:Val):K6 (ren r x)=K6 x:=by
 unfold K6;by_cases h2:x.1=2
 ·rw [G3];simp [h2]
 ·rw [G2 h2]
theorem a2N (y:Val):y.1=1->(ren r y).2=y.2:=fun h=>by rw [G2 R4]
end
end
end Go.Proofs.YtbkmgoffiigdbaaGreatDoor
namespace Go.Proofs.YtbkmgoffiigdbaaGreatDoor

open Go.RowKit Go.Sort
open Go.RowKit Go.Sort
end Go.Proofs.YtbkmgoffiigdbaaGreatDoor
