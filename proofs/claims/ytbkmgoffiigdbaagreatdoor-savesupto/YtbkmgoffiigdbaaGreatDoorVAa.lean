import Derived.Test.YtbkmgoffiigdbaaGreatDoorVFa
namespace Go.Proofs.YtbkmgoffiigdbaaGreatDoor
open Go.RowKit Go.Sort
section
variable {obs:List Ob}
theorem rX : ∀(n i:Nat) (met:List Nat) (k:Nat),(G8 obs n i met).length<=n+i->G8 obs (n+k) i met=G8 obs n i met
 | 0,i,met,k,h=>by
  rw[G8] at h ⊢
  cases k with
  | zero=>rfl
  | succ k =>
   rw[Nat.zero_add,G8,List.getElem?_eq_none_iff.2 R5]
 | n+1,i,met,k,h=>by
  have e:n+1+k=(n+k)+1:=by omega
  rw[G8] at h;rw[e,G8,G8]
  cases hi:met[i]? with
  | none=>rfl
  | some j =>
   rw[hi] at h;simp only at h ⊢
   cases ho:obs[j]? with
   | none=>rfl
   | some o =>
    rw[ho] at h;simp only at h ⊢;exact rX n (i+1) _ k R5
theorem a1V {n m:Nat} {i:Nat} {met:List Nat} (hnm:n<=m) (h:(G8 obs n i met).length<=n+i):G8 obs m i met=G8 obs n i met:=by
 obtain⟨k,rfl⟩:=Nat.exists_eq_add_of_le hnm;exact rX n i met k h
theorem tQ {r:Nat->Nat} {obt:List Ob} {l:List Val} {A:List Nat} (hA:gN obs l A) (hlen:A.length<=obt.length) (hr:uX r A) (hmv:a4s r A obs obt) (hsub:∀n j,j∈G8 obs n 0 (C1 [] l)->j∈A) (hnd:∀n,(G8 obs n 0 (C1 [] l)).Nodup):M0 obt (l.map (ren r))=(M0 obs l).map r:=by
 unfold M0;have h0:∀j,j∈C1 [] l->j∈A:=fun j hj=>by
  rcases (aD l [] j).1 hj with h | ⟨v,hv,h2,rfl⟩
  ·cases h
  ·exact hA.roots v hv h2
 have e:=gE hr l [] R6 fun v hv h2=>hA.roots v hv h2
 rw[show ([]:List Nat).map r=[] from rfl] at e;rw[e,qD hr hmv hA.shut _ _ _ h0];congr 1
 have hb:∀n,(G8 obs n 0 (C1 [] l)).length<=A.length:=fun n=>gF (hnd n) (hsub n)
 have xa:A.length<=obs.length:=L7 hA.nodup hA.lt;rcases Nat.le_total obt.length obs.length with h | h
 ·exact (a1V h (by have:=hb obt.length;omega)).symm
 ·exact a1V h (by have:=hb obs.length;omega)
theorem a1n (hw:iQ obs) {l:List Val} (hl:∀v,v∈l->v.1=2->v.2.toNat < obs.length):∀n,(G8 obs n 0 (C1 [] l)).Nodup:=by
 intro n
 suffices ∀(n i:Nat) (met:List Nat),eO obs i met->(G8 obs n i met).Nodup from this n 0 _ ⟨W0 _ _ List.nodup_nil,cM R6 hl,fun k j hk _=>by omega⟩
 intro n
 induction n with
 | zero=>intro i met h;exact h.nodup
 | succ n ih =>
  intro i met h;rw[G8]
  cases hi:met[i]? with
  | none=>exact h.nodup
  | some j =>
   obtain⟨o,ho⟩:∃o,obs[j]?=some o:=⟨_,L1b (h.lt j (L2a hi))⟩
   simp only[ho];exact ih _ _ (h.next hw hi ho)
end
section
variable {i:Nat} {k l:List Val} {sl:List Int} {v:Val}
def sig (sl:List Int) (i:Nat):Nat:=(sl.getD i (-1)).toNat
def G6 (sl:List Int) (i:Nat):Prop:=∃x:Int,sl[i]?=some x/\0<=x
def VS (sl:List Int) (v:Val):Prop:=v.1=2->0<=v.2/\G6 sl v.2.toNat
structure C7 (sl:List Int) (s t:McA):Prop where
 st:t.st=s.st
 out:t.out=s.out
 dr:t.dr=s.dr
 frs:t.frs=s.frs.map (G5 (sig sl))
 len:sl.length=s.obs.length
 bd:∀(i:Nat) (x:Int),sl[i]?=some x->x = -1\/(0<=x/\x < t.obs.length)
 inj:∀(i j:Nat) (x:Int),0<=x->sl[i]?=some x->sl[j]?=some x->i=j
 obs:∀(i:Nat) (o:Ob),s.obs[i]?=some o->G6 sl i->t.obs[sig sl i]?=some (o.1,o.2.map (ren (sig sl)))
 free:∀(k:Nat) (o:Ob),t.obs[k]?=some o->(∀i:Nat,sl[i]?≠some (k:Int))->o=(0,[])
 vals:∀v,v∈C6 s.frs->VS sl v
 orefs:∀(i:Nat) (o:Ob),s.obs[i]?=some o->G6 sl i->∀v,v∈o.2->VS sl v
 within:iQ s.obs
 kinds:∀o,o∈s.obs->o.1≠0
theorem fC {x:Int} (h:sl[i]?=some x):sig sl i=x.toNat:=by unfold sig;rw [List.getD_eq_getElem?_getD,h];rfl
theorem G6.lt (h:G6 sl i):i < sl.length:=by
 obtain⟨x,hx,_⟩:=h;exact (L1a.1 hx).1
variable {sl:List Int} {s t:McA}
theorem C7.injOn (h:C7 sl s t) {A:List Nat} (hA:∀j,j∈A->G6 sl j):uX (sig sl) A:=fun i j hi hj e=>by
 obtain⟨x,hx,x0⟩:=hA i hi;obtain⟨y,hy,y0⟩:=hA j hj;rw[fC hx,fC hy] at e;obtain rfl:x=y:=by omega
 exact h.inj i j x x0 hx hy
theorem C7.inj2 (h:C7 sl s t) {i j:Nat} (hi:G6 sl i) (hj:G6 sl j) (e:sig sl i=sig sl j):i=j :=
 h.injOn (A:=[i,j]) (fun k hk=>by simp at hk;rcases hk with rfl | rfl;exact hi;exact hj) i j R6 R6 e
theorem C7.get (h:C7 sl s t) {i:Nat} (hi:G6 sl i):∃o,s.obs[i]?=some o/\t.obs[sig sl i]?=some (o.1,o.2.map (ren (sig sl))):=by
 have hl:=hi.lt;rw[h.len] at hl;exact⟨_,L1b hl,h.obs i _ (L1b hl) hi⟩
theorem C7.roots (h:C7 sl s t):∀v,v∈C6 s.frs->v.1=2->v.2.toNat < s.obs.length:=fun v hv h2=>by
 rw[<- h.len];exact (h.vals v hv h2).2.lt
theorem C7.reached (h:C7 sl s t):gN s.obs (C6 s.frs) (A0 s):=dA h.within h.roots
theorem C7.lead (h:C7 sl s t) {j:Nat} (hj:iM s.obs (C6 s.frs) j):G6 sl j:=by
 induction hj with
 | root v hv h2=>exact (h.vals v hv h2).2
 | field j o v _ ho _ hv h2 ih=>exact (h.orefs j o ho ih v hv h2).2
theorem C7.slotted (h:C7 sl s t):∀j,j∈A0 s->G6 sl j:=fun j hj =>
 h.lead (fH _ 0 _ (eR R6 fun v hv h2=>iM.root v hv h2) j hj)
theorem C7.moved (h:C7 sl s t) {A:List Nat} (hA:∀j,j∈A->G6 sl j):a4s (sig sl) A s.obs t.obs:=fun j hj=>by
 obtain⟨o,ho,hp⟩:=h.get (hA j hj);exact⟨o,_,ho,hp,rfl,fun _=>rfl⟩
theorem C7.len_le (h:C7 sl s t) {A:List Nat} (hn:A.Nodup) (hA:∀j,j∈A->G6 sl j):A.length<=t.obs.length:=by
 have xa:(A.map (sig sl)).Nodup:=by
  rw[List.nodup_iff_pairwise_ne] at hn ⊢;rw[List.pairwise_map];refine List.Pairwise.imp_of_mem ?_ hn;intro a b ha hb hne e;exact hne (h.injOn hA a b ha hb e)
 have:=L7 (n:=t.obs.length) xa fun j hj=>by
  obtain⟨i,hi,rfl⟩:=List.mem_map.1 hj;obtain⟨o,_,hp⟩:=h.get (hA i hi);exact (L1a.1 hp).1
 rwa [List.length_map] at this
theorem C7.alive (h:C7 sl s t):A0 t=(A0 s).map (sig sl):=by
 have hr:=h.reached;have e:A0 t=M0 t.obs ((C6 s.frs).map (ren (sig sl))):=by unfold A0;rw [h.frs,xW]
 rw[e];exact tQ hr (h.len_le hr.nodup h.slotted) (h.injOn h.slotted) (h.moved h.slotted) (fun n j hj=>hr.of_lead (fH n 0 _ (eR R6 fun v hv h2=>iM.root v hv h2) j hj)) (a1n h.within h.roots)
def VSs (sl:List Int) (l:List Val):Prop:=∀v,v∈l->VS sl v
theorem VSs.app (h:VSs sl l) (h':VSs sl k):VSs sl (l++k):=fun v hv=>by
 rcases List.mem_append.1 hv with hv | hv
 ·exact h v hv
 ·exact h' v hv
theorem VSs.left (h:VSs sl (l++k)):VSs sl l:=fun v hv=>h v (by simp [hv])
theorem VSs.right (h:VSs sl (l++k)):VSs sl k:=fun v hv=>h v (by simp [hv])
theorem VSs.one (h:VS sl v):VSs sl [v]:=fun u hu=>by rw [List.mem_singleton] at hu;subst hu;exact h
theorem VSs.plain (h:v.1≠2):VSs sl [v]:=VSs.one fun h2=>absurd h2 h
theorem VSs.nil:VSs sl []:=fun v hv=>by simp at hv
theorem VSs.getD (h:VSs sl l) (i:Nat):VSs sl [l.getD i (0,0)]:=VSs.one fun h2=>by
 rw[List.getD_eq_getElem?_getD] at h2 ⊢
 cases hx:l[i]? with
 | none=>rw [hx] at h2;simp at h2
 | some x=>rw [hx] at h2;exact h x (L2a hx) h2
theorem VSs.set (h:VSs sl l) (i:Nat) {x:Val} (hx:VS sl x):VSs sl (l.set i x):=fun v hv=>by
 rcases List.mem_or_eq_of_mem_set hv with hv | rfl
 ·exact h v hv
 ·exact hx
theorem VSs.nils (n:Nat):VSs sl (List.replicate n (0,0)):=fun v hv h2=>by
 rw[(List.mem_replicate.1 hv).2] at h2;simp at h2
theorem C7.frame (h:C7 sl s t) {f:FrA} (hf:f∈s.frs):VSs sl (f.loc++f.stk):=fun v hv=>h.vals v (I2.2 ⟨f,hf,hv⟩)
theorem C7.put (h:C7 sl s t) (st:Int) (out:List Int) (fl:List FrA) (dr:List Int) (hin:∀f,f∈fl->VSs sl (f.loc++f.stk)):C7 sl ⟨st,out,fl,s.obs,dr⟩ ⟨st,out,fl.map (G5 (sig sl)),t.obs,dr⟩ :=
 ⟨rfl,rfl,rfl,rfl,h.len,h.bd,h.inj,h.obs,h.free,fun v hv=>by
  obtain⟨f,hf,hv⟩:=I2.1 hv;exact hin f hf v hv,h.orefs,h.within,h.kinds⟩
theorem C7.referred (h:C7 sl s t) {v:Val} (hv:VS sl v):A1 t.obs (ren (sig sl) v)=((A1 s.obs v).1,(A1 s.obs v).2.map (ren (sig sl))):=by
 by_cases h2:v.1=2
 ·obtain ⟨o,ho,hp⟩:=h.get (hv h2).2
  have e1:A1 s.obs v=o:=by unfold A1;rw [if_pos h2,List.getD,ho];rfl
  have e2:A1 t.obs (ren (sig sl) v)=(o.1,o.2.map (ren (sig sl))):=by
   unfold A1;rw[if_pos (by rw [G3];exact h2),gZ h2,List.getD,hp];rfl
  rw[e1,e2]
 ·have e1:A1 s.obs v=(0,[]):=by unfold A1;rw [if_neg h2]
  have e2:A1 t.obs (ren (sig sl) v)=(0,[]):=by unfold A1;rw [if_neg (by rw [G3];exact h2)]
  rw[e1,e2];rfl
theorem C7.fields (h:C7 sl s t) {v:Val} (hv:VS sl v):VSs sl (A1 s.obs v).2:=by
 by_cases h2:v.1=2
 ·obtain ⟨o,ho,_⟩:=h.get (hv h2).2
  have e1:A1 s.obs v=o:=by unfold A1;rw [if_pos h2,List.getD,ho];rfl
  rw[e1];exact fun u hu=>h.orefs _ o ho (hv h2).2 u hu
 ·have e1:A1 s.obs v=(0,[]):=by unfold A1;rw [if_neg h2]
  rw[e1];exact VSs.nil
theorem C7.same (h:C7 sl s t) {x y:Val} (hx:VS sl x) (hy:VS sl y) :
  ((ren (sig sl) x).1 == (ren (sig sl) y).1 && (ren (sig sl) x).2 == (ren (sig sl) y).2)=(x.1 == y.1 && x.2 == y.2):=by
 rw[G3,G3];by_cases e:x.1=y.1
 ·by_cases h2:x.1=2
  ·have xa:y.1=2:=by rw [<- e];exact h2
   obtain⟨n1,s1⟩:=hx h2;obtain⟨n2,s2⟩:=hy xa;unfold ren;rw[if_pos h2,if_pos xa,e];congr 1
   rw[Bool.eq_iff_iff,beq_iff_eq,beq_iff_eq];constructor
   ·intro q
    have:=h.inj2 s1 s2 (by have:((sig sl x.2.toNat:Nat):Int)=((sig sl y.2.toNat:Nat):Int):=q;omega);omega
   ·intro q
    rw[q]
  ·rw [I8 h2,I8 (by rw [<- e];exact h2)]
 ·have e':(x.1 == y.1)=false:=by simpa using e
  rw[e',Bool.false_and,Bool.false_and]
theorem C7.strong (h:C7 sl s t) {v:Val} (hv:VS sl v):T7 t (ren (sig sl) v)=ren (sig sl) (T7 s v):=by
 unfold T7;rw[G3,h.alive];by_cases h2:v.1=2
 ·have hm:(ren (sig sl) v).2.toNat∈(A0 s).map (sig sl)↔v.2.toNat∈A0 s:=by
   rw[gZ h2];constructor
   ·intro hm
    obtain⟨i,hi,e⟩:=List.mem_map.1 hm;have:=h.inj2 (h.slotted _ hi) (hv h2).2 e;rwa [<- this]
   ·intro hm
    exact List.mem_map.2 ⟨_,hm,rfl⟩
  by_cases ha:v.2.toNat∈A0 s
  ·rw [if_pos ⟨h2,hm.2 ha⟩,if_pos ⟨h2,ha⟩]
  ·rw [if_neg (fun c=>ha (hm.1 c.2)),if_neg (fun c=>ha c.2),bL]
 ·rw [if_neg (fun c=>h2 c.1),if_neg (fun c=>h2 c.1),bL]
end
section
variable {r:Nat->Nat}
structure Vat (sl:List Int) (s t:McA) (fs:List FrA) (f:FrA) (rest args:List Val):Prop where
 v:C7 sl s t
 frs:s.frs=fs++[f]
 stk:f.stk=rest++args
variable {sl:List Int} {s t:McA} {fs:List FrA} {f:FrA} {rest args:List Val}
theorem Vat.fin (h:Vat sl s t fs f rest args):VSs sl (f.loc++f.stk):=h.v.frame (by rw [h.frs];simp)
theorem Vat.loc (h:Vat sl s t fs f rest args):VSs sl f.loc:=h.fin.left
theorem Vat.rst (h:Vat sl s t fs f rest args):VSs sl rest:=by
 have:=h.fin.right;rw[h.stk] at this;exact this.left
theorem Vat.arg (h:Vat sl s t fs f rest args):VSs sl args:=by
 have:=h.fin.right;rw[h.stk] at this;exact this.right
theorem Vat.low (h:Vat sl s t fs f rest args) {x:FrA} (hx:x∈fs):VSs sl (x.loc++x.stk):=h.v.frame (by rw [h.frs];simp [hx])
theorem Vat.put (h:Vat sl s t fs f rest args) (st:Int) (out:List Int) (fl:List FrA) (hin:∀x,x∈fl->x∈fs\/VSs sl (x.loc++x.stk)) :
  C7 sl ⟨st,out,fl,s.obs,s.dr⟩ ⟨st,out,fl.map (G5 (sig sl)),t.obs,t.dr⟩:=by
 rw[h.v.dr];refine h.v.put st out fl s.dr fun x hx=>?_
 rcases hin x hx with hx | hx
 ·exact h.low hx
 ·exact hx
theorem Vat.goA (h:Vat sl s t fs f rest args) (pc:Nat) (l l':List Val) (hl:VSs sl l) (hl':l'=l.map (ren (sig sl))):C7 sl (goA s fs f pc l) (goA t (fs.map (G5 (sig sl))) (G5 (sig sl) f) pc l'):=by
 subst hl';have:=h.put 0 s.out (fs++[⟨f.fn,pc,f.loc,l⟩]) (fun x hx=>by
  rcases List.mem_append.1 hx with hx | hx
  ·exact L4a hx
  ·rw [List.mem_singleton] at hx;subst hx;exact L4b (h.loc.app hl))
 simp only[List.map_append,List.map_cons,List.map_nil] at this;show C7 sl ⟨0,s.out,fs++[⟨f.fn,pc,f.loc,l⟩],s.obs,s.dr⟩ ⟨0,t.out,fs.map (G5 (sig sl))++[⟨f.fn,pc,f.loc.map (ren (sig sl)),l.map (ren (sig sl))⟩],t.obs,t.dr⟩;rw[h.v.out];exact this
theorem C7.trap (h:C7 sl s t) (st:Int):C7 sl (D4 s st) (D4 t st) :=
 ⟨rfl,h.out,h.dr,h.frs,h.len,h.bd,h.inj,h.obs,h.free,h.vals,h.orefs,h.within,h.kinds⟩
theorem Vat.reckon {x y:Val} (h:Vat sl s t fs f rest args) (z:Val->Val->Int):C7 sl (J6 s fs f rest x y (z x y)) (J6 t (fs.map (G5 (sig sl))) (G5 (sig sl) f) (rest.map (ren (sig sl))) (ren (sig sl) x) (ren (sig sl) y) (z (ren (sig sl) x) (ren (sig sl) y))):=by
 unfold J6;rw[G3,G3];by_cases hc:x.1=1/\y.1=1
 ·rw [if_pos hc,if_pos hc,I8 (show x.1≠2 by omega),I8 (show y.1≠2 by omega)]
  exact h.goA _ _ _ (h.rst.app (VSs.plain (show (1:Int)≠2 by decide))) (by rw [List.map_append,List.map_cons,List.map_nil,kU])
 ·rw [if_neg hc,if_neg hc];exact h.v.trap _
theorem Vat.call (g:PgR) (h:Vat sl s t fs f rest args) (a:Int) (l:List Val) (hl:VSs sl l):C7 sl (aO g a s fs f rest l) (aO g a t (fs.map (G5 (sig sl))) (G5 (sig sl) f) (rest.map (ren (sig sl))) (l.map (ren (sig sl)))):=by
 unfold aO;rw[List.length_map];by_cases hc:12<=fs.length+1
 ·rw [if_pos hc,if_pos hc];exact h.v.trap _
 ·rw [if_neg hc,if_neg hc]
  have:=h.put 0 s.out (fs++[⟨f.fn,f.pc,f.loc,rest⟩]++[⟨a.toNat,0,l++List.replicate ((g.f a.toNat).l.toNat - l.length) (0,0),[]⟩]) (fun x hx=>by
   rcases List.mem_append.1 hx with hx | hx
   ·rcases List.mem_append.1 hx with hx | hx
    ·exact L4a hx
    ·rw [List.mem_singleton] at hx;subst hx;exact L4b (h.loc.app h.rst)
   ·rw [List.mem_singleton] at hx;subst hx;exact L4b ((hl.app (VSs.nils _)).app VSs.nil))
  simp only[List.map_append,List.map_cons,List.map_nil,G5,List.map_replicate,bL] at this;rw[h.v.out,List.length_map];exact this
theorem Vat.return (h:Vat sl s t fs f rest args) {x:Val} (hx:VS sl x):C7 sl (C9 s fs x) (C9 t (fs.map (G5 (sig sl))) (ren (sig sl) x)):=by
 unfold C9;rw[List.getLast?_map]
 cases hl:fs.getLast? with
 | none =>
  have:=h.put 1 s.out [] (fun x hx=>by simp at hx);simp only[List.map_nil] at this;show C7 sl ⟨1,s.out,[],s.obs,s.dr⟩ ⟨1,t.out,[],t.obs,t.dr⟩;rw[h.v.out];exact this
 | some c =>
  have hc:c∈fs:=List.mem_of_getLast? hl;have:=h.put 0 s.out (fs.dropLast++[⟨c.fn,c.pc+1,c.loc,c.stk++[x]⟩]) (fun y hy=>by
   rcases List.mem_append.1 hy with hy | hy
   ·exact L4a (List.dropLast_subset _ hy)
   ·rw [List.mem_singleton] at hy
    subst hy;have:=h.low hc;exact L4b (this.left.app (this.right.app (VSs.one hx))))
  simp only[List.map_append,List.map_cons,List.map_nil,G5,List.map_dropLast] at this;simp only[Option.map_some];show C7 sl ⟨0,s.out,fs.dropLast++[⟨c.fn,c.pc+1,c.loc,c.stk++[x]⟩],s.obs,s.dr⟩ ⟨0,t.out,(fs.map (G5 (sig sl))).dropLast++[⟨c.fn,c.pc+1,c.loc.map (ren (sig sl)),c.stk.map (ren (sig sl))++[ren (sig sl) x]⟩],t.obs,t.dr⟩;rw[h.v.out];exact this
theorem pL {o:Ob} {kind:Int} {ix ix':Val} (hi1:ix'.1=ix.1) (hi2:ix.1=1->ix'.2=ix.2):F6 (o.1,o.2.map (ren r)) kind ix'=F6 o kind ix:=by
 unfold F6;rw[hi1];by_cases hc:o.1≠kind\/ix.1≠1
 ·rw [if_pos hc,if_pos hc]
 ·rw [if_neg hc,if_neg hc,hi2 (Decidable.not_not.1 fun e=>hc (L4b e)),List.length_map]
theorem Vat.get (h:Vat sl s t fs f rest args) {v ix ix':Val} (hv:VS sl v) (kind:Int) (hi1:ix'.1=ix.1) (hi2:ix.1=1->ix'.2=ix.2) :
  C7 sl (cU s fs f rest v kind ix) (cU t (fs.map (G5 (sig sl))) (G5 (sig sl) f) (rest.map (ren (sig sl))) (ren (sig sl) v) kind ix'):=by
 unfold cU;rw[h.v.referred hv,pL hi1 hi2];by_cases h0:F6 (A1 s.obs v) kind ix=0
 ·rw [if_pos h0,if_pos h0]
  obtain⟨q1,q2,_⟩:=gH h0;refine h.goA _ _ _ (h.rst.app ((h.v.fields hv).getD _)) ?_;rw[hi2 q2,wF,List.map_append];rfl
 ·rw [if_neg h0,if_neg h0];exact h.v.trap _
theorem C7.setO (h:C7 sl s t) {i:Nat} (hi:G6 sl i) {o:Ob} (hk:o.1≠0) (ho:VSs sl o.2) (st:Int) (out:List Int) (fl:List FrA) (dr:List Int) (hin:∀f,f∈fl->VSs sl (f.loc++f.stk)) :
  C7 sl ⟨st,out,fl,s.obs.set i o,dr⟩ ⟨st,out,fl.map (G5 (sig sl)),t.obs.set (sig sl i) (o.1,o.2.map (ren (sig sl))),dr⟩:=by
 have xb:i < s.obs.length:=by rw [<- h.len];exact hi.lt
 refine⟨rfl,rfl,rfl,rfl,by rw [List.length_set];exact h.len,fun j x hx=>by rw [List.length_set];exact h.bd j x hx,h.inj,fun j p hp hj=>?_,fun k p hp hk2=>?_,fun v hv=>?_,fun j p hp hj v hv=>?_,fun p hp v hv h2=>?_,fun p hp=>?_⟩
 ·by_cases e:i=j
  ·subst e
   obtain⟨q,_,hq⟩:=h.get hi;rw[List.getElem?_set_self xb] at hp
   cases hp;exact List.getElem?_set_self (L1a.1 hq).1
  ·rw [List.getElem?_set_ne e] at hp
   have:=h.obs j p hp hj;show (t.obs.set (sig sl i) _)[sig sl j]?=_;rw[List.getElem?_set_ne fun e2=>e (h.inj2 hi hj e2)];exact this
 ·obtain ⟨x,hx,x0⟩:=hi
  have xc:sig sl i≠k:=fun e=>hk2 i (by rw [hx,<- e,fC hx];congr 1;omega)
  have xa:(t.obs.set (sig sl i) (o.1,o.2.map (ren (sig sl))))[k]?=some p:=hp;rw[List.getElem?_set_ne xc] at xa;exact h.free k p xa hk2
 ·obtain ⟨f,hf,hv⟩:=I2.1 hv
  exact hin f hf v hv
 ·by_cases e:i=j
  ·subst e
   rw[List.getElem?_set_self xb] at hp
   cases hp;exact ho v hv
  ·rw [List.getElem?_set_ne e] at hp
   exact h.orefs j p hp hj v hv
 ·show v.2.toNat < (s.obs.set i o).length
  rw[List.length_set];rcases List.mem_or_eq_of_mem_set hp with hp | rfl
  ·exact h.within p hp v hv h2
  ·rw [<- h.len]
   exact (ho v hv h2).2.lt
 ·rcases List.mem_or_eq_of_mem_set hp with hp | rfl
  ·exact h.kinds p hp
  ·exact hk
theorem Vat.set (h:Vat sl s t fs f rest args) {v ix ix' y:Val} (hv:VS sl v) (hy:VS sl y) (kind:Int) (hk0:kind≠0) (hi1:ix'.1=ix.1) (hi2:ix.1=1->ix'.2=ix.2) :
  C7 sl (setE s fs f rest v kind ix y) (setE t (fs.map (G5 (sig sl))) (G5 (sig sl) f) (rest.map (ren (sig sl))) (ren (sig sl) v) kind ix' (ren (sig sl) y)):=by
 unfold setE;rw[h.v.referred hv,pL hi1 hi2];by_cases h0:F6 (A1 s.obs v) kind ix=0
 ·rw [if_pos h0,if_pos h0]
  obtain⟨q1,q2,_⟩:=gH h0;have h2:v.1=2:=by
   by_cases h2:v.1=2
   ·exact h2
   ·exfalso
    have e1:A1 s.obs v=(0,[]):=by unfold A1;rw [if_neg h2]
    rw[e1] at q1;exact hk0 q1.symm
  have:=h.v.setO (hv h2).2 (o:=((A1 s.obs v).1,(A1 s.obs v).2.set ix.2.toNat y)) (by show (A1 s.obs v).1≠0;rw [q1];exact hk0) ((h.v.fields hv).set _ hy) 0 s.out (fs++[⟨f.fn,f.pc+1,f.loc,rest⟩]) s.dr (fun x hx=>by
   rcases List.mem_append.1 hx with hx | hx
   ·exact h.low hx
   ·rw [List.mem_singleton] at hx;subst hx;exact h.loc.app h.rst)
  simp only[List.map_append,List.map_cons,List.map_nil,G5,List.map_set] at this;rw[h.v.out,h.v.dr,hi2 q2,gZ h2];exact this
 ·rw [if_neg h0,if_neg h0];exact h.v.trap _
theorem VS.plain {v:Val} (h:v.1≠2):VS sl v:=fun h2=>absurd h2 h
theorem C7.strongS (_:C7 sl s t) (v:Val) (hv:VS sl v):VSs sl [T7 s v]:=by
 unfold T7;split
 ·exact VSs.one hv
 ·exact VSs.plain (show (0:Int)≠2 by decide)
theorem rK (l:List Val):(l.map (ren r)).headD (0,0)=ren r (l.headD (0,0)):=by
 cases l with
 | nil=>exact (bL r).symm
 | cons x l=>rfl
theorem a7m (g:PgR) (h:Vat sl s t fs f rest args) {k:Nat} {a:Int} (o:hZ g f k a rest args) (hk:k < 28) (h16:k≠16) (h17:k≠17) (h18:k≠18) :
  C7 sl (doA g k a s fs f rest args) (doA g k a t (fs.map (G5 (sig sl))) (G5 (sig sl) f) (rest.map (ren (sig sl))) (args.map (ren (sig sl)))):=by
 have hn:=o.pops;have p1:∀z:Int,VSs sl [(1,z)]:=fun z=>VSs.plain (show (1:Int)≠2 by decide)
 have xa:k=0\/k=1\/k=2\/k=3\/k=4\/k=5\/k=6\/k=7\/k=8\/k=9\/k=10\/k=11\/k=12\/k=13\/k=14\/k=15\/k=19\/k=20\/k=21\/k=22\/k=23\/k=24\/k=25\/k=26\/k=27:=by omega
 clear h16 h17 h18 hk;rcases xa with rfl | rfl | rfl | rfl | rfl | rfl | rfl | rfl | rfl | rfl | rfl | rfl | rfl | rfl | rfl | rfl | rfl | rfl | rfl | rfl | rfl | rfl | rfl | rfl | rfl
 ·obtain rfl:=V6 hn rfl
  exact h.goA _ _ _ (h.rst.app (p1 _)) (by rw [List.map_append,List.map_cons,List.map_nil,kU])
 ·obtain rfl:=V6 hn rfl
  exact h.goA _ _ _ (h.rst.app (VSs.plain (show (0:Int)≠2 by decide))) (by rw [List.map_append,List.map_cons,List.map_nil,bL])
 ·obtain rfl:=V6 hn rfl
  exact h.goA _ _ _ (h.rst.app (h.loc.getD _)) (by rw [List.map_append,List.map_cons,List.map_nil,<- wF];rfl)
 ·obtain ⟨x,rfl⟩:=F8 hn rfl
  have:=h.put 0 s.out (fs++[⟨f.fn,f.pc+1,f.loc.set a.toNat x,rest⟩]) (fun y hy=>by
   rcases List.mem_append.1 hy with hy | hy
   ·exact L4a hy
   ·rw [List.mem_singleton] at hy;subst hy;exact L4b ((h.loc.set _ (h.arg x R6)).app h.rst))
  simp only[List.map_append,List.map_cons,List.map_nil,G5,List.map_set] at this;show C7 sl ⟨0,s.out,fs++[⟨f.fn,f.pc+1,f.loc.set a.toNat x,rest⟩],s.obs,s.dr⟩ ⟨0,t.out,fs.map (G5 (sig sl))++[⟨f.fn,f.pc+1,(f.loc.map (ren (sig sl))).set a.toNat (ren (sig sl) x),rest.map (ren (sig sl))⟩],t.obs,t.dr⟩;rw[h.v.out];exact this
 ·obtain ⟨x,rfl⟩:=F8 hn rfl
  exact h.goA _ _ _ (h.rst.app (fun v hv=>h.arg v (by simp at hv ⊢;exact hv))) (by rw [List.map_append];rfl)
 ·obtain ⟨x,rfl⟩:=F8 hn rfl
  exact h.goA _ _ _ h.rst rfl
 ·obtain ⟨x,y,rfl⟩:=L4 hn rfl
  exact h.goA _ _ _ (h.rst.app (fun v hv=>h.arg v (by simp at hv ⊢;exact hv.symm))) (by rw [List.map_append];rfl)
 ·obtain ⟨x,y,rfl⟩:=L4 hn rfl
  exact h.reckon fun x y=>wrap64 (x.2+y.2)
 ·obtain ⟨x,y,rfl⟩:=L4 hn rfl
  exact h.reckon fun x y=>wrap64 (x.2 - y.2)
 ·obtain ⟨x,y,rfl⟩:=L4 hn rfl
  exact h.reckon fun x y=>wrap64 (x.2*y.2)
 ·obtain ⟨x,y,rfl⟩:=L4 hn rfl
  exact h.reckon fun x y=>D6 (decide (x.2 < y.2))
 ·obtain ⟨x,y,rfl⟩:=L4 hn rfl
  have e:=h.v.same (h.arg x R6) (h.arg y R6);refine h.goA _ _ _ (h.rst.app (p1 _)) ?_;rw[List.map_append,List.map_cons,List.map_nil,kU,e]
 ·obtain rfl:=V6 hn rfl
  exact h.goA _ _ _ h.rst rfl
 ·obtain ⟨x,rfl⟩:=F8 hn rfl
  show C7 sl (if M7 x then goA s fs f (f.pc+1) rest else goA s fs f a.toNat rest) (if M7 (ren (sig sl) x) then goA t (fs.map (G5 (sig sl))) (G5 (sig sl) f) (f.pc+1) (rest.map (ren (sig sl))) else goA t (fs.map (G5 (sig sl))) (G5 (sig sl) f) a.toNat (rest.map (ren (sig sl))));rw[zU];split
  ·exact h.goA _ _ _ h.rst rfl
  ·exact h.goA _ _ _ h.rst rfl
 ·exact h.call g a args h.arg
 ·obtain ⟨x,rfl⟩:=F8 hn rfl
  exact h.return (h.arg x R6)
 ·obtain ⟨x,rfl⟩:=F8 hn rfl
  exact h.get (ix:=(1,a)) (ix':=(1,a)) (h.arg x R6) 1 rfl fun _=>rfl
 ·obtain ⟨x,y,rfl⟩:=L4 hn rfl
  exact h.set (ix:=(1,a)) (ix':=(1,a)) (h.arg x R6) (h.arg y R6) 1 R4 rfl fun _=>rfl
 ·obtain ⟨x,y,rfl⟩:=L4 hn rfl
  exact h.get (ix:=y) (ix':=ren (sig sl) y) (h.arg x R6) 2 (G3 _ y) (a5n y)
 ·obtain ⟨x,y,z,rfl⟩:=a1y hn rfl
  exact h.set (ix:=y) (ix':=ren (sig sl) y) (h.arg x R6) (h.arg z R6) 2 R4 (G3 _ y) (a5n y)
 ·obtain ⟨x,rfl⟩:=F8 hn rfl
  show C7 sl (if (A1 s.obs x).1=1\/(A1 s.obs x).1=2 then goA s fs f (f.pc+1) (rest++[(1,((A1 s.obs x).2.length:Int))]) else D4 s 2) (if (A1 t.obs (ren (sig sl) x)).1=1\/(A1 t.obs (ren (sig sl) x)).1=2 then goA t (fs.map (G5 (sig sl))) (G5 (sig sl) f) (f.pc+1) (rest.map (ren (sig sl))++[(1,((A1 t.obs (ren (sig sl) x)).2.length:Int))]) else D4 t 2);rw[h.v.referred (h.arg x R6)]
  by_cases hc:(A1 s.obs x).1=1\/(A1 s.obs x).1=2
  ·rw [if_pos hc,if_pos hc,List.length_map]
   exact h.goA _ _ _ (h.rst.app (p1 _)) (by rw [List.map_append,List.map_cons,List.map_nil,kU])
  ·rw [if_neg hc,if_neg hc];exact h.v.trap _
 ·obtain ⟨x,rfl⟩:=F8 hn rfl
  show C7 sl (if (A1 s.obs x).1=3 then goA s fs f (f.pc+1) (rest++[T7 s ((A1 s.obs x).2.headD (0,0))]) else D4 s 2) (if (A1 t.obs (ren (sig sl) x)).1=3 then goA t (fs.map (G5 (sig sl))) (G5 (sig sl) f) (f.pc+1) (rest.map (ren (sig sl))++[T7 t ((A1 t.obs (ren (sig sl) x)).2.headD (0,0))]) else D4 t 2);have hx:=h.arg x R6;rw[h.v.referred hx];have hh:VS sl ((A1 s.obs x).2.headD (0,0)):=by
   have:=(h.v.fields hx).getD 0;rw[show (A1 s.obs x).2.headD (0,0)=(A1 s.obs x).2.getD 0 (0,0) from by cases (A1 s.obs x).2 <;> rfl];exact this _ R6
  by_cases hc:(A1 s.obs x).1=3
  ·rw [if_pos hc,if_pos hc]
   exact h.goA _ _ _ (h.rst.app (h.v.strongS _ hh)) (by rw [List.map_append,List.map_cons,List.map_nil,rK,h.v.strong hh])
  ·rw [if_neg hc,if_neg hc];exact h.v.trap _
 ·obtain ⟨x,rfl⟩:=F8 hn rfl
  refine h.goA _ _ _ (h.rst.app (p1 _)) ?_;rw[List.map_append,List.map_cons,List.map_nil,kU,G3]
 ·obtain ⟨x,rfl⟩:=F8 hn rfl
  show C7 sl (if x.1≠1 then D4 s 2 else if 40<=s.out.length then D4 s 7 else ⟨0,s.out++[x.2],fs++[⟨f.fn,f.pc+1,f.loc,rest⟩],s.obs,s.dr⟩) (if (ren (sig sl) x).1≠1 then D4 t 2 else if 40<=t.out.length then D4 t 7 else ⟨0,t.out++[(ren (sig sl) x).2],fs.map (G5 (sig sl))++[⟨f.fn,f.pc+1,f.loc.map (ren (sig sl)),rest.map (ren (sig sl))⟩],t.obs,t.dr⟩);by_cases hx1:x.1=1
  ·have ex:ren (sig sl) x=x:=I8 R5
   rw[ex,h.v.out,if_neg (not_not_intro hx1),if_neg (not_not_intro hx1)];by_cases hc:40<=s.out.length
   ·rw [if_pos hc,if_pos hc];exact h.v.trap _
   ·rw [if_neg hc,if_neg hc]
    have:=h.put 0 (s.out++[x.2]) (fs++[⟨f.fn,f.pc+1,f.loc,rest⟩]) (fun y hy=>by
     rcases List.mem_append.1 hy with hy | hy
     ·exact L4a hy
     ·rw [List.mem_singleton] at hy;subst hy;exact L4b (h.loc.app h.rst))
    simp only[List.map_append,List.map_cons,List.map_nil,G5] at this;exact this
  ·have xb:(ren (sig sl) x).1≠1:=by rw [G3];exact hx1
   rw[if_pos hx1,if_pos xb];exact h.v.trap _
 ·obtain rfl:=V6 hn rfl
  have:=h.put 1 s.out [] (fun x hx=>by simp at hx);show C7 sl ⟨1,s.out,[],s.obs,s.dr⟩ ⟨1,t.out,[],t.obs,t.dr⟩;rw[h.v.out];exact this
end
section
variable {al:List Nat} {g:PgR} {j:Nat} {q r:Nat->Nat} {v:Val}
def T6 (al:List Nat) (sl:List Int):List Int:=sl.mapIdx fun i x=>if i∈al then x else -1
def I1 (al:List Nat) (i:Nat) (o:Ob):Ob:=if i∈al/\o.1=3/\(o.2.headD (0,0)).1=2/\(o.2.headD (0,0)).2.toNat∉al then (o.1,o.2.set 0 (0,0)) else o
def W7 (al:List Nat) (obs:List Ob):List Ob:=obs.mapIdx (I1 al)
def fT (sl:List Int) (s:McA):List Int × McA:=(T6 (A0 s) sl,{ s with obs:=W7 (A0 s) s.obs })
theorem bG (al:List Nat) (sl:List Int) (i:Nat):(T6 al sl)[i]?=(sl[i]?).map fun x=>if i∈al then x else -1:=by simp [T6,List.getElem?_mapIdx]
theorem Z8 (al:List Nat) (obs:List Ob) (i:Nat):(W7 al obs)[i]?=(obs[i]?).map (I1 al i):=by simp [W7,List.getElem?_mapIdx]
theorem fX (al:List Nat) (obs:List Ob):(W7 al obs).length=obs.length:=by simp [W7]
theorem X9 (al:List Nat) (i:Nat) (o:Ob):(I1 al i o).1=o.1:=by unfold I1;split <;> rfl
theorem eP {i:Nat} {o:Ob} (h:v∈(I1 al i o).2):v∈o.2\/v=(0,0):=by
 unfold I1 at h;split at h
 ·exact List.mem_or_eq_of_mem_set h
 ·exact L4a h
variable {sl:List Int} {s t:McA}
theorem Y6 : G6 (T6 al sl) j↔j∈al/\G6 sl j:=by
 unfold G6;rw[bG];constructor
 ·rintro ⟨x,hx,x0⟩
  cases e:sl[j]? with
  | none=>rw [e] at hx;cases hx
  | some y =>
   rw[e,Option.map_some] at hx;by_cases hj:j∈al
   ·rw [if_pos hj] at hx
    cases hx;exact⟨hj,_,rfl,x0⟩
   ·rw [if_neg hj] at hx
    cases hx;omega
 ·rintro ⟨hj,x,hx,x0⟩
  exact⟨x,by rw [hx,Option.map_some,if_pos hj],x0⟩
theorem dC (hj:j∈al):sig (T6 al sl) j=sig sl j:=by
 unfold sig;rw[List.getD_eq_getElem?_getD,List.getD_eq_getElem?_getD,bG]
 cases sl[j]? with
 | none=>rfl
 | some y=>rw [Option.map_some,if_pos hj]
theorem eJ (h:v.1=2->r v.2.toNat=q v.2.toNat):ren r v=ren q v:=by
 unfold ren;split
 ·rename_i h2
  rw[h h2]
 ·rfl
theorem a0P {f:FrA} (h:∀v,v∈f.loc++f.stk->v.1=2->r v.2.toNat=q v.2.toNat):G5 r f=G5 q f:=by
 unfold G5;rw[List.map_congr_left fun v hv=>eJ (h v (by simp [hv])),List.map_congr_left (l:=f.stk) fun v hv=>eJ (h v (by simp [hv]))]
theorem C7.in_alive (h:C7 sl s t) {v:Val} (hv:VS sl v) (h2:v.1=2):(ren (sig sl) v).2.toNat∈A0 t↔v.2.toNat∈A0 s:=by
 rw[h.alive,gZ h2];constructor
 ·intro hm
  obtain⟨i,hi,e⟩:=List.mem_map.1 hm;have:=h.inj2 (h.slotted _ hi) (hv h2).2 e;rwa [<- this]
 ·intro hm
  exact List.mem_map.2 ⟨_,hm,rfl⟩
theorem kW {l:List Val} (h:∃v,l=[v]) (h0:l.headD (0,0)=(0,0)):l.set 0 (0,0)=l:=by
 obtain⟨v,rfl⟩:=h;have:v=(0,0):=h0;rw[this];rfl
theorem lB (hi:C8 g t) {k:Nat} {o:Ob} (ho:t.obs[k]?=some o) (h3:o.1=3):(∃v,o.2=[v])/\((o.2.headD (0,0)).1≠2->o.2.headD (0,0)=(0,0)):=by
 rcases hi.obs o (L2a ho) with ⟨e,_⟩ | ⟨e,_⟩ | ⟨e,_⟩ | ⟨_,u,e,hv,h1⟩
 ·omega
 ·omega
 ·omega
 ·rw [e]
  refine⟨⟨u,rfl⟩,fun h2=>?_⟩;rcases hv with hv | hv | hv
  ·exact hv
  ·exact absurd hv h1
  ·exact absurd hv.1 h2
theorem C7.collect (h:C7 sl s t) (hi:C8 g t):C7 (fT sl s).1 (fT sl s).2 (J4 t):=by
 have hr:=h.reached;have xo:=h.alive;have xh:=h.slotted
 -- every reference of a frame is alive
 have xn:∀v,v∈C6 s.frs->v.1=2->v.2.toNat∈A0 s:=fun v hv h2=>hr.roots v hv h2
 have xj:(J4 t).obs.length=t.obs.length:=T8 _ _
 -- the fields of what is alive,behind it
 have xm:∀(j:Nat) (o:Ob),s.obs[j]?=some o->j∈A0 s->∀v,v∈(I1 (A0 s) j o).2->v.1=2->v.2.toNat∈A0 s/\0<=v.2:=fun j o ho hj v hv h2=>by
  have xe:v∈o.2:=by
   rcases eP hv with hv | rfl
   ·exact hv
   ·simp at h2
  refine⟨?_,(h.orefs j o ho (xh j hj) v xe h2).1⟩;by_cases h3:o.1=3
  ·obtain ⟨p,hp,hq⟩:=h.get (xh j hj)
   rw[ho] at hp
   cases hp;obtain⟨⟨u,hu⟩,_⟩:=lB hi hq h3;obtain⟨x,hx⟩:∃x,o.2=[x]:=by
    cases e:o.2 with
    | nil=>rw [e] at hu;cases hu
    | cons x l =>
     rw[e] at hu
     cases l with
     | nil=>exact ⟨x,rfl⟩
     | cons y l=>simp at hu
   unfold I1 at hv;by_cases hc:j∈A0 s/\o.1=3/\(o.2.headD (0,0)).1=2/\(o.2.headD (0,0)).2.toNat∉A0 s
   ·rw [if_pos hc,hx] at hv
    have:v=(0,0):=by simpa using hv
    rw[this] at h2;simp at h2
   ·rw [if_neg hc,hx] at hv
    have e:v=x:=by simpa using hv
    subst e;rw[hx] at hc;exact Decidable.byContradiction fun hn=>hc ⟨hj,h3,h2,hn⟩
  ·exact hr.shut j hj o ho h3 v xe h2
 refine⟨h.st,h.out,h.dr,?_,?_,fun i x hx=>?_,fun i j x x0 hx hy=>?_,fun i o ho hs=>?_,fun k o ho hk=>?_,fun v hv h2=>?_,fun i o ho hs v hv h2=>?_,fun o ho v hv h2=>?_,fun o ho=>?_⟩
 ·show t.frs=s.frs.map (G5 (sig (T6 (A0 s) sl)))
  rw[h.frs];refine List.map_congr_left fun f hf=>a0P fun v hv h2=>?_
  exact (dC (xn v (I2.2 ⟨f,hf,hv⟩) h2)).symm
 ·show (T6 (A0 s) sl).length=(W7 (A0 s) s.obs).length
  rw[fX,<- h.len];simp[T6]
 ·rw [xj]
  have xc:(T6 (A0 s) sl)[i]?=some x:=hx;rw[bG] at xc
  cases e:sl[i]? with
  | none=>rw [e] at xc;cases xc
  | some y =>
   rw[e,Option.map_some] at xc
   cases xc;split
   ·exact h.bd i y e
   ·exact L4a rfl
 ·have xc:(T6 (A0 s) sl)[i]?=some x:=hx
  have xq:(T6 (A0 s) sl)[j]?=some x:=hy;have xl:∀k:Nat,(T6 (A0 s) sl)[k]?=some x->sl[k]?=some x:=fun k hk=>by
   rw[bG] at hk
   cases e:sl[k]? with
   | none=>rw [e] at hk;cases hk
   | some y =>
    rw[e,Option.map_some] at hk;by_cases hj:k∈A0 s
    ·rw [if_pos hj] at hk;exact hk
    ·rw [if_neg hj] at hk;cases hk;omega
  exact h.inj i j x x0 (xl i xc) (xl j xq)
 ·have xa:(W7 (A0 s) s.obs)[i]?=some o:=ho
  obtain⟨xd,xi⟩:=Y6.1 hs;rw[Z8] at xa;obtain⟨p,hp,hq⟩:=h.get xi;rw[hp,Option.map_some] at xa
  cases xa;have xf:sig sl i∈A0 t:=by rw [xo];exact List.mem_map.2 ⟨i,xd,rfl⟩
  show (J4 t).obs[sig (T6 (A0 s) sl) i]?=_;rw[dC xd,vN hq xf,X9];congr 1
  have xg:(I1 (A0 s) i p).2.map (ren (sig (T6 (A0 s) sl)))=(I1 (A0 s) i p).2.map (ren (sig sl)):=List.map_congr_left fun v hv=>eJ fun h2=>dC (xm i p hp xd v hv h2).1
  rw[show (fT sl s).1=T6 (A0 s) sl from rfl,xg];by_cases h3:p.1=3
  ·obtain ⟨w1,w2⟩:=lB hi hq h3
   have hh:=rK (r:=sig sl) p.2;have xp:VS sl (p.2.headD (0,0)):=by
    cases e:p.2 with
    | nil=>exact VS.plain (show (0:Int)≠2 by decide)
    | cons x l=>exact h.orefs i p hp xi x (by rw [e];simp)
   have xb:=wR hi (ren (sig sl) (p.2.headD (0,0)));unfold L2;show (if p.1=3/\gD (bH t.obs (A0 t)) ((p.2.map (ren (sig sl))).headD (0,0))=true then (p.1,(p.2.map (ren (sig sl))).set 0 (0,0)) else (p.1,p.2.map (ren (sig sl))))=_;rw[hh];unfold I1;by_cases h2:(p.2.headD (0,0)).1=2
   ·have xe:=h.in_alive xp h2
    by_cases ha:(p.2.headD (0,0)).2.toNat∈A0 s
    ·rw [if_neg (fun c=>(xb.1 c.2) ⟨by rw [G3];exact h2,xe.2 ha⟩),if_neg (fun c=>c.2.2.2 ha)]
    ·rw [if_pos ⟨h3,xb.2 fun c=>ha (xe.1 c.2)⟩,if_pos ⟨xd,h3,h2,ha⟩,List.map_set,bL]
   ·rw [if_pos ⟨h3,xb.2 fun c=>h2 (by rw [<- G3 (sig sl)];exact c.1)⟩,if_neg (fun c=>h2 c.2.2.1)]
    congr 1
    refine kW w1 (w2 ?_);show ((p.2.map (ren (sig sl))).headD (0,0)).1≠2;rw[hh,G3];exact h2
  ·rw [dN (o:=(p.1,p.2.map (ren (sig sl)))) h3]
   unfold I1;rw[if_neg (fun c=>h3 c.2.1)]
 ·by_cases xf:k∈A0 t
  ·exfalso
   rw[xo] at xf;obtain⟨j,hj,e⟩:=List.mem_map.1 xf;obtain⟨x,hx,x0⟩:=xh j hj;refine hk j ?_;show (T6 (A0 s) sl)[j]?=_;rw[bG,hx,Option.map_some,if_pos hj,<- e,fC hx];congr 1
   omega
  ·have xa:(V3 t.obs (A0 t))[k]?=some o:=ho
   rw[Z2] at xa
   cases e:t.obs[k]? with
   | none=>rw [e] at xa;cases xa
   | some p =>
    rw[e,Option.map_some,if_neg xf] at xa
    cases xa;exact dN (show (0:Int)≠3 by decide)
 ·exact ⟨(h.vals v hv h2).1,Y6.2 ⟨xn v hv h2,(h.vals v hv h2).2⟩⟩
 ·have xa:(W7 (A0 s) s.obs)[i]?=some o:=ho
  obtain⟨xd,xi⟩:=Y6.1 hs;rw[Z8] at xa;obtain⟨p,hp,_⟩:=h.get xi;rw[hp,Option.map_some] at xa
  cases xa;obtain⟨q1,q2⟩:=xm i p hp xd v hv h2;exact⟨q2,Y6.2 ⟨q1,xh _ q1⟩⟩
 ·show v.2.toNat < (W7 (A0 s) s.obs).length
  rw[fX];obtain⟨i,xk,e⟩:=List.mem_iff_getElem.1 ho;have xa:(W7 (A0 s) s.obs)[i]?=some o:=by rw [<- e];exact L1b xk
  rw[Z8] at xa
  cases hp:s.obs[i]? with
  | none=>rw [hp] at xa;cases xa
  | some p =>
   rw[hp,Option.map_some] at xa
   cases xa;rcases eP hv with hv | rfl
   ·exact h.within p (L2a hp) v hv h2
   ·simp at h2
 ·obtain ⟨i,xk,e⟩:=List.mem_iff_getElem.1 ho
  have xa:(W7 (A0 s) s.obs)[i]?=some o:=by rw [<- e];exact L1b xk
  rw[Z8] at xa
  cases hp:s.obs[i]? with
  | none=>rw [hp] at xa;cases xa
  | some p =>
   rw[hp,Option.map_some] at xa
   cases xa;rw[X9];exact h.kinds p (L2a hp)
end
section
variable {sl:List Int} {x:Int}
def Z9 (sl:List Int):Nat->Nat->Option Nat
 | 0,_=>none
 | m+1,n=>if (n:Int)∈sl then Z9 sl m (n+1) else some n
def bX (cap:Nat) (sl:List Int) (dr:List Int):Option (Nat × List Int) :=
 match dr with
 | []=>(Z9 sl cap 0).map fun j=>(j,[])
 | d::ds=>if ((d % (cap:Int)).toNat:Int)∈sl then (Z9 sl cap 0).map fun j=>(j,ds) else some ((d % (cap:Int)).toNat,ds)
def Y5 (cap:Nat) (sl:List Int) (s:McA):List Int × McA:=if Z9 sl cap 0=none then fT sl s else (sl,s)
def cN (cap:Nat) (sl:List Int) (s:McA) (fs:List FrA) (f:FrA) (rest:List Val) (kind:Int) (fl:List Val):List Int × McA :=
 if cap<=(A0 s).length then (sl,D4 s 6)
 else match bX cap (Y5 cap sl s).1 s.dr with
  | none=>(sl,s)
  | some j=>((Y5 cap sl s).1++[(j.1:Int)],
   ⟨0,s.out,fs++[⟨f.fn,f.pc+1,f.loc,rest++[(2,(s.obs.length:Int))]⟩],(Y5 cap sl s).2.obs++[(kind,fl)],j.2⟩)
variable {sl:List Int} {s t:McA} {fs:List FrA} {f:FrA} {rest args:List Val}
theorem C7.zero (h:C7 sl s t) {k:Nat} {o:Ob} (ho:t.obs[k]?=some o):o.1=0↔¬(k:Int)∈sl:=by
 constructor
 ·intro h0 hm
  obtain⟨i,hi,e⟩:=List.mem_iff_getElem.1 hm;have hx:sl[i]?=some (k:Int):=by rw [<- e];exact L1b hi
  obtain⟨p,hp,hq⟩:=h.get (i:=i) ⟨_,hx,by omega⟩;rw[fC hx,Int.toNat_natCast,ho] at hq
  cases hq;exact h.kinds p (L2a hp) h0
 ·intro hm
  rw[h.free k o ho fun i hi=>hm (L2a hi)]
theorem a1D : ∀(l:List Ob) (n:Nat),(∀(k:Nat) (o:Ob),l[k]?=some o->(o.1=0↔¬((n+k:Nat):Int)∈sl))->freeA l n=Z9 sl l.length n
 | [],_,_=>rfl
 | o::l,n,h=>by
  rw[freeA,List.length_cons,Z9];have h0:=h 0 o rfl;rw[Nat.add_zero] at h0;have ih:=a1D l (n+1) fun k p hp=>by
   have:=h (k+1) p (by simpa using hp);rwa [show n+(k+1)=n+1+k by omega] at this
  by_cases hz:o.1=0
  ·rw [if_pos hz,if_neg (h0.1 hz)]
  ·rw [if_neg hz,if_pos (Decidable.byContradiction fun hn=>hz (h0.2 hn)),ih]
theorem C7.freeA (h:C7 sl s t):freeA t.obs 0=Z9 sl t.obs.length 0:=a1D t.obs 0 fun k o ho=>by rw [Nat.zero_add];exact h.zero ho
theorem C7.pick (h:C7 sl s t) (hc:1<=t.obs.length) (dr:List Int):eG t.obs dr=bX t.obs.length sl dr:=by
 unfold eG bX
 cases dr with
 | nil=>simp only [h.freeA]
 | cons d ds =>
  have xa:(d % (t.obs.length:Int)).toNat < t.obs.length:=by
   have h1:=Int.emod_nonneg d (show (t.obs.length:Int)≠0 by omega);have h2:=Int.emod_lt_of_pos d (show (0:Int) < t.obs.length by omega);omega
  have ho:t.obs[(d % (t.obs.length:Int)).toNat]?=some t.obs[(d % (t.obs.length:Int)).toNat]:=L1b xa;have hz:=h.zero ho;simp only[ho,h.freeA];by_cases h0:(t.obs[(d % (t.obs.length:Int)).toNat]).1=0
  ·rw [if_pos h0,if_neg (hz.1 h0)]
  ·rw [if_neg h0,if_pos (Decidable.byContradiction fun hn=>h0 (hz.2 hn))]
theorem iY : ∀(m n j:Nat),Z9 sl m n=some j->n<=j/\j < n+m/\¬(j:Int)∈sl
 | 0,_,_,h=>by cases h
 | m+1,n,j,h=>by
  rw[Z9] at h;by_cases hm:(n:Int)∈sl
  ·rw [if_pos hm] at h
   obtain⟨q1,q2,q3⟩:=iY m (n+1) j h;exact⟨by omega,by omega,q3⟩
  ·rw [if_neg hm] at h
   cases h;exact⟨by omega,by omega,hm⟩
theorem a1b {cap:Nat} (hc:1<=cap) {sl dr:List Int} {j:Nat × List Int} (h:bX cap sl dr=some j):j.1 < cap/\¬(j.1:Int)∈sl:=by
 unfold bX at h
 cases dr with
 | nil =>
  simp only at h
  cases e:Z9 sl cap 0 with
  | none=>rw [e] at h;cases h
  | some k =>
   rw[e,Option.map_some] at h
   cases h;obtain⟨_,q2,q3⟩:=iY _ _ _ e;exact⟨by omega,q3⟩
 | cons d ds =>
  simp only at h;by_cases hm:((d % (cap:Int)).toNat:Int)∈sl
  ·rw [if_pos hm] at h
   cases e:Z9 sl cap 0 with
   | none=>rw [e] at h;cases h
   | some k =>
    rw[e,Option.map_some] at h
    cases h;obtain⟨_,q2,q3⟩:=iY _ _ _ e;exact⟨by omega,q3⟩
  ·rw [if_neg hm] at h
   cases h;have h1:=Int.emod_nonneg d (show (cap:Int)≠0 by omega);have h2:=Int.emod_lt_of_pos d (show (0:Int) < cap by omega);exact⟨by show (d % (cap:Int)).toNat < cap;omega,hm⟩
theorem a1S {k:List Int} {i:Nat} (hi:i < sl.length):sig (sl++k) i=sig sl i:=by
 unfold sig;rw[List.getD_eq_getElem?_getD,List.getD_eq_getElem?_getD,List.getElem?_append_left hi]
theorem dD (x0:0<=x) {i:Nat} : G6 (sl++[x]) i↔G6 sl i\/i=sl.length:=by
 constructor
 ·rintro ⟨y,hy,y0⟩
  have xa:=(L1a.1 hy).1;rw[List.length_append,List.length_singleton] at xa;by_cases e:i=sl.length
  ·exact L4b e
  ·rw [List.getElem?_append_left R5] at hy
   exact L4a ⟨y,hy,y0⟩
 ·rintro (⟨y,hy,y0⟩ | rfl)
  ·exact ⟨y,by rw [List.getElem?_append_left (L1a.1 hy).1];exact hy,y0⟩
  ·exact ⟨x,by simp,x0⟩
theorem VS.more (x0:0<=x) {v:Val} (h:VS sl v):VS (sl++[x]) v:=fun h2=>⟨(h h2).1,(dD x0).2 (L4a (h h2).2)⟩
theorem pR {v:Val} (h:VS sl v):ren (sig (sl++[x])) v=ren (sig sl) v:=eJ fun h2=>a1S (h h2).2.lt
theorem a5s {l:List Val} (h:VSs sl l):l.map (ren (sig (sl++[x])))=l.map (ren (sig sl)):=List.map_congr_left fun v hv=>pR (h v hv)
theorem C7.lay (h:C7 sl s t) {j:Nat} (hj:j < t.obs.length) (hn:¬(j:Int)∈sl) {kind:Int} (hk:kind≠0) {fl:List Val} (hfl:VSs sl fl) (st:Int) (out:List Int) (fr:List FrA) (dr:List Int)
  (hin:∀x,x∈fr->VSs sl (x.loc++x.stk)\/∃l,x.stk=l++[(2,(s.obs.length:Int))]/\VSs sl (x.loc++l)) :
  C7 (sl++[(j:Int)]) ⟨st,out,fr,s.obs++[(kind,fl)],dr⟩ ⟨st,out,fr.map (G5 (sig (sl++[(j:Int)]))),t.obs.set j (kind,fl.map (ren (sig sl))),dr⟩:=by
 have xa:(0:Int)<=(j:Int):=by omega
 have xc:sig (sl++[(j:Int)]) sl.length=j:=by
  have:(sl++[(j:Int)])[sl.length]?=some (j:Int):=by simp
  rw[fC this,Int.toNat_natCast]
 have xb:VS (sl++[(j:Int)]) (2,(s.obs.length:Int)):=fun _=>⟨by show (0:Int)<=(s.obs.length:Int);omega,(dD xa).2 (L4b (by show ((s.obs.length:Int)).toNat=_;rw [h.len];omega))⟩
 have xd:∀i,G6 sl i->sig sl i≠j:=fun i ⟨x,hx,x0⟩ e=>hn (by
  rw[fC hx] at e;have:x=(j:Int):=by omega
  rw[<- this];exact L2a hx)
 refine⟨rfl,rfl,rfl,rfl,?_,fun i x hx=>?_,fun a b x x0 hx hy=>?_,fun i o ho hs=>?_,fun k o ho hk2=>?_,fun v hv=>?_,fun i o ho hs v hv=>?_,fun o ho v hv h2=>?_,fun o ho=>?_⟩
 ·rw [List.length_append,List.length_append,h.len];rfl
 ·rw [List.length_set]
  have xe:=(L1a.1 hx).1;rw[List.length_append,List.length_singleton] at xe;by_cases e:i=sl.length
  ·subst e
   have:x=(j:Int):=by simpa using hx.symm
   right;omega
  ·rw [List.getElem?_append_left R5] at hx
   exact h.bd i x hx
 ·have xg:∀k:Nat,(sl++[(j:Int)])[k]?=some x->(k=sl.length/\x=(j:Int))\/sl[k]?=some x:=fun k hk3=>by
   have xe:=(L1a.1 hk3).1;rw[List.length_append,List.length_singleton] at xe;by_cases e:k=sl.length
   ·subst e
    exact L4a ⟨rfl,by simpa using hk3.symm⟩
   ·rw [List.getElem?_append_left R5] at hk3
    exact L4b hk3
  rcases xg a hx with ⟨ea,ex⟩ | ha <;> rcases xg b hy with ⟨eb,xi⟩ | hb
  ·omega
  ·exact absurd (L2a hb) (by rw [ex];exact hn)
  ·exact absurd (L2a ha) (by rw [xi];exact hn)
  ·exact h.inj a b x x0 ha hb
 ·rcases (dD xa).1 hs with his | rfl
  ·have xh:=his.lt
   rw[List.getElem?_append_left (by rw [<- h.len];exact xh)] at ho;show (t.obs.set j _)[sig (sl++[(j:Int)]) i]?=_;rw[a1S xh,List.getElem?_set_ne fun e=>xd i his e.symm,h.obs i o ho his];congr 2
   exact (List.map_congr_left fun v hv=>(pR (h.orefs i o ho his v hv)).symm)
  ·rw [h.len] at ho
   have:o=(kind,fl):=by simpa using ho.symm
   subst this;show (t.obs.set j _)[sig (sl++[(j:Int)]) sl.length]?=_;rw[xc,List.getElem?_set_self hj];congr 2
   exact (a5s hfl).symm
 ·have xj:j≠k:=fun e=>hk2 sl.length (by rw [<- e];simp)
  have xf:(t.obs.set j (kind,fl.map (ren (sig sl))))[k]?=some o:=ho;rw[List.getElem?_set_ne xj] at xf;refine h.free k o xf fun i hi=>hk2 i ?_
  rw[List.getElem?_append_left (L1a.1 hi).1];exact hi
 ·obtain ⟨x,hx,hv⟩:=I2.1 hv
  rcases hin x hx with hx | ⟨l,e,hx⟩
  ·exact (hx v hv).more xa
  ·rw [e,<- List.append_assoc] at hv
   rcases List.mem_append.1 hv with hv | hv
   ·exact (hx v hv).more xa
   ·rw [List.mem_singleton] at hv
    subst hv;exact xb
 ·rcases (dD xa).1 hs with his | rfl
  ·rw [List.getElem?_append_left (by rw [<- h.len];exact his.lt)] at ho
   exact (h.orefs i o ho his v hv).more xa
  ·rw [h.len] at ho
   have:o=(kind,fl):=by simpa using ho.symm
   subst this;exact (hfl v hv).more xa
 ·show v.2.toNat < (s.obs++[(kind,fl)]).length
  rw[List.length_append];rcases List.mem_append.1 ho with ho | ho
  ·have:=h.within o ho v hv h2;omega
  ·rw [List.mem_singleton] at ho
   subst ho;have:=(hfl v hv h2).2.lt;rw[h.len] at this;omega
 ·rcases List.mem_append.1 ho with ho | ho
  ·exact h.kinds o ho
  ·rw [List.mem_singleton] at ho
   subst ho;exact hk
end
end Go.Proofs.YtbkmgoffiigdbaaGreatDoor
