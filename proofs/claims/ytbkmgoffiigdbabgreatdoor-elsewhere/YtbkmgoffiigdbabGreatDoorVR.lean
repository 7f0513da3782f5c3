import Derived.Test.YtbkmgoffiigdbabGreatDoorVPc
namespace Go.Proofs.YtbkmgoffiigdbabGreatDoor
open Go.RowKit Go.Sort
inductive cV (obs:List Ob) (l:List Val):Nat→Prop
 | root (v:Val) (hv:v∈l) (h2:v.1=2):cV obs l v.2.toNat
 | field (j:Nat) (o:Ob) (v:Val) (hj:cV obs l j) (ho:obs[j]?=some o) (h3:o.1≠3) (hv:v∈o.2) (h2:v.1=2):cV obs l v.2.toNat
theorem Z6.of_lead {obs:List Ob} {l:List Val} {met:List Nat} (h:Z6 obs l met) {j:Nat} (hl:cV obs l j):j∈met:=by
 induction hl with
 | root v hv h2=>exact h.roots v hv h2
 | field j o v _ ho h3 hv h2 ih=>exact h.shut j ih o ho h3 v hv h2
theorem kI {obs:List Ob} {l k:List Val} {met:List Nat} (hm:∀j,j∈met→cV obs l j) (hk:∀v,v∈k→v.1=2→cV obs l v.2.toNat):∀j,j∈G2 met k→cV obs l j:=by
 intro j hj;rcases (Y6 k met j).1 hj with h | ⟨v,h1,h2,rfl⟩
 ·exact hm j h
 ·exact hk v h1 h2
theorem kV {obs:List Ob} {l:List Val} : ∀(n i:Nat) (met:List Nat),(∀j,j∈met→cV obs l j)→∀j,j∈K6 obs n i met→cV obs l j
 | 0,_,_,hm=>hm
 | n+1,i,met,hm=>by
  rw[K6]
  cases hi:met[i]? with
  | none=>exact hm
  | some k =>
   cases ho:obs[k]? with
   | none=>simp only [ho];exact hm
   | some o =>
    simp only[ho];refine kV n (i+1) _ ?_;by_cases h3:o.1=3
    ·rw [if_pos h3];exact hm
    ·rw [if_neg h3]
     exact kI hm fun v hv h2=>cV.field k o v (hm k (List.mem_of_getElem? hi)) ho h3 hv h2
theorem Z4 {obs:List Ob} {l:List Val} : ∀j,j∈E3 obs l→cV obs l j :=
 kV _ _ _ (kI Q9 fun v hv h2=>cV.root v hv h2)
theorem eZ:∀{a b:List Nat},a.Nodup→(∀j,j∈a→j∈b)→a.length≤b.length
 | [],_,_,_=>Nat.zero_le _
 | x::a,b,h,hs=>by
  obtain⟨h1,h2⟩:=List.nodup_cons.1 h;have hx:=hs x Q9;have:=eZ (b:=b.erase x) h2 fun j hj=>(List.mem_erase_of_ne (fun e=>h1 (by rw [← e];exact hj))).2 (hs j (by simp [hj]))
  have hp:=List.length_pos_of_mem hx;rw[List.length_erase_of_mem hx] at this;simp only[List.length_cons];omega
theorem kJ {a b:List Nat} (ha:a.Nodup) (hb:b.Nodup) (h:∀j,j∈a↔j∈b):a.length=b.length :=
 Nat.le_antisymm (eZ ha fun j hj=>(h j).1 hj) (eZ hb fun j hj=>(h j).2 hj)
theorem Z6.same {obs:List Ob} {l:List Val} {a b:List Nat} (ha:Z6 obs l a) (hb:Z6 obs l b) (hla:∀j,j∈a→cV obs l j) (hlb:∀j,j∈b→cV obs l j):a.length=b.length :=
 kJ ha.nodup hb.nodup fun _=>⟨fun h=>hb.of_lead (hla _ h),fun h=>ha.of_lead (hlb _ h)⟩
theorem fY (obs:List Ob):K8 obs=((List.range obs.length).filter fun j=>((obs[j]?).map fun o=>o.1 != 0).getD false).length:=by
 unfold K8
 induction obs with
 | nil=>rfl
 | cons o l ih =>
  rw[List.length_cons,List.range_succ_eq_map,List.filter_cons,List.filter_cons,List.filter_map,List.getElem?_cons_zero];have e:((fun j=>(((o::l)[j]?).map fun o=>o.1 != 0).getD false)∘Nat.succ)=fun j=>((l[j]?).map fun o=>o.1 != 0).getD false:=by funext j;simp
  rw[e]
  cases h:(o.1 != 0) <;> simp [h,ih]
theorem F6 {g:PgR} {s:McA} (h:C1 g s) {j:Nat} (hj:j∈A0 s):∃o,s.obs[j]?=some o∧o.1≠0:=by
 have:=Z4 j hj
 cases this with
 | root v hv h2 =>
  obtain⟨f,hf,hv⟩:=N1.1 hv;exact ((h.vals f hf v hv).ref h2).2
 | field k o v _ ho h3 hv h2=>exact (((h.obs o (List.mem_of_getElem? ho)).vals hv).ref h2).2
theorem tV {g:PgR} {s:McA} (h:C1 g s):K8 (G8 s).obs=(A0 s).length:=by
 rw[fY];refine kJ (List.nodup_range.filter _) h.alive.nodup fun j=>?_
 rw[List.mem_filter,List.mem_range];have e:(G8 s).obs[j]?=(s.obs[j]?).map fun o=>M8 (aX s.obs (A0 s)) (if j∈A0 s then o else (0,[])):=dK _ _ _
 constructor
 ·rintro ⟨_,h2⟩
  rw[e] at h2;refine Decidable.byContradiction fun hn=>?_
  cases ho:s.obs[j]? with
  | none=>rw [ho] at h2;simp at h2
  | some o=>rw [ho,Option.map_some,if_neg hn] at h2;simp [O6] at h2
 ·intro hj
  obtain⟨o,ho,hne⟩:=F6 h hj;have hl:=(List.getElem?_eq_some_iff.1 ho).1;refine⟨by show j < (aH _ _).length;rw [aI];exact hl,?_⟩;rw[e,ho,Option.map_some,if_pos hj];simp[O6,hne]
structure gB (obs:List Ob) (l:List Val) (i:Nat) (met:List Nat) (q:List Val):Prop where
 nodup:met.Nodup
 lt:∀j,j∈met→j < obs.length
 lead:∀j,j∈met→cV obs l j
 qlead:∀v,v∈q→v.1=2→cV obs l v.2.toNat
 pre:∀v,v∈l→v∈q
 done:∀k v,k < i→q[k]?=some v→v.1=2→v.2.toNat∈met
 fields:∀j,j∈met→∀o,obs[j]?=some o→o.1≠3→∀v,v∈o.2→v∈q
 len:q.length≤l.length+met.length*12
theorem gB.begin (obs:List Ob) (l:List Val):gB obs l 0 [] l :=
 ⟨List.nodup_nil,by simp,by simp,fun v hv h2=>cV.root v hv h2,fun _ h=>h,fun k v hk=>by omega,by simp,by simp⟩
theorem gB.skip {obs:List Ob} {l:List Val} {i:Nat} {met:List Nat} {q:List Val} (h:gB obs l i met q) {v:Val} (hv:q[i]?=some v) (hm:v.1=2→v.2.toNat∈met):gB obs l (i+1) met q :=
 ⟨h.nodup,h.lt,h.lead,h.qlead,h.pre,fun k u hk hu h2=>by
  by_cases e:k=i
  ·subst e;rw [hv] at hu;cases hu;exact hm h2
  ·exact h.done k u Q8 hu h2,h.fields,h.len⟩
theorem gB.meet {obs:List Ob} {l:List Val} {i:Nat} {met:List Nat} {q:List Val} (h:gB obs l i met q) {v:Val} (hv:q[i]?=some v) (h2:v.1=2) (hn:v.2.toNat∉met) {o:Ob} (ho:obs[v.2.toNat]?=some o) (h12:o.2.length≤12) :
  gB obs l (i+1) (met++[v.2.toNat]) (q++if o.1=3 then [] else o.2):=by
 have hvq:v∈q:=List.mem_of_getElem? hv;have hlv:=h.qlead v hvq h2;refine⟨?_,fun j hj=>?_,fun j hj=>?_,fun u hu hu2=>?_,fun u hu=>by simp [h.pre u hu],fun k u hk hu hu2=>?_,fun j hj p hp h3 u hu=>?_,?_⟩
 ·rw [List.nodup_append]
  exact⟨h.nodup,by simp,fun a ha b hb=>by rw [List.mem_singleton] at hb;rintro rfl;exact hn (hb▸ha)⟩
 ·rcases List.mem_append.1 hj with hj | hj
  ·exact h.lt j hj
  ·rw [List.mem_singleton] at hj;subst hj;exact (List.getElem?_eq_some_iff.1 ho).1
 ·rcases List.mem_append.1 hj with hj | hj
  ·exact h.lead j hj
  ·rw [List.mem_singleton] at hj;subst hj;exact hlv
 ·rcases List.mem_append.1 hu with hu | hu
  ·exact h.qlead u hu hu2
  ·split at hu
   ·simp at hu
   ·rename_i h3;exact cV.field _ o u hlv ho h3 hu hu2
 ·have hil:=(List.getElem?_eq_some_iff.1 hv).1
  rw[List.getElem?_append_left Q8] at hu;by_cases e:k=i
  ·subst e;rw [hv] at hu;cases hu;simp
  ·exact List.mem_append.2 (Or.inl (h.done k u Q8 hu hu2))
 ·rcases List.mem_append.1 hj with hj | hj
  ·exact List.mem_append.2 (Or.inl (h.fields j hj p hp h3 u hu))
  ·rw [List.mem_singleton] at hj
   subst hj;rw[ho] at hp
   cases hp;rw[if_neg h3];exact List.mem_append.2 (Or.inr hu)
 ·have:=h.len
  have h1:(if o.1=3 then [] else o.2:List Val).length≤12:=by
   split
   ·simp
   ·exact h12
  simp only[List.length_append,List.length_cons,List.length_nil];omega
theorem gB.whole {obs:List Ob} {l:List Val} {met:List Nat} {q:List Val} (hw:kD obs) (hl:∀v,v∈l→v.1=2→v.2.toNat < obs.length) (h:gB obs l q.length met q):met.length=(E3 obs l).length:=by
 have inq:∀v,v∈q→v.1=2→v.2.toNat∈met:=fun v hv h2=>by
  obtain⟨k,hk⟩:=List.mem_iff_getElem?.1 hv;exact h.done k v (List.getElem?_eq_some_iff.1 hk).1 hk h2
 refine Z6.same ⟨h.nodup,h.lt,fun j hj o ho h3 v hv h2=>inq v (h.fields j hj o ho h3 v hv) h2,fun v hv h2=>inq v (h.pre v hv) h2⟩ (dX hw hl) h.lead (Z4 ·)
theorem sO (s:McA):(G3 s).obs.length=s.obs.length:=by
 unfold G3;split
 ·exact aI _ _
 ·rfl
theorem wZ (s:McA) (fs:List FrA) (f:FrA) (rest:List Val) (kind:Int) (fl:List Val):(R6 s fs f rest kind fl).obs.length=s.obs.length:=by
 unfold R6;split
 ·exact sO s
 ·split
  ·rfl
  ·rw [List.length_set,sO]
theorem a7R (s:McA) (fs:List FrA) (f:FrA) (rest:List Val) (v:Val) (kind:Int) (ix:Val):(eS s fs f rest v kind ix).obs.length=s.obs.length:=by unfold eS;split <;> rfl
theorem a8B (s:McA) (fs:List FrA) (f:FrA) (rest:List Val) (v:Val) (kind:Int) (ix y:Val):(dN s fs f rest v kind ix y).obs.length=s.obs.length:=by
 unfold dN;split
 ·exact List.length_set
 ·rfl
theorem a2m (s:McA) (fs:List FrA) (f:FrA) (rest:List Val) (x y:Val) (z:Int):(L8 s fs f rest x y z).obs.length=s.obs.length:=by unfold L8;split <;> rfl
theorem a5R (g:PgR) (a:Int) (s:McA) (fs:List FrA) (f:FrA) (rest args:List Val):(bD g a s fs f rest args).obs.length=s.obs.length:=by unfold bD;split <;> rfl
theorem a2r (s:McA) (fs:List FrA) (x:Val):(E5 s fs x).obs.length=s.obs.length:=by unfold E5;split <;> rfl
theorem a8W (g:PgR) (k:Nat) (a:Int) (s:McA) (fs:List FrA) (f:FrA) (rest args:List Val):(doA g k a s fs f rest args).obs.length=s.obs.length:=by
 unfold doA;split <;> first | rfl | exact a2m .. | exact a5R .. | exact a2r .. | exact wZ .. | exact a7R .. | exact a8B .. | (split <;> first | rfl | exact wZ .. | (split <;> first | rfl | exact wZ ..))
theorem a7k (g:PgR) (s:McA):(W0 g s).obs.length=s.obs.length:=by
 unfold W0;split
 ·rfl
 ·exact a8W ..
theorem xK (g:PgR):∀(n:Nat) (s:McA),(runA g n s).obs.length=s.obs.length
 | 0,_=>rfl
 | n+1,s=>by
  rw[runA];split
  ·rw [xK g n,a7k]
  ·rfl
def ren (r:Nat→Nat) (v:Val):Val:=if v.1=2 then (2,(r v.2.toNat:Int)) else v
def F5 (r:Nat→Nat) (f:FrA):FrA:=⟨f.fn,f.pc,f.loc.map (ren r),f.stk.map (ren r)⟩
theorem K0 (r:Nat→Nat) (v:Val):(ren r v).1=v.1:=by unfold ren;split <;> simp_all
theorem bX {r:Nat→Nat} {v:Val} (h:v.1=2):(ren r v).2.toNat=r v.2.toNat:=by unfold ren;rw [if_pos h];rfl
theorem E0 {r:Nat→Nat} {v:Val} (h:v.1≠2):ren r v=v:=by unfold ren;rw [if_neg h]
theorem cK (r:Nat→Nat) (l:List FrA):D5 (l.map (F5 r))=(D5 l).map (ren r):=by
 unfold D5;rw[List.flatMap_map,List.map_flatMap];congr 1
 funext f
 simp[F5]
def gA (r:Nat→Nat) (A:List Nat):Prop:=∀i j,i∈A→j∈A→r i=r j→i=j
theorem dW {r:Nat→Nat} {A met:List Nat} (hr:gA r A) (hm:∀j,j∈met→j∈A) {j:Nat} (hj:j∈A):r j∈met.map r↔j∈met:=by
 rw[List.mem_map];constructor
 ·rintro ⟨k,hk,e⟩
  rw[hr k j (hm k hk) hj e] at hk;exact hk
 ·intro h
  exact⟨j,h,rfl⟩
theorem eY {r:Nat→Nat} {A:List Nat} (hr:gA r A):∀(l:List Val) (met:List Nat),(∀j,j∈met→j∈A)→(∀v,v∈l→v.1=2→v.2.toNat∈A)→G2 (met.map r) (l.map (ren r))=(G2 met l).map r
 | [],_,_,_=>rfl
 | v::l,met,hm,hl=>by
  rw[List.map_cons,G2,G2];by_cases h2:v.1=2
  ·have hv:=hl v Q9 h2
   have e:(ren r v).2.toNat=r v.2.toNat:=bX h2;by_cases hin:v.2.toNat∈met
   ·rw [if_neg (fun h=>h.2 (by rw [e];exact (dW hr hm hv).2 hin)),if_neg (fun h=>h.2 hin)]
    exact eY hr l met hm fun u hu=>hl u (by simp [hu])
   ·rw [if_pos ⟨by rw [K0];exact h2,fun h=>hin ((dW hr hm hv).1 (by rw [← e];exact h))⟩,if_pos ⟨h2,hin⟩,e]
    have:=eY hr l (met++[v.2.toNat]) (fun j hj=>by
     rcases List.mem_append.1 hj with hj | hj
     ·exact hm j hj
     ·rw [List.mem_singleton] at hj;rw [hj];exact hv) fun u hu=>hl u (by simp [hu])
    rw[List.map_append] at this;exact this
  ·rw [if_neg (fun h=>h2 (by rw [← K0 r v];exact h.1)),if_neg (fun h=>h2 h.1)]
   exact eY hr l met hm fun u hu=>hl u (by simp [hu])
def kY (r:Nat→Nat) (A:List Nat) (obs obt:List Ob):Prop :=
 ∀j,j∈A→∃o p,obs[j]?=some o∧obt[r j]?=some p∧p.1=o.1∧(o.1≠3→p.2=o.2.map (ren r))
theorem mG {r:Nat→Nat} {A:List Nat} {obs obt:List Ob} (hr:gA r A) (hmv:kY r A obs obt) (hs:∀j,j∈A→mM obs A j):∀(n i:Nat) (met:List Nat),(∀j,j∈met→j∈A)→K6 obt n i (met.map r)=(K6 obs n i met).map r
 | 0,_,_,_=>rfl
 | n+1,i,met,hm=>by
  rw[K6,K6,List.getElem?_map]
  cases hi:met[i]? with
  | none=>rfl
  | some j =>
   have hj:=hm j (List.mem_of_getElem? hi);obtain⟨o,p,ho,hp,hk,hf⟩:=hmv j hj;simp only[Option.map_some,ho,hp];by_cases h3:o.1=3
   ·rw [if_pos h3,if_pos (by rw [hk];exact h3)]
    exact mG hr hmv hs n (i+1) met hm
   ·rw [if_neg h3,if_neg (by rw [hk];exact h3),hf h3]
    have hl:∀v,v∈o.2→v.1=2→v.2.toNat∈A:=hs j hj o ho h3
    rw[eY hr o.2 met hm hl];refine mG hr hmv hs n (i+1) _ fun k hk=>?_
    rcases (Y6 o.2 met k).1 hk with h | ⟨v,hv,h2,rfl⟩
    ·exact hm k h
    ·exact hl v hv h2
theorem cH {r:Nat→Nat} {obs obt:List Ob} {l:List Val} {A:List Nat} (hA:Z6 obs l A) (hlen:obt.length=obs.length) (hr:gA r A) (hmv:kY r A obs obt):E3 obt (l.map (ren r))=(E3 obs l).map r:=by
 unfold E3;have h0:∀j,j∈G2 [] l→j∈A:=fun j hj=>by
  rcases (Y6 l [] j).1 hj with h | ⟨v,hv,h2,rfl⟩
  ·simp at h
  ·exact hA.roots v hv h2
 rw[hlen,show G2 [] (l.map (ren r))=(G2 [] l).map r from eY hr l [] Q9 hA.roots];exact mG hr hmv hA.shut _ _ _ h0
def vN (r:Nat→Nat) (A T:List Nat) (v u:Val):Prop:=(v.1=2∧v.2.toNat∈A∧u=ren r v)∨(¬(v.1=2∧v.2.toNat∈A)∧¬(u.1=2∧u.2.toNat∈T))
structure Rel (r:Nat→Nat) (s t:McA):Prop where
 st:t.st=s.st
 out:t.out=s.out
 cap:t.obs.length=s.obs.length
 frs:t.frs=s.frs.map (F5 r)
 inj:gA r (A0 s)
 moved:kY r (A0 s) s.obs t.obs
 weak:∀j o p,j∈A0 s→s.obs[j]?=some o→t.obs[r j]?=some p→o.1=3→vN r (A0 s) (A0 t) (o.2.headD (0,0)) (p.2.headD (0,0))
theorem Rel.alive {g:PgR} {r:Nat→Nat} {s t:McA} (h:Rel r s t) (hi:C1 g s):A0 t=(A0 s).map r:=by
 unfold A0;rw[h.frs,cK];exact cH hi.alive h.cap h.inj h.moved
theorem Rel.len {g:PgR} {r:Nat→Nat} {s t:McA} (h:Rel r s t) (hi:C1 g s):(A0 t).length=(A0 s).length:=by rw [h.alive hi,List.length_map]
theorem a2q (v:Val) (h:v.1=2→0≤v.2):ren id v=v:=by
 unfold ren;split
 ·rename_i h2
  have:=h h2;have e:((id v.2.toNat:Nat):Int)=v.2:=by show ((v.2.toNat:Nat):Int)=v.2;omega
  rw[e,← h2]
 ·rfl
theorem dE {l:List Val} (h:∀v,v∈l→v.1=2→0≤v.2):l.map (ren id)=l:=by
 conv=>rhs;rw [← List.map_id l]
 exact List.map_congr_left fun v hv=>a2q v (h v hv)
theorem a4V (q r:Nat→Nat) (f:FrA):F5 q (F5 r f)=F5 (fun x=>q (r x)) f:=by
 have e:∀v,ren q (ren r v)=ren (fun x=>q (r x)) v:=fun v=>by
  by_cases h:v.1=2
  ·unfold ren
   rw[if_pos h,if_pos rfl,if_pos h];rfl
  ·rw [E0 h,E0 h,E0 h]
 simp[F5,e,Function.comp_def]
theorem a0z (q r:Nat→Nat) (v:Val):ren q (ren r v)=ren (fun x=>q (r x)) v:=by
 by_cases h:v.1=2
 ·unfold ren
  rw[if_pos h,if_pos rfl,if_pos h];rfl
 ·rw [E0 h,E0 h,E0 h]
theorem Rel.go {g:PgR} {r:Nat→Nat} {s t s' t':McA} (h:Rel r s t) (hi:C1 g s) (hs:s'.obs=s.obs) (ht:t'.obs=t.obs) (hst:t'.st=s'.st) (hout:t'.out=s'.out) (hfr:t'.frs=s'.frs.map (F5 r))
  (hv:∀v,v∈D5 s'.frs→v.1=2→v.2.toNat∈A0 s):Rel r s' t':=by
 have hA':Z6 s'.obs (D5 s'.frs) (A0 s'):=by
  refine dX ?_ fun v hv' h2=>?_
  ·rw [hs];exact hi.within
  ·rw [hs];exact hi.alive.lt _ (hv v hv' h2)
 have hsub:∀j,j∈A0 s'→j∈A0 s:=fun j hj=>by
  have hl:cV s'.obs (D5 s'.frs) j:=Z4 j hj;rw[hs] at hl
  induction hl with
  | root v hv' h2=>exact hv v hv' h2
  | field k o v hk ho h3 hv' h2 ih =>
   have hk':k∈A0 s':=hA'.of_lead (by rw [hs];exact hk);exact hi.alive.shut k (ih hk') o ho h3 v hv' h2
 have hinj:gA r (A0 s'):=fun i j h1 h2=>h.inj i j (hsub i h1) (hsub j h2)
 have hmv:kY r (A0 s') s'.obs t'.obs:=fun j hj=>by rw [hs,ht];exact h.moved j (hsub j hj)
 have hal:A0 t'=(A0 s').map r:=by
  unfold A0;rw[hfr,cK];exact cH hA' (by rw [hs,ht];exact h.cap) hinj hmv
 have hal0:=h.alive hi;refine⟨hst,hout,by rw [hs,ht];exact h.cap,hfr,hinj,hmv,fun j o p hj ho hp h3=>?_⟩;rw[hs] at ho;rw[ht] at hp;rcases h.weak j o p (hsub j hj) ho hp h3 with ⟨h1,h2,h4⟩ | ⟨h1,h2⟩
 ·by_cases hin:(o.2.headD (0,0)).2.toNat∈A0 s'
  ·exact Or.inl ⟨h1,hin,h4⟩
  ·refine Or.inr ⟨fun e=>hin e.2,fun e=>hin ?_⟩
   rw[h4,bX h1,hal] at e;exact (dW h.inj hsub h2).1 e.2
 ·refine Or.inr ⟨fun e=>h1 ⟨e.1,hsub _ e.2⟩,fun e=>h2 ⟨e.1,?_⟩⟩
  rw[hal] at e;rw[hal0];obtain⟨k,hk,e'⟩:=List.mem_map.1 e.2;exact List.mem_map.2 ⟨k,hsub k hk,e'⟩
theorem Rel.trans {g:PgR} {r q:Nat→Nat} {s t u:McA} (h:Rel r s t) (k:Rel q t u) (hi:C1 g s) (_hj:C1 g t):Rel (fun x=>q (r x)) s u:=by
 have hal:=h.alive hi;have hin:∀j,j∈A0 s→r j∈A0 t:=fun j hj=>by rw [hal];exact List.mem_map.2 ⟨j,hj,rfl⟩
 refine⟨k.st.trans h.st,k.out.trans h.out,k.cap.trans h.cap,?_,fun i j h1 h2 e=>h.inj i j h1 h2 (k.inj _ _ (hin i h1) (hin j h2) e),fun j hj=>?_,fun j o p hj ho hp h3=>?_⟩
 ·rw [k.frs,h.frs,List.map_map]
  exact List.map_congr_left fun f _=>a4V q r f
 ·obtain ⟨o,p,ho,hp,hk,hf⟩:=h.moved j hj
  obtain⟨p',x,hp',hx,hk',hf'⟩:=k.moved (r j) (hin j hj);rw[hp] at hp'
  cases hp';refine⟨o,x,ho,hx,hk'.trans hk,fun h3=>?_⟩;rw[hf' (by rw [hk];exact h3),hf h3,List.map_map];exact List.map_congr_left fun v _=>a0z q r v
 ·obtain ⟨o',m,ho',hm,hk,hf⟩:=h.moved j hj
  rw[ho] at ho'
  cases ho';have w1:=h.weak j o m hj ho hm h3;have w2:=k.weak (r j) m p (hin j hj) hm hp (by rw [hk];exact h3);rcases w1 with ⟨a1,a2,a3⟩ | ⟨a1,a2⟩
  ·rcases w2 with ⟨b1,b2,b3⟩ | ⟨b1,b2⟩
   ·exact Or.inl ⟨a1,a2,by rw [b3,a3,a0z]⟩
   ·exact absurd ⟨by rw [a3,K0];exact a1,by rw [a3,bX a1];exact hin _ a2⟩ b1
  ·rcases w2 with ⟨b1,b2,b3⟩ | ⟨b1,b2⟩
   ·exact absurd ⟨b1,b2⟩ a2
   ·exact Or.inr ⟨a1,b2⟩
theorem a6w {g:PgR} {s:McA} (h:C1 g s):∀v,v∈D5 s.frs→v.1=2→0≤v.2:=fun v hv h2=>by
 obtain⟨f,hf,hv⟩:=N1.1 hv;exact ((h.vals f hf v hv).ref h2).1
theorem gZ {g:PgR} {s:McA} (h:C1 g s) {j:Nat} {o:Ob} (ho:s.obs[j]?=some o):∀v,v∈o.2→v.1=2→0≤v.2:=fun _ hv h2=>(((h.obs o (List.mem_of_getElem? ho)).vals hv).ref h2).1
theorem a6f {g:PgR} {s:McA} (h:C1 g s):s.frs.map (F5 id)=s.frs:=by
 conv=>rhs;rw [← List.map_id s.frs]
 refine List.map_congr_left fun f hf=>?_
 have hv:∀v,v∈f.loc++f.stk→v.1=2→0≤v.2:=fun v hv h2=>((h.vals f hf v hv).ref h2).1
 show FrA.mk f.fn f.pc (f.loc.map (ren id)) (f.stk.map (ren id))=f;rw[dE fun v hv'=>hv v (by simp [hv']),dE fun v hv'=>hv v (by simp [hv'])]
theorem dS {s:McA} {j:Nat} {o:Ob} (ho:s.obs[j]?=some o) (hj:j∈A0 s):(G8 s).obs[j]?=some (M8 (aX s.obs (A0 s)) o):=by
 show (aH s.obs (A0 s))[j]?=_;rw[dK,ho,Option.map_some,if_pos hj]
theorem jN {all:List Ob} {o:Ob} (h:o.1≠3):M8 all o=o:=by unfold M8;rw [if_neg (fun hc=>h hc.1)]
theorem lR {g:PgR} {s:McA} (h:C1 g s) (v:Val):eW (aX s.obs (A0 s)) v=true↔¬(v.1=2∧v.2.toNat∈A0 s):=by
 unfold eW;by_cases h2:v.1=2
 ·rw [if_pos h2,fW]
  by_cases hin:v.2.toNat∈A0 s
  ·obtain ⟨o,ho,hne⟩:=F6 h hin
   simp[ho,hin,hne,h2]
  ·cases ho:s.obs[v.2.toNat]? with
   | none=>simp [hin]
   | some o=>simp [hin]
 ·simp [h2]
theorem vE {all:List Ob} {o:Ob} (h3:o.1=3) (hn:o.2≠[]):(M8 all o).2.headD (0,0)=if eW all (o.2.headD (0,0))=true then (0,0) else o.2.headD (0,0):=by
 unfold M8;by_cases hl:eW all (o.2.headD (0,0))=true
 ·rw [if_pos ⟨h3,hl⟩,if_pos hl]
  cases h:o.2 with
  | nil=>exact absurd h hn
  | cons a l=>simp
 ·rw [if_neg (fun e=>hl e.2),if_neg hl]
theorem nQ {g:PgR} {s:McA} (h:C1 g s) {j:Nat} {o:Ob} (ho:s.obs[j]?=some o) (h3:o.1=3):o.2≠[]:=by
 rcases h.obs o (List.mem_of_getElem? ho) with ⟨e,_⟩ | ⟨e,_⟩ | ⟨e,_⟩ | ⟨_,u,e,_⟩
 ·omega
 ·omega
 ·omega
 ·rw [e];simp
theorem sN {g:PgR} {s:McA} (h:C1 g s) {j:Nat} {o:Ob} (ho:s.obs[j]?=some o) (h3:o.1=3) (h2:(o.2.headD (0,0)).1=2):0≤(o.2.headD (0,0)).2:=by
 have hn:=nQ h ho h3
 cases e:o.2 with
 | nil=>exact absurd e hn
 | cons a l =>
  rw[e] at h2;exact gZ h ho a (by rw [e];simp) h2
theorem jQ {g:PgR} {s:McA} (h:C1 g s):kY id (A0 s) s.obs (G8 s).obs:=fun j hj=>by
 obtain⟨o,ho,_⟩:=F6 h hj;refine⟨o,_,ho,dS ho hj,O6 _ _,fun h3=>?_⟩;rw[jN h3,dE (gZ h ho)]
theorem rJ (A:List Nat):gA id A:=fun _ _ _ _ e=>e
theorem aB {g:PgR} {s:McA} (h:C1 g s):A0 (G8 s)=A0 s:=by
 have e:E3 (G8 s).obs ((D5 s.frs).map (ren id))=(E3 s.obs (D5 s.frs)).map id:=cH h.alive (aI _ _) (rJ _) (jQ h);rw[dE (a6w h),List.map_id] at e;exact e
theorem iE {g:PgR} {s:McA} (h:C1 g s):Rel id s (G8 s):=by
 refine⟨rfl,rfl,aI _ _,(a6f h).symm,rJ _,jQ h,fun j o p hj ho hp h3=>?_⟩;rw[show (id j:Nat)=j from rfl,dS ho hj] at hp
 cases hp;rw[vE h3 (nQ h ho h3),aB h];by_cases hl:eW (aX s.obs (A0 s)) (o.2.headD (0,0))=true
 ·rw [if_pos hl]
  exact Or.inr ⟨(lR h _).1 hl,by simp⟩
 ·rw [if_neg hl]
  have:=Decidable.not_not.1 fun e=>hl ((lR h _).2 e)
  exact Or.inl ⟨this.1,this.2,(a2q _ fun h2=>sN h ho h3 h2).symm⟩
theorem tP {g:PgR} {s:McA} (h:C1 g s):Rel id (G8 s) s:=by
 have hal:=aB h;refine⟨rfl,rfl,(aI _ _).symm,(a6f (aL h)).symm,rJ _,fun j hj=>?_,fun j o p hj ho hp h3=>?_⟩
 ·rw [hal] at hj
  obtain⟨o,ho,_⟩:=F6 h hj;refine⟨_,o,dS ho hj,ho,(O6 _ _).symm,fun h3=>?_⟩;rw[O6] at h3;rw[jN h3,dE (gZ h ho)]
 ·rw [hal] at hj ⊢
  rw[show (id j:Nat)=j from rfl] at hp;rw[dS hp hj] at ho
  cases ho;rw[O6] at h3;rw[vE h3 (nQ h hp h3)];by_cases hl:eW (aX s.obs (A0 s)) (p.2.headD (0,0))=true
  ·rw [if_pos hl]
   exact Or.inr ⟨by simp,(lR h _).1 hl⟩
  ·rw [if_neg hl]
   have:=Decidable.not_not.1 fun e=>hl ((lR h _).2 e)
   exact Or.inl ⟨this.1,this.2,(a2q _ fun h2=>sN h hp h3 h2).symm⟩
theorem Rel.collectR {g:PgR} {r:Nat→Nat} {s t:McA} (h:Rel r s t) (hi:C1 g s) (hj:C1 g t):∃q,Rel q s (G8 t):=⟨_,h.trans (iE hj) hi hj⟩
def In (s:McA) (l:List Val):Prop:=∀v,v∈l→v.1=2→v.2.toNat∈A0 s
theorem In.app {s:McA} {l k:List Val} (h:In s l) (h':In s k):In s (l++k):=fun v hv h2=>by
 rcases List.mem_append.1 hv with hv | hv
 ·exact h v hv h2
 ·exact h' v hv h2
theorem In.left {s:McA} {l k:List Val} (h:In s (l++k)):In s l:=fun v hv=>h v (by simp [hv])
theorem In.right {s:McA} {l k:List Val} (h:In s (l++k)):In s k:=fun v hv=>h v (by simp [hv])
theorem In.one {s:McA} {v:Val} (h:v.1=2→v.2.toNat∈A0 s):In s [v]:=fun u hu=>by rw [List.mem_singleton] at hu;subst hu;exact h
theorem In.plain {s:McA} {v:Val} (h:v.1≠2):In s [v]:=In.one fun h2=>absurd h2 h
theorem In.nil {s:McA} : In s []:=fun v hv=>by simp at hv
theorem In.frs {g:PgR} {s:McA} (hi:C1 g s) {f:FrA} (hf:f∈s.frs):In s (f.loc++f.stk):=fun v hv h2=>hi.alive.roots v (N1.2 ⟨f,hf,hv⟩) h2
structure At (g:PgR) (r:Nat→Nat) (s t:McA) (fs:List FrA) (f:FrA) (rest args:List Val):Prop where
 rel:Rel r s t
 inv:C1 g s
 inv':C1 g t
 frs:s.frs=fs++[f]
 stk:f.stk=rest++args
theorem At.f_in {g:PgR} {r:Nat→Nat} {s t:McA} {fs:List FrA} {f:FrA} {rest args:List Val} (h:At g r s t fs f rest args):In s (f.loc++f.stk):=In.frs h.inv (by rw [h.frs];simp)
theorem At.loc {g:PgR} {r:Nat→Nat} {s t:McA} {fs:List FrA} {f:FrA} {rest args:List Val} (h:At g r s t fs f rest args):In s f.loc:=h.f_in.left
theorem At.rest {g:PgR} {r:Nat→Nat} {s t:McA} {fs:List FrA} {f:FrA} {rest args:List Val} (h:At g r s t fs f rest args):In s rest:=by
 have:=h.f_in.right;rw[h.stk] at this;exact this.left
theorem At.args {g:PgR} {r:Nat→Nat} {s t:McA} {fs:List FrA} {f:FrA} {rest args:List Val} (h:At g r s t fs f rest args):In s args:=by
 have:=h.f_in.right;rw[h.stk] at this;exact this.right
theorem At.ok {g:PgR} {r:Nat→Nat} {s t:McA} {fs:List FrA} {f:FrA} {rest args:List Val} (h:At g r s t fs f rest args) {v:Val} (hv:v∈args):VOk s.obs v:=h.inv.vals f (by rw [h.frs];simp) v (by rw [h.stk];simp [hv])
theorem At.put {g:PgR} {r:Nat→Nat} {s t:McA} {fs:List FrA} {f:FrA} {rest args:List Val} (h:At g r s t fs f rest args) (st:Int) (out:List Int) (fl:List FrA) (hin:∀x,x∈fl→x∈fs∨In s (x.loc++x.stk)) (d d':List Int) :
  Rel r ⟨st,out,fl,s.obs,d⟩ ⟨st,out,fl.map (F5 r),t.obs,d'⟩ :=
 h.rel.go h.inv rfl rfl rfl rfl rfl fun v hv h2=>by
  obtain⟨x,hx,hv⟩:=N1.1 hv;rcases hin x hx with hx | hx
  ·exact In.frs h.inv (by rw [h.frs];simp [hx]) v hv h2
  ·exact hx v hv h2
theorem At.goA {g:PgR} {r:Nat→Nat} {s t:McA} {fs:List FrA} {f:FrA} {rest args:List Val} (h:At g r s t fs f rest args) (pc:Nat) (l:List Val) (hl:In s l) :
  Rel r (goA s fs f pc l) (goA t (fs.map (F5 r)) (F5 r f) pc (l.map (ren r))):=by
 have:=h.put 0 s.out (fs++[⟨f.fn,pc,f.loc,l⟩]) (fun x hx=>by
  rcases List.mem_append.1 hx with hx | hx
  ·exact Or.inl hx
  ·rw [List.mem_singleton] at hx;subst hx;exact Or.inr (h.loc.app hl)) s.dr t.dr
 unfold Go.Proofs.YtbkmgoffiigdbabGreatDoor.goA;rw[h.rel.out];rw[List.map_append] at this;exact this
theorem At.goE {g:PgR} {r:Nat→Nat} {s t:McA} {fs:List FrA} {f:FrA} {rest args:List Val} (h:At g r s t fs f rest args) (pc:Nat) (l l':List Val) (hl:In s l) (hl':l'=l.map (ren r)) :
  ∃q,Rel q (Go.Proofs.YtbkmgoffiigdbabGreatDoor.goA s fs f pc l) (Go.Proofs.YtbkmgoffiigdbabGreatDoor.goA t (fs.map (F5 r)) (F5 r f) pc l'):=⟨r,by rw [hl'];exact h.goA pc l hl⟩
theorem At.trap {g:PgR} {r:Nat→Nat} {s t:McA} {fs:List FrA} {f:FrA} {rest args:List Val} (h:At g r s t fs f rest args) (st:Int):∃q,Rel q (F4 s st) (F4 t st) :=
 ⟨r,h.rel.go h.inv rfl rfl rfl h.rel.out h.rel.frs fun v hv h2=>h.inv.alive.roots v hv h2⟩
theorem mB (r:Nat→Nat) (z:Int):ren r (1,z)=(1,z):=E0 (show (1:Int)≠2 by decide)
theorem dZ (r:Nat→Nat):ren r (0,0)=(0,0):=E0 Q7
theorem a7c {g:PgR} {r:Nat→Nat} {s t:McA} (h:Rel r s t) {x y:Val} (hx:VOk s.obs x) (hy:VOk s.obs y) (ix:x.1=2→x.2.toNat∈A0 s) (iy:y.1=2→y.2.toNat∈A0 s) (_:C1 g s) :
  ((ren r x).1 == (ren r y).1 && (ren r x).2 == (ren r y).2)=(x.1 == y.1 && x.2 == y.2):=by
 rw[K0,K0];by_cases e:x.1=y.1
 ·by_cases h2:x.1=2
  ·have h2':y.1=2:=by rw [← e];exact h2
   have n1:=(hx.ref h2).1;have n2:=(hy.ref h2').1;unfold ren;rw[if_pos h2,if_pos h2',e];congr 1
   rw[Bool.eq_iff_iff,beq_iff_eq,beq_iff_eq];constructor
   ·intro q
    have:=h.inj _ _ (ix h2) (iy h2') (by have:((r x.2.toNat:Nat):Int)=((r y.2.toNat:Nat):Int):=q;omega);omega
   ·intro q
    rw[q]
  ·rw [E0 h2,E0 (by rw [← e];exact h2)]
 ·have e':(x.1 == y.1)=false:=by simpa using e
  rw[e',Bool.false_and,Bool.false_and]
theorem aV {g:PgR} {r:Nat→Nat} {s t:McA} (h:Rel r s t) (_hi:C1 g s) {v:Val} (hv:v.1=2→v.2.toNat∈A0 s) :
  (A4 t.obs (ren r v)).1=(A4 s.obs v).1∧((A4 s.obs v).1≠3→(A4 t.obs (ren r v)).2=(A4 s.obs v).2.map (ren r))∧(v.1=2→s.obs[v.2.toNat]?=some (A4 s.obs v)∧t.obs[r v.2.toNat]?=some (A4 t.obs (ren r v))):=by
 by_cases h2:v.1=2
 ·obtain ⟨o,p,ho,hp,hk,hf⟩:=h.moved _ (hv h2)
  have e1:A4 s.obs v=o:=by
   unfold A4;rw[if_pos h2,List.getD,ho];rfl
  have e2:A4 t.obs (ren r v)=p:=by
   unfold A4;rw[if_pos (by rw [K0];exact h2),bX h2,List.getD,hp];rfl
  rw[e1,e2];exact⟨hk,hf,fun _=>⟨ho,hp⟩⟩
 ·have e1:A4 s.obs v=(0,[]):=by unfold A4;rw [if_neg h2]
  have e2:A4 t.obs (ren r v)=(0,[]):=by unfold A4;rw [if_neg (by rw [K0];exact h2)]
  rw[e1,e2];exact⟨rfl,fun _=>rfl,fun e=>absurd e h2⟩
theorem sI {o p:Ob} {kind:Int} (hk3:kind≠3) {ix ix':Val} {r:Nat→Nat} (h1:p.1=o.1) (h2:o.1≠3→p.2=o.2.map (ren r)) (hi1:ix'.1=ix.1) (hi2:ix.1=1→ix'.2=ix.2):J7 p kind ix'=J7 o kind ix:=by
 unfold J7;rw[h1,hi1];by_cases hc:o.1≠kind∨ix.1≠1
 ·rw [if_pos hc,if_pos hc]
 ·rw [if_neg hc,if_neg hc]
  have e1:o.1=kind:=Decidable.not_not.1 fun e=>hc (Or.inl e)
  have e2:ix.1=1:=Decidable.not_not.1 fun e=>hc (Or.inr e)
  rw[h2 (by rw [e1];exact hk3),hi2 e2,List.length_map]
theorem zJ {r:Nat→Nat} (l:List Val) (i:Nat):(l.map (ren r)).getD i (0,0)=ren r (l.getD i (0,0)):=by
 rw[List.getD_eq_getElem?_getD,List.getD_eq_getElem?_getD,List.getElem?_map]
 cases l[i]? with
 | none=>exact (dZ r).symm
 | some x=>rfl
theorem a6e {g:PgR} {s:McA} (hi:C1 g s) {v:Val} (hv:v.1=2→v.2.toNat∈A0 s) (h3:(A4 s.obs v).1≠3) (i:Nat):((A4 s.obs v).2.getD i (0,0)).1=2→((A4 s.obs v).2.getD i (0,0)).2.toNat∈A0 s:=fun h2=>by
 by_cases hr:v.1=2
 ·have hj:=hv hr
  obtain⟨o,ho,_⟩:=F6 hi hj;have e1:A4 s.obs v=o:=by unfold A4;rw [if_pos hr,List.getD,ho];rfl
  rw[e1] at h2 h3 ⊢;rw[List.getD_eq_getElem?_getD] at h2 ⊢
  cases hx:o.2[i]? with
  | none=>rw [hx] at h2;simp at h2
  | some x =>
   rw[hx] at h2;exact hi.alive.shut _ hj o ho h3 x (List.mem_of_getElem? hx) h2
 ·have e1:A4 s.obs v=(0,[]):=by unfold A4;rw [if_neg hr]
  rw[e1] at h2;simp at h2
theorem At.get {g:PgR} {r:Nat→Nat} {s t:McA} {fs:List FrA} {f:FrA} {rest args:List Val} (h:At g r s t fs f rest args) {v ix ix':Val} (hv:v∈args) (kind:Int) (hk3:kind≠3) (hi1:ix'.1=ix.1) (hi2:ix.1=1→ix'.2=ix.2) :
  ∃q,Rel q (eS s fs f rest v kind ix) (eS t (fs.map (F5 r)) (F5 r f) (rest.map (ren r)) (ren r v) kind ix'):=by
 have hva:=h.args v hv;obtain⟨e1,e2,_⟩:=aV h.rel h.inv hva;have hT:=sI hk3 e1 e2 hi1 hi2;unfold eS;rw[hT];by_cases h0:J7 (A4 s.obs v) kind ix=0
 ·rw [if_pos h0,if_pos h0]
  obtain⟨q1,q2,_⟩:=fC h0;have h3:(A4 s.obs v).1≠3:=by rw [q1];exact hk3
  refine h.goE _ _ _ (h.rest.app (In.one (a6e h.inv hva h3 _))) ?_;rw[e2 h3,hi2 q2,zJ,List.map_append];rfl
 ·rw [if_neg h0,if_neg h0]
  exact h.trap _
theorem a2C {g:PgR} {r:Nat→Nat} {s t:McA} (h:Rel r s t) (hi:C1 g s) {v:Val} (hv:v.1=2→v.2.toNat∈A0 s) (h3:(A4 s.obs v).1=3) :
  aW t ((A4 t.obs (ren r v)).2.headD (0,0))=ren r (aW s ((A4 s.obs v).2.headD (0,0))):=by
 have hr:v.1=2:=Decidable.not_not.1 fun e=>by
  have e1:A4 s.obs v=(0,[]):=by unfold A4;rw [if_neg e]
  rw[e1] at h3;simp at h3
 obtain⟨e1,e2,e3⟩:=aV h hi hv;obtain⟨ho,hp⟩:=e3 hr;unfold aW;rcases h.weak _ _ _ (hv hr) ho hp h3 with ⟨a1,a2,a3⟩ | ⟨a1,a2⟩
 ·rw [if_pos ⟨by rw [a3,K0];exact a1,by rw [a3,bX a1,h.alive hi];exact List.mem_map.2 ⟨_,a2,rfl⟩⟩,if_pos ⟨a1,a2⟩]
  exact a3
 ·rw [if_neg a2,if_neg a1]
  exact (dZ r).symm
theorem a5h {s:McA} (v:Val):In s [aW s v]:=In.one fun h2=>by
 unfold aW at h2 ⊢;split
 ·rename_i h;exact h.2
 ·rename_i h;rw [if_neg h] at h2;simp at h2
theorem At.set {g:PgR} {r:Nat→Nat} {s t:McA} {fs:List FrA} {f:FrA} {rest args:List Val} (h:At g r s t fs f rest args) {v ix ix' y:Val} (hv:v∈args) (hy:y∈args) (kind:Int) (hk3:kind≠3) (hi1:ix'.1=ix.1) (hi2:ix.1=1→ix'.2=ix.2)
  (hinv:∀st,st=dN s fs f rest v kind ix y→C1 g st) :
  ∃q,Rel q (dN s fs f rest v kind ix y) (dN t (fs.map (F5 r)) (F5 r f) (rest.map (ren r)) (ren r v) kind ix' (ren r y)):=by
 have hva:=h.args v hv;obtain⟨e1,e2,e3⟩:=aV h.rel h.inv hva;have hT:=sI hk3 e1 e2 hi1 hi2;have hI:=hinv _ rfl;unfold dN at hI ⊢;rw[hT];by_cases h0:J7 (A4 s.obs v) kind ix=0
 ·rw [if_pos h0] at hI
  rw[if_pos h0,if_pos h0];obtain⟨q1,q2,_,_⟩:=fC h0;have h3:(A4 s.obs v).1≠3:=by rw [q1];exact hk3
  have hr:v.1=2:=Decidable.not_not.1 fun e=>by
   have e4:A4 s.obs v=(0,[]):=by unfold A4;rw [if_neg e]
   obtain⟨_,_,_,q5⟩:=fC h0;rw[e4] at q5;simp at q5
  obtain⟨ho,hp⟩:=e3 hr;have hva':=hva hr;rw[e1,e2 h3,hi2 q2,bX hr];generalize hO:A4 s.obs v=o at *
  generalize hj:v.2.toNat=j at *
  generalize ix.2.toNat=i at *
  obtain⟨s',hs'⟩:∃s':McA,s'=⟨0,s.out,fs++[⟨f.fn,f.pc+1,f.loc,rest⟩],s.obs.set j (o.1,o.2.set i y),s.dr⟩:=⟨_,rfl⟩
  rw[← hs'] at hI ⊢;have hjl:j < s.obs.length:=(List.getElem?_eq_some_iff.1 ho).1;have hobs:s'.obs=s.obs.set j (o.1,o.2.set i y):=by rw [hs']
  have hget:∀k,k≠j→s'.obs[k]?=s.obs[k]?:=fun k hk=>by rw [hobs,List.getElem?_set_ne (Ne.symm hk)]
  have hgetj:s'.obs[j]?=some (o.1,o.2.set i y):=by rw [hobs,List.getElem?_set_self hjl]
  -- what is alive now was alive
  have hvals:∀u,u∈D5 s'.frs→u.1=2→u.2.toNat∈A0 s:=fun u hu h2=>by
   rw[hs'] at hu;obtain⟨x,hx,hu⟩:=N1.1 hu;rcases List.mem_append.1 hx with hx | hx
   ·exact In.frs h.inv (by rw [h.frs];simp [hx]) u hu h2
   ·rw [List.mem_singleton] at hx;subst hx;exact (h.loc.app h.rest) u hu h2
  have hsub:∀k,k∈A0 s'→k∈A0 s:=fun k hk=>by
   have hl:cV s'.obs (D5 s'.frs) k:=Z4 k hk;clear hk
   induction hl with
   | root u hu h2=>exact hvals u hu h2
   | field m p u hm hp' h3' hu h2 ih =>
    by_cases e:m=j
    ·subst e
     rw[hgetj] at hp'
     cases hp';rcases List.mem_or_eq_of_mem_set hu with hu | hu
     ·exact h.inv.alive.shut _ ih o ho h3' u hu h2
     ·subst hu;exact h.args _ hy h2
    ·rw [hget m e] at hp'
     exact h.inv.alive.shut m ih p hp' h3' u hu h2
  have hinj:gA r (A0 s'):=fun a b h1 h2=>h.rel.inj a b (hsub a h1) (hsub b h2)
  have hne:∀k,k∈A0 s→k≠j→r k≠r j:=fun k hk hkj e=>hkj (h.rel.inj k j hk hva' e)
  have hrl:r j < t.obs.length:=(List.getElem?_eq_some_iff.1 hp).1;have hmv:kY r (A0 s') s'.obs (t.obs.set (r j) (o.1,(o.2.map (ren r)).set i (ren r y))):=fun k hk=>by
   by_cases e:k=j
   ·subst e
    refine⟨(o.1,o.2.set i y),(o.1,(o.2.map (ren r)).set i (ren r y)),hgetj,by rw [List.getElem?_set_self hrl],rfl,fun _=>?_⟩;show (o.2.map (ren r)).set i (ren r y)=(o.2.set i y).map (ren r);rw[List.map_set]
   ·obtain ⟨a,b,ha,hb,hk',hf'⟩:=h.rel.moved k (hsub k hk)
    exact⟨a,b,by rw [hget k e];exact ha,by rw [List.getElem?_set_ne (Ne.symm (hne k (hsub k hk) e))];exact hb,hk',hf'⟩
  obtain⟨t',ht'⟩:∃t':McA,t'=⟨0,t.out,fs.map (F5 r)++[⟨(F5 r f).fn,(F5 r f).pc+1,(F5 r f).loc,rest.map (ren r)⟩],t.obs.set (r j) (o.1,(o.2.map (ren r)).set i (ren r y)),t.dr⟩:=⟨_,rfl⟩
  rw[← ht'];have hfr:t'.frs=s'.frs.map (F5 r):=by rw [ht',hs',List.map_append];rfl
  have hcap:t'.obs.length=s'.obs.length:=by rw [ht',hs'];show (t.obs.set _ _).length=(s.obs.set _ _).length;rw [List.length_set,List.length_set];exact h.rel.cap
  have hal:A0 t'=(A0 s').map r:=by
   unfold A0;rw[hfr,cK];refine cH hI.alive hcap hinj ?_;rw[ht'];exact hmv
  have hal0:=h.rel.alive h.inv;refine⟨r,by rw [ht',hs'],by rw [ht',hs'];exact h.rel.out,hcap,hfr,hinj,by rw [ht'];exact hmv,fun k a b hk ha hb h3'=>?_⟩;have hkj:k≠j:=by
   rintro rfl;rw[hgetj] at ha
   cases ha;exact h3 h3'
  rw[hget k hkj] at ha;rw[ht'] at hb;have hb':t.obs[r k]?=some b:=by
   rw[show (t.obs.set (r j) (o.1,(o.2.map (ren r)).set i (ren r y)))[r k]?=t.obs[r k]? from List.getElem?_set_ne (Ne.symm (hne k (hsub k hk) hkj))] at hb;exact hb
  rcases h.rel.weak k a b (hsub k hk) ha hb' h3' with ⟨a1,a2,a3⟩ | ⟨a1,a2⟩
  ·by_cases hin:(a.2.headD (0,0)).2.toNat∈A0 s'
   ·exact Or.inl ⟨a1,hin,a3⟩
   ·refine Or.inr ⟨fun e=>hin e.2,fun e=>hin ?_⟩
    rw[a3,bX a1,hal] at e;exact (dW h.rel.inj hsub a2).1 e.2
  ·refine Or.inr ⟨fun e=>a1 ⟨e.1,hsub _ e.2⟩,fun e=>a2 ⟨e.1,?_⟩⟩
   rw[hal] at e;rw[hal0];obtain⟨m,hm,e'⟩:=List.mem_map.1 e.2;exact List.mem_map.2 ⟨m,hsub m hm,e'⟩
 ·rw [if_neg h0,if_neg h0]
  exact h.trap _
theorem a5I {g:PgR} {s:McA} (h:C1 g s):(A0 s).length≤K8 s.obs:=by
 rw[fY];refine eZ h.alive.nodup fun j hj=>?_
 obtain⟨o,ho,hne⟩:=F6 h hj;rw[List.mem_filter,List.mem_range];exact⟨(List.getElem?_eq_some_iff.1 ho).1,by rw [ho];simp [hne]⟩
theorem a5j (obs:List Ob):K8 obs≤obs.length:=List.length_filter_le _ _
theorem zI {g:PgR} {s:McA} (h:C1 g s):K8 (G3 s).obs=(G3 s).obs.length↔(A0 s).length=s.obs.length:=by
 unfold G3;have h1:=a5I h;have h2:=a5j s.obs;split
 ·rename_i e
  rw[tV h];show _=(aH _ _).length↔_;rw[aI]
 ·rename_i e
  constructor
  ·intro q;exact absurd q e
  ·intro q;exact absurd Q8 e
theorem a2u {g:PgR} {s:McA} (h:C1 g s):A0 (G3 s)=A0 s:=by
 unfold G3;split
 ·exact aB h
 ·rfl
theorem Rel.room {g:PgR} {r:Nat→Nat} {s t:McA} (h:Rel r s t) (hi:C1 g s) (hj:C1 g t):Rel r (G3 s) (G3 t):=by
 have hR:Rel r s (G8 t):=h.trans (iE hj) hi hj;have hL:Rel r (G8 s) t:=(tP hi).trans h (aL hi) hi;have hB:Rel r (G8 s) (G8 t):=hL.trans (iE hj) (aL hi) hj;unfold G3;split
 ·split
  ·exact hB
  ·exact hL
 ·split
  ·exact hR
  ·exact h
theorem a0P {g:PgR} {s:McA} (h:C1 g s) {j:Nat} {o:Ob} (ho:s.obs[j]?=some o) (h3:o.1=3):VOk s.obs (o.2.headD (0,0)):=by
 rcases h.obs o (List.mem_of_getElem? ho) with ⟨e,_⟩ | ⟨e,_⟩ | ⟨e,_⟩ | ⟨_,u,e,hu,_⟩
 ·omega
 ·omega
 ·omega
 ·rw [e];exact hu
theorem At.new {g:PgR} {r:Nat→Nat} {s t:McA} {fs:List FrA} {f:FrA} {rest args:List Val} (h:At g r s t fs f rest args) (kind:Int) (fl fl':List Val)
  (hfl:(kind≠3∧(∀v,v∈fl→v.1≠2)∧fl'=fl)∨(kind=3∧∃x,x∈args∧x.1=2∧fl=[x]∧fl'=[ren r x])) (hI:C1 g (R6 s fs f rest kind fl)) :
  ∃q,Rel q (R6 s fs f rest kind fl) (R6 t (fs.map (F5 r)) (F5 r f) (rest.map (ren r)) kind fl'):=by
 have hrm:=h.rel.room h.inv h.inv';have hi1:=lO h.inv;have hj1:=lO h.inv';have hfull:K8 (G3 t).obs=(G3 t).obs.length↔K8 (G3 s).obs=(G3 s).obs.length:=by
  rw[zI h.inv,zI h.inv',h.rel.len h.inv,h.rel.cap]
 have hal1:=a2u h.inv;unfold R6 at hI ⊢;by_cases hF:K8 (G3 s).obs=(G3 s).obs.length
 ·rw [if_pos hF,if_pos (hfull.2 hF)]
  exact⟨r,hrm.go hi1 rfl rfl rfl hrm.out hrm.frs fun v hv h2=>hi1.alive.roots v hv h2⟩
 ·rw [if_neg hF] at hI
  rw[if_neg hF,if_neg (fun e=>hF (hfull.1 e))];obtain⟨⟨j,d⟩,hj⟩:=bN (dr:=s.dr) (show 0 < (G3 s).obs.length by have:=hi1.cap;omega) hF;obtain⟨⟨k,d'⟩,hk⟩:=bN (dr:=t.dr) (show 0 < (G3 t).obs.length by have:=hj1.cap;omega) (fun e=>hF (hfull.1 e));rw[hj] at hI;rw[hj,hk];simp only at hI ⊢;obtain⟨⟨x,hx,hx0⟩,_⟩:=bM hj;obtain⟨⟨y,hy,hy0⟩,_⟩:=bM hk;have hs1:(G3 s).frs=s.frs:=nJ s
  generalize G3 s=s1 at *
  generalize G3 t=t1 at *
  simp only at hx hy;have hjl:j < s1.obs.length:=(List.getElem?_eq_some_iff.1 hx).1;have hkl:k < t1.obs.length:=(List.getElem?_eq_some_iff.1 hy).1;have hjn:j∉A0 s1:=fun e=>by
   obtain⟨o,ho,hne⟩:=F6 hi1 e;rw[hx] at ho;cases ho;exact hne hx0
  have hkn:k∉A0 t1:=fun e=>by
   obtain⟨o,ho,hne⟩:=F6 hj1 e;rw[hy] at ho;cases ho;exact hne hy0
  have halt:=hrm.alive hi1;have hrk:∀i,i∈A0 s1→r i≠k:=fun i hi e=>hkn (by rw [halt];exact List.mem_map.2 ⟨i,hi,e⟩)
  obtain⟨r',hr'⟩:∃r':Nat→Nat,r'=fun z=>if z=j then k else r z:=⟨_,rfl⟩
  have rj:r' j=k:=by rw [hr'];simp
  have ro:∀i,i∈A0 s1→r' i=r i:=fun i hi=>by
   have hij:i≠j:=fun e=>hjn (by rw [← e];exact hi)
   rw[hr'];show (if i=j then k else r i)=r i;rw[if_neg hij]
  have rv:∀v:Val,(v.1=2→v.2.toNat∈A0 s1)→ren r' v=ren r v:=fun v hv=>by
   by_cases h2:v.1=2
   ·unfold ren;rw [if_pos h2,if_pos h2,ro _ (hv h2)]
   ·rw [E0 h2,E0 h2]
  have rl:∀l:List Val,(∀v,v∈l→v.1=2→v.2.toNat∈A0 s1)→l.map (ren r')=l.map (ren r):=fun l hl=>List.map_congr_left fun v hv=>rv v (hl v hv)
  have inj1:∀a b,(a∈A0 s1∨a=j)→(b∈A0 s1∨b=j)→r' a=r' b→a=b:=fun a b ha hb e=>by
   rcases ha with ha | rfl
   ·rcases hb with hb | rfl
    ·rw [ro a ha,ro b hb] at e;exact hrm.inj a b ha hb e
    ·rw [ro a ha,rj] at e;exact absurd e (hrk a ha)
   ·rcases hb with hb | rfl
    ·rw [ro b hb,rj] at e;exact absurd e.symm (hrk b hb)
    ·rfl
  have inl:∀l:List Val,In s l→∀v,v∈l→v.1=2→v.2.toNat∈A0 s1:=fun l hl v hv h2=>by rw [hal1];exact hl v hv h2
  obtain⟨s2,hs2⟩:∃s2:McA,s2=⟨0,s.out,fs++[⟨f.fn,f.pc+1,f.loc,rest++[(2,(j:Int))]⟩],s1.obs.set j (kind,fl),d⟩:=⟨_,rfl⟩
  rw[← hs2] at hI ⊢;have hgj:s2.obs[j]?=some (kind,fl):=by rw [hs2];exact List.getElem?_set_self hjl
  have hg:∀i,i≠j→s2.obs[i]?=s1.obs[i]?:=fun i hi=>by rw [hs2];exact List.getElem?_set_ne (Ne.symm hi)
  have hsub:∀i,i∈A0 s2→i∈A0 s1∨i=j:=fun i hi=>by
   have hl:cV s2.obs (D5 s2.frs) i:=Z4 i hi;clear hi
   induction hl with
   | root u hu h2 =>
    rw[hs2] at hu;obtain⟨z,hz,hu⟩:=N1.1 hu;rcases List.mem_append.1 hz with hz | hz
    ·exact Or.inl (inl _ (In.frs h.inv (by rw [h.frs];simp [hz])) u hu h2)
    ·rw [List.mem_singleton] at hz
     subst hz;rcases List.mem_append.1 hu with hu | hu
     ·exact Or.inl (inl _ h.loc u hu h2)
     ·rcases List.mem_append.1 hu with hu | hu
      ·exact Or.inl (inl _ h.rest u hu h2)
      ·rw [List.mem_singleton] at hu;subst hu;exact Or.inr Q9
   | field m p u hm hp h3 hu h2 ih =>
    rcases ih with ih | rfl
    ·rw [hg m (fun e=>hjn (e▸ih))] at hp
     exact Or.inl (hi1.alive.shut m ih p hp h3 u hu h2)
    ·rw [hgj] at hp
     cases hp;rcases hfl with ⟨_,q,_⟩ | ⟨q,_⟩
     ·exact absurd h2 (q u hu)
     ·exact absurd q h3
  have hinj:gA r' (A0 s2):=fun a b ha hb=>inj1 a b (hsub a ha) (hsub b hb)
  obtain⟨t2,ht2⟩:∃t2:McA,t2=⟨0,t.out,fs.map (F5 r)++[⟨(F5 r f).fn,(F5 r f).pc+1,(F5 r f).loc,rest.map (ren r)++[(2,(k:Int))]⟩],t1.obs.set k (kind,fl'),d'⟩:=⟨_,rfl⟩
  rw[← ht2];have hgk:t2.obs[k]?=some (kind,fl'):=by rw [ht2];exact List.getElem?_set_self hkl
  have hgt:∀i,i≠k→t2.obs[i]?=t1.obs[i]?:=fun i hi=>by rw [ht2];exact List.getElem?_set_ne (Ne.symm hi)
  have hfr:t2.frs=s2.frs.map (F5 r'):=by
   rw[ht2,hs2,List.map_append];show fs.map (F5 r)++[_]=fs.map (F5 r')++[F5 r' _];have e1:fs.map (F5 r')=fs.map (F5 r):=List.map_congr_left fun z hz=>by
    have hz':=inl _ (In.frs h.inv (f:=z) (by rw [h.frs];simp [hz]));unfold F5;rw[rl z.loc fun v hv=>hz' v (by simp [hv]),rl z.stk fun v hv=>hz' v (by simp [hv])]
   rw[e1];congr 1
   unfold F5;simp only[List.map_append,List.map_cons,List.map_nil];rw[rl f.loc (inl _ h.loc),rl rest (inl _ h.rest)];have:ren r' (2,(j:Int))=(2,(k:Int)):=by unfold ren;rw [if_pos rfl];show (2,((r' (j:Int).toNat:Nat):Int))=_;rw [Int.toNat_natCast,rj]
   rw[this]
  have hcap:t2.obs.length=s2.obs.length:=by rw [ht2,hs2];show (t1.obs.set _ _).length=(s1.obs.set _ _).length;rw [List.length_set,List.length_set];exact hrm.cap
  have hmv:kY r' (A0 s2) s2.obs t2.obs:=fun i hi=>by
   rcases hsub i hi with hi1' | rfl
   ·have hij:i≠j:=fun e=>hjn (e▸hi1')
    obtain⟨o,p,ho,hp,hk',hf'⟩:=hrm.moved i hi1';refine⟨o,p,by rw [hg i hij];exact ho,by rw [ro i hi1',hgt _ (hrk i hi1')];exact hp,hk',fun h3=>?_⟩;rw[hf' h3];exact (rl o.2 (hi1.alive.shut i hi1' o ho h3)).symm
   ·refine ⟨(kind,fl),(kind,fl'),hgj,by rw [rj];exact hgk,rfl,fun h3=>?_⟩
    rcases hfl with ⟨_,q,e⟩ | ⟨q,_⟩
    ·show fl'=fl.map (ren r')
     rw[e]
     conv=>lhs;rw [← List.map_id fl]
     exact List.map_congr_left fun v hv=>(E0 (q v hv)).symm
    ·exact absurd q h3
  have hal:A0 t2=(A0 s2).map r':=by
   unfold A0;rw[hfr,cK];exact cH hI.alive hcap hinj hmv
  have hdead:∀v:Val,v.1=2→v.2.toNat∈A0 s1→vN r' (A0 s2) (A0 t2) v (ren r v):=fun v h2 hin=>by
   by_cases hin2:v.2.toNat∈A0 s2
   ·exact Or.inl ⟨h2,hin2,(rv v fun _=>hin).symm⟩
   ·refine Or.inr ⟨fun e=>hin2 e.2,fun e=>hin2 ?_⟩
    have e2:=e.2;rw[bX h2,hal] at e2;obtain⟨m,hm,e'⟩:=List.mem_map.1 e2;rw[← ro _ hin] at e';rw[← inj1 m _ (hsub m hm) (Or.inl hin) e'];exact hm
  refine⟨r',by rw [ht2,hs2],by rw [ht2,hs2];exact h.rel.out,hcap,hfr,hinj,hmv,fun i o p hi ho hp h3=>?_⟩;rcases hsub i hi with hi1' | rfl
  ·have hij:i≠j:=fun e=>hjn (e▸hi1')
   rw[hg i hij] at ho;rw[ro i hi1',hgt _ (hrk i hi1')] at hp;rcases hrm.weak i o p hi1' ho hp h3 with ⟨a1,a2,a3⟩ | ⟨a1,a2⟩
   ·rw [a3];exact hdead _ a1 a2
   ·have ov:=a0P hi1 ho h3
    have hp3:p.1=3:=by
     obtain⟨o',p',ho',hp',hk',_⟩:=hrm.moved i hi1';rw[ho] at ho';cases ho';rw[hp] at hp';cases hp';rw[hk'];exact h3
    have pv:=a0P hj1 hp hp3;refine Or.inr ⟨fun e=>?_,fun e=>?_⟩
    ·rcases hsub _ e.2 with q | q
     ·exact a1 ⟨e.1,q⟩
     ·obtain ⟨_,z,hz,hzn⟩:=ov.ref e.1
      rw[q,hx] at hz;cases hz;exact hzn hx0
    ·have e2:=e.2
     rw[hal] at e2;obtain⟨m,hm,e'⟩:=List.mem_map.1 e2;rcases hsub m hm with q | q
     ·rw [ro m q] at e'
      exact a2 ⟨e.1,by rw [← e',halt];exact List.mem_map.2 ⟨m,q,rfl⟩⟩
     ·subst q
      rw[rj] at e';obtain⟨_,z,hz,hzn⟩:=pv.ref e.1;rw[← e',hy] at hz;cases hz;exact hzn hy0
  ·rw [hgj] at ho
   rw[rj,hgk] at hp
   cases ho
   cases hp;rcases hfl with ⟨q,_⟩ | ⟨_,z,hz,hz2,e1,e2⟩
   ·exact absurd h3 q
   ·rw [e1,e2]
    exact hdead z hz2 (inl _ h.args z hz hz2)
section
theorem In.getD {s:McA} {l:List Val} (h:In s l) (i:Nat):In s [l.getD i (0,0)]:=In.one fun h2=>by
 rw[List.getD_eq_getElem?_getD] at h2 ⊢
 cases hx:l[i]? with
 | none=>rw [hx] at h2;simp at h2
 | some x=>rw [hx] at h2;exact h x (List.mem_of_getElem? hx) h2
theorem In.set {s:McA} {l:List Val} (h:In s l) (i:Nat) {x:Val} (hx:x.1=2→x.2.toNat∈A0 s):In s (l.set i x):=fun v hv h2=>by
 rcases List.mem_or_eq_of_mem_set hv with hv | rfl
 ·exact h v hv h2
 ·exact hx h2
theorem In.nils {s:McA} (n:Nat):In s (List.replicate n (0,0)):=fun v hv h2=>by
 rw[(List.mem_replicate.1 hv).2] at h2;simp at h2
theorem rV (n:Nat):∀v,v∈List.replicate n ((0,0):Val)→v.1≠2:=fun v hv=>by rw [(List.mem_replicate.1 hv).2];show (0:Int)≠2;decide
section
variable {g:PgR} {r:Nat→Nat} {s t:McA} {fs:List FrA} {f:FrA} {rest args:List Val}
theorem At.reckon {x y:Val} (h:At g r s t fs f rest args) (z:Val→Val→Int):∃q,Rel q (L8 s fs f rest x y (z x y)) (L8 t (fs.map (F5 r)) (F5 r f) (rest.map (ren r)) (ren r x) (ren r y) (z (ren r x) (ren r y))):=by
 unfold L8;rw[K0,K0];by_cases hc:x.1=1∧y.1=1
 ·have e1:ren r x=x:=E0 Q8
  have e2:ren r y=y:=E0 Q8;rw[if_pos hc,if_pos hc,e1,e2];exact h.goE _ _ _ (h.rest.app (In.plain (show (1:Int)≠2 by decide))) (by rw [List.map_append];simp [mB])
 ·rw [if_neg hc,if_neg hc]
  exact h.trap _
theorem At.call (h:At g r s t fs f rest args) (a:Int) (l:List Val) (hl:In s l):∃q,Rel q (bD g a s fs f rest l) (bD g a t (fs.map (F5 r)) (F5 r f) (rest.map (ren r)) (l.map (ren r))):=by
 unfold bD;rw[List.length_map,List.length_map];by_cases hc:12≤fs.length+1
 ·rw [if_pos hc,if_pos hc];exact h.trap _
 ·rw [if_neg hc,if_neg hc]
  have:=h.put 0 s.out (fs++[⟨f.fn,f.pc,f.loc,rest⟩]++[⟨a.toNat,0,l++List.replicate ((g.f a.toNat).l.toNat - l.length) (0,0),[]⟩]) (fun x hx=>by
   rcases List.mem_append.1 hx with hx | hx
   ·rcases List.mem_append.1 hx with hx | hx
    ·exact Or.inl hx
    ·rw [List.mem_singleton] at hx;subst hx;exact Or.inr (h.loc.app h.rest)
   ·rw [List.mem_singleton] at hx;subst hx;exact Or.inr ((hl.app (In.nils _)).app In.nil)) s.dr t.dr
  rw[h.rel.out];refine⟨r,?_⟩;have e:(List.replicate ((g.f a.toNat).l.toNat - l.length) ((0,0):Val)).map (ren r)=List.replicate ((g.f a.toNat).l.toNat - l.length) (0,0):=by rw [List.map_replicate,dZ]
  simp only[List.map_append,List.map_cons,List.map_nil,F5,e] at this ⊢;exact this
theorem At.return (h:At g r s t fs f rest args) {x:Val} (hx:x∈args):∃q,Rel q (E5 s fs x) (E5 t (fs.map (F5 r)) (ren r x)):=by
 unfold E5;rw[List.getLast?_map]
 cases hc:fs.getLast? with
 | none =>
  have:=h.put 1 s.out [] (fun x hx=>by simp at hx) s.dr t.dr;simp only[Option.map_none];rw[h.rel.out];exact⟨r,this⟩
 | some c =>
  have hcm:c∈fs:=List.mem_of_getLast? hc;have hin:=In.frs h.inv (f:=c) (by rw [h.frs];simp [hcm]);simp only[Option.map_some];have:=h.put 0 s.out (fs.dropLast++[⟨c.fn,c.pc+1,c.loc,c.stk++[x]⟩]) (fun y hy=>by
   rcases List.mem_append.1 hy with hy | hy
   ·exact Or.inl (List.dropLast_subset fs hy)
   ·rw [List.mem_singleton] at hy;subst hy;exact Or.inr (hin.left.app (hin.right.app (In.one (h.args x hx))))) s.dr t.dr
  unfold Go.Proofs.YtbkmgoffiigdbabGreatDoor.goA;rw[h.rel.out];refine⟨r,?_⟩;rw[← List.map_dropLast];simp only[List.map_append,List.map_cons,List.map_nil,F5] at this ⊢;exact this
theorem a1E (x:Val):aC (ren r x)=aC x:=by
 unfold aC;by_cases h2:x.1=2
 ·rw [K0];simp [h2]
 ·rw [E0 h2]
theorem a6x (y:Val):y.1=1→(ren r y).2=y.2:=fun h=>by rw [E0 Q8]
end
end
theorem a8Y {g:PgR} (hp:F2 g) {r:Nat→Nat} {s t:McA} {fs:List FrA} {f:FrA} {rest args:List Val} (h:At g r s t fs f rest args) {k:Nat} {a:Int} (o:oM g f k a rest args) :
  ∃q,Rel q (doA g k a s fs f rest args) (doA g k a t (fs.map (F5 r)) (F5 r f) (rest.map (ren r)) (args.map (ren r))):=by
 have hI:=a6v hp h.inv h.frs o;obtain⟨h1,h2⟩:=h.inv.top h.frs;obtain⟨hpc,hl,_,_⟩:=h1.at hp;have hk:=dD hl;rw[o.op] at hk;have hn:=o.pops;have p1:∀z:Int,In s [(1,z)]:=fun z=>In.plain (show (1:Int)≠2 by decide)
 have hcase:k=0∨k=1∨k=2∨k=3∨k=4∨k=5∨k=6∨k=7∨k=8∨k=9∨k=10∨k=11∨k=12∨k=13∨k=14∨k=15∨k=16∨k=17∨k=18∨k=19∨k=20∨k=21∨k=22∨k=23∨k=24∨k=25∨k=26∨k=27:=by omega
 rcases hcase with rfl | rfl | rfl | rfl | rfl | rfl | rfl | rfl | rfl | rfl | rfl | rfl | rfl | rfl | rfl | rfl | rfl | rfl | rfl | rfl | rfl | rfl | rfl | rfl | rfl | rfl | rfl | rfl
 ·obtain rfl:=bC hn rfl
  exact h.goE _ _ _ (h.rest.app (p1 _)) (by rw [List.map_append,List.map_cons,List.map_nil,mB])
 ·obtain rfl:=bC hn rfl
  exact h.goE _ _ _ (h.rest.app (In.plain (show (0:Int)≠2 by decide))) (by rw [List.map_append,List.map_cons,List.map_nil,dZ])
 ·obtain rfl:=bC hn rfl
  exact h.goE _ _ _ (h.rest.app (h.loc.getD _)) (by rw [List.map_append,List.map_cons,List.map_nil,← zJ];rfl)
 ·obtain ⟨x,rfl⟩:=L4 hn rfl
  have:=h.put 0 s.out (fs++[⟨f.fn,f.pc+1,f.loc.set a.toNat x,rest⟩]) (fun y hy=>by
   rcases List.mem_append.1 hy with hy | hy
   ·exact Or.inl hy
   ·rw [List.mem_singleton] at hy;subst hy;exact Or.inr ((h.loc.set _ (h.args x Q9)).app h.rest)) s.dr t.dr
  refine⟨r,?_⟩;simp only[List.map_append,List.map_cons,List.map_nil,F5,List.map_set] at this;show Rel r ⟨0,s.out,fs++[⟨f.fn,f.pc+1,f.loc.set a.toNat x,rest⟩],s.obs,s.dr⟩ ⟨0,t.out,fs.map (F5 r)++[⟨f.fn,f.pc+1,(f.loc.map (ren r)).set a.toNat (ren r x),rest.map (ren r)⟩],t.obs,t.dr⟩;rw[h.rel.out];exact this
 ·obtain ⟨x,rfl⟩:=L4 hn rfl
  exact h.goE _ _ _ (h.rest.app (fun v hv=>h.args v (by simp at hv ⊢;exact hv))) (by rw [List.map_append];rfl)
 ·obtain ⟨x,rfl⟩:=L4 hn rfl
  exact h.goE _ _ _ h.rest rfl
 ·obtain ⟨x,y,rfl⟩:=W8 hn rfl
  exact h.goE _ _ _ (h.rest.app (fun v hv=>h.args v (by simp at hv ⊢;exact hv.symm))) (by rw [List.map_append];rfl)
 ·obtain ⟨x,y,rfl⟩:=W8 hn rfl
  exact h.reckon fun x y=>wrap64 (x.2+y.2)
 ·obtain ⟨x,y,rfl⟩:=W8 hn rfl
  exact h.reckon fun x y=>wrap64 (x.2 - y.2)
 ·obtain ⟨x,y,rfl⟩:=W8 hn rfl
  exact h.reckon fun x y=>wrap64 (x.2*y.2)
 ·obtain ⟨x,y,rfl⟩:=W8 hn rfl
  exact h.reckon fun x y=>Z3 (decide (x.2 < y.2))
 ·obtain ⟨x,y,rfl⟩:=W8 hn rfl
  have e:=a7c h.rel (h.ok (v:=x) Q9) (h.ok (v:=y) Q9) (h.args x Q9) (h.args y Q9) h.inv;refine h.goE _ _ _ (h.rest.app (p1 _)) ?_;rw[List.map_append,List.map_cons,List.map_nil,mB,e]
 ·obtain rfl:=bC hn rfl
  exact h.goE _ _ _ h.rest rfl
 ·obtain ⟨x,rfl⟩:=L4 hn rfl
  show ∃q,Rel q (if aC x then goA s fs f (f.pc+1) rest else goA s fs f a.toNat rest) (if aC (ren r x) then goA t (fs.map (F5 r)) (F5 r f) (f.pc+1) (rest.map (ren r)) else goA t (fs.map (F5 r)) (F5 r f) a.toNat (rest.map (ren r)))
  rw[a1E];split
  ·exact h.goE _ _ _ h.rest rfl
  ·exact h.goE _ _ _ h.rest rfl
 ·exact h.call a args h.args
 ·obtain ⟨x,rfl⟩:=L4 hn rfl
  exact h.return Q9
 ·obtain rfl:=bC hn rfl
  exact h.new 1 _ _ (Or.inl ⟨by decide,rV _,rfl⟩) hI
 ·obtain ⟨x,rfl⟩:=L4 hn rfl
  have hI':C1 g (if x.1≠1 then F4 s 2 else if 0≤x.2∧x.2≤12 then R6 s fs f rest 2 (List.replicate x.2.toNat (0,0)) else F4 s 4):=hI;show ∃q,Rel q (if x.1≠1 then F4 s 2 else if 0≤x.2∧x.2≤12 then R6 s fs f rest 2 (List.replicate x.2.toNat (0,0)) else F4 s 4) (if (ren r x).1≠1 then F4 t 2 else if 0≤(ren r x).2∧(ren r x).2≤12 then R6 t (fs.map (F5 r)) (F5 r f) (rest.map (ren r)) 2 (List.replicate (ren r x).2.toNat (0,0)) else F4 t 4)
  by_cases hx1:x.1=1
  ·have ex:ren r x=x:=E0 Q8
   rw[if_neg (not_not_intro hx1)] at hI';rw[ex,if_neg (not_not_intro hx1),if_neg (not_not_intro hx1)];by_cases hc:0≤x.2∧x.2≤12
   ·rw [if_pos hc] at hI'
    rw[if_pos hc,if_pos hc];exact h.new 2 _ _ (Or.inl ⟨by decide,rV _,rfl⟩) hI'
   ·rw [if_neg hc,if_neg hc];exact h.trap _
  ·have hx1':(ren r x).1≠1:=by rw [K0];exact hx1
   rw[if_pos hx1,if_pos hx1'];exact h.trap _
 ·obtain ⟨x,rfl⟩:=L4 hn rfl
  have hI':C1 g (if x.1=2 then R6 s fs f rest 3 [x] else F4 s 2):=hI;show ∃q,Rel q (if x.1=2 then R6 s fs f rest 3 [x] else F4 s 2) (if (ren r x).1=2 then R6 t (fs.map (F5 r)) (F5 r f) (rest.map (ren r)) 3 [ren r x] else F4 t 2)
  rw[K0];by_cases h1:x.1=2
  ·rw [if_pos h1] at hI'
   rw[if_pos h1,if_pos h1];exact h.new 3 _ _ (Or.inr ⟨rfl,x,by simp,h1,rfl,rfl⟩) hI'
  ·rw [if_neg h1,if_neg h1];exact h.trap _
 ·obtain ⟨x,rfl⟩:=L4 hn rfl
  exact h.get (ix:=(1,a)) (ix':=(1,a)) Q9 1 Q7 rfl fun _=>rfl
 ·obtain ⟨x,y,rfl⟩:=W8 hn rfl
  exact h.set (ix:=(1,a)) (ix':=(1,a)) Q9 Q9 1 Q7 rfl (fun _=>rfl) fun st e=>by rw [e];exact hI
 ·obtain ⟨x,y,rfl⟩:=W8 hn rfl
  exact h.get (ix:=y) (ix':=ren r y) Q9 2 Q7 (K0 r y) (a6x y)
 ·obtain ⟨x,y,z,rfl⟩:=a5M hn rfl
  exact h.set (ix:=y) (ix':=ren r y) Q9 Q9 2 Q7 (K0 r y) (a6x y) fun st e=>by rw [e];exact hI
 ·obtain ⟨x,rfl⟩:=L4 hn rfl
  obtain⟨e1,e2,_⟩:=aV h.rel h.inv (h.args x Q9);show ∃q,Rel q (if (A4 s.obs x).1=1∨(A4 s.obs x).1=2 then goA s fs f (f.pc+1) (rest++[(1,((A4 s.obs x).2.length:Int))]) else F4 s 2) (if (A4 t.obs (ren r x)).1=1∨(A4 t.obs (ren r x)).1=2 then goA t (fs.map (F5 r)) (F5 r f) (f.pc+1) (rest.map (ren r)++[(1,((A4 t.obs (ren r x)).2.length:Int))]) else F4 t 2)
  rw[e1];by_cases hc:(A4 s.obs x).1=1∨(A4 s.obs x).1=2
  ·rw [if_pos hc,if_pos hc,e2 Q8,List.length_map]
   exact h.goE _ _ _ (h.rest.app (p1 _)) (by rw [List.map_append,List.map_cons,List.map_nil,mB])
  ·rw [if_neg hc,if_neg hc];exact h.trap _
 ·obtain ⟨x,rfl⟩:=L4 hn rfl
  obtain⟨e1,_,_⟩:=aV h.rel h.inv (h.args x Q9);show ∃q,Rel q (if (A4 s.obs x).1=3 then goA s fs f (f.pc+1) (rest++[aW s ((A4 s.obs x).2.headD (0,0))]) else F4 s 2) (if (A4 t.obs (ren r x)).1=3 then goA t (fs.map (F5 r)) (F5 r f) (f.pc+1) (rest.map (ren r)++[aW t ((A4 t.obs (ren r x)).2.headD (0,0))]) else F4 t 2)
  rw[e1];by_cases hc:(A4 s.obs x).1=3
  ·rw [if_pos hc,if_pos hc]
   exact h.goE _ _ _ (h.rest.app (a5h _)) (by rw [List.map_append,List.map_cons,List.map_nil,a2C h.rel h.inv (h.args x Q9) hc])
  ·rw [if_neg hc,if_neg hc];exact h.trap _
 ·obtain ⟨x,rfl⟩:=L4 hn rfl
  refine h.goE _ _ _ (h.rest.app (p1 _)) ?_;rw[List.map_append,List.map_cons,List.map_nil,mB,K0]
 ·obtain ⟨x,rfl⟩:=L4 hn rfl
  show ∃q,Rel q (if x.1≠1 then F4 s 2 else if 40≤s.out.length then F4 s 7 else ⟨0,s.out++[x.2],fs++[⟨f.fn,f.pc+1,f.loc,rest⟩],s.obs,s.dr⟩) (if (ren r x).1≠1 then F4 t 2 else if 40≤t.out.length then F4 t 7 else ⟨0,t.out++[(ren r x).2],fs.map (F5 r)++[⟨f.fn,f.pc+1,f.loc.map (ren r),rest.map (ren r)⟩],t.obs,t.dr⟩)
  by_cases hx1:x.1=1
  ·have ex:ren r x=x:=E0 Q8
   rw[ex,h.rel.out,if_neg (not_not_intro hx1),if_neg (not_not_intro hx1)];by_cases hc:40≤s.out.length
   ·rw [if_pos hc,if_pos hc];exact h.trap _
   ·rw [if_neg hc,if_neg hc]
    have:=h.put 0 (s.out++[x.2]) (fs++[⟨f.fn,f.pc+1,f.loc,rest⟩]) (fun y hy=>by
     rcases List.mem_append.1 hy with hy | hy
     ·exact Or.inl hy
     ·rw [List.mem_singleton] at hy;subst hy;exact Or.inr (h.loc.app h.rest)) s.dr t.dr
    simp only[List.map_append,List.map_cons,List.map_nil,F5] at this;exact⟨r,this⟩
  ·have hx1':(ren r x).1≠1:=by rw [K0];exact hx1
   rw[if_pos hx1,if_pos hx1'];exact h.trap _
 ·obtain rfl:=bC hn rfl
  have:=h.put 1 s.out [] (fun x hx=>by simp at hx) s.dr t.dr;refine⟨r,?_⟩;show Rel r ⟨1,s.out,[],s.obs,s.dr⟩ ⟨1,t.out,[],t.obs,t.dr⟩;rw[h.rel.out];exact this
theorem a7l {g:PgR} (hp:F2 g) {r:Nat→Nat} {s t:McA} (h:Rel r s t) (hi:C1 g s) (hj:C1 g t) (h0:s.st=0):∃q,Rel q (W0 g s) (W0 g t):=by
 have hne:=hi.run h0;obtain⟨fs,f,hf⟩:∃fs f,s.frs=fs++[f]:=⟨_,_,(List.dropLast_concat_getLast hne).symm⟩
 obtain⟨k,a,rest,args,_,o,e⟩:=hi.opAt hp hf;have hT:W0 g t=doA g k a t (fs.map (F5 r)) (F5 r f) (rest.map (ren r)) (args.map (ren r)):=by
  have hft:t.frs=fs.map (F5 r)++[F5 r f]:=by rw [h.frs,hf,List.map_append];rfl
  have e1:t.frs.getLast?=some (F5 r f):=by rw [hft];simp
  have e2:t.frs.dropLast=fs.map (F5 r):=by rw [hft];simp
  have hs:(F5 r f).stk=rest.map (ren r)++args.map (ren r):=by show f.stk.map (ren r)=_;rw [o.stk,List.map_append]
  unfold W0;rw[e1,e2];simp only;rw[show (g.f (F5 r f).fn).op (F5 r f).pc=(k:Int) from o.op,show (g.f (F5 r f).fn).ar (F5 r f).pc=a from o.ar,o.pops,hs];have e3:(rest.map (ren r)++args.map (ren r)).length - ((args.length:Nat):Int).toNat=(rest.map (ren r)).length:=by simp
  rw[e3,List.take_left,List.drop_left];rfl
 rw[e,hT];exact a8Y hp ⟨h,hi,hj,hf,o.stk⟩ o
theorem a3r {g:PgR} (hp:F2 g):∀(n:Nat) {r:Nat→Nat} {s t:McA},Rel r s t→C1 g s→C1 g t→(∃q,Rel q (runA g n s) (runA g n t))∧G4 g n t=G4 g n s
 | 0,r,_,_,h,_,_=>⟨⟨r,h⟩,rfl⟩
 | n+1,r,s,t,h,hi,hj=>by
  rw[runA,runA,G4,G4,h.st];by_cases h0:s.st=0
  ·rw [if_pos h0,if_pos h0,if_pos h0,if_pos h0]
   obtain⟨q,hq⟩:=a7l hp h hi hj h0;obtain⟨h1,h2⟩:=a3r hp n hq (eU hp hi h0) (eU hp hj (by rw [h.st];exact h0));exact⟨h1,by rw [h2]⟩
  ·rw [if_neg h0,if_neg h0,if_neg h0,if_neg h0]
   exact⟨⟨r,h⟩,rfl⟩
def ixA:List Nat→Nat→Option Nat
 | [],_=>none
 | a::l,x=>if a=x then some 0 else (ixA l x).map (·+1)
theorem zW {l:List Nat} {x:Nat} (h:x∉l):ixA l x=none:=by
 induction l with
 | nil=>rfl
 | cons a l ih =>
  rw[ixA,if_neg (fun e=>h (by simp [e])),ih (fun e=>h (by simp [e]))];rfl
theorem wT {r:Nat→Nat} {A:List Nat} (hr:gA r A) {x:Nat} (hx:x∈A):∀{l:List Nat},(∀j,j∈l→j∈A)→ixA (l.map r) (r x)=ixA l x
 | [],_=>rfl
 | a::l,hl=>by
  rw[List.map_cons,ixA,ixA];by_cases e:a=x
  ·rw [if_pos e,if_pos (by rw [e])]
  ·rw [if_neg e,if_neg (fun q=>e (hr a x (hl a Q9) hx q)),wT hr hx fun j hj=>hl j (by simp [hj])]
def C4 (al:List Nat) (v:Val):Val:=if v.1=2 then (match ixA al v.2.toNat with | some i=>(2,(i:Int)) | none=>(0,0)) else v
def gH (al:List Nat) (f:FrA):FrA:=⟨f.fn,f.pc,f.loc.map (C4 al),f.stk.map (C4 al)⟩
def N5 (s:McA) (j:Nat):Ob:=match s.obs[j]? with | some o=>(o.1,o.2.map (C4 (A0 s))) | none=>(0,[])
def A9 (s:McA):McA:=⟨s.st,s.out,s.frs.map (gH (A0 s)),(A0 s).map (N5 s),[]⟩
theorem iZ {g:PgR} {r:Nat→Nat} {s t:McA} (h:Rel r s t) (hi:C1 g s) {v:Val} (hv:v.1=2→v.2.toNat∈A0 s):C4 (A0 t) (ren r v)=C4 (A0 s) v:=by
 unfold C4;rw[K0];by_cases h2:v.1=2
 ·rw [if_pos h2,if_pos h2,bX h2,h.alive hi,wT h.inj (hv h2) fun _ hj=>hj]
 ·rw [if_neg h2,if_neg h2,E0 h2]
theorem bK {al:List Nat} {v:Val} (h:¬(v.1=2∧v.2.toNat∈al)) (h0:v.1≠2→v=(0,0)):C4 al v=(0,0):=by
 unfold C4;by_cases h2:v.1=2
 ·rw [if_pos h2,zW fun e=>h ⟨h2,e⟩]
 ·rw [if_neg h2];exact h0 h2
theorem fF {g:PgR} {s:McA} (h:C1 g s) {j:Nat} {o:Ob} (ho:s.obs[j]?=some o) (h3:o.1=3):o.2=[o.2.headD (0,0)]∧(o.2.headD (0,0)).1≠1∧((o.2.headD (0,0)).1≠2→o.2.headD (0,0)=(0,0)):=by
 rcases h.obs o (List.mem_of_getElem? ho) with ⟨e,_⟩ | ⟨e,_⟩ | ⟨e,_⟩ | ⟨_,u,e,hu,h1⟩
 ·omega
 ·omega
 ·omega
 ·rw [e]
  refine⟨rfl,h1,fun h2=>?_⟩;rcases hu with hu | hu | hu
  ·exact hu
  ·exact absurd hu h1
  ·exact absurd hu.1 h2
theorem a6P {g:PgR} {r:Nat→Nat} {s t:McA} (h:Rel r s t) (hi:C1 g s) (hj:C1 g t):A9 t=A9 s:=by
 unfold A9;rw[h.st,h.out,h.frs,List.map_map];have e1:s.frs.map (gH (A0 t)∘F5 r)=s.frs.map (gH (A0 s)):=List.map_congr_left fun f hf=>by
  have hin:=In.frs hi hf;show FrA.mk f.fn f.pc ((f.loc.map (ren r)).map (C4 (A0 t))) ((f.stk.map (ren r)).map (C4 (A0 t)))=FrA.mk f.fn f.pc (f.loc.map (C4 (A0 s))) (f.stk.map (C4 (A0 s)));rw[List.map_map,List.map_map];congr 1
  ·exact List.map_congr_left fun v hv=>iZ h hi (hin v (by simp [hv]))
  ·exact List.map_congr_left fun v hv=>iZ h hi (hin v (by simp [hv]))
 have e2:(A0 t).map (N5 t)=(A0 s).map (N5 s):=by
  rw[h.alive hi,List.map_map];refine List.map_congr_left fun j hj'=>?_
  obtain⟨o,p,ho,hp,hk,hf⟩:=h.moved j hj';show N5 t (r j)=N5 s j;unfold N5;rw[ho,hp];show (p.1,p.2.map (C4 (A0 t)))=(o.1,o.2.map (C4 (A0 s)));rw[hk];congr 1
  by_cases h3:o.1=3
  ·obtain ⟨f1,_,f3⟩:=fF hi ho h3
   obtain⟨g1,_,g3⟩:=fF hj hp (by rw [hk];exact h3);rw[f1,g1];rcases h.weak j o p hj' ho hp h3 with ⟨a1,a2,a3⟩ | ⟨a1,a2⟩
   ·show [C4 (A0 t) (p.2.headD (0,0))]=[C4 (A0 s) (o.2.headD (0,0))]
    rw[a3,iZ h hi fun _=>a2]
   ·show [C4 (A0 t) (p.2.headD (0,0))]=[C4 (A0 s) (o.2.headD (0,0))]
    rw[bK a1 f3,bK a2 g3]
  ·rw [hf h3,List.map_map]
   exact List.map_congr_left fun v hv=>iZ h hi (hi.alive.shut j hj' o ho h3 v hv)
 rw[e1,e2]
end Go.Proofs.YtbkmgoffiigdbabGreatDoor
