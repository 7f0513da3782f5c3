import Derived.Test.YtbkmgoffiigdbabGreatDoorVPc
namespace Go.Proofs.YtbkmgoffiigdbabGreatDoor
open Go.RowKit Go.Sort
inductive a0K (obs:List Ob) (l:List Val):Nat→Prop
 | root (v:Val) (hv:v∈l) (h2:v.1=2):a0K obs l v.2.toNat
 | field (j:Nat) (o:Ob) (v:Val) (hj:a0K obs l j) (ho:obs[j]?=some o) (h3:o.1≠3) (hv:v∈o.2) (h2:v.1=2):a0K obs l v.2.toNat
theorem N1.of_lead {obs:List Ob} {l:List Val} {met:List Nat} (h:N1 obs l met) {j:Nat} (hl:a0K obs l j):j∈met:=by
 induction hl with
 | root v hv h2=>exact h.roots v hv h2
 | field j o v _ ho h3 hv h2 ih=>exact h.shut j ih o ho h3 v hv h2
theorem a3F {obs:List Ob} {l k:List Val} {met:List Nat} (hm:∀j,j∈met→a0K obs l j) (hk:∀v,v∈k→v.1=2→a0K obs l v.2.toNat):∀j,j∈r7 met k→a0K obs l j:=by
 intro j hj;rcases (K2 k met j).1 hj with h | ⟨v,h1,h2,rfl⟩
 ·exact hm j h
 ·exact hk v h1 h2
theorem a3Q {obs:List Ob} {l:List Val} : ∀(n i:Nat) (met:List Nat),(∀j,j∈met→a0K obs l j)→∀j,j∈z8 obs n i met→a0K obs l j
 | 0,_,_,hm=>hm
 | n+1,i,met,hm=>by
  rw[z8]
  cases hi:met[i]? with
  | none=>exact hm
  | some k =>
   cases ho:obs[k]? with
   | none=>simp only [ho];exact hm
   | some o =>
    simp only[ho];refine a3Q n (i+1) _ ?_;by_cases h3:o.1=3
    ·rw [if_pos h3];exact hm
    ·rw [if_neg h3]
     exact a3F hm fun v hv h2=>a0K.field k o v (hm k (List.mem_of_getElem? hi)) ho h3 hv h2
theorem M9 {obs:List Ob} {l:List Val} : ∀j,j∈o5 obs l→a0K obs l j :=
 a3Q _ _ _ (a3F Q9 fun v hv h2=>a0K.root v hv h2)
theorem a1o:∀{a b:List Nat},a.Nodup→(∀j,j∈a→j∈b)→a.length≤b.length
 | [],_,_,_=>Nat.zero_le _
 | x::a,b,h,hs=>by
  obtain⟨h1,h2⟩:=List.nodup_cons.1 h;have hx:=hs x Q9;have:=a1o (b:=b.erase x) h2 fun j hj=>(List.mem_erase_of_ne (fun e=>h1 (by rw [← e];exact hj))).2 (hs j (by simp [hj]))
  have hp:=List.length_pos_of_mem hx;rw[List.length_erase_of_mem hx] at this;simp only[List.length_cons];omega
theorem a3G {a b:List Nat} (ha:a.Nodup) (hb:b.Nodup) (h:∀j,j∈a↔j∈b):a.length=b.length :=
 Nat.le_antisymm (a1o ha fun j hj=>(h j).1 hj) (a1o hb fun j hj=>(h j).2 hj)
theorem N1.same {obs:List Ob} {l:List Val} {a b:List Nat} (ha:N1 obs l a) (hb:N1 obs l b) (hla:∀j,j∈a→a0K obs l j) (hlb:∀j,j∈b→a0K obs l j):a.length=b.length :=
 a3G ha.nodup hb.nodup fun _=>⟨fun h=>hb.of_lead (hla _ h),fun h=>ha.of_lead (hlb _ h)⟩
theorem a1S (obs:List Ob):G9 obs=((List.range obs.length).filter fun j=>((obs[j]?).map fun o=>o.1 != 0).getD false).length:=by
 unfold G9
 induction obs with
 | nil=>rfl
 | cons o l ih =>
  rw[List.length_cons,List.range_succ_eq_map,List.filter_cons,List.filter_cons,List.filter_map,List.getElem?_cons_zero];have e:((fun j=>(((o::l)[j]?).map fun o=>o.1 != 0).getD false)∘Nat.succ)=fun j=>((l[j]?).map fun o=>o.1 != 0).getD false:=by funext j;simp
  rw[e]
  cases h:(o.1 != 0) <;> simp [h,ih]
theorem q8 {g:PgR} {s:McA} (h:e8 g s) {j:Nat} (hj:j∈a6 s):∃o,s.obs[j]?=some o∧o.1≠0:=by
 have:=M9 j hj
 cases this with
 | root v hv h2 =>
  obtain⟨f,hf,hv⟩:=D0.1 hv;exact ((h.vals f hf v hv).ref h2).2
 | field k o v _ ho h3 hv h2=>exact (((h.obs o (List.mem_of_getElem? ho)).vals hv).ref h2).2
theorem a8r {g:PgR} {s:McA} (h:e8 g s):G9 (B7 s).obs=(a6 s).length:=by
 rw[a1S];refine a3G (List.nodup_range.filter _) h.alive.nodup fun j=>?_
 rw[List.mem_filter,List.mem_range];have e:(B7 s).obs[j]?=(s.obs[j]?).map fun o=>C9 (T9 s.obs (a6 s)) (if j∈a6 s then o else (0,[])):=a0m _ _ _
 constructor
 ·rintro ⟨_,h2⟩
  rw[e] at h2;refine Decidable.byContradiction fun hn=>?_
  cases ho:s.obs[j]? with
  | none=>rw [ho] at h2;simp at h2
  | some o=>rw [ho,Option.map_some,if_neg hn] at h2;simp [F1] at h2
 ·intro hj
  obtain⟨o,ho,hne⟩:=q8 h hj;have hl:=(List.getElem?_eq_some_iff.1 ho).1;refine⟨by show j < (O1 _ _).length;rw [O2];exact hl,?_⟩;rw[e,ho,Option.map_some,if_pos hj];simp[F1,hne]
structure b0W (obs:List Ob) (l:List Val) (i:Nat) (met:List Nat) (q:List Val):Prop where
 nodup:met.Nodup
 lt:∀j,j∈met→j < obs.length
 lead:∀j,j∈met→a0K obs l j
 qlead:∀v,v∈q→v.1=2→a0K obs l v.2.toNat
 pre:∀v,v∈l→v∈q
 done:∀k v,k < i→q[k]?=some v→v.1=2→v.2.toNat∈met
 fields:∀j,j∈met→∀o,obs[j]?=some o→o.1≠3→∀v,v∈o.2→v∈q
 len:q.length≤l.length+met.length*12
theorem b0W.skip {obs:List Ob} {l:List Val} {i:Nat} {met:List Nat} {q:List Val} (h:b0W obs l i met q) {v:Val} (hv:q[i]?=some v) (hm:v.1=2→v.2.toNat∈met):b0W obs l (i+1) met q :=
 ⟨h.nodup,h.lt,h.lead,h.qlead,h.pre,fun k u hk hu h2=>by
  by_cases e:k=i
  ·subst e;rw [hv] at hu;cases hu;exact hm h2
  ·exact h.done k u Q8 hu h2,h.fields,h.len⟩
theorem b0W.whole {obs:List Ob} {l:List Val} {met:List Nat} {q:List Val} (hw:a3y obs) (hl:∀v,v∈l→v.1=2→v.2.toNat < obs.length) (h:b0W obs l q.length met q):met.length=(o5 obs l).length:=by
 have inq:∀v,v∈q→v.1=2→v.2.toNat∈met:=fun v hv h2=>by
  obtain⟨k,hk⟩:=List.mem_iff_getElem?.1 hv;exact h.done k v (List.getElem?_eq_some_iff.1 hk).1 hk h2
 refine N1.same ⟨h.nodup,h.lt,fun j hj o ho h3 v hv h2=>inq v (h.fields j hj o ho h3 v hv) h2,fun v hv h2=>inq v (h.pre v hv) h2⟩ (a0C hw hl) h.lead (M9 ·)
theorem c0g (s:McA):(s9 s).obs.length=s.obs.length:=by
 unfold s9;split
 ·exact O2 _ _
 ·rfl
def ren (r:Nat→Nat) (v:Val):Val:=if v.1=2 then (2,(r v.2.toNat:Int)) else v
def D3 (r:Nat→Nat) (f:FrA):FrA:=⟨f.fn,f.pc,f.loc.map (ren r),f.stk.map (ren r)⟩
theorem a0j (r:Nat→Nat) (v:Val):(ren r v).1=v.1:=by unfold ren;split <;> simp_all
theorem a0D {r:Nat→Nat} {v:Val} (h:v.1=2):(ren r v).2.toNat=r v.2.toNat:=by unfold ren;rw [if_pos h];rfl
theorem B3 {r:Nat→Nat} {v:Val} (h:v.1≠2):ren r v=v:=by unfold ren;rw [if_neg h]
theorem Y1 (r:Nat→Nat) (l:List FrA):z7 (l.map (D3 r))=(z7 l).map (ren r):=by
 unfold z7;rw[List.flatMap_map,List.map_flatMap];congr 1
 funext f
 simp[D3]
def a1X (r:Nat→Nat) (A:List Nat):Prop:=∀i j,i∈A→j∈A→r i=r j→i=j
theorem a0z {r:Nat→Nat} {A met:List Nat} (hr:a1X r A) (hm:∀j,j∈met→j∈A) {j:Nat} (hj:j∈A):r j∈met.map r↔j∈met:=by
 rw[List.mem_map];constructor
 ·rintro ⟨k,hk,e⟩
  rw[hr k j (hm k hk) hj e] at hk;exact hk
 ·intro h
  exact⟨j,h,rfl⟩
theorem a1m {r:Nat→Nat} {A:List Nat} (hr:a1X r A):∀(l:List Val) (met:List Nat),(∀j,j∈met→j∈A)→(∀v,v∈l→v.1=2→v.2.toNat∈A)→r7 (met.map r) (l.map (ren r))=(r7 met l).map r
 | [],_,_,_=>rfl
 | v::l,met,hm,hl=>by
  rw[List.map_cons,r7,r7];by_cases h2:v.1=2
  ·have hv:=hl v Q9 h2
   have e:(ren r v).2.toNat=r v.2.toNat:=a0D h2;by_cases hin:v.2.toNat∈met
   ·rw [if_neg (fun h=>h.2 (by rw [e];exact (a0z hr hm hv).2 hin)),if_neg (fun h=>h.2 hin)]
    exact a1m hr l met hm fun u hu=>hl u (by simp [hu])
   ·rw [if_pos ⟨by rw [a0j];exact h2,fun h=>hin ((a0z hr hm hv).1 (by rw [← e];exact h))⟩,if_pos ⟨h2,hin⟩,e]
    have:=a1m hr l (met++[v.2.toNat]) (fun j hj=>by
     rcases List.mem_append.1 hj with hj | hj
     ·exact hm j hj
     ·rw [List.mem_singleton] at hj;rw [hj];exact hv) fun u hu=>hl u (by simp [hu])
    rw[List.map_append] at this;exact this
  ·rw [if_neg (fun h=>h2 (by rw [← a0j r v];exact h.1)),if_neg (fun h=>h2 h.1)]
   exact a1m hr l met hm fun u hu=>hl u (by simp [hu])
def a3S (r:Nat→Nat) (A:List Nat) (obs obt:List Ob):Prop :=
 ∀j,j∈A→∃o p,obs[j]?=some o∧obt[r j]?=some p∧p.1=o.1∧(o.1≠3→p.2=o.2.map (ren r))
theorem a4O {r:Nat→Nat} {A:List Nat} {obs obt:List Ob} (hr:a1X r A) (hmv:a3S r A obs obt) (hs:∀j,j∈A→a4V obs A j):∀(n i:Nat) (met:List Nat),(∀j,j∈met→j∈A)→z8 obt n i (met.map r)=(z8 obs n i met).map r
 | 0,_,_,_=>rfl
 | n+1,i,met,hm=>by
  rw[z8,z8,List.getElem?_map]
  cases hi:met[i]? with
  | none=>rfl
  | some j =>
   have hj:=hm j (List.mem_of_getElem? hi);obtain⟨o,p,ho,hp,hk,hf⟩:=hmv j hj;simp only[Option.map_some,ho,hp];by_cases h3:o.1=3
   ·rw [if_pos h3,if_pos (by rw [hk];exact h3)]
    exact a4O hr hmv hs n (i+1) met hm
   ·rw [if_neg h3,if_neg (by rw [hk];exact h3),hf h3]
    have hl:∀v,v∈o.2→v.1=2→v.2.toNat∈A:=hs j hj o ho h3
    rw[a1m hr o.2 met hm hl];refine a4O hr hmv hs n (i+1) _ fun k hk=>?_
    rcases (K2 o.2 met k).1 hk with h | ⟨v,hv,h2,rfl⟩
    ·exact hm k h
    ·exact hl v hv h2
theorem X8 {r:Nat→Nat} {obs obt:List Ob} {l:List Val} {A:List Nat} (hA:N1 obs l A) (hlen:obt.length=obs.length) (hr:a1X r A) (hmv:a3S r A obs obt):o5 obt (l.map (ren r))=(o5 obs l).map r:=by
 unfold o5;have h0:∀j,j∈r7 [] l→j∈A:=fun j hj=>by
  rcases (K2 l [] j).1 hj with h | ⟨v,hv,h2,rfl⟩
  ·simp at h
  ·exact hA.roots v hv h2
 rw[hlen,show r7 [] (l.map (ren r))=(r7 [] l).map r from a1m hr l [] Q9 hA.roots];exact a4O hr hmv hA.shut _ _ _ h0
def a9t (r:Nat→Nat) (A T:List Nat) (v u:Val):Prop:=(v.1=2∧v.2.toNat∈A∧u=ren r v)∨(¬(v.1=2∧v.2.toNat∈A)∧¬(u.1=2∧u.2.toNat∈T))
structure Rel (r:Nat→Nat) (s t:McA):Prop where
 st:t.st=s.st
 out:t.out=s.out
 cap:t.obs.length=s.obs.length
 frs:t.frs=s.frs.map (D3 r)
 inj:a1X r (a6 s)
 moved:a3S r (a6 s) s.obs t.obs
 weak:∀j o p,j∈a6 s→s.obs[j]?=some o→t.obs[r j]?=some p→o.1=3→a9t r (a6 s) (a6 t) (o.2.headD (0,0)) (p.2.headD (0,0))
theorem Rel.alive {g:PgR} {r:Nat→Nat} {s t:McA} (h:Rel r s t) (hi:e8 g s):a6 t=(a6 s).map r:=by
 unfold a6;rw[h.frs,Y1];exact X8 hi.alive h.cap h.inj h.moved
theorem Rel.len {g:PgR} {r:Nat→Nat} {s t:McA} (h:Rel r s t) (hi:e8 g s):(a6 t).length=(a6 s).length:=by rw [h.alive hi,List.length_map]
theorem b4N (v:Val) (h:v.1=2→0≤v.2):ren id v=v:=by
 unfold ren;split
 ·rename_i h2
  have:=h h2;have e:((id v.2.toNat:Nat):Int)=v.2:=by show ((v.2.toNat:Nat):Int)=v.2;omega
  rw[e,← h2]
 ·rfl
theorem a0e {l:List Val} (h:∀v,v∈l→v.1=2→0≤v.2):l.map (ren id)=l:=by
 conv=>rhs;rw [← List.map_id l]
 exact List.map_congr_left fun v hv=>b4N v (h v hv)
theorem b8e (q r:Nat→Nat) (f:FrA):D3 q (D3 r f)=D3 (fun x=>q (r x)) f:=by
 have e:∀v,ren q (ren r v)=ren (fun x=>q (r x)) v:=fun v=>by
  by_cases h:v.1=2
  ·unfold ren
   rw[if_pos h,if_pos rfl,if_pos h];rfl
  ·rw [B3 h,B3 h,B3 h]
 simp[D3,e,Function.comp_def]
theorem b2H (q r:Nat→Nat) (v:Val):ren q (ren r v)=ren (fun x=>q (r x)) v:=by
 by_cases h:v.1=2
 ·unfold ren
  rw[if_pos h,if_pos rfl,if_pos h];rfl
 ·rw [B3 h,B3 h,B3 h]
theorem Rel.go {g:PgR} {r:Nat→Nat} {s t s' t':McA} (h:Rel r s t) (hi:e8 g s) (hs:s'.obs=s.obs) (ht:t'.obs=t.obs) (hst:t'.st=s'.st) (hout:t'.out=s'.out) (hfr:t'.frs=s'.frs.map (D3 r))
  (hv:∀v,v∈z7 s'.frs→v.1=2→v.2.toNat∈a6 s):Rel r s' t':=by
 have hA':N1 s'.obs (z7 s'.frs) (a6 s'):=by
  refine a0C ?_ fun v hv' h2=>?_
  ·rw [hs];exact hi.within
  ·rw [hs];exact hi.alive.lt _ (hv v hv' h2)
 have hsub:∀j,j∈a6 s'→j∈a6 s:=fun j hj=>by
  have hl:a0K s'.obs (z7 s'.frs) j:=M9 j hj;rw[hs] at hl
  induction hl with
  | root v hv' h2=>exact hv v hv' h2
  | field k o v hk ho h3 hv' h2 ih =>
   have hk':k∈a6 s':=hA'.of_lead (by rw [hs];exact hk);exact hi.alive.shut k (ih hk') o ho h3 v hv' h2
 have hinj:a1X r (a6 s'):=fun i j h1 h2=>h.inj i j (hsub i h1) (hsub j h2)
 have hmv:a3S r (a6 s') s'.obs t'.obs:=fun j hj=>by rw [hs,ht];exact h.moved j (hsub j hj)
 have hal:a6 t'=(a6 s').map r:=by
  unfold a6;rw[hfr,Y1];exact X8 hA' (by rw [hs,ht];exact h.cap) hinj hmv
 have hal0:=h.alive hi;refine⟨hst,hout,by rw [hs,ht];exact h.cap,hfr,hinj,hmv,fun j o p hj ho hp h3=>?_⟩;rw[hs] at ho;rw[ht] at hp;rcases h.weak j o p (hsub j hj) ho hp h3 with ⟨h1,h2,h4⟩ | ⟨h1,h2⟩
 ·by_cases hin:(o.2.headD (0,0)).2.toNat∈a6 s'
  ·exact Or.inl ⟨h1,hin,h4⟩
  ·refine Or.inr ⟨fun e=>hin e.2,fun e=>hin ?_⟩
   rw[h4,a0D h1,hal] at e;exact (a0z h.inj hsub h2).1 e.2
 ·refine Or.inr ⟨fun e=>h1 ⟨e.1,hsub _ e.2⟩,fun e=>h2 ⟨e.1,?_⟩⟩
  rw[hal] at e;rw[hal0];obtain⟨k,hk,e'⟩:=List.mem_map.1 e.2;exact List.mem_map.2 ⟨k,hsub k hk,e'⟩
theorem Rel.trans {g:PgR} {r q:Nat→Nat} {s t u:McA} (h:Rel r s t) (k:Rel q t u) (hi:e8 g s) (_hj:e8 g t):Rel (fun x=>q (r x)) s u:=by
 have hal:=h.alive hi;have hin:∀j,j∈a6 s→r j∈a6 t:=fun j hj=>by rw [hal];exact List.mem_map.2 ⟨j,hj,rfl⟩
 refine⟨k.st.trans h.st,k.out.trans h.out,k.cap.trans h.cap,?_,fun i j h1 h2 e=>h.inj i j h1 h2 (k.inj _ _ (hin i h1) (hin j h2) e),fun j hj=>?_,fun j o p hj ho hp h3=>?_⟩
 ·rw [k.frs,h.frs,List.map_map]
  exact List.map_congr_left fun f _=>b8e q r f
 ·obtain ⟨o,p,ho,hp,hk,hf⟩:=h.moved j hj
  obtain⟨p',x,hp',hx,hk',hf'⟩:=k.moved (r j) (hin j hj);rw[hp] at hp'
  cases hp';refine⟨o,x,ho,hx,hk'.trans hk,fun h3=>?_⟩;rw[hf' (by rw [hk];exact h3),hf h3,List.map_map];exact List.map_congr_left fun v _=>b2H q r v
 ·obtain ⟨o',m,ho',hm,hk,hf⟩:=h.moved j hj
  rw[ho] at ho'
  cases ho';have w1:=h.weak j o m hj ho hm h3;have w2:=k.weak (r j) m p (hin j hj) hm hp (by rw [hk];exact h3);rcases w1 with ⟨a1,a2,a3⟩ | ⟨a1,a2⟩
  ·rcases w2 with ⟨b1,b2,b3⟩ | ⟨b1,b2⟩
   ·exact Or.inl ⟨a1,a2,by rw [b3,a3,b2H]⟩
   ·exact absurd ⟨by rw [a3,a0j];exact a1,by rw [a3,a0D a1];exact hin _ a2⟩ b1
  ·rcases w2 with ⟨b1,b2,b3⟩ | ⟨b1,b2⟩
   ·exact absurd ⟨b1,b2⟩ a2
   ·exact Or.inr ⟨a1,b2⟩
theorem b9x {g:PgR} {s:McA} (h:e8 g s):∀v,v∈z7 s.frs→v.1=2→0≤v.2:=fun v hv h2=>by
 obtain⟨f,hf,hv⟩:=D0.1 hv;exact ((h.vals f hf v hv).ref h2).1
theorem a2t {g:PgR} {s:McA} (h:e8 g s) {j:Nat} {o:Ob} (ho:s.obs[j]?=some o):∀v,v∈o.2→v.1=2→0≤v.2:=fun _ hv h2=>(((h.obs o (List.mem_of_getElem? ho)).vals hv).ref h2).1
theorem b9h {g:PgR} {s:McA} (h:e8 g s):s.frs.map (D3 id)=s.frs:=by
 conv=>rhs;rw [← List.map_id s.frs]
 refine List.map_congr_left fun f hf=>?_
 have hv:∀v,v∈f.loc++f.stk→v.1=2→0≤v.2:=fun v hv h2=>((h.vals f hf v hv).ref h2).1
 show FrA.mk f.fn f.pc (f.loc.map (ren id)) (f.stk.map (ren id))=f;rw[a0e fun v hv'=>hv v (by simp [hv']),a0e fun v hv'=>hv v (by simp [hv'])]
theorem a0v {s:McA} {j:Nat} {o:Ob} (ho:s.obs[j]?=some o) (hj:j∈a6 s):(B7 s).obs[j]?=some (C9 (T9 s.obs (a6 s)) o):=by
 show (O1 s.obs (a6 s))[j]?=_;rw[a0m,ho,Option.map_some,if_pos hj]
theorem a3j {all:List Ob} {o:Ob} (h:o.1≠3):C9 all o=o:=by unfold C9;rw [if_neg (fun hc=>h hc.1)]
theorem a4p {g:PgR} {s:McA} (h:e8 g s) (v:Val):a1k (T9 s.obs (a6 s)) v=true↔¬(v.1=2∧v.2.toNat∈a6 s):=by
 unfold a1k;by_cases h2:v.1=2
 ·rw [if_pos h2,a1Q]
  by_cases hin:v.2.toNat∈a6 s
  ·obtain ⟨o,ho,hne⟩:=q8 h hin
   simp[ho,hin,hne,h2]
  ·cases ho:s.obs[v.2.toNat]? with
   | none=>simp [hin]
   | some o=>simp [hin]
 ·simp [h2]
theorem a9j {all:List Ob} {o:Ob} (h3:o.1=3) (hn:o.2≠[]):(C9 all o).2.headD (0,0)=if a1k all (o.2.headD (0,0))=true then (0,0) else o.2.headD (0,0):=by
 unfold C9;by_cases hl:a1k all (o.2.headD (0,0))=true
 ·rw [if_pos ⟨h3,hl⟩,if_pos hl]
  cases h:o.2 with
  | nil=>exact absurd h hn
  | cons a l=>simp
 ·rw [if_neg (fun e=>hl e.2),if_neg hl]
theorem a5w {g:PgR} {s:McA} (h:e8 g s) {j:Nat} {o:Ob} (ho:s.obs[j]?=some o) (h3:o.1=3):o.2≠[]:=by
 rcases h.obs o (List.mem_of_getElem? ho) with ⟨e,_⟩ | ⟨e,_⟩ | ⟨e,_⟩ | ⟨_,u,e,_⟩
 ·omega
 ·omega
 ·omega
 ·rw [e];simp
theorem a7H {g:PgR} {s:McA} (h:e8 g s) {j:Nat} {o:Ob} (ho:s.obs[j]?=some o) (h3:o.1=3) (h2:(o.2.headD (0,0)).1=2):0≤(o.2.headD (0,0)).2:=by
 have hn:=a5w h ho h3
 cases e:o.2 with
 | nil=>exact absurd e hn
 | cons a l =>
  rw[e] at h2;exact a2t h ho a (by rw [e];simp) h2
theorem a3m {g:PgR} {s:McA} (h:e8 g s):a3S id (a6 s) s.obs (B7 s).obs:=fun j hj=>by
 obtain⟨o,ho,_⟩:=q8 h hj;refine⟨o,_,ho,a0v ho hj,F1 _ _,fun h3=>?_⟩;rw[a3j h3,a0e (a2t h ho)]
theorem a7h (A:List Nat):a1X id A:=fun _ _ _ _ e=>e
theorem N6 {g:PgR} {s:McA} (h:e8 g s):a6 (B7 s)=a6 s:=by
 have e:o5 (B7 s).obs ((z7 s.frs).map (ren id))=(o5 s.obs (z7 s.frs)).map id:=X8 h.alive (O2 _ _) (a7h _) (a3m h);rw[a0e (b9x h),List.map_id] at e;exact e
theorem a5M {g:PgR} {s:McA} (h:e8 g s):Rel id s (B7 s):=by
 refine⟨rfl,rfl,O2 _ _,(b9h h).symm,a7h _,a3m h,fun j o p hj ho hp h3=>?_⟩;rw[show (id j:Nat)=j from rfl,a0v ho hj] at hp
 cases hp;rw[a9j h3 (a5w h ho h3),N6 h];by_cases hl:a1k (T9 s.obs (a6 s)) (o.2.headD (0,0))=true
 ·rw [if_pos hl]
  exact Or.inr ⟨(a4p h _).1 hl,by simp⟩
 ·rw [if_neg hl]
  have:=Decidable.not_not.1 fun e=>hl ((a4p h _).2 e)
  exact Or.inl ⟨this.1,this.2,(b4N _ fun h2=>a7H h ho h3 h2).symm⟩
theorem a8h {g:PgR} {s:McA} (h:e8 g s):Rel id (B7 s) s:=by
 have hal:=N6 h;refine⟨rfl,rfl,(O2 _ _).symm,(b9h (a0y h)).symm,a7h _,fun j hj=>?_,fun j o p hj ho hp h3=>?_⟩
 ·rw [hal] at hj
  obtain⟨o,ho,_⟩:=q8 h hj;refine⟨_,o,a0v ho hj,ho,(F1 _ _).symm,fun h3=>?_⟩;rw[F1] at h3;rw[a3j h3,a0e (a2t h ho)]
 ·rw [hal] at hj ⊢
  rw[show (id j:Nat)=j from rfl] at hp;rw[a0v hp hj] at ho
  cases ho;rw[F1] at h3;rw[a9j h3 (a5w h hp h3)];by_cases hl:a1k (T9 s.obs (a6 s)) (p.2.headD (0,0))=true
  ·rw [if_pos hl]
   exact Or.inr ⟨by simp,(a4p h _).1 hl⟩
  ·rw [if_neg hl]
   have:=Decidable.not_not.1 fun e=>hl ((a4p h _).2 e)
   exact Or.inl ⟨this.1,this.2,(b4N _ fun h2=>a7H h hp h3 h2).symm⟩
def In (s:McA) (l:List Val):Prop:=∀v,v∈l→v.1=2→v.2.toNat∈a6 s
theorem In.app {s:McA} {l k:List Val} (h:In s l) (h':In s k):In s (l++k):=fun v hv h2=>by
 rcases List.mem_append.1 hv with hv | hv
 ·exact h v hv h2
 ·exact h' v hv h2
theorem In.left {s:McA} {l k:List Val} (h:In s (l++k)):In s l:=fun v hv=>h v (by simp [hv])
theorem In.right {s:McA} {l k:List Val} (h:In s (l++k)):In s k:=fun v hv=>h v (by simp [hv])
theorem In.one {s:McA} {v:Val} (h:v.1=2→v.2.toNat∈a6 s):In s [v]:=fun u hu=>by rw [List.mem_singleton] at hu;subst hu;exact h
theorem In.plain {s:McA} {v:Val} (h:v.1≠2):In s [v]:=In.one fun h2=>absurd h2 h
theorem In.nil {s:McA} : In s []:=fun v hv=>by simp at hv
theorem In.frs {g:PgR} {s:McA} (hi:e8 g s) {f:FrA} (hf:f∈s.frs):In s (f.loc++f.stk):=fun v hv h2=>hi.alive.roots v (D0.2 ⟨f,hf,hv⟩) h2
structure At (g:PgR) (r:Nat→Nat) (s t:McA) (fs:List FrA) (f:FrA) (rest args:List Val):Prop where
 rel:Rel r s t
 inv:e8 g s
 inv':e8 g t
 frs:s.frs=fs++[f]
 stk:f.stk=rest++args
theorem At.f_in {g:PgR} {r:Nat→Nat} {s t:McA} {fs:List FrA} {f:FrA} {rest args:List Val} (h:At g r s t fs f rest args):In s (f.loc++f.stk):=In.frs h.inv (by rw [h.frs];simp)
theorem At.loc {g:PgR} {r:Nat→Nat} {s t:McA} {fs:List FrA} {f:FrA} {rest args:List Val} (h:At g r s t fs f rest args):In s f.loc:=h.f_in.left
theorem At.rest {g:PgR} {r:Nat→Nat} {s t:McA} {fs:List FrA} {f:FrA} {rest args:List Val} (h:At g r s t fs f rest args):In s rest:=by
 have:=h.f_in.right;rw[h.stk] at this;exact this.left
theorem At.args {g:PgR} {r:Nat→Nat} {s t:McA} {fs:List FrA} {f:FrA} {rest args:List Val} (h:At g r s t fs f rest args):In s args:=by
 have:=h.f_in.right;rw[h.stk] at this;exact this.right
theorem At.ok {g:PgR} {r:Nat→Nat} {s t:McA} {fs:List FrA} {f:FrA} {rest args:List Val} (h:At g r s t fs f rest args) {v:Val} (hv:v∈args):VOk s.obs v:=h.inv.vals f (by rw [h.frs];simp) v (by rw [h.stk];simp [hv])
theorem At.put {g:PgR} {r:Nat→Nat} {s t:McA} {fs:List FrA} {f:FrA} {rest args:List Val} (h:At g r s t fs f rest args) (st:Int) (out:List Int) (fl:List FrA) (hin:∀x,x∈fl→x∈fs∨In s (x.loc++x.stk)) (d d':List Int) :
  Rel r ⟨st,out,fl,s.obs,d⟩ ⟨st,out,fl.map (D3 r),t.obs,d'⟩ :=
 h.rel.go h.inv rfl rfl rfl rfl rfl fun v hv h2=>by
  obtain⟨x,hx,hv⟩:=D0.1 hv;rcases hin x hx with hx | hx
  ·exact In.frs h.inv (by rw [h.frs];simp [hx]) v hv h2
  ·exact hx v hv h2
theorem At.goA {g:PgR} {r:Nat→Nat} {s t:McA} {fs:List FrA} {f:FrA} {rest args:List Val} (h:At g r s t fs f rest args) (pc:Nat) (l:List Val) (hl:In s l) :
  Rel r (goA s fs f pc l) (goA t (fs.map (D3 r)) (D3 r f) pc (l.map (ren r))):=by
 have:=h.put 0 s.out (fs++[⟨f.fn,pc,f.loc,l⟩]) (fun x hx=>by
  rcases List.mem_append.1 hx with hx | hx
  ·exact Or.inl hx
  ·rw [List.mem_singleton] at hx;subst hx;exact Or.inr (h.loc.app hl)) s.dr t.dr
 unfold Go.Proofs.YtbkmgoffiigdbabGreatDoor.goA;rw[h.rel.out];rw[List.map_append] at this;exact this
theorem At.goE {g:PgR} {r:Nat→Nat} {s t:McA} {fs:List FrA} {f:FrA} {rest args:List Val} (h:At g r s t fs f rest args) (pc:Nat) (l l':List Val) (hl:In s l) (hl':l'=l.map (ren r)) :
  ∃q,Rel q (Go.Proofs.YtbkmgoffiigdbabGreatDoor.goA s fs f pc l) (Go.Proofs.YtbkmgoffiigdbabGreatDoor.goA t (fs.map (D3 r)) (D3 r f) pc l'):=⟨r,by rw [hl'];exact h.goA pc l hl⟩
theorem At.trap {g:PgR} {r:Nat→Nat} {s t:McA} {fs:List FrA} {f:FrA} {rest args:List Val} (h:At g r s t fs f rest args) (st:Int):∃q,Rel q (z9 s st) (z9 t st) :=
 ⟨r,h.rel.go h.inv rfl rfl rfl h.rel.out h.rel.frs fun v hv h2=>h.inv.alive.roots v hv h2⟩
theorem a4E (r:Nat→Nat):ren r (0,0)=(0,0):=B3 Q7
theorem a4C {g:PgR} {r:Nat→Nat} {s t:McA} (h:Rel r s t) (_hi:e8 g s) {v:Val} (hv:v.1=2→v.2.toNat∈a6 s) :
  (b6 t.obs (ren r v)).1=(b6 s.obs v).1∧((b6 s.obs v).1≠3→(b6 t.obs (ren r v)).2=(b6 s.obs v).2.map (ren r))∧(v.1=2→s.obs[v.2.toNat]?=some (b6 s.obs v)∧t.obs[r v.2.toNat]?=some (b6 t.obs (ren r v))):=by
 by_cases h2:v.1=2
 ·obtain ⟨o,p,ho,hp,hk,hf⟩:=h.moved _ (hv h2)
  have e1:b6 s.obs v=o:=by
   unfold b6;rw[if_pos h2,List.getD,ho];rfl
  have e2:b6 t.obs (ren r v)=p:=by
   unfold b6;rw[if_pos (by rw [a0j];exact h2),a0D h2,List.getD,hp];rfl
  rw[e1,e2];exact⟨hk,hf,fun _=>⟨ho,hp⟩⟩
 ·have e1:b6 s.obs v=(0,[]):=by unfold b6;rw [if_neg h2]
  have e2:b6 t.obs (ren r v)=(0,[]):=by unfold b6;rw [if_neg (by rw [a0j];exact h2)]
  rw[e1,e2];exact⟨rfl,fun _=>rfl,fun e=>absurd e h2⟩
theorem a7C {o p:Ob} {kind:Int} (hk3:kind≠3) {ix ix':Val} {r:Nat→Nat} (h1:p.1=o.1) (h2:o.1≠3→p.2=o.2.map (ren r)) (hi1:ix'.1=ix.1) (hi2:ix.1=1→ix'.2=ix.2):x7 p kind ix'=x7 o kind ix:=by
 unfold x7;rw[h1,hi1];by_cases hc:o.1≠kind∨ix.1≠1
 ·rw [if_pos hc,if_pos hc]
 ·rw [if_neg hc,if_neg hc]
  have e1:o.1=kind:=Decidable.not_not.1 fun e=>hc (Or.inl e)
  have e2:ix.1=1:=Decidable.not_not.1 fun e=>hc (Or.inr e)
  rw[h2 (by rw [e1];exact hk3),hi2 e2,List.length_map]
theorem b9m {r:Nat→Nat} (l:List Val) (i:Nat):(l.map (ren r)).getD i (0,0)=ren r (l.getD i (0,0)):=by
 rw[List.getD_eq_getElem?_getD,List.getD_eq_getElem?_getD,List.getElem?_map]
 cases l[i]? with
 | none=>exact (a4E r).symm
 | some x=>rfl
theorem b9e {g:PgR} {s:McA} (hi:e8 g s) {v:Val} (hv:v.1=2→v.2.toNat∈a6 s) (h3:(b6 s.obs v).1≠3) (i:Nat):((b6 s.obs v).2.getD i (0,0)).1=2→((b6 s.obs v).2.getD i (0,0)).2.toNat∈a6 s:=fun h2=>by
 by_cases hr:v.1=2
 ·have hj:=hv hr
  obtain⟨o,ho,_⟩:=q8 hi hj;have e1:b6 s.obs v=o:=by unfold b6;rw [if_pos hr,List.getD,ho];rfl
  rw[e1] at h2 h3 ⊢;rw[List.getD_eq_getElem?_getD] at h2 ⊢
  cases hx:o.2[i]? with
  | none=>rw [hx] at h2;simp at h2
  | some x =>
   rw[hx] at h2;exact hi.alive.shut _ hj o ho h3 x (List.mem_of_getElem? hx) h2
 ·have e1:b6 s.obs v=(0,[]):=by unfold b6;rw [if_neg hr]
  rw[e1] at h2;simp at h2
theorem At.get {g:PgR} {r:Nat→Nat} {s t:McA} {fs:List FrA} {f:FrA} {rest args:List Val} (h:At g r s t fs f rest args) {v ix ix':Val} (hv:v∈args) (kind:Int) (hk3:kind≠3) (hi1:ix'.1=ix.1) (hi2:ix.1=1→ix'.2=ix.2) :
  ∃q,Rel q (a2f s fs f rest v kind ix) (a2f t (fs.map (D3 r)) (D3 r f) (rest.map (ren r)) (ren r v) kind ix'):=by
 have hva:=h.args v hv;obtain⟨e1,e2,_⟩:=a4C h.rel h.inv hva;have hT:=a7C hk3 e1 e2 hi1 hi2;unfold a2f;rw[hT];by_cases h0:x7 (b6 s.obs v) kind ix=0
 ·rw [if_pos h0,if_pos h0]
  obtain⟨q1,q2,_⟩:=a1v h0;have h3:(b6 s.obs v).1≠3:=by rw [q1];exact hk3
  refine h.goE _ _ _ (h.rest.app (In.one (b9e h.inv hva h3 _))) ?_;rw[e2 h3,hi2 q2,b9m,List.map_append];rfl
 ·rw [if_neg h0,if_neg h0]
  exact h.trap _
theorem At.set {g:PgR} {r:Nat→Nat} {s t:McA} {fs:List FrA} {f:FrA} {rest args:List Val} (h:At g r s t fs f rest args) {v ix ix' y:Val} (hv:v∈args) (hy:y∈args) (kind:Int) (hk3:kind≠3) (hi1:ix'.1=ix.1) (hi2:ix.1=1→ix'.2=ix.2)
  (hinv:∀st,st=a1w s fs f rest v kind ix y→e8 g st) :
  ∃q,Rel q (a1w s fs f rest v kind ix y) (a1w t (fs.map (D3 r)) (D3 r f) (rest.map (ren r)) (ren r v) kind ix' (ren r y)):=by
 have hva:=h.args v hv;obtain⟨e1,e2,e3⟩:=a4C h.rel h.inv hva;have hT:=a7C hk3 e1 e2 hi1 hi2;have hI:=hinv _ rfl;unfold a1w at hI ⊢;rw[hT];by_cases h0:x7 (b6 s.obs v) kind ix=0
 ·rw [if_pos h0] at hI
  rw[if_pos h0,if_pos h0];obtain⟨q1,q2,_,_⟩:=a1v h0;have h3:(b6 s.obs v).1≠3:=by rw [q1];exact hk3
  have hr:v.1=2:=Decidable.not_not.1 fun e=>by
   have e4:b6 s.obs v=(0,[]):=by unfold b6;rw [if_neg e]
   obtain⟨_,_,_,q5⟩:=a1v h0;rw[e4] at q5;simp at q5
  obtain⟨ho,hp⟩:=e3 hr;have hva':=hva hr;rw[e1,e2 h3,hi2 q2,a0D hr];generalize hO:b6 s.obs v=o at *
  generalize hj:v.2.toNat=j at *
  generalize ix.2.toNat=i at *
  obtain⟨s',hs'⟩:∃s':McA,s'=⟨0,s.out,fs++[⟨f.fn,f.pc+1,f.loc,rest⟩],s.obs.set j (o.1,o.2.set i y),s.dr⟩:=⟨_,rfl⟩
  rw[← hs'] at hI ⊢;have hjl:j < s.obs.length:=(List.getElem?_eq_some_iff.1 ho).1;have hobs:s'.obs=s.obs.set j (o.1,o.2.set i y):=by rw [hs']
  have hget:∀k,k≠j→s'.obs[k]?=s.obs[k]?:=fun k hk=>by rw [hobs,List.getElem?_set_ne (Ne.symm hk)]
  have hgetj:s'.obs[j]?=some (o.1,o.2.set i y):=by rw [hobs,List.getElem?_set_self hjl]
  -- what is alive now was alive
  have hvals:∀u,u∈z7 s'.frs→u.1=2→u.2.toNat∈a6 s:=fun u hu h2=>by
   rw[hs'] at hu;obtain⟨x,hx,hu⟩:=D0.1 hu;rcases List.mem_append.1 hx with hx | hx
   ·exact In.frs h.inv (by rw [h.frs];simp [hx]) u hu h2
   ·rw [List.mem_singleton] at hx;subst hx;exact (h.loc.app h.rest) u hu h2
  have hsub:∀k,k∈a6 s'→k∈a6 s:=fun k hk=>by
   have hl:a0K s'.obs (z7 s'.frs) k:=M9 k hk;clear hk
   induction hl with
   | root u hu h2=>exact hvals u hu h2
   | field m p u hm hp' h3' hu h2 ih =>
    by_cases e:m=j
    ·subst e
     rw[hgetj] at hp'
     cases hp';rcases List.mem_or_eq_of_mem_set hu with hu | hu
     ·exact h.inv.alive.shut _ ih o ho h3' u hu h2
     ·subst hu;exact h.args _ hy h2
    ·rw [hget m e] at hp'
     exact h.inv.alive.shut m ih p hp' h3' u hu h2
  have hinj:a1X r (a6 s'):=fun a b h1 h2=>h.rel.inj a b (hsub a h1) (hsub b h2)
  have hne:∀k,k∈a6 s→k≠j→r k≠r j:=fun k hk hkj e=>hkj (h.rel.inj k j hk hva' e)
  have hrl:r j < t.obs.length:=(List.getElem?_eq_some_iff.1 hp).1;have hmv:a3S r (a6 s') s'.obs (t.obs.set (r j) (o.1,(o.2.map (ren r)).set i (ren r y))):=fun k hk=>by
   by_cases e:k=j
   ·subst e
    refine⟨(o.1,o.2.set i y),(o.1,(o.2.map (ren r)).set i (ren r y)),hgetj,by rw [List.getElem?_set_self hrl],rfl,fun _=>?_⟩;show (o.2.map (ren r)).set i (ren r y)=(o.2.set i y).map (ren r);rw[List.map_set]
   ·obtain ⟨a,b,ha,hb,hk',hf'⟩:=h.rel.moved k (hsub k hk)
    exact⟨a,b,by rw [hget k e];exact ha,by rw [List.getElem?_set_ne (Ne.symm (hne k (hsub k hk) e))];exact hb,hk',hf'⟩
  obtain⟨t',ht'⟩:∃t':McA,t'=⟨0,t.out,fs.map (D3 r)++[⟨(D3 r f).fn,(D3 r f).pc+1,(D3 r f).loc,rest.map (ren r)⟩],t.obs.set (r j) (o.1,(o.2.map (ren r)).set i (ren r y)),t.dr⟩:=⟨_,rfl⟩
  rw[← ht'];have hfr:t'.frs=s'.frs.map (D3 r):=by rw [ht',hs',List.map_append];rfl
  have hcap:t'.obs.length=s'.obs.length:=by rw [ht',hs'];show (t.obs.set _ _).length=(s.obs.set _ _).length;rw [List.length_set,List.length_set];exact h.rel.cap
  have hal:a6 t'=(a6 s').map r:=by
   unfold a6;rw[hfr,Y1];refine X8 hI.alive hcap hinj ?_;rw[ht'];exact hmv
  have hal0:=h.rel.alive h.inv;refine⟨r,by rw [ht',hs'],by rw [ht',hs'];exact h.rel.out,hcap,hfr,hinj,by rw [ht'];exact hmv,fun k a b hk ha hb h3'=>?_⟩;have hkj:k≠j:=by
   rintro rfl;rw[hgetj] at ha
   cases ha;exact h3 h3'
  rw[hget k hkj] at ha;rw[ht'] at hb;have hb':t.obs[r k]?=some b:=by
   rw[show (t.obs.set (r j) (o.1,(o.2.map (ren r)).set i (ren r y)))[r k]?=t.obs[r k]? from List.getElem?_set_ne (Ne.symm (hne k (hsub k hk) hkj))] at hb;exact hb
  rcases h.rel.weak k a b (hsub k hk) ha hb' h3' with ⟨a1,a2,a3⟩ | ⟨a1,a2⟩
  ·by_cases hin:(a.2.headD (0,0)).2.toNat∈a6 s'
   ·exact Or.inl ⟨a1,hin,a3⟩
   ·refine Or.inr ⟨fun e=>hin e.2,fun e=>hin ?_⟩
    rw[a3,a0D a1,hal] at e;exact (a0z h.rel.inj hsub a2).1 e.2
  ·refine Or.inr ⟨fun e=>a1 ⟨e.1,hsub _ e.2⟩,fun e=>a2 ⟨e.1,?_⟩⟩
   rw[hal] at e;rw[hal0];obtain⟨m,hm,e'⟩:=List.mem_map.1 e.2;exact List.mem_map.2 ⟨m,hsub m hm,e'⟩
 ·rw [if_neg h0,if_neg h0]
  exact h.trap _
theorem b8K {g:PgR} {s:McA} (h:e8 g s):(a6 s).length≤G9 s.obs:=by
 rw[a1S];refine a1o h.alive.nodup fun j hj=>?_
 obtain⟨o,ho,hne⟩:=q8 h hj;rw[List.mem_filter,List.mem_range];exact⟨(List.getElem?_eq_some_iff.1 ho).1,by rw [ho];simp [hne]⟩
theorem b8q (obs:List Ob):G9 obs≤obs.length:=List.length_filter_le _ _
theorem b1F {g:PgR} {s:McA} (h:e8 g s):G9 (s9 s).obs=(s9 s).obs.length↔(a6 s).length=s.obs.length:=by
 unfold s9;have h1:=b8K h;have h2:=b8q s.obs;split
 ·rename_i e
  rw[a8r h];show _=(O1 _ _).length↔_;rw[O2]
 ·rename_i e
  constructor
  ·intro q;exact absurd q e
  ·intro q;exact absurd Q8 e
theorem b4R {g:PgR} {s:McA} (h:e8 g s):a6 (s9 s)=a6 s:=by
 unfold s9;split
 ·exact N6 h
 ·rfl
theorem Rel.room {g:PgR} {r:Nat→Nat} {s t:McA} (h:Rel r s t) (hi:e8 g s) (hj:e8 g t):Rel r (s9 s) (s9 t):=by
 have hR:Rel r s (B7 t):=h.trans (a5M hj) hi hj;have hL:Rel r (B7 s) t:=(a8h hi).trans h (a0y hi) hi;have hB:Rel r (B7 s) (B7 t):=hL.trans (a5M hj) (a0y hi) hj;unfold s9;split
 ·split
  ·exact hB
  ·exact hL
 ·split
  ·exact hR
  ·exact h
theorem b3c {g:PgR} {s:McA} (h:e8 g s) {j:Nat} {o:Ob} (ho:s.obs[j]?=some o) (h3:o.1=3):VOk s.obs (o.2.headD (0,0)):=by
 rcases h.obs o (List.mem_of_getElem? ho) with ⟨e,_⟩ | ⟨e,_⟩ | ⟨e,_⟩ | ⟨_,u,e,hu,_⟩
 ·omega
 ·omega
 ·omega
 ·rw [e];exact hu
theorem At.new {g:PgR} {r:Nat→Nat} {s t:McA} {fs:List FrA} {f:FrA} {rest args:List Val} (h:At g r s t fs f rest args) (kind:Int) (fl fl':List Val)
  (hfl:(kind≠3∧(∀v,v∈fl→v.1≠2)∧fl'=fl)∨(kind=3∧∃x,x∈args∧x.1=2∧fl=[x]∧fl'=[ren r x])) (hI:e8 g (M2 s fs f rest kind fl)) :
  ∃q,Rel q (M2 s fs f rest kind fl) (M2 t (fs.map (D3 r)) (D3 r f) (rest.map (ren r)) kind fl'):=by
 have hrm:=h.rel.room h.inv h.inv';have hi1:=a4k h.inv;have hj1:=a4k h.inv';have hfull:G9 (s9 t).obs=(s9 t).obs.length↔G9 (s9 s).obs=(s9 s).obs.length:=by
  rw[b1F h.inv,b1F h.inv',h.rel.len h.inv,h.rel.cap]
 have hal1:=b4R h.inv;unfold M2 at hI ⊢;by_cases hF:G9 (s9 s).obs=(s9 s).obs.length
 ·rw [if_pos hF,if_pos (hfull.2 hF)]
  exact⟨r,hrm.go hi1 rfl rfl rfl hrm.out hrm.frs fun v hv h2=>hi1.alive.roots v hv h2⟩
 ·rw [if_neg hF] at hI
  rw[if_neg hF,if_neg (fun e=>hF (hfull.1 e))];obtain⟨⟨j,d⟩,hj⟩:=V5 (dr:=s.dr) (show 0 < (s9 s).obs.length by have:=hi1.cap;omega) hF;obtain⟨⟨k,d'⟩,hk⟩:=V5 (dr:=t.dr) (show 0 < (s9 t).obs.length by have:=hj1.cap;omega) (fun e=>hF (hfull.1 e));rw[hj] at hI;rw[hj,hk];simp only at hI ⊢;obtain⟨⟨x,hx,hx0⟩,_⟩:=V4 hj;obtain⟨⟨y,hy,hy0⟩,_⟩:=V4 hk;have hs1:(s9 s).frs=s.frs:=a5n s
  generalize s9 s=s1 at *
  generalize s9 t=t1 at *
  simp only at hx hy;have hjl:j < s1.obs.length:=(List.getElem?_eq_some_iff.1 hx).1;have hkl:k < t1.obs.length:=(List.getElem?_eq_some_iff.1 hy).1;have hjn:j∉a6 s1:=fun e=>by
   obtain⟨o,ho,hne⟩:=q8 hi1 e;rw[hx] at ho;cases ho;exact hne hx0
  have hkn:k∉a6 t1:=fun e=>by
   obtain⟨o,ho,hne⟩:=q8 hj1 e;rw[hy] at ho;cases ho;exact hne hy0
  have halt:=hrm.alive hi1;have hrk:∀i,i∈a6 s1→r i≠k:=fun i hi e=>hkn (by rw [halt];exact List.mem_map.2 ⟨i,hi,e⟩)
  obtain⟨r',hr'⟩:∃r':Nat→Nat,r'=fun z=>if z=j then k else r z:=⟨_,rfl⟩
  have rj:r' j=k:=by rw [hr'];simp
  have ro:∀i,i∈a6 s1→r' i=r i:=fun i hi=>by
   have hij:i≠j:=fun e=>hjn (by rw [← e];exact hi)
   rw[hr'];show (if i=j then k else r i)=r i;rw[if_neg hij]
  have rv:∀v:Val,(v.1=2→v.2.toNat∈a6 s1)→ren r' v=ren r v:=fun v hv=>by
   by_cases h2:v.1=2
   ·unfold ren;rw [if_pos h2,if_pos h2,ro _ (hv h2)]
   ·rw [B3 h2,B3 h2]
  have rl:∀l:List Val,(∀v,v∈l→v.1=2→v.2.toNat∈a6 s1)→l.map (ren r')=l.map (ren r):=fun l hl=>List.map_congr_left fun v hv=>rv v (hl v hv)
  have inj1:∀a b,(a∈a6 s1∨a=j)→(b∈a6 s1∨b=j)→r' a=r' b→a=b:=fun a b ha hb e=>by
   rcases ha with ha | rfl
   ·rcases hb with hb | rfl
    ·rw [ro a ha,ro b hb] at e;exact hrm.inj a b ha hb e
    ·rw [ro a ha,rj] at e;exact absurd e (hrk a ha)
   ·rcases hb with hb | rfl
    ·rw [ro b hb,rj] at e;exact absurd e.symm (hrk b hb)
    ·rfl
  have inl:∀l:List Val,In s l→∀v,v∈l→v.1=2→v.2.toNat∈a6 s1:=fun l hl v hv h2=>by rw [hal1];exact hl v hv h2
  obtain⟨s2,hs2⟩:∃s2:McA,s2=⟨0,s.out,fs++[⟨f.fn,f.pc+1,f.loc,rest++[(2,(j:Int))]⟩],s1.obs.set j (kind,fl),d⟩:=⟨_,rfl⟩
  rw[← hs2] at hI ⊢;have hgj:s2.obs[j]?=some (kind,fl):=by rw [hs2];exact List.getElem?_set_self hjl
  have hg:∀i,i≠j→s2.obs[i]?=s1.obs[i]?:=fun i hi=>by rw [hs2];exact List.getElem?_set_ne (Ne.symm hi)
  have hsub:∀i,i∈a6 s2→i∈a6 s1∨i=j:=fun i hi=>by
   have hl:a0K s2.obs (z7 s2.frs) i:=M9 i hi;clear hi
   induction hl with
   | root u hu h2 =>
    rw[hs2] at hu;obtain⟨z,hz,hu⟩:=D0.1 hu;rcases List.mem_append.1 hz with hz | hz
    ·exact Or.inl (inl _ (In.frs h.inv (by rw [h.frs];simp [hz])) u hu h2)
    ·rw [List.mem_singleton] at hz
     subst hz;rcases List.mem_append.1 hu with hu | hu
     ·exact Or.inl (inl _ h.loc u hu h2)
     ·rcases List.mem_append.1 hu with hu | hu
      ·exact Or.inl (inl _ h.rest u hu h2)
      ·rw [List.mem_singleton] at hu;subst hu;exact Or.inr Q9
   | field m p u hm hp h3 hu h2 ih =>
    rcases ih with ih | rfl
    ·rw [hg m (fun e=>hjn (e▸ih))] at hp
     exact Or.inl (hi1.alive.shut m ih p hp h3 u hu h2)
    ·rw [hgj] at hp
     cases hp;rcases hfl with ⟨_,q,_⟩ | ⟨q,_⟩
     ·exact absurd h2 (q u hu)
     ·exact absurd q h3
  have hinj:a1X r' (a6 s2):=fun a b ha hb=>inj1 a b (hsub a ha) (hsub b hb)
  obtain⟨t2,ht2⟩:∃t2:McA,t2=⟨0,t.out,fs.map (D3 r)++[⟨(D3 r f).fn,(D3 r f).pc+1,(D3 r f).loc,rest.map (ren r)++[(2,(k:Int))]⟩],t1.obs.set k (kind,fl'),d'⟩:=⟨_,rfl⟩
  rw[← ht2];have hgk:t2.obs[k]?=some (kind,fl'):=by rw [ht2];exact List.getElem?_set_self hkl
  have hgt:∀i,i≠k→t2.obs[i]?=t1.obs[i]?:=fun i hi=>by rw [ht2];exact List.getElem?_set_ne (Ne.symm hi)
  have hfr:t2.frs=s2.frs.map (D3 r'):=by
   rw[ht2,hs2,List.map_append];show fs.map (D3 r)++[_]=fs.map (D3 r')++[D3 r' _];have e1:fs.map (D3 r')=fs.map (D3 r):=List.map_congr_left fun z hz=>by
    have hz':=inl _ (In.frs h.inv (f:=z) (by rw [h.frs];simp [hz]));unfold D3;rw[rl z.loc fun v hv=>hz' v (by simp [hv]),rl z.stk fun v hv=>hz' v (by simp [hv])]
   rw[e1];congr 1
   unfold D3;simp only[List.map_append,List.map_cons,List.map_nil];rw[rl f.loc (inl _ h.loc),rl rest (inl _ h.rest)];have:ren r' (2,(j:Int))=(2,(k:Int)):=by unfold ren;rw [if_pos rfl];show (2,((r' (j:Int).toNat:Nat):Int))=_;rw [Int.toNat_natCast,rj]
   rw[this]
  have hcap:t2.obs.length=s2.obs.length:=by rw [ht2,hs2];show (t1.obs.set _ _).length=(s1.obs.set _ _).length;rw [List.length_set,List.length_set];exact hrm.cap
  have hmv:a3S r' (a6 s2) s2.obs t2.obs:=fun i hi=>by
   rcases hsub i hi with hi1' | rfl
   ·have hij:i≠j:=fun e=>hjn (e▸hi1')
    obtain⟨o,p,ho,hp,hk',hf'⟩:=hrm.moved i hi1';refine⟨o,p,by rw [hg i hij];exact ho,by rw [ro i hi1',hgt _ (hrk i hi1')];exact hp,hk',fun h3=>?_⟩;rw[hf' h3];exact (rl o.2 (hi1.alive.shut i hi1' o ho h3)).symm
   ·refine ⟨(kind,fl),(kind,fl'),hgj,by rw [rj];exact hgk,rfl,fun h3=>?_⟩
    rcases hfl with ⟨_,q,e⟩ | ⟨q,_⟩
    ·show fl'=fl.map (ren r')
     rw[e]
     conv=>lhs;rw [← List.map_id fl]
     exact List.map_congr_left fun v hv=>(B3 (q v hv)).symm
    ·exact absurd q h3
  have hal:a6 t2=(a6 s2).map r':=by
   unfold a6;rw[hfr,Y1];exact X8 hI.alive hcap hinj hmv
  have hdead:∀v:Val,v.1=2→v.2.toNat∈a6 s1→a9t r' (a6 s2) (a6 t2) v (ren r v):=fun v h2 hin=>by
   by_cases hin2:v.2.toNat∈a6 s2
   ·exact Or.inl ⟨h2,hin2,(rv v fun _=>hin).symm⟩
   ·refine Or.inr ⟨fun e=>hin2 e.2,fun e=>hin2 ?_⟩
    have e2:=e.2;rw[a0D h2,hal] at e2;obtain⟨m,hm,e'⟩:=List.mem_map.1 e2;rw[← ro _ hin] at e';rw[← inj1 m _ (hsub m hm) (Or.inl hin) e'];exact hm
  refine⟨r',by rw [ht2,hs2],by rw [ht2,hs2];exact h.rel.out,hcap,hfr,hinj,hmv,fun i o p hi ho hp h3=>?_⟩;rcases hsub i hi with hi1' | rfl
  ·have hij:i≠j:=fun e=>hjn (e▸hi1')
   rw[hg i hij] at ho;rw[ro i hi1',hgt _ (hrk i hi1')] at hp;rcases hrm.weak i o p hi1' ho hp h3 with ⟨a1,a2,a3⟩ | ⟨a1,a2⟩
   ·rw [a3];exact hdead _ a1 a2
   ·have ov:=b3c hi1 ho h3
    have hp3:p.1=3:=by
     obtain⟨o',p',ho',hp',hk',_⟩:=hrm.moved i hi1';rw[ho] at ho';cases ho';rw[hp] at hp';cases hp';rw[hk'];exact h3
    have pv:=b3c hj1 hp hp3;refine Or.inr ⟨fun e=>?_,fun e=>?_⟩
    ·rcases hsub _ e.2 with q | q
     ·exact a1 ⟨e.1,q⟩
     ·obtain ⟨_,z,hz,hzn⟩:=ov.ref e.1
      rw[q,hx] at hz;cases hz;exact hzn hx0
    ·have e2:=e.2
     rw[hal] at e2;obtain⟨m,hm,e'⟩:=List.mem_map.1 e2;rcases hsub m hm with q | q
     ·rw [ro m q] at e'
      exact a2 ⟨e.1,by rw [← e',halt];exact List.mem_map.2 ⟨m,q,rfl⟩⟩
     ·subst q
      rw[rj] at e';obtain⟨_,z,hz,hzn⟩:=pv.ref e.1;rw[← e',hy] at hz;cases hz;exact hzn hy0
  ·rw [hgj] at ho
   rw[rj,hgk] at hp
   cases ho
   cases hp;rcases hfl with ⟨q,_⟩ | ⟨_,z,hz,hz2,e1,e2⟩
   ·exact absurd h3 q
   ·rw [e1,e2]
    exact hdead z hz2 (inl _ h.args z hz hz2)
section
theorem In.getD {s:McA} {l:List Val} (h:In s l) (i:Nat):In s [l.getD i (0,0)]:=In.one fun h2=>by
 rw[List.getD_eq_getElem?_getD] at h2 ⊢
 cases hx:l[i]? with
 | none=>rw [hx] at h2;simp at h2
 | some x=>rw [hx] at h2;exact h x (List.mem_of_getElem? hx) h2
theorem In.set {s:McA} {l:List Val} (h:In s l) (i:Nat) {x:Val} (hx:x.1=2→x.2.toNat∈a6 s):In s (l.set i x):=fun v hv h2=>by
 rcases List.mem_or_eq_of_mem_set hv with hv | rfl
 ·exact h v hv h2
 ·exact hx h2
theorem In.nils {s:McA} (n:Nat):In s (List.replicate n (0,0)):=fun v hv h2=>by
 rw[(List.mem_replicate.1 hv).2] at h2;simp at h2
section
variable {g:PgR} {r:Nat→Nat} {s t:McA} {fs:List FrA} {f:FrA} {rest args:List Val}
theorem At.call (h:At g r s t fs f rest args) (a:Int) (l:List Val) (hl:In s l):∃q,Rel q (Y7 g a s fs f rest l) (Y7 g a t (fs.map (D3 r)) (D3 r f) (rest.map (ren r)) (l.map (ren r))):=by
 unfold Y7;rw[List.length_map,List.length_map];by_cases hc:12≤fs.length+1
 ·rw [if_pos hc,if_pos hc];exact h.trap _
 ·rw [if_neg hc,if_neg hc]
  have:=h.put 0 s.out (fs++[⟨f.fn,f.pc,f.loc,rest⟩]++[⟨a.toNat,0,l++List.replicate ((g.f a.toNat).l.toNat - l.length) (0,0),[]⟩]) (fun x hx=>by
   rcases List.mem_append.1 hx with hx | hx
   ·rcases List.mem_append.1 hx with hx | hx
    ·exact Or.inl hx
    ·rw [List.mem_singleton] at hx;subst hx;exact Or.inr (h.loc.app h.rest)
   ·rw [List.mem_singleton] at hx;subst hx;exact Or.inr ((hl.app (In.nils _)).app In.nil)) s.dr t.dr
  rw[h.rel.out];refine⟨r,?_⟩;have e:(List.replicate ((g.f a.toNat).l.toNat - l.length) ((0,0):Val)).map (ren r)=List.replicate ((g.f a.toNat).l.toNat - l.length) (0,0):=by rw [List.map_replicate,a4E]
  simp only[List.map_append,List.map_cons,List.map_nil,D3,e] at this ⊢;exact this
end
end
end Go.Proofs.YtbkmgoffiigdbabGreatDoor
namespace Go.Proofs.YtbkmgoffiigdbabGreatDoor

open Go.RowKit Go.Sort
end Go.Proofs.YtbkmgoffiigdbabGreatDoor
namespace Go.Proofs.YtbkmgoffiigdbabGreatDoor
open Go.RowKit Go.Sort
def ixA:List Nat→Nat→Option Nat
 | [],_=>none
 | a::l,x=>if a=x then some 0 else (ixA l x).map (·+1)
theorem b1U {l:List Nat} {x:Nat} (h:x∉l):ixA l x=none:=by
 induction l with
 | nil=>rfl
 | cons a l ih =>
  rw[ixA,if_neg (fun e=>h (by simp [e])),ih (fun e=>h (by simp [e]))];rfl
theorem b5O {r:Nat→Nat} {A:List Nat} (hr:a1X r A) {x:Nat} (hx:x∈A):∀{l:List Nat},(∀j,j∈l→j∈A)→ixA (l.map r) (r x)=ixA l x
 | [],_=>rfl
 | a::l,hl=>by
  rw[List.map_cons,ixA,ixA];by_cases e:a=x
  ·rw [if_pos e,if_pos (by rw [e])]
  ·rw [if_neg e,if_neg (fun q=>e (hr a x (hl a Q9) hx q)),b5O hr hx fun j hj=>hl j (by simp [hj])]
def j4 (al:List Nat) (v:Val):Val:=if v.1=2 then (match ixA al v.2.toNat with | some i=>(2,(i:Int)) | none=>(0,0)) else v
def a1p (al:List Nat) (f:FrA):FrA:=⟨f.fn,f.pc,f.loc.map (j4 al),f.stk.map (j4 al)⟩
def J8 (s:McA) (j:Nat):Ob:=match s.obs[j]? with | some o=>(o.1,o.2.map (j4 (a6 s))) | none=>(0,[])
def g8 (s:McA):McA:=⟨s.st,s.out,s.frs.map (a1p (a6 s)),(a6 s).map (J8 s),[]⟩
theorem a1K {al:List Nat} {v:Val} (h:¬(v.1=2∧v.2.toNat∈al)) (h0:v.1≠2→v=(0,0)):j4 al v=(0,0):=by
 unfold j4;by_cases h2:v.1=2
 ·rw [if_pos h2,b1U fun e=>h ⟨h2,e⟩]
 ·rw [if_neg h2];exact h0 h2
theorem a5v {g:PgR} {s:McA} (h:e8 g s) {j:Nat} {o:Ob} (ho:s.obs[j]?=some o) (h3:o.1=3):o.2=[o.2.headD (0,0)]∧(o.2.headD (0,0)).1≠1∧((o.2.headD (0,0)).1≠2→o.2.headD (0,0)=(0,0)):=by
 rcases h.obs o (List.mem_of_getElem? ho) with ⟨e,_⟩ | ⟨e,_⟩ | ⟨e,_⟩ | ⟨_,u,e,hu,h1⟩
 ·omega
 ·omega
 ·omega
 ·rw [e]
  refine⟨rfl,h1,fun h2=>?_⟩;rcases hu with hu | hu | hu
  ·exact hu
  ·exact absurd hu h1
  ·exact absurd hu.1 h2
end Go.Proofs.YtbkmgoffiigdbabGreatDoor
