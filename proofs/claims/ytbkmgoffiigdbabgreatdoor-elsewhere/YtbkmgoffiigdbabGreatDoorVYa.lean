import Derived.Test.YtbkmgoffiigdbabGreatDoorVUc
import Derived.Test.YtbkmgoffiigdbabGreatDoorVXf
namespace Go.Proofs.YtbkmgoffiigdbabGreatDoor
open Go.RowKit Go.Sort
theorem vD {obs:List Ob} : ∀(n i:Nat) (met:List Nat) (k:Nat),(K6 obs n i met).length≤n+i→K6 obs (n+k) i met=K6 obs n i met
 | 0,i,met,k,h=>by
  rw[K6] at h ⊢
  cases k with
  | zero=>rfl
  | succ k =>
   rw[Nat.zero_add,K6,List.getElem?_eq_none_iff.2 Q8]
 | n+1,i,met,k,h=>by
  have e:n+1+k=(n+k)+1:=by omega
  rw[K6] at h;rw[e,K6,K6]
  cases hi:met[i]? with
  | none=>rfl
  | some j =>
   rw[hi] at h;simp only at h ⊢
   cases ho:obs[j]? with
   | none=>rfl
   | some o =>
    rw[ho] at h;simp only at h ⊢;exact vD n (i+1) _ k Q8
theorem a3u {obs:List Ob} {n m:Nat} {i:Nat} {met:List Nat} (hnm:n≤m) (h:(K6 obs n i met).length≤n+i):K6 obs m i met=K6 obs n i met:=by
 obtain⟨k,rfl⟩:=Nat.exists_eq_add_of_le hnm;exact vD n i met k h
theorem xH {r:Nat→Nat} {obs obt:List Ob} {l:List Val} {A:List Nat} (hA:Z6 obs l A) (hlen:A.length≤obt.length) (hr:gA r A) (hmv:kY r A obs obt) (hsub:∀n j,j∈K6 obs n 0 (G2 [] l)→j∈A) (hnd:∀n,(K6 obs n 0 (G2 [] l)).Nodup):E3 obt (l.map (ren r))=(E3 obs l).map r:=by
 unfold E3;have h0:∀j,j∈G2 [] l→j∈A:=fun j hj=>by
  rcases (Y6 l [] j).1 hj with h | ⟨v,hv,h2,rfl⟩
  ·cases h
  ·exact hA.roots v hv h2
 have e:=eY hr l [] Q9 fun v hv h2=>hA.roots v hv h2
 rw[show ([]:List Nat).map r=[] from rfl] at e;rw[e,mG hr hmv hA.shut _ _ _ h0];congr 1
 have hb:∀n,(K6 obs n 0 (G2 [] l)).length≤A.length:=fun n=>eZ (hnd n) (hsub n)
 have hAo:A.length≤obs.length:=K5 hA.nodup hA.lt;rcases Nat.le_total obt.length obs.length with h | h
 ·exact (a3u h (by have:=hb obt.length;omega)).symm
 ·exact a3u h (by have:=hb obs.length;omega)
structure yL (r:Nat→Nat) (s t:McA):Prop where
 st:t.st=s.st
 out:t.out=s.out
 cap:(A0 s).length≤t.obs.length
 frs:t.frs=s.frs.map (F5 r)
 inj:gA r (A0 s)
 moved:kY r (A0 s) s.obs t.obs
theorem a2P {obs:List Ob} (hw:kD obs) {l:List Val} (hl:∀v,v∈l→v.1=2→v.2.toNat < obs.length):∀n,(K6 obs n 0 (G2 [] l)).Nodup:=by
 intro n
 suffices ∀(n i:Nat) (met:List Nat),kC obs i met→(K6 obs n i met).Nodup from this n 0 _ ⟨U0 _ _ List.nodup_nil,cE Q9 hl,fun k j hk _=>by omega⟩
 intro n
 induction n with
 | zero=>intro i met h;exact h.nodup
 | succ n ih =>
  intro i met h;rw[K6]
  cases hi:met[i]? with
  | none=>exact h.nodup
  | some j =>
   obtain⟨o,ho⟩:∃o,obs[j]?=some o:=⟨_,List.getElem?_eq_getElem (h.lt j (List.mem_of_getElem? hi))⟩
   simp only[ho];exact ih _ _ (h.next hw hi ho)
theorem yL.alive {g:PgR} {r:Nat→Nat} {s t:McA} (h:yL r s t) (hi:C1 g s):A0 t=(A0 s).map r:=by
 unfold A0;rw[h.frs,cK];have hl:∀v,v∈D5 s.frs→v.1=2→v.2.toNat < s.obs.length:=fun v hv h2=>hi.alive.lt _ (hi.alive.roots v hv h2)
 refine xH hi.alive h.cap h.inj h.moved (fun n j hj=>?_) (a2P hi.within hl);have:cV s.obs (D5 s.frs) j:=kV n 0 _ (kI Q9 fun v hv h2=>cV.root v hv h2) j hj;exact hi.alive.of_lead this
def a7G (r:Nat→Nat) (s t:McA):Prop:=∀j o p,j∈A0 s→s.obs[j]?=some o→t.obs[r j]?=some p→o.1=3→vN r (A0 s) (A0 t) (o.2.headD (0,0)) (p.2.headD (0,0))
theorem yL.rel {r:Nat→Nat} {s t:McA} (h:yL r s t) (hw:a7G r s t) (hc:t.obs.length=s.obs.length):Rel r s t:=⟨h.st,h.out,hc,h.frs,h.inj,h.moved,hw⟩
theorem fR {g:PgR} {r:Nat→Nat} {s t:McA} (h:yL r s t) (hi:C1 g s) {v:Val} (hv:v.1=2→v.2.toNat∈A0 s):C4 (A0 t) (ren r v)=C4 (A0 s) v:=by
 unfold C4;rw[K0];by_cases h2:v.1=2
 ·rw [if_pos h2,if_pos h2,bX h2,h.alive hi,wT h.inj (hv h2) fun _ hj=>hj]
 ·rw [if_neg h2,if_neg h2,E0 h2]
theorem a4O {g:PgR} {r:Nat→Nat} {s t:McA} (h:yL r s t) (hw:a7G r s t) (hi:C1 g s) (hj:C1 g t):A9 t=A9 s:=by
 unfold A9;rw[h.st,h.out,h.frs,List.map_map];have e1:s.frs.map (gH (A0 t)∘F5 r)=s.frs.map (gH (A0 s)):=List.map_congr_left fun f hf=>by
  have hin:=In.frs hi hf;show FrA.mk f.fn f.pc ((f.loc.map (ren r)).map (C4 (A0 t))) ((f.stk.map (ren r)).map (C4 (A0 t)))=FrA.mk f.fn f.pc (f.loc.map (C4 (A0 s))) (f.stk.map (C4 (A0 s)));rw[List.map_map,List.map_map];congr 1
  ·exact List.map_congr_left fun v hv=>fR h hi (hin v (by simp [hv]))
  ·exact List.map_congr_left fun v hv=>fR h hi (hin v (by simp [hv]))
 have e2:(A0 t).map (N5 t)=(A0 s).map (N5 s):=by
  rw[h.alive hi,List.map_map];refine List.map_congr_left fun j hj'=>?_
  obtain⟨o,p,ho,hp,hk,hf⟩:=h.moved j hj';show N5 t (r j)=N5 s j;unfold N5;rw[ho,hp];show (p.1,p.2.map (C4 (A0 t)))=(o.1,o.2.map (C4 (A0 s)));rw[hk];congr 1
  by_cases h3:o.1=3
  ·obtain ⟨f1,_,f3⟩:=fF hi ho h3
   obtain⟨g1,_,g3⟩:=fF hj hp (by rw [hk];exact h3);rw[f1,g1];rcases hw j o p hj' ho hp h3 with ⟨a1,a2,a3⟩ | ⟨a1,a2⟩
   ·show [C4 (A0 t) (p.2.headD (0,0))]=[C4 (A0 s) (o.2.headD (0,0))]
    rw[a3,fR h hi fun _=>a2]
   ·show [C4 (A0 t) (p.2.headD (0,0))]=[C4 (A0 s) (o.2.headD (0,0))]
    rw[bK a1 f3,bK a2 g3]
  ·rw [hf h3,List.map_map]
   exact List.map_congr_left fun v hv=>fR h hi (hi.alive.shut j hj' o ho h3 v hv)
 rw[e1,e2]
section
theorem wR:∀{l:List Nat} {x i:Nat},ixA l x=some i→l[i]?=some x
 | [],_,_,h=>by cases h
 | a::l,x,i,h=>by
  rw[ixA] at h;by_cases e:a=x
  ·rw [if_pos e] at h
   injection h with h
   subst h;rw[e];rfl
  ·rw [if_neg e] at h
   cases q:ixA l x with
   | none=>rw [q] at h;cases h
   | some k =>
    rw[q] at h
    injection h with h
    subst h;rw[List.getElem?_cons_succ];exact wR q
theorem wU {l:List Nat} {x:Nat} (h:x∈l):∃i,ixA l x=some i:=by
 induction l with
 | nil=>cases h
 | cons a l ih =>
  rw[ixA];by_cases e:a=x
  ·rw [if_pos e];exact ⟨0,rfl⟩
  ·rw [if_neg e]
   obtain⟨i,hi⟩:=ih (by rcases List.mem_cons.1 h with h | h;exact absurd h.symm e;exact h);rw[hi];exact⟨i+1,rfl⟩
theorem a0e {l:List Nat} (hn:l.Nodup) {i j x:Nat} (hi:l[i]?=some x) (hj:l[j]?=some x):i=j:=by
 obtain⟨hil,e1⟩:=List.getElem?_eq_some_iff.1 hi;obtain⟨hjl,e2⟩:=List.getElem?_eq_some_iff.1 hj;have hp:=List.pairwise_iff_getElem.1 (show List.Pairwise (·≠·) l from hn);rcases Nat.lt_trichotomy i j with h | h | h
 ·exact absurd (e1.trans e2.symm) (hp i j hil hjl h)
 ·exact h
 ·exact absurd (e2.trans e1.symm) (hp j i hjl hil h)
theorem a9e {l:List Nat} (hn:l.Nodup) {i x:Nat} (hi:l[i]?=some x):ixA l x=some i:=by
 obtain⟨k,hk⟩:=wU (List.mem_of_getElem? hi);rw[hk,a0e hn (wR hk) hi]
def atL (laid:List Nat) (i:Nat):Nat:=laid.getD i 0
def rX (al laid:List Nat) (j:Nat):Nat:=atL laid ((ixA al j).getD 0)
theorem iF {al laid:List Nat} {v:Val} (h:v.1=2→v.2.toNat∈al):ren (atL laid) (C4 al v)=ren (rX al laid) v:=by
 unfold C4;by_cases h2:v.1=2
 ·obtain ⟨i,hi⟩:=wU (h h2)
  rw[if_pos h2,hi];unfold ren;rw[if_pos rfl,if_pos h2];unfold rX;rw[hi];rfl
 ·rw [if_neg h2,E0 h2,E0 h2]
structure eF (os obs:List Ob) (laid:List Nat):Prop where
 len:laid.length=os.length
 nodup:laid.Nodup
 at_:∀(k:Nat) o,os[k]?=some o→∃j,laid[k]?=some j∧obs[j]?=some o
 free:∀(j:Nat) o,obs[j]?=some o→j∉laid→o=(0,[])
def gJ (p:McA) (obs:List Ob) (laid:List Nat) (dr:List Int):McA:=⟨p.st,p.out,p.frs.map (F5 (atL laid)),obs.map fun o=>(o.1,o.2.map (ren (atL laid))),dr⟩
section
variable {g:PgR} {s:McA} {obs:List Ob} {laid:List Nat} {dr:List Int}
theorem rY {k:Nat} {j:Nat} (hj:(A0 s)[k]?=some j) {o:Ob} (ho:s.obs[j]?=some o):(A9 s).obs[k]?=some (o.1,o.2.map (C4 (A0 s))):=by
 show ((A0 s).map (N5 s))[k]?=_;rw[List.getElem?_map,hj];show some (N5 s j)=_;unfold N5;rw[ho]
theorem iJ (h:eF (A9 s).obs obs laid) (hi:C1 g s) {j:Nat} (hj:j∈A0 s):∃(o:Ob) (k:Nat),s.obs[j]?=some o∧o.1≠0∧(A0 s)[k]?=some j∧laid[k]?=some (rX (A0 s) laid j)∧obs[rX (A0 s) laid j]?=some (o.1,o.2.map (C4 (A0 s))):=by
 obtain⟨o,ho,hne⟩:=F6 hi hj;obtain⟨k,hk⟩:=wU hj;have hk':=wR hk;obtain⟨i,h1,h2⟩:=h.at_ k _ (rY hk' ho);have e:rX (A0 s) laid j=i:=by
  unfold rX atL;rw[hk];show laid.getD k 0=i;rw[List.getD_eq_getElem?_getD,h1];rfl
 rw[e];exact⟨o,k,ho,hne,hk',h1,h2⟩
theorem vC (h:eF (A9 s).obs obs laid) (hi:C1 g s) (hlt:∀j,j∈laid→j < obs.length):yL (rX (A0 s) laid) s (gJ (A9 s) obs laid dr):=by
 refine⟨rfl,rfl,?_,?_,fun i j h1 h2 e=>?_,fun j hj=>?_⟩
 ·show _≤(obs.map _).length
  rw[List.length_map];have:laid.length=(A0 s).length:=by rw [h.len];exact List.length_map _
  rw[← this];exact K5 h.nodup hlt
 ·show (s.frs.map (gH (A0 s))).map (F5 (atL laid))=_
  rw[List.map_map];refine List.map_congr_left fun f hf=>?_
  have hin:=In.frs hi hf;show FrA.mk f.fn f.pc ((f.loc.map _).map _) ((f.stk.map _).map _)=FrA.mk f.fn f.pc _ _;rw[List.map_map,List.map_map];congr 1
  ·exact List.map_congr_left fun v hv=>iF (hin v (by simp [hv]))
  ·exact List.map_congr_left fun v hv=>iF (hin v (by simp [hv]))
 ·obtain ⟨_,k,_,_,hk,hl,_⟩:=iJ h hi h1
  obtain⟨_,k',_,_,hk',hl',_⟩:=iJ h hi h2;rw[← e] at hl';obtain rfl:=a0e h.nodup hl hl';rw[hk] at hk';exact Option.some.inj hk'
 ·obtain ⟨o,k,ho,hne,hk,hl,hob⟩:=iJ h hi hj
  refine⟨o,(o.1,(o.2.map (C4 (A0 s))).map (ren (atL laid))),ho,?_,rfl,fun h3=>?_⟩
  ·show (obs.map _)[_]?=_
   rw[List.getElem?_map,hob];rfl
  ·show (o.2.map (C4 (A0 s))).map (ren (atL laid))=_
   rw[List.map_map];exact List.map_congr_left fun v hv=>iF (hi.alive.shut j hj o ho h3 v hv)
theorem a5v (h:eF (A9 s).obs obs laid) (hi:C1 g s):a7G (rX (A0 s) laid) s (gJ (A9 s) obs laid dr):=by
 intro j o p hj ho hp h3;obtain⟨o',k,ho',hne,hk,hl,hob⟩:=iJ h hi hj;rw[ho] at ho'
 cases ho';have hp':p=(o.1,(o.2.map (C4 (A0 s))).map (ren (atL laid))):=by
  have:(obs.map fun o=>((o.1,o.2.map (ren (atL laid))):Ob))[rX (A0 s) laid j]?=some p:=hp;rw[List.getElem?_map,hob] at this;exact (Option.some.inj this).symm
 obtain⟨f1,f2,f3⟩:=fF hi ho h3;rw[hp',f1];show vN _ _ _ (o.2.headD (0,0)) (ren (atL laid) (C4 (A0 s) (o.2.headD (0,0))));generalize o.2.headD (0,0)=v at f2 f3 ⊢;by_cases hc:v.1=2∧v.2.toNat∈A0 s
 ·exact Or.inl ⟨hc.1,hc.2,iF fun _=>hc.2⟩
 ·refine Or.inr ⟨hc,?_⟩
  rw[bK hc f3,dZ];simp
end
end
section
def dC:List Ob→List Ob→List Int→List Nat→List Ob × List Int × List Nat
 | [],obs,dr,laid=>(obs,dr,laid)
 | o::l,obs,dr,laid=>match fA obs dr with
  | none=>(obs,dr,laid)
  | some j=>dC l (obs.set j.1 o) j.2 (laid++[j.1])
theorem eF.none (c:Nat):eF [] (List.replicate c (0,[])) []:=by
 refine⟨rfl,List.nodup_nil,fun k o ho=>by simp at ho,fun j o ho _=>?_⟩;exact (List.mem_replicate.1 (List.mem_of_getElem? ho)).2
theorem eF.free_at {os obs:List Ob} {laid:List Nat} (h:eF os obs laid) (hk:∀o,o∈os→o.1≠0) {j:Nat} {o:Ob} (ho:obs[j]?=some o) (h0:o.1=0):j∉laid:=fun hj=>by
 obtain⟨k,hk'⟩:=List.mem_iff_getElem?.1 hj;have hkl:=(List.getElem?_eq_some_iff.1 hk').1;rw[h.len] at hkl;obtain⟨j',h1,h2⟩:=h.at_ k _ (List.getElem?_eq_getElem hkl);rw[hk'] at h1
 cases h1;rw[ho] at h2
 injection h2 with h2
 exact hk _ (List.getElem_mem hkl) (by rw [← h2];exact h0)
theorem eF.put {os obs:List Ob} {laid:List Nat} (h:eF os obs laid) {j:Nat} (hj:j∉laid) (hl:j < obs.length) (o:Ob):eF (os++[o]) (obs.set j o) (laid++[j]):=by
 refine⟨by rw [List.length_append,List.length_append,h.len];rfl,?_,fun k x hx=>?_,fun i x hx hn=>?_⟩
 ·rw [List.nodup_append]
  refine⟨h.nodup,by simp,fun a ha b hb=>?_⟩;rw[List.mem_singleton] at hb;rintro rfl;exact hj (hb▸ha)
 ·by_cases hk:k < os.length
  ·rw [List.getElem?_append_left hk] at hx
   obtain⟨i,h1,h2⟩:=h.at_ k x hx;refine⟨i,by rw [List.getElem?_append_left (by rw [h.len];exact hk)];exact h1,?_⟩;rw[List.getElem?_set_ne (fun e=>hj (by rw [e];exact List.mem_of_getElem? h1))];exact h2
  ·have hkl:=(List.getElem?_eq_some_iff.1 hx).1
   rw[List.length_append] at hkl;simp at hkl;obtain rfl:k=os.length:=by omega
   rw[List.getElem?_append_right (Nat.le_refl _)] at hx;simp at hx;subst hx;refine⟨j,by rw [← h.len,List.getElem?_append_right (Nat.le_refl _)];simp,?_⟩;rw[List.getElem?_set_self hl]
 ·rw [List.mem_append,List.mem_singleton] at hn
  have hne:j≠i:=fun e=>hn (Or.inr e.symm)
  rw[List.getElem?_set_ne hne] at hx;exact h.free i x hx fun e=>hn (Or.inl e)
theorem eF.room {os obs:List Ob} {laid:List Nat} (h:eF os obs laid) (hlt:os.length < obs.length):K8 obs≠obs.length:=fun e=>by
 have hall:∀o,o∈obs→(o.1 != 0)=true:=List.length_filter_eq_length_iff.1 e
 have hsub:∀j,j∈List.range obs.length→j∈laid:=fun j hj=>by
  have hj':=List.mem_range.1 hj;refine Decidable.byContradiction fun hn=>?_
  have h1:=h.free j _ (List.getElem?_eq_getElem hj') hn;have h2:=hall _ (List.getElem_mem hj');rw[h1] at h2;exact absurd h2 Q7
 have:=eZ List.nodup_range hsub;rw[List.length_range,h.len] at this;omega
theorem zX:∀(rest os obs:List Ob) (dr:List Int) (laid:List Nat),eF os obs laid→(∀j,j∈laid→j < obs.length)→(∀o,o∈os++rest→o.1≠0)→(os++rest).length≤obs.length →
  eF (os++rest) (dC rest obs dr laid).1 (dC rest obs dr laid).2.2∧(dC rest obs dr laid).1.length=obs.length∧(∀j,j∈(dC rest obs dr laid).2.2→j < obs.length)∧(dC rest obs dr laid).2.1.length≤dr.length
 | [],os,obs,dr,laid,h,hlt,_,_=>by
  rw[List.append_nil];exact⟨h,rfl,hlt,Nat.le_refl _⟩
 | o::rest,os,obs,dr,laid,h,hlt,hk,hc=>by
  have hc':=hc;rw[List.length_append,List.length_cons] at hc';obtain⟨j,hj⟩:=bN (dr:=dr) (show 0 < obs.length by omega) (h.room Q8);obtain⟨⟨x,hx,h0⟩,hdr⟩:=bM hj;have hjl:=(List.getElem?_eq_some_iff.1 hx).1;have hnot:=h.free_at (fun y hy=>hk y (by simp [hy])) hx h0;rw[dC,hj];simp only;have e:os++o::rest=(os++[o])++rest:=by simp
  obtain⟨a1,a2,a3,a4⟩:=zX rest (os++[o]) (obs.set j.1 o) j.2 (laid++[j.1]) (h.put hnot hjl o) (fun i hi=>by
   rw[List.length_set];rcases List.mem_append.1 hi with hi | hi
   ·exact hlt i hi
   ·rw [List.mem_singleton] at hi;rw [hi];exact hjl) (by rw [← e];exact hk) (by rw [← e,List.length_set];exact hc)
  rw[List.length_set] at a2 a3;rw[e];exact⟨a1,a2,a3,Nat.le_trans a4 hdr⟩
theorem a4n {o:Ob} {l obs:List Ob} {dr:List Int} {laid:List Nat} {j:Nat × List Int} (h:fA obs dr=some j):dC (o::l) obs dr laid=dC l (obs.set j.1 o) j.2 (laid++[j.1]):=by rw [dC,h]
structure yJ (φ:FrA→FrA):Prop where
 fn:∀f,(φ f).fn=f.fn
 pc:∀f,(φ f).pc=f.pc
 loc:∀f,(φ f).loc.length=f.loc.length
 stk:∀f,(φ f).stk.length=f.stk.length
theorem yJ.frOk {φ:FrA→FrA} (h:yJ φ) {g:PgR} {f:FrA} {q:Int} (hf:bY g f q):bY g (φ f) q:=by
 refine⟨by rw [h.fn];exact hf.fn,by rw [h.loc,h.fn];exact hf.loc,?_⟩;rw[h.fn,h.pc,h.stk];exact hf.reach
theorem yJ.lower {φ:FrA→FrA} (h:yJ φ) {g:PgR} : ∀(l:List FrA) (fn:Nat),cW g fn l→cW g fn (l.map φ)
 | [],_,hl=>hl
 | c::r,fn,⟨h1,h2,h3,h4⟩=>by
  refine⟨h.frOk h1,by rw [h.fn,h.pc];exact h2,by rw [h.fn,h.pc];exact h3,?_⟩;rw[h.fn];exact h.lower r c.fn h4
theorem yJ.frames {φ:FrA→FrA} (h:yJ φ) {g:PgR} {l:List FrA} (hf:fG g l):fG g (l.map φ):=by
 cases l with
 | nil=>trivial
 | cons f r =>
  refine⟨h.frOk hf.1,?_⟩;show cW g (φ f).fn (r.map φ);rw[h.fn];exact h.lower r f.fn hf.2
theorem a6C (r:Nat→Nat):yJ (F5 r):=⟨fun _=>rfl,fun _=>rfl,fun _=>List.length_map _,fun _=>List.length_map _⟩
theorem uS (al:List Nat):yJ (gH al):=⟨fun _=>rfl,fun _=>rfl,fun _=>List.length_map _,fun _=>List.length_map _⟩
section
variable {g:PgR} {s:McA} {obs:List Ob} {laid:List Nat} {dr:List Int}
theorem a0O (h:eF (A9 s).obs obs laid) (hi:C1 g s) {v:Val} (hv:VOk s.obs v):VOk (gJ (A9 s) obs laid dr).obs (ren (atL laid) (C4 (A0 s) v)):=by
 rcases hv with rfl | h1 | ⟨h2,h0,_⟩
 ·have e:C4 (A0 s) (0,0)=(0,0):=rfl
  rw[e,dZ];exact Or.inl rfl
 ·have e:C4 (A0 s) v=v:=by unfold C4;rw [if_neg Q8]
  rw[e,E0 Q8];exact Or.inr (Or.inl h1)
 ·by_cases hin:v.2.toNat∈A0 s
  ·rw [iF fun _=>hin]
   obtain⟨o,k,_,hne,_,_,hob⟩:=iJ h hi hin;unfold ren;rw[if_pos h2];refine Or.inr (Or.inr ⟨rfl,Int.natCast_nonneg _,(o.1,(o.2.map (C4 (A0 s))).map (ren (atL laid))),?_,hne⟩);show (obs.map _)[_]?=_;rw[List.getElem?_map,Int.toNat_natCast,hob];rfl
  ·rw [bK (fun e=>hin e.2) (fun e=>absurd h2 e),dZ]
   exact Or.inl rfl
theorem a7A (h:eF (A9 s).obs obs laid) (hi:C1 g s) (h1:1≤obs.length) (h40:obs.length≤40) (hdr:dr.length≤200):C1 g (gJ (A9 s) obs laid dr):=by
 refine⟨fun h0=>?_,?_,?_,fun f hf v hv=>?_,fun o ho=>?_,?_,hi.out,hdr⟩
 ·have:=hi.run h0
  show (s.frs.map _).map _≠[];simpa using this
 ·show fG g ((s.frs.map _).map _).reverse
  rw[← List.map_reverse,← List.map_reverse];exact (a6C _).frames ((uS _).frames hi.frs)
 ·show ((s.frs.map _).map _).length≤12
  rw[List.length_map,List.length_map];exact hi.depth
 ·have hf':f∈(s.frs.map (gH (A0 s))).map (F5 (atL laid)):=hf
  rw[List.map_map] at hf';obtain⟨f',hm,rfl⟩:=List.mem_map.1 hf';have hv':v∈(f'.loc.map (C4 (A0 s))).map (ren (atL laid))++(f'.stk.map (C4 (A0 s))).map (ren (atL laid)):=hv;rw[List.map_map,List.map_map,← List.map_append] at hv';obtain⟨u,hu,rfl⟩:=List.mem_map.1 hv';exact a0O h hi (hi.vals f' hm u hu)
 ·have ho':o∈obs.map fun o=>((o.1,o.2.map (ren (atL laid))):Ob):=ho
  obtain⟨x,hx,rfl⟩:=List.mem_map.1 ho';obtain⟨j,hj⟩:=List.mem_iff_getElem?.1 hx;by_cases hin:j∈laid
  ·obtain ⟨k,hk⟩:=List.mem_iff_getElem?.1 hin
   have hkl:=(List.getElem?_eq_some_iff.1 hk).1;have hkl':k < (A0 s).length:=by
    have e:(A9 s).obs.length=(A0 s).length:=List.length_map _;rw[h.len,e] at hkl;exact hkl
   obtain⟨o',hm,hne⟩:=F6 hi (List.getElem_mem hkl');obtain⟨j',q1,q2⟩:=h.at_ k _ (rY (List.getElem?_eq_getElem hkl') hm);rw[hk] at q1
   cases q1;rw[hj] at q2
   injection q2 with q2
   subst q2;have hv:∀v,v∈o'.2→VOk s.obs v→VOk (gJ (A9 s) obs laid dr).obs (ren (atL laid) (C4 (A0 s) v)):=fun v _ hv=>a0O h hi hv
   rcases hi.obs o' (List.mem_of_getElem? hm) with ⟨e,_⟩ | ⟨e,e2,e3⟩ | ⟨e,e2,e3⟩ | ⟨e,u,e2,e3,e4⟩
   ·exact absurd e hne
   ·refine Or.inr (Or.inl ⟨e,by simpa using e2,fun v hv'=>?_⟩)
    have hv':v∈(o'.2.map (C4 (A0 s))).map (ren (atL laid)):=hv';rw[List.map_map] at hv';obtain⟨u,hu,rfl⟩:=List.mem_map.1 hv';exact hv u hu (e3 u hu)
   ·refine Or.inr (Or.inr (Or.inl ⟨e,by simpa using e2,fun v hv'=>?_⟩))
    have hv':v∈(o'.2.map (C4 (A0 s))).map (ren (atL laid)):=hv';rw[List.map_map] at hv';obtain⟨u,hu,rfl⟩:=List.mem_map.1 hv';exact hv u hu (e3 u hu)
   ·refine Or.inr (Or.inr (Or.inr ⟨e,ren (atL laid) (C4 (A0 s) u),?_,hv u (by rw [e2];simp) e3,?_⟩))
    ·show (o'.2.map _).map _=_
     rw[e2];rfl
    ·rw [K0]
     unfold C4;split
     ·split
      ·show (2:Int)≠1;decide
      ·show (0:Int)≠1;decide
     ·exact e4
  ·rw [h.free j x hj hin]
   exact Or.inl ⟨rfl,rfl⟩
 ·show 1≤(obs.map _).length∧(obs.map _).length≤40
  rw[List.length_map];exact⟨h1,h40⟩
theorem a8S {c:Nat} (hc:1≤c) (hlt:∀j,j∈laid→j < c) (i:Nat):atL laid i < c:=by
 unfold atL;rw[List.getD_eq_getElem?_getD]
 cases q:laid[i]? with
 | none=>show 0 < c;omega
 | some x=>exact hlt x (List.mem_of_getElem? q)
theorem a8A {r:Nat→Nat} (hr:∀i,r i < 1000) {v:Val} (hv:I64 v.2):I64 (ren r v).2:=by
 unfold ren;split
 ·have:=hr v.2.toNat
  exact O4 (by show (-1000000:Int)≤((r v.2.toNat:Nat):Int);omega) (by show ((r v.2.toNat:Nat):Int)≤(1000000:Int);omega)
 ·exact hv
theorem a5u (hI:G5 s) (hi:C1 g s) (h:eF (A9 s).obs obs laid) (h1:1≤obs.length) (h40:obs.length≤40) (hlt:∀j,j∈laid→j < obs.length):G5 (gJ (A9 s) obs laid dr):=by
 have hal:(A0 s).length≤40:=by
  have:=K5 hi.alive.nodup hi.alive.lt;have:=hi.cap.2;omega
 have hv:∀v,I64 v.2→I64 (ren (atL laid) (C4 (A0 s) v)).2:=fun v hv=>a8A (fun i=>by have:=a8S h1 hlt i;omega) (hZ hal hv).1
 refine⟨hI.st,hI.out,fun f hf v hv'=>?_,fun o ho v hv'=>?_⟩
 ·have hf':f∈(s.frs.map (gH (A0 s))).map (F5 (atL laid)):=hf
  rw[List.map_map] at hf';obtain⟨f',hm,rfl⟩:=List.mem_map.1 hf';have hv':v∈(f'.loc.map (C4 (A0 s))).map (ren (atL laid))++(f'.stk.map (C4 (A0 s))).map (ren (atL laid)):=hv';rw[List.map_map,List.map_map,← List.map_append] at hv';obtain⟨u,hu,rfl⟩:=List.mem_map.1 hv';exact hv u (hI.frs f' hm u hu)
 ·have ho':o∈obs.map fun o=>((o.1,o.2.map (ren (atL laid))):Ob):=ho
  obtain⟨x,hx,rfl⟩:=List.mem_map.1 ho';obtain⟨j,hj⟩:=List.mem_iff_getElem?.1 hx;by_cases hin:j∈laid
  ·obtain ⟨k,hk⟩:=List.mem_iff_getElem?.1 hin
   have hkl:=(List.getElem?_eq_some_iff.1 hk).1;have hkl':k < (A0 s).length:=by
    have e:(A9 s).obs.length=(A0 s).length:=List.length_map _;rw[h.len,e] at hkl;exact hkl
   obtain⟨o',hm,hne⟩:=F6 hi (List.getElem_mem hkl');obtain⟨j',q1,q2⟩:=h.at_ k _ (rY (List.getElem?_eq_getElem hkl') hm);rw[hk] at q1
   cases q1;rw[hj] at q2
   injection q2 with q2
   subst q2;have hv':v∈(o'.2.map (C4 (A0 s))).map (ren (atL laid)):=hv';rw[List.map_map] at hv';obtain⟨u,hu,rfl⟩:=List.mem_map.1 hv';exact hv u (hI.obs o' (List.mem_of_getElem? hm) u hu)
  ·rw [h.free j x hj hin] at hv'
   cases hv'
theorem a2O (h:eF (A9 s).obs obs laid) (hi:C1 g s) (hlt:∀j,j∈laid→j < obs.length):K8 (gJ (A9 s) obs laid dr).obs=(A0 s).length:=by
 have e:(A9 s).obs.length=(A0 s).length:=List.length_map _;rw[fY,← e,← h.len];have hk:∀o,o∈(A9 s).obs→o.1≠0:=fun o ho=>by
  obtain⟨j,hj,rfl⟩:=List.mem_map.1 (show o∈(A0 s).map (N5 s) from ho);obtain⟨x,hx,hne⟩:=F6 hi hj;unfold N5;rw[hx];exact hne
 refine kJ (List.Pairwise.filter _ List.nodup_range) h.nodup fun j=>?_
 rw[List.mem_filter,List.mem_range];show (j < (obs.map _).length∧(((obs.map _)[j]?).map _).getD false=true)↔_;rw[List.length_map,List.getElem?_map];constructor
 ·rintro ⟨h1,h2⟩
  rw[List.getElem?_eq_getElem h1] at h2;refine Decidable.byContradiction fun hn=>?_
  have:=h.free j _ (List.getElem?_eq_getElem h1) hn;rw[this] at h2;exact absurd (show ((0:Int) != 0)=true from h2) Q7
 ·intro hj
  have hl:=hlt j hj;refine⟨hl,?_⟩;rw[List.getElem?_eq_getElem hl];have hne:(obs[j]).1≠0:=fun e=>h.free_at hk (List.getElem?_eq_getElem hl) e hj
  show ((obs[j]).1 != 0)=true;simpa using hne
theorem oC (hi:C1 g s):∀o,o∈(A9 s).obs→o.1≠0:=fun o ho=>by
 obtain⟨j,hj,rfl⟩:=List.mem_map.1 (show o∈(A0 s).map (N5 s) from ho);obtain⟨x,hx,hne⟩:=F6 hi hj;unfold N5;rw[hx];exact hne
theorem a4m (os:List Ob):eF os os (List.range os.length):=by
 refine⟨List.length_range,List.nodup_range,fun k o ho=>⟨k,?_,ho⟩,fun j o ho hn=>?_⟩
 ·have:=(List.getElem?_eq_some_iff.1 ho).1
  rw[List.getElem?_range this]
 ·exact absurd (List.mem_range.2 (List.getElem?_eq_some_iff.1 ho).1) hn
theorem tQ {al:List Nat} {n:Nat} (hn:al.length=n) (v:Val):ren (atL (List.range n)) (C4 al v)=C4 al v:=by
 unfold C4;by_cases h2:v.1=2
 ·rw [if_pos h2]
  cases q:ixA al v.2.toNat with
  | none=>exact dZ _
  | some i =>
   have hl:=wS q;show ren _ (2,(i:Int))=(2,(i:Int));unfold ren;rw[if_pos rfl];show (2,((atL (List.range n) (i:Int).toNat:Nat):Int))=_;rw[Int.toNat_natCast];unfold atL;rw[List.getD_eq_getElem?_getD,List.getElem?_range Q8];rfl
 ·rw [if_neg h2]
  exact E0 h2
theorem a5x (s:McA):gJ (A9 s) (A9 s).obs (List.range (A9 s).obs.length) []=A9 s:=by
 have e:(A9 s).obs.length=(A0 s).length:=List.length_map _;rw[e];have hl:∀l:List Val,(l.map (C4 (A0 s))).map (ren (atL (List.range (A0 s).length)))=l.map (C4 (A0 s)):=fun l=>by
  rw[List.map_map];exact List.map_congr_left fun v _=>tQ rfl v
 unfold gJ;show McA.mk s.st s.out ((s.frs.map _).map _) (((A0 s).map _).map _) []=McA.mk s.st s.out _ _ [];congr 1
 ·rw [List.map_map]
  refine List.map_congr_left fun f _=>?_
  show FrA.mk f.fn f.pc ((f.loc.map _).map _) ((f.stk.map _).map _)=FrA.mk f.fn f.pc _ _;rw[hl,hl]
 ·rw [List.map_map]
  refine List.map_congr_left fun j _=>?_
  show ((N5 s j).1,(N5 s j).2.map _)=N5 s j;unfold N5
  cases s.obs[j]? with
  | none=>rfl
  | some o =>
   show (o.1,(o.2.map _).map _)=(o.1,_);rw[hl]
theorem a2a (hi:C1 g s):A0 (A9 s)=List.range (A9 s).obs.length:=by
 have e:(A9 s).obs.length=(A0 s).length:=List.length_map _;have h:=vC (dr:=[]) (a4m (A9 s).obs) hi (fun j hj=>List.mem_range.1 hj);rw[a5x] at h;rw[h.alive hi];refine List.ext_getElem? fun k=>?_
 rw[List.getElem?_map];by_cases hk:k < (A0 s).length
 ·rw [List.getElem?_eq_getElem hk,List.getElem?_range (by rw [e];exact hk)]
  show some (rX _ _ _)=some k;unfold rX;rw[a9e hi.alive.nodup (List.getElem?_eq_getElem hk)];show some (atL _ k)=some k;unfold atL;rw[List.getD_eq_getElem?_getD,List.getElem?_range (by rw [e];exact hk)];rfl
 ·rw [List.getElem?_eq_none_iff.2 Q8,List.getElem?_eq_none_iff.2 (by rw [List.length_range,e];omega)]
  rfl
theorem jA (s:McA):(∀f,f∈(A9 s).frs→∀v,v∈f.loc++f.stk→v.1=2→0≤v.2∧v.2.toNat < (A9 s).obs.length)∧∀o,o∈(A9 s).obs→∀v,v∈o.2→v.1=2→0≤v.2∧v.2.toNat < (A9 s).obs.length:=by
 have e:(A9 s).obs.length=(A0 s).length:=List.length_map _;have hv:∀v,(C4 (A0 s) v).1=2→0≤(C4 (A0 s) v).2∧(C4 (A0 s) v).2.toNat < (A9 s).obs.length:=fun v h2=>by
  rw[e];unfold C4 at h2 ⊢;by_cases h:v.1=2
  ·rw [if_pos h] at h2 ⊢
   cases q:ixA (A0 s) v.2.toNat with
   | none=>rw [q] at h2;exact absurd h2 Q7
   | some i =>
    have:=wS q;show 0≤(i:Int)∧(i:Int).toNat < _;omega
  ·rw [if_neg h] at h2
   exact absurd h2 h
 constructor
 ·intro f hf v hv'
  obtain⟨f',_,rfl⟩:=List.mem_map.1 (show f∈s.frs.map (gH (A0 s)) from hf);have hv':v∈f'.loc.map (C4 (A0 s))++f'.stk.map (C4 (A0 s)):=hv';rw[← List.map_append] at hv';obtain⟨u,_,rfl⟩:=List.mem_map.1 hv';exact hv u
 ·intro o ho v hv'
  obtain⟨j,_,rfl⟩:=List.mem_map.1 (show o∈(A0 s).map (N5 s) from ho);unfold N5 at hv'
  cases q:s.obs[j]? with
  | none=>rw [q] at hv';cases hv'
  | some x =>
   rw[q] at hv';obtain⟨u,_,rfl⟩:=List.mem_map.1 hv';exact hv u
end
end
def V6 (g g':PgR):Prop:=g'.n=g.n∧∀i,i < g.n→(g'.f i).p=(g.f i).p∧(g'.f i).l=(g.f i).l∧(g'.f i).n=(g.f i).n∧∀j,j < (g.f i).n→(g'.f i).op j=(g.f i).op j∧(g'.f i).ar j=(g.f i).ar j
structure cU (F F':E6):Prop where
 n:F'.n=F.n
 pop:∀a,a < F.n→F'.pop a=F.pop a
 push:∀a,a < F.n→F'.push a=F.push a
 next:∀a,a < F.n→F'.next a=F.next a
theorem cU.reach {F F':E6} (h:cU F F') (hF:F.Fits) {a:Nat} {b:Int} (hr:F.Reach a b):F'.Reach a b:=by
 have key:F.Reach a b∧F'.Reach a b:=by
  refine hr (fun a b=>F.Reach a b∧F'.Reach a b) ⟨E6.reach_first F,E6.reach_first F'⟩ ?_;rintro a b c ⟨h1,h2⟩ hc;refine⟨E6.reach_next h1 hc,?_⟩;have ha:=(hF.1 a b h1).1;have h3:=E6.reach_next h2 (c:=c) (by rw [h.next a ha];exact hc);have e:F'.behind a b=F.behind a b:=by
   unfold E6.behind;rw[h.pop a ha,h.push a ha]
  rw[e] at h3;exact h3
 exact key.2
theorem cU.back {F F':E6} (h:cU F F') (hF:F.Fits) {a:Nat} {b:Int} (hr:F'.Reach a b):F.Reach a b:=by
 refine hr (fun a b=>F.Reach a b) (E6.reach_first F) ?_;intro a b c h1 hc;have ha:=(hF.1 a b h1).1;have h3:=E6.reach_next h1 (c:=c) (by rw [← h.next a ha];exact hc);have e:F'.behind a b=F.behind a b:=by
  unfold E6.behind;rw[h.pop a ha,h.push a ha]
 rw[e];exact h3
theorem cU.fits {F F':E6} (h:cU F F') (hF:F.Fits):F'.Fits:=by
 refine⟨fun a b hr=>?_,fun a b b' h1 h2=>hF.2 a b b' (h.back hF h1) (h.back hF h2)⟩;have h1:=h.back hF hr;obtain⟨q1,q2,q3⟩:=hF.1 a b h1;refine⟨by rw [h.n];exact q1,by rw [h.pop a q1];exact q2,?_⟩;unfold E6.behind at q3 ⊢;rw[h.pop a q1,h.push a q1];exact q3
theorem V6.flow {g g':PgR} (hp:F2 g) (h:V6 g g') {i:Nat} (hi:i < g.n):cU (A7 g (g.f i)) (A7 g' (g'.f i)):=by
 obtain⟨_,hj⟩:=h;obtain⟨q1,q2,q3,q4⟩:=hj i hi;refine⟨q3,fun a ha=>?_,fun a ha=>by show J9 ((g'.f i).op a)=J9 ((g.f i).op a);rw [(q4 a ha).1],fun a ha=>by show D2 a ((g'.f i).op a) ((g'.f i).ar a)=D2 a ((g.f i).op a) ((g.f i).ar a);rw [(q4 a ha).1,(q4 a ha).2]⟩;show G1 ((g'.f i).op a) (g'.f ((g'.f i).ar a).toNat).p=G1 ((g.f i).op a) (g.f ((g.f i).ar a).toNat).p;rw[(q4 a ha).1,(q4 a ha).2]
 by_cases h14:(g.f i).op a=14
 ·have hl:D3 g.n (g.f i).l (g.f i).n ((g.f i).op a) ((g.f i).ar a)=true:=hp.legal i hi a ha
  have hc:=L9 hl h14;rw[(hj ((g.f i).ar a).toNat Q8).1]
 ·unfold G1
  rw[if_neg h14,if_neg h14]
theorem V6.pgOk {g g':PgR} (hp:F2 g) (h:V6 g g'):F2 g':=by
 have hn:=h.1;refine⟨⟨by rw [hn];exact hp.sized.1,by rw [hn];exact hp.sized.2.1,fun i hi=>?_⟩,fun i hi j hj=>?_,fun i hi=>?_⟩
 ·rw [hn] at hi
  obtain⟨q1,q2,q3,q4⟩:=h.2 i hi;rw[q1,q2,q3];exact hp.sized.2.2 i hi
 ·rw [hn] at hi
  obtain⟨q1,q2,q3,q4⟩:=h.2 i hi;rw[q3] at hj;have:=hp.legal i hi j hj;unfold Y5 at this ⊢;rw[hn,q2,q3,(q4 j hj).1,(q4 j hj).2];exact this
 ·rw [hn] at hi
  exact (h.flow hp hi).fits (hp.fits i hi)
theorem bY.pc_lt {g:PgR} (hp:F2 g) {f:FrA} {q:Int} (hf:bY g f q):f.pc < (g.f f.fn).n:=((hp.fits _ hf.fn).1 _ _ hf.reach).1
theorem V6.frOk {g g':PgR} (hp:F2 g) (h:V6 g g') {f:FrA} {q:Int} (hf:bY g f q):bY g' f q:=by
 obtain⟨q1,q2,q3,q4⟩:=h.2 f.fn hf.fn;exact⟨by rw [h.1];exact hf.fn,by rw [q2];exact hf.loc,(h.flow hp hf.fn).reach (hp.fits _ hf.fn) hf.reach⟩
theorem V6.lower {g g':PgR} (hp:F2 g) (h:V6 g g'):∀(l:List FrA) (fn:Nat),fn < g.n→cW g fn l→cW g' fn l
 | [],_,_,hl=>hl
 | c::r,fn,hfn,hl=>by
  obtain⟨h1,h2,h3,h4⟩:=hl;obtain⟨q1,q2,q3,q4⟩:=h.2 c.fn h1.fn;have hpc:=h1.pc_lt hp;refine⟨?_,by rw [(q4 _ hpc).1];exact h2,by rw [(q4 _ hpc).2];exact h3,h.lower hp r c.fn h1.fn h4⟩;rw[(h.2 fn hfn).1];exact h.frOk hp h1
theorem V6.inv {g g':PgR} (hp:F2 g) (h:V6 g g') {s:McA} (hi:C1 g s):C1 g' s:=by
 refine⟨hi.run,?_,hi.depth,hi.vals,hi.obs,hi.cap,hi.out,hi.dr⟩;have:=hi.frs
 revert this
 cases s.frs.reverse with
 | nil=>exact fun _=>trivial
 | cons f r=>exact fun hf=>⟨h.frOk hp hf.1,h.lower hp r f.fn hf.1.fn hf.2⟩
theorem gX {α β:Type} {l:List α} {f g:α→List β} (h:∀x,x∈l→f x=g x):l.flatMap f=l.flatMap g:=by
 induction l with
 | nil=>rfl
 | cons a l ih=>rw [List.flatMap_cons,List.flatMap_cons,h a Q9,ih fun x hx=>h x (by simp [hx])]
theorem V6.progB {g g':PgR} (h:V6 g g'):progB g'=progB g:=by
 unfold YtbkmgoffiigdbabGreatDoor.progB dM;rw[h.1];congr 1
 refine gX fun i hi=>?_
 obtain⟨q1,q2,q3,q4⟩:=h.2 i (List.mem_range.1 hi);unfold fnB bE;rw[q1,q2,q3];congr 1
 refine gX fun j hj=>?_
 unfold inB;rw[(q4 j (List.mem_range.1 hj)).1,(q4 j (List.mem_range.1 hj)).2]
theorem V6.machB {g g':PgR} (h:V6 g g') (s:McA):machB g' s=machB g s:=by
 unfold YtbkmgoffiigdbabGreatDoor.machB;rw[h.progB]
theorem V6.arI {g g':PgR} (h:V6 g g') (ha:ArI g):ArI g':=fun i hi j hj=>by
 rw[h.1] at hi;obtain⟨q1,q2,q3,q4⟩:=h.2 i hi;rw[q3] at hj;rw[(q4 j hj).2];exact ha i hi j hj
theorem a1f {g:PgR} (hp:F2 g):N6 g 0 0 :=
 Or.inr ⟨Or.inl ⟨rfl,rfl,hp.sized.1,hp.sized.2.1,hp.sized.2.2⟩,Or.inr ⟨Or.inl ⟨rfl,rfl,hp.legal⟩,Or.inr ⟨Or.inl ⟨rfl,rfl,hp.fits⟩,rfl,rfl⟩⟩⟩
def fnL (f:FnR):FnL:=(f.p,f.l,(List.range f.n).map fun j=>(f.op j,f.ar j))
def pgL (g:PgR):List FnL:=(List.range g.n).map fun i=>fnL (g.f i)
theorem a0X.alike {g g':PgR} (h:a0X g' (pgL g)):V6 g g':=by
 have hn:g'.n=g.n:=by rw [h.n];unfold pgL;rw [List.length_map,List.length_range]
 refine⟨hn,fun i hi=>?_⟩;have e:(pgL g)[i]?=some (fnL (g.f i)):=by unfold pgL;rw [List.getElem?_map,List.getElem?_range hi];rfl
 obtain⟨q1,q2,q3,q4⟩:=h.f i _ e;refine⟨q1,q2,by rw [q3];show ((List.range _).map _).length=_;rw [List.length_map,List.length_range],fun j hj=>?_⟩;have:=q4 j ((g.f i).op j,(g.f i).ar j) (by show ((List.range _).map _)[j]?=_;rw [List.getElem?_map,List.getElem?_range hj];rfl);exact this
def a9b (g g':PgR):PgR:={ g' with f:=fun i=>{ g'.f i with op:=(g.f i).op,ar:=(g.f i).ar } }
theorem V6.same {g g':PgR} (h:V6 g g'):aQ g (a9b g g'):=⟨h.1,fun j hj=>⟨(h.2 j hj).1,(h.2 j hj).2.1,(h.2 j hj).2.2.1,rfl,rfl⟩⟩
def eO (bs:List Int) (p:Nat) (r:List Int):Prop:=p≤bs.length∧bs.drop p=r
theorem Enc.run {α:Type} {bs:List Int} {rd:Rs→α × Rs} {x:α} {e post:List Int} (h:Enc bs rd x e) {p:Nat} (hr:eO bs p (e++post)):rd ⟨p,false⟩=(x,⟨p+e.length,false⟩)∧eO bs (p+e.length) post:=by
 obtain⟨hp,hd⟩:=hr;have hb:bs=bs.take p++(e++post):=by rw [← hd,List.take_append_drop]
 have hl:(bs.take p).length=p:=by rw [List.length_take];omega
 have:=h (bs.take p) post hb;rw[hl] at this;refine⟨this,?_,?_⟩
 ·have:=congrArg List.length hd
  rw[List.length_drop,List.length_append] at this;omega
 ·rw [← List.drop_drop,hd,List.drop_left]
theorem eO.of {bs pre r:List Int} (h:bs=pre++r):eO bs pre.length r:=by
 subst h;exact⟨by simp,by simp⟩
theorem iX {α:Type} {bs:List Int} {rd:Rs→α × Rs} {e:α→List Int} (l:List α) (h:∀x,x∈l→Enc bs rd x (e x)∧1≤(e x).length):Enc bs (D9 rd (bs.length+2) (l.length:Int) []) l (l.flatMap e):=by
 intro pre post hb;have hl:l.length≤(l.flatMap e).length:=by
  clear hb
  induction l with
  | nil=>simp
  | cons a l ih =>
   have h1:=ih fun x hx=>h x (by simp [hx])
   have h2:=(h a Q9).2;rw[List.flatMap_cons,List.length_append,List.length_cons];omega
 have hbl:(l.flatMap e).length≤bs.length:=by rw [hb];simp;omega
 have:=a0b l [] (bs.length+2) pre post (fun x hx=>(h x hx).1) hb Q8;simpa using this
theorem a7q (v:Val):1≤(fD v).length:=by unfold fD;rw [List.length_cons];omega
theorem iI (bs:List Int) {l:List Val} (h:∀v,v∈l→nT v) {n:Int} (hn:n=l.length):Enc bs (N9 bs n) l (Y9 l):=by
 subst hn;exact iX l fun x hx=>⟨a5r bs (h x hx),a7q x⟩
theorem a6t (bs:List Int) {l:List Int} (h:∀v,v∈l→I64 v) {n:Int} (hn:n=l.length):Enc bs (sF bs n) l (eT l):=by
 subst hn;exact iX l fun x hx=>⟨wN bs (h x hx),hJ _⟩
theorem a8n (bs:List Int) {l:List Int} (h:∀v,v∈l→I64 v) (h40:l.length≤40):Enc bs (tO bs) l (jJ l):=by
 intro pre post hb;unfold jJ at hb ⊢;rw[List.append_assoc] at hb;obtain⟨e1,r1⟩:=(Y1 bs (m:=l.length) (most:=40) Q8 Q8).run (eO.of hb);obtain⟨e2,_⟩:=(a6t bs h rfl).run r1;unfold tO;rw[e1];simp only;rw[e2,List.length_append,Nat.add_assoc]
def nC (x:Int × Int):List Int:=D6 x.1.toNat++jI x.2
theorem a4g (bs:List Int) {x:Int × Int} (h0:0≤x.1) (h28:x.1 < 28) (hi:I64 x.2):Enc bs (M9 bs) x (nC x):=by
 intro pre post hb;unfold nC at hb ⊢;rw[List.append_assoc] at hb;obtain⟨e1,r1⟩:=(bG bs (m:=x.1.toNat) Q8).run (eO.of hb);obtain⟨e2,_⟩:=(wN bs hi).run r1;unfold M9;rw[e1];simp only;rw[e2,List.length_append,Nat.add_assoc];have:((x.1.toNat:Nat):Int)=x.1:=by omega
 rw[this]
theorem a6g (bs:List Int) {f:FnR} (h:oV f):Enc bs (R4 bs) (fnL f) (fnB f):=by
 intro pre post hb;have hp:=h.p;have hl:=h.l;have hn:=h.n;have ec:bE f f.n=((List.range f.n).map fun j=>(f.op j,f.ar j)).flatMap nC:=by
  unfold bE;rw[List.flatMap_map];rfl
 have hb':bs=pre++(D6 f.p.toNat++(D6 f.l.toNat++(D6 f.n++(((List.range f.n).map fun j=>(f.op j,f.ar j)).flatMap nC++post)))):=by
  rw[hb];unfold fnB;rw[ec];simp only[List.append_assoc]
 obtain⟨e1,r1⟩:=(bG bs (m:=f.p.toNat) Q8).run (eO.of hb');obtain⟨e2,r2⟩:=(bG bs (m:=f.l.toNat) Q8).run r1;obtain⟨e3,r3⟩:=(bG bs (m:=f.n) Q8).run r2;have hN:=iX (bs:=bs) (rd:=M9 bs) (e:=nC) ((List.range f.n).map fun j=>(f.op j,f.ar j)) (fun x hx=>by
  obtain⟨j,hj,rfl⟩:=List.mem_map.1 hx;have hj:=List.mem_range.1 hj;refine⟨a4g bs (h.op j hj).1 (h.op j hj).2 (h.ar j hj),?_⟩;unfold nC;rw[List.length_append];have:=hJ ((f.op j,f.ar j).1).toNat;omega)
 rw[List.length_map,List.length_range] at hN;obtain⟨e4,_⟩:=hN.run r3;have e4':Z9 bs (f.n:Int) ⟨pre.length+(D6 f.p.toNat).length+(D6 f.l.toNat).length+(D6 f.n).length,false⟩=_:=e4;unfold R4;rw[e1];simp only;rw[e2];simp only;rw[e3];simp only;rw[e4'];simp only;have q1:((f.p.toNat:Nat):Int)=f.p:=by omega
 have q2:((f.l.toNat:Nat):Int)=f.l:=by omega
 rw[q1,q2];unfold fnL fnB;rw[ec];simp only[List.length_append,Nat.add_assoc]
theorem a7P (f:FnR):1≤(fnB f).length:=by
 unfold fnB;simp only[List.length_append];have:=hJ f.p.toNat;omega
theorem a6U (bs:List Int) {g:PgR} (h:bS g):Enc bs (cO bs) (pgL g) (progB g):=by
 intro pre post hb;have ec:dM g g.n=((List.range g.n).map fun i=>g.f i).flatMap fnB:=by
  unfold dM;rw[List.flatMap_map]
 have hn:=h.n;have hb':bs=pre++(D6 g.n++(dM g g.n++post)):=by
  rw[hb];unfold progB;simp only[List.append_assoc]
 obtain⟨e1,r1⟩:=(bG bs (m:=g.n) Q8).run (eO.of hb');have key:Enc bs (D9 (R4 bs) (bs.length+2) ((pgL g).length:Int) []) (pgL g) (dM g g.n):=by
  intro pre post hb;have hlen:(pgL g).length=g.n:=by unfold pgL;rw [List.length_map,List.length_range]
  have hsub:∀k,k≤g.n→∀(acc:List FnL) (pre post:List Int) (F:Nat),bs=pre++(((List.range g.n).drop (g.n - k)).flatMap (fun i=>fnB (g.f i))++post)→k < F→D9 (R4 bs) F ((acc.length+k:Nat):Int) acc ⟨pre.length,false⟩=(acc++((List.range g.n).drop (g.n - k)).map (fun i=>fnL (g.f i)),⟨pre.length+(((List.range g.n).drop (g.n - k)).flatMap (fun i=>fnB (g.f i))).length,false⟩):=by
   intro k
   induction k with
   | zero =>
    intro _ acc pre post F hb hF;have:(List.range g.n).drop (g.n - 0)=[]:=by rw [List.drop_eq_nil_iff,List.length_range];omega
    rw[this]
    cases F with
    | zero=>omega
    | succ F =>
     rw[Y7 Q9];simp
   | succ k ih =>
    intro hk acc pre post F hb hF;have hd:(List.range g.n).drop (g.n - (k+1))=(g.n - (k+1))::(List.range g.n).drop (g.n - k):=by
     rw[List.drop_eq_getElem_cons (by rw [List.length_range];omega),List.getElem_range];congr 2
     omega
    rw[hd] at hb ⊢;rw[List.flatMap_cons,List.append_assoc] at hb
    cases F with
    | zero=>omega
    | succ F =>
     rw[aT ⟨by omega,rfl⟩];obtain⟨e1,_⟩:=(a6g bs (h.f (g.n - (k+1)) Q8)).run (eO.of hb);rw[e1];simp only;have:=ih Q8 (acc++[fnL (g.f (g.n - (k+1)))]) (pre++fnB (g.f (g.n - (k+1)))) post F (by rw [hb];simp) Q8;rw[List.length_append,List.length_append,List.length_singleton] at this;have en:acc.length+1+k=acc.length+(k+1):=by omega
     rw[en] at this;rw[this];simp only[List.map_cons,List.flatMap_cons,List.length_append,List.append_assoc,Nat.add_assoc];rfl
  have hz:(List.range g.n).drop (g.n - g.n)=List.range g.n:=by rw [Nat.sub_self];rfl
  have hF:g.n < bs.length+2:=by
   have h1:g.n≤(dM g g.n).length:=by
    have:∀k,k≤(dM g k).length:=fun k=>by
     induction k with
     | zero=>exact Nat.zero_le _
     | succ k ih =>
      rw[eR,List.length_append];have:=a7P (g.f k);omega
    exact this g.n
   rw[hb];simp;omega
  have:=hsub g.n (Nat.le_refl _) [] pre post (bs.length+2) (by rw [hz];exact hb) hF;rw[hz] at this;rw[hlen];simpa [pgL,dM] using this
 obtain⟨e2,_⟩:=key.run r1;have hlen:(pgL g).length=g.n:=by unfold pgL;rw [List.length_map,List.length_range]
 rw[hlen] at e2;unfold cO eL;rw[e1];simp only;rw[e2];unfold progB;rw[List.length_append,Nat.add_assoc]
def a0W (o:Ob):Prop:=(∀v,v∈o.2→nT v)∧((o.1=1∧o.2.length≤8)∨(o.1=2∧o.2.length≤12)∨(o.1=3∧o.2.length=1∧∀v,v∈o.2→v.1≠1))
theorem a8g (bs:List Int) {o:Ob} (h:a0W o):Enc bs (bA bs) o (obB o):=by
 intro pre post hb;obtain⟨hv,hk⟩:=h;obtain⟨k,l⟩:=o;simp only at hv hk;unfold obB at hb ⊢;simp only[List.append_assoc] at hb ⊢;rcases hk with ⟨rfl,hl⟩ | ⟨rfl,hl⟩ | ⟨rfl,hl,h1⟩
 ·rw [if_neg Q7] at hb ⊢
  obtain⟨e1,r1⟩:=(Y1 bs (m:=1) (most:=3) Q7 Q7).run (eO.of hb);obtain⟨e2,r2⟩:=(Y1 bs (m:=l.length) (most:=8) Q8 Q8).run r1;obtain⟨e3,r3⟩:=(iI bs hv rfl).run r2;unfold bA;rw[e1];simp only;have es:R5 bs ((1:Nat):Int) ⟨pre.length+(D6 1).length,false⟩=D7 bs 8 ⟨pre.length+(D6 1).length,false⟩:=rfl;rw[es,e2];simp only;rw[e3];simp only[List.length_append,Nat.add_assoc]
  rfl
 ·rw [if_neg Q7] at hb ⊢
  obtain⟨e1,r1⟩:=(Y1 bs (m:=2) (most:=3) Q7 Q7).run (eO.of hb);obtain⟨e2,r2⟩:=(Y1 bs (m:=l.length) (most:=12) Q8 Q8).run r1;obtain⟨e3,r3⟩:=(iI bs hv rfl).run r2;unfold bA;rw[e1];simp only;have es:R5 bs ((2:Nat):Int) ⟨pre.length+(D6 2).length,false⟩=D7 bs 12 ⟨pre.length+(D6 2).length,false⟩:=rfl;rw[es,e2];simp only;rw[e3];simp only[List.length_append,Nat.add_assoc]
  rfl
 ·rw [if_pos rfl,List.nil_append] at hb
  rw[if_pos rfl,List.nil_append];obtain⟨e1,r1⟩:=(Y1 bs (m:=3) (most:=3) Q7 Q7).run (eO.of hb);obtain⟨e3,r3⟩:=(iI bs hv (n:=1) (by rw [hl];rfl)).run r1;have hany:l.any isI=false:=by
   rw[List.any_eq_false];intro v hv';have:=h1 v hv';unfold isI;simpa using this
  unfold bA;rw[e1];simp only;have es:R5 bs ((3:Nat):Int) ⟨pre.length+(D6 3).length,false⟩=(1,⟨pre.length+(D6 3).length,false⟩):=rfl;rw[es];simp only;rw[e3];simp only[List.length_append,Nat.add_assoc];rw[hany];rfl
theorem a8f (o:Ob):1≤(obB o).length:=by
 unfold obB;simp only[List.length_append];have:=hJ o.1.toNat;omega
theorem a6l (bs:List Int) {l:List Ob} (h:∀o,o∈l→a0W o) (h40:l.length≤40):Enc bs (lX bs) l (V9 l):=by
 intro pre post hb;unfold V9 at hb ⊢;rw[List.append_assoc] at hb;obtain⟨e1,r1⟩:=(Y1 bs (m:=l.length) (most:=40) Q8 Q8).run (eO.of hb);have hN:=iX (bs:=bs) (rd:=bA bs) (e:=obB) l fun x hx=>⟨a8g bs (h x hx),a8f x⟩
 obtain⟨e2,_⟩:=hN.run r1;unfold lX;rw[e1];simp only;have e2':a0t bs (l.length:Int) ⟨pre.length+(D6 l.length).length,false⟩=_:=e2;rw[e2',List.length_append,Nat.add_assoc];rfl
structure mI (f:FrA):Prop where
 fn:f.fn < 1000
 pc:f.pc < 1000
 loc:∀v,v∈f.loc→nT v
 stk:∀v,v∈f.stk→nT v
theorem a4a (bs:List Int) {g:PgR} (hp:F2 g) {f:FrA} {q:Int} (hf:bY g f q) (hq:0≤q) (hs:mI f):Enc bs (F3 bs g f.fn) (f.pc:Int) (D6 f.fn++D6 f.pc):=by
 intro pre post hb;rw[List.append_assoc] at hb;have hpc:=hf.pc_lt hp;have h1:=hs.fn;have h2:=hs.pc;obtain⟨e1,r1⟩:=(bG bs (m:=f.fn) Q8).run (eO.of hb);obtain⟨e2,r2⟩:=(Y1 bs (m:=f.pc) (most:=(((g.f f.fn).n - 1:Nat):Int)) Q8 Q8).run r1;have hh:=bT (hp.fits _ hf.fn) hf.reach;unfold F3;rw[e1];simp only;have em:E9 ⟨pre.length+(D6 f.fn).length,false⟩ (((f.fn:Nat):Int) == ((f.fn:Nat):Int))=⟨pre.length+(D6 f.fn).length,false⟩:=by simp [E9]
 rw[em,e2];simp only;rw[Int.toNat_natCast,hh];have e3:((f.stk.length:Int)+q != -1)=true:=by
  have:(f.stk.length:Int)+q ≠ -1:=by omega
  simpa using this
 rw[e3,List.length_append,Nat.add_assoc];rfl
theorem qV (bs:List Int) {f:FrA} {l h pc:Int} (hl:l=f.loc.length) (hh:h=f.stk.length) (hs:mI f):Enc bs (Z8 bs l h pc) (pc,f.loc,f.stk) (Y9 f.loc++Y9 f.stk):=by
 intro pre post hb;rw[List.append_assoc] at hb;obtain⟨e1,r1⟩:=(iI bs hs.loc hl).run (eO.of hb);obtain⟨e2,r2⟩:=(iI bs hs.stk hh).run r1;unfold Z8;rw[e1];simp only;rw[e2,List.length_append,Nat.add_assoc]
theorem uK (bs:List Int) {g:PgR} (hp:F2 g) {f:FrA} {q:Int} (hf:bY g f q) (hq:0≤q) (hs:mI f) {calls:Bool} (hc:calls=true→(g.f f.fn).op f.pc=14∧q=(g.f ((g.f f.fn).ar f.pc).toNat).p) (hd:calls=false→q=0):Enc bs (F9 bs g f.fn calls) ((f.pc:Int),f.loc,f.stk) (frB f):=by
 intro pre post hb;unfold frB at hb ⊢;rw[List.append_assoc (D6 f.fn++D6 f.pc)] at hb ⊢;rw[List.append_assoc] at hb;obtain⟨e1,r1⟩:=(a4a bs hp hf hq hs).run (eO.of hb);have hh:=bT (hp.fits _ hf.fn) hf.reach;have hl:(g.f f.fn).l=f.loc.length:=hf.loc.symm;unfold F9;rw[e1];simp only;rw[Int.toNat_natCast,hh]
 cases calls with
 | false =>
  obtain⟨e2,_⟩:=(qV bs (f:=f) (pc:=(f.pc:Int)) hl (h:=(f.stk.length:Int)+q) (by rw [hd rfl];omega) hs).run r1;rw[if_neg Q7,e2];simp only[List.length_append,Nat.add_assoc]
 | true =>
  obtain⟨h14,hq2⟩:=hc rfl;obtain⟨e2,_⟩:=(qV bs (f:=f) (pc:=(f.pc:Int)) hl (h:=(f.stk.length:Int)+q - G1 14 (g.f ((g.f f.fn).ar f.pc).toNat).p) (by
   have:G1 14 (g.f ((g.f f.fn).ar f.pc).toNat).p=(g.f ((g.f f.fn).ar f.pc).toNat).p:=rfl;rw[this,← hq2];omega) hs).run r1
  have em:E9 ⟨pre.length+(D6 f.fn++D6 f.pc).length,false⟩ ((14:Int) == 14)=⟨pre.length+(D6 f.fn++D6 f.pc).length,false⟩:=rfl;rw[if_pos rfl,h14,em,e2];simp only[List.length_append,Nat.add_assoc]
def Up (g:PgR):Nat→List FrA→Prop
 | _,[]=>True
 | fn,[f]=>f.fn=fn∧bY g f 0
 | fn,f::c::r=>f.fn=fn∧bY g f (g.f c.fn).p∧(g.f f.fn).op f.pc=14∧(g.f f.fn).ar f.pc=c.fn∧Up g c.fn (c::r)
theorem a0N {g:PgR} : ∀(l:List FrA) (f:FrA) (rest:List FrA),cW g f.fn l→Up g f.fn (f::rest)→Up g 0 (l.reverse++f::rest)
 | [],f,rest,hl,hu=>by
  have hl:f.fn=0:=hl;rw[hl] at hu;exact hu
 | c::r,f,rest,⟨h1,h2,h3,h4⟩,hu=>by
  rw[List.reverse_cons,List.append_assoc];exact a0N r c (f::rest) h4 ⟨rfl,h1,h2,h3,hu⟩
theorem a5p {g:PgR} {l:List FrA} (h:fG g l.reverse):Up g 0 l:=by
 rw[← List.reverse_reverse l]
 cases q:l.reverse with
 | nil=>trivial
 | cons f r =>
  rw[q] at h;rw[List.reverse_cons];exact a0N r f [] h.2 ⟨rfl,h.1⟩
theorem a2Z (bs:List Int) {g:PgR} (hp:F2 g):∀(l:List FrA) (fn:Nat) (acc:List FrA),Up g fn l→(∀f,f∈l→mI f)→Enc bs (dH bs g l.length (fn:Int) acc) (acc++l) (gK l)
 | [],fn,acc,_,_=>by
  intro pre post hb;show dH bs g 0 _ _ _=_;rw[dH];simp[gK]
 | [f],fn,acc,⟨hfn,h⟩,hs=>by
  subst hfn;intro pre post hb;have hb':bs=pre++(frB f++post):=by rw [hb];simp [gK]
  obtain⟨e1,r1⟩:=(uK bs hp h (Int.le_refl 0) (hs f Q9) (calls:=false) (fun e=>by cases e) (fun _=>rfl)).run (eO.of hb');have:=pG (n:=1) Q7 f.fn acc (s:=⟨pre.length,false⟩) rfl (show F9 bs g f.fn (decide ((1:Int) < ((1:Nat):Int))) ⟨pre.length,false⟩=_ from e1);show dH bs g 1 _ _ _=_;rw[this];show dH bs g 0 _ _ _=_;rw[dH];simp[gK]
 | f::c::r,fn,acc,⟨hfn,h,h14,har,hu⟩,hs=>by
  subst hfn;intro pre post hb;have hb':bs=pre++(frB f++(gK (c::r)++post)):=by rw [hb];simp [gK,List.flatMap_cons]
  have hcf:c.fn < g.n:=by
   have:bY g c 0∨∃q,bY g c q:=by
    cases r with
    | nil=>exact Or.inl hu.2
    | cons d r=>exact Or.inr ⟨_,hu.2.1⟩
   rcases this with h | ⟨_,h⟩
   ·exact h.fn
   ·exact h.fn
  have hq:0≤(g.f c.fn).p:=by have:=hp.sized.bd hcf;omega
  have hdec:decide ((1:Int) < (((f::c::r).length:Nat):Int))=true:=by
   apply decide_eq_true
   simp;omega
  obtain⟨e1,r1⟩:=(uK bs hp h hq (hs f Q9) (calls:=true) (fun _=>⟨h14,by rw [har,Int.toNat_natCast]⟩) (fun e=>by cases e)).run (eO.of hb');rw[← hdec] at e1;have:=pG (n:=(f::c::r).length) Q9 f.fn acc (s:=⟨pre.length,false⟩) rfl e1;rw[this];have hlen:(f::c::r).length - 1=(c::r).length:=rfl;rw[hlen,Int.toNat_natCast,har];have ih:=a2Z bs hp (c::r) c.fn (acc++[⟨f.fn,f.pc,f.loc,f.stk⟩]) hu (fun x hx=>hs x (by simp at hx ⊢;exact Or.inr hx))
  obtain⟨e2,_⟩:=ih.run r1;rw[e2];simp only[List.append_assoc,List.singleton_append];congr 2
  show _=pre.length+((f::c::r).flatMap frB).length;rw[List.flatMap_cons,List.length_append];show pre.length+(frB f).length+((c::r).flatMap frB).length=_;omega
theorem a1A (bs:List Int) {g:PgR} (hp:F2 g) {l:List FrA} (hu:Up g 0 l) (hs:∀f,f∈l→mI f) (h12:l.length≤12):Enc bs (bV bs g) l (V2 l):=by
 intro pre post hb;unfold V2 at hb ⊢;rw[List.append_assoc] at hb;obtain⟨e1,r1⟩:=(Y1 bs (m:=l.length) (most:=12) Q8 Q8).run (eO.of hb);obtain⟨e2,_⟩:=(a2Z bs hp l 0 [] hu hs).run r1;unfold bV;rw[e1];simp only;rw[Int.toNat_natCast];have e2':dH bs g l.length 0 [] ⟨pre.length+(D6 l.length).length,false⟩=_:=e2;rw[e2',List.length_append,Nat.add_assoc];rfl
def bB (s:McA):Prop:=s.st=1↔s.frs=[]
structure pT (g:PgR) (p:McA):Prop where
 st:0≤p.st∧p.st≤7
 out:p.out.length≤40∧∀z,z∈p.out→I64 z
 up:Up g 0 p.frs
 frs:p.frs.length≤12∧∀f,f∈p.frs→mI f
 obs:p.obs.length≤40∧∀o,o∈p.obs→a0W o
 halt:bB p
theorem a6A {bs pre:List Int} {g:PgR} (hp:F2 g) (hs:bS g) {p:McA} (h:pT g p) (hb:bs=pre++machB g p) :
  (cO bs ⟨pre.length,false⟩).1=pgL g∧(rM1 bs ⟨pre.length,false⟩).1=p.st∧(rM2 bs ⟨pre.length,false⟩).1=p.out∧(rM3 bs g ⟨pre.length,false⟩).1=p.frs∧(rM5 bs g ⟨pre.length,false⟩).1=p.obs∧rM6 bs g ⟨pre.length,false⟩=⟨bs.length,false⟩:=by
 have hst:=h.st;have hb':bs=pre++(progB g++(D6 p.st.toNat++(jJ p.out++(V2 p.frs++(V9 p.obs++[]))))):=by
  rw[hb];unfold machB;simp only[List.append_assoc,List.append_nil]
 obtain⟨e0,r0⟩:=(a6U bs hs).run (eO.of hb');obtain⟨e1,r1⟩:=(Y1 bs (m:=p.st.toNat) (most:=7) Q8 Q8).run r0;obtain⟨e2,r2⟩:=(a8n bs h.out.2 h.out.1).run r1;obtain⟨e3,r3⟩:=(a1A bs hp h.up h.frs.2 h.frs.1).run r2;obtain⟨e5,r5⟩:=(a6l bs h.obs.2 h.obs.1).run r3;have hend:=r5.2;have q1:((p.st.toNat:Nat):Int)=p.st:=by omega
 rw[q1] at e1;have m1:rM1 bs ⟨pre.length,false⟩=(p.st,⟨pre.length+(progB g).length+(D6 p.st.toNat).length,false⟩):=by unfold rM1;rw [e0];exact e1
 have m2:rM2 bs ⟨pre.length,false⟩=(p.out,⟨pre.length+(progB g).length+(D6 p.st.toNat).length+(jJ p.out).length,false⟩):=by unfold rM2;rw [m1];exact e2
 have m3:rM3 bs g ⟨pre.length,false⟩=(p.frs,⟨pre.length+(progB g).length+(D6 p.st.toNat).length+(jJ p.out).length+(V2 p.frs).length,false⟩):=by unfold rM3;rw [m2];exact e3
 have hh:((p.st == 1) == (p.frs.length == 0))=true:=by
  by_cases h1:p.st=1
  ·rw [h1,h.halt.1 h1];rfl
  ·have h2:p.frs≠[]:=fun e=>h1 (h.halt.2 e)
   have h3:p.frs.length≠0:=by simpa using h2
   have e1:(p.st == 1)=false:=by simpa using h1
   have e2:(p.frs.length == 0)=false:=by simpa using h3
   rw[e1,e2];rfl
 have m4:rM4 bs g ⟨pre.length,false⟩=⟨pre.length+(progB g).length+(D6 p.st.toNat).length+(jJ p.out).length+(V2 p.frs).length,false⟩:=by
  unfold rM4;rw[m3,m1];simp only;rw[hh];rfl
 have m5:rM5 bs g ⟨pre.length,false⟩=(p.obs,⟨pre.length+(progB g).length+(D6 p.st.toNat).length+(jJ p.out).length+(V2 p.frs).length+(V9 p.obs).length,false⟩):=by unfold rM5;rw [m4];exact e5
 have hlen:pre.length+(progB g).length+(D6 p.st.toNat).length+(jJ p.out).length+(V2 p.frs).length+(V9 p.obs).length=bs.length:=by
  rw[hb'];simp only[List.length_append,List.length_nil];omega
 refine⟨by rw [e0],by rw [m1],by rw [m2],by rw [m3],by rw [m5],?_⟩;unfold rM6;rw[m5];simp only;rw[hlen];simp[E9]
theorem a7T (g:PgR) (k:Nat) (a:Int) (s:McA) (fs:List FrA) (f:FrA) (rest args:List Val) (h0:s.st=0) (hf:s.frs=fs++[f]):bB (doA g k a s fs f rest args):=by
 have hne:∀x:FrA,fs++[x]≠[]:=fun x=>by simp
 have hs:bB s:=⟨fun e=>by omega,fun e=>by rw [hf] at e;exact absurd e (hne f)⟩;have hgo:∀(pc:Nat) (l:List Val),bB (goA s fs f pc l):=fun pc l=>⟨fun e=>absurd (show (0:Int)=1 from e) Q7,fun e=>absurd (show fs++[_]=[] from e) (hne _)⟩
 have htr:∀st:Int,st≠1→bB (F4 s st):=fun st h1=>⟨fun e=>absurd (show st=1 from e) h1,fun e=>by rw [show (F4 s st).frs=fs++[f] from hf] at e;exact absurd e (hne f)⟩
 have hrt:∀(o:Ob) (kind:Int) (ix:Val),J7 o kind ix≠1:=fun o kind ix=>by
  unfold J7;split
  ·decide
  ·split <;> decide
 have hget:∀(v:Val) (kind:Int) (ix:Val),bB (eS s fs f rest v kind ix):=fun v kind ix=>by
  unfold eS;split
  ·exact hgo _ _
  ·exact htr _ (hrt _ _ _)
 have hset:∀(v:Val) (kind:Int) (ix y:Val),bB (dN s fs f rest v kind ix y):=fun v kind ix y=>by
  unfold dN;split
  ·exact ⟨fun e=>absurd (show (0:Int)=1 from e) Q7,fun e=>absurd (show fs++[_]=[] from e) (hne _)⟩
  ·exact htr _ (hrt _ _ _)
 have hroom:(G3 s).frs=fs++[f]:=by unfold G3;split <;> exact hf
 have hnew:∀(kind:Int) (fl:List Val),bB (R6 s fs f rest kind fl):=fun kind fl=>by
  unfold R6;split
  ·exact ⟨fun e=>absurd (show (6:Int)=1 from e) Q7,fun e=>by rw [show ({ G3 s with st:=6 } : McA).frs=fs++[f] from hroom] at e;exact absurd e (hne f)⟩
  ·split
   ·exact hs
   ·exact ⟨fun e=>absurd (show (0:Int)=1 from e) Q7,fun e=>absurd (show fs++[_]=[] from e) (hne _)⟩
 have hrk:∀(x y:Val) (z:Int),bB (L8 s fs f rest x y z):=fun x y z=>by
  unfold L8;split
  ·exact hgo _ _
  ·exact htr 2 Q7
 have hone:∀(out:List Int) (x:FrA) (obs:List Ob) (dr:List Int),bB ⟨0,out,fs++[x],obs,dr⟩:=fun out x obs dr=>⟨fun e=>absurd (show (0:Int)=1 from e) Q7,fun e=>absurd (show fs++[_]=[] from e) (hne _)⟩
 have hend:bB ⟨1,s.out,[],s.obs,s.dr⟩:=⟨fun _=>rfl,fun _=>rfl⟩;unfold doA;split
 ·exact hgo _ _
 ·exact hgo _ _
 ·exact hgo _ _
 ·exact hone _ _ _ _
 ·exact hgo _ _
 ·exact hgo _ _
 ·exact hgo _ _
 ·exact hrk _ _ _
 ·exact hrk _ _ _
 ·exact hrk _ _ _
 ·exact hrk _ _ _
 ·exact hgo _ _
 ·exact hgo _ _
 ·split
  ·exact hgo _ _
  ·exact hgo _ _
 ·unfold bD
  split
  ·exact htr 5 Q7
  ·exact ⟨fun e=>absurd (show (0:Int)=1 from e) Q7,fun e=>absurd (show fs++[_]++[_]=[] from e) Q9⟩
 ·unfold E5
  split
  ·exact hend
  ·exact ⟨fun e=>absurd (show (0:Int)=1 from e) Q7,fun e=>absurd (show fs.dropLast++[_]=[] from e) Q9⟩
 ·exact hnew _ _
 ·split
  ·exact htr 2 Q7
  ·split
   ·exact hnew _ _
   ·exact htr 4 Q7
 ·split
  ·exact hnew _ _
  ·exact htr 2 Q7
 ·exact hget _ _ _
 ·exact hset _ _ _ _
 ·exact hget _ _ _
 ·exact hset _ _ _ _
 ·split
  ·exact hgo _ _
  ·exact htr 2 Q7
 ·split
  ·exact hgo _ _
  ·exact htr 2 Q7
 ·exact hgo _ _
 ·split
  ·exact htr 2 Q7
  ·split
   ·exact htr 7 Q7
   ·exact hone _ _ _ _
 ·exact hend
 ·exact hs
theorem a4d {g:PgR} {s:McA} (hi:C1 g s) (h0:s.st=0):bB (W0 g s):=by
 have hne:=hi.run h0;have hf:s.frs=s.frs.dropLast++[s.frs.getLast hne]:=(List.dropLast_concat_getLast hne).symm;unfold W0;rw[List.getLast?_eq_some_getLast hne];exact a7T g _ _ s _ _ _ _ h0 hf
theorem zN {g:PgR} (hp:F2 g):∀(n:Nat) {s:McA},C1 g s→bB s→bB (runA g n s)
 | 0,_,_,h=>h
 | n+1,s,hi,h=>by
  rw[runA];by_cases h0:s.st=0
  ·rw [if_pos h0]
   exact zN hp n (eU hp hi h0) (a4d hi h0)
  ·rw [if_neg h0]
   exact h
theorem kK {obs:List Ob} {al:List Nat} (hal:al.length≤40) {v:Val} (hv:VOk obs v) (hi:I64 v.2):nT (C4 al v):=by
 refine⟨hZ hal hi,?_⟩;unfold C4;by_cases h2:v.1=2
 ·rw [if_pos h2]
  split
  ·exact Or.inr (Or.inr rfl)
  ·exact Or.inl rfl
 ·rw [if_neg h2]
  rcases hv with h | h | h
  ·exact Or.inl h
  ·exact Or.inr (Or.inl h)
  ·exact absurd h.1 h2
theorem uT {g:PgR} (hp:F2 g) {s:McA} (hi:C1 g s) (hz:G5 s) (hh:bB s):pT g (A9 s):=by
 have hsm:=bL hp hi hz;have hal:(A0 s).length≤40:=by
  have:=K5 hi.alive.nodup hi.alive.lt;have:=hi.cap.2;omega
 refine⟨hsm.st,hsm.out,?_,⟨hsm.frs.1,fun f hf=>?_⟩,⟨hsm.obs.1,fun o ho=>?_⟩,?_⟩
 ·refine a5p ?_
  show fG g (s.frs.map _).reverse;rw[← List.map_reverse];exact (uS _).frames hi.frs
 ·have hs:=hsm.frs.2 f hf
  obtain⟨f',hf',rfl⟩:=List.mem_map.1 (show f∈s.frs.map (gH (A0 s)) from hf);refine⟨hs.fn,hs.pc,fun v hv=>?_,fun v hv=>?_⟩
  ·obtain ⟨u,hu,rfl⟩:=List.mem_map.1 (show v∈f'.loc.map (C4 (A0 s)) from hv)
   exact kK hal (hi.vals f' hf' u (by simp [hu])) (hz.frs f' hf' u (by simp [hu]))
  ·obtain ⟨u,hu,rfl⟩:=List.mem_map.1 (show v∈f'.stk.map (C4 (A0 s)) from hv)
   exact kK hal (hi.vals f' hf' u (by simp [hu])) (hz.frs f' hf' u (by simp [hu]))
 ·obtain ⟨j,hj,rfl⟩:=List.mem_map.1 (show o∈(A0 s).map (N5 s) from ho)
  obtain⟨x,hx,hne⟩:=F6 hi hj;have hx':=List.mem_of_getElem? hx;have e:N5 s j=(x.1,x.2.map (C4 (A0 s))):=by unfold N5;rw [hx]
  rw[e];refine⟨fun v hv=>?_,?_⟩
  ·obtain ⟨u,hu,rfl⟩:=List.mem_map.1 (show v∈x.2.map (C4 (A0 s)) from hv)
   exact kK hal ((hi.obs x hx').vals hu) (hz.obs x hx' u hu)
  ·rcases hi.obs x hx' with ⟨q,_⟩ | ⟨q,q2,_⟩ | ⟨q,q2,_⟩ | ⟨q,u,q2,_,q4⟩
   ·exact absurd q hne
   ·exact Or.inl ⟨q,by rw [List.length_map];exact q2⟩
   ·exact Or.inr (Or.inl ⟨q,by rw [List.length_map];exact q2⟩)
   ·refine Or.inr (Or.inr ⟨q,by rw [List.length_map,q2];rfl,fun v hv=>?_⟩)
    have hv:v∈x.2.map (C4 (A0 s)):=hv;rw[q2] at hv;have hv:v=C4 (A0 s) u:=by simpa using hv
    rw[hv];unfold C4;split
    ·split
     ·show (2:Int)≠1;decide
     ·show (0:Int)≠1;decide
    ·exact q4
 ·show s.st=1↔s.frs.map _=[]
  rw[List.map_eq_nil_iff];exact hh
theorem nO {R:McR} {s:McA} (h:R.abs=s) {q:Nat} {v:Value} {l:List Val} {t:Tag} (hv:J3 R q v l t):(∃f,f∈s.frs∧(l=f.loc∨l=f.stk))∨∃o,o∈s.obs∧l=o.2:=by
 subst h;rcases hv with ⟨i,f,hf,_,_,rfl,_⟩ | ⟨i,f,hf,_,_,rfl,_⟩ | ⟨j,o,ho,_,_,rfl,_⟩
 ·exact Or.inl ⟨f.abs,List.mem_map.2 ⟨f,List.mem_of_getElem? hf,rfl⟩,Or.inl rfl⟩
 ·exact Or.inl ⟨f.abs,List.mem_map.2 ⟨f,List.mem_of_getElem? hf,rfl⟩,Or.inr rfl⟩
 ·exact Or.inr ⟨o.abs,List.mem_map.2 ⟨o,List.mem_of_getElem? ho,rfl⟩,rfl⟩
theorem zV {g:PgR} {R:McR} {s:McA} (h:R.abs=A9 s) (hi:C1 g s):cB R:=by
 have hlen:R.obs.length=(A9 s).obs.length:=by rw [← h];exact (List.length_map _).symm
 have hal:A0 R.abs=List.range R.obs.length:=by rw [h,a2a hi,hlen]
 refine⟨fun q v l t hv x hx h2=>?_,?_,fun i x y h1 h2=>?_⟩
 ·rw [hlen]
  rcases nO h hv with ⟨f,hf,hl⟩ | ⟨o,ho,hl⟩
  ·exact (jA s).1 f hf x (by rcases hl with rfl | rfl <;> simp [hx]) h2
  ·exact (jA s).2 o ho x (by rw [← hl];exact hx) h2
 ·rw [hal,List.length_range]
 ·rw [hal] at h1 h2
  have l1:=(List.getElem?_eq_some_iff.1 h1).1;have l2:=(List.getElem?_eq_some_iff.1 h2).1;rw[List.length_range] at l1 l2;rw[List.getElem?_range l1] at h1;rw[List.getElem?_range l2] at h2
  cases h1
  cases h2;omega
def Byt (l:List Int):Prop:=∀x,x∈l→0≤x∧x < 256
theorem Byt.app {l k:List Int} (h:Byt l) (h':Byt k):Byt (l++k):=fun x hx=>by
 rcases List.mem_append.1 hx with hx | hx
 ·exact h x hx
 ·exact h' x hx
theorem Byt.flat {α:Type} {l:List α} {f:α→List Int} (h:∀a,a∈l→Byt (f a)):Byt (l.flatMap f):=fun x hx=>by
 obtain⟨a,ha,hx⟩:=List.mem_flatMap.1 hx;exact h a ha x hx
theorem V0:∀(n:Nat),Byt (D6 n):=fun n=>by
 induction n using Nat.strongRecOn with
 | ind n ih =>
  rw[D6];split
  ·intro x hx
   rw[List.mem_singleton] at hx;subst hx;omega
  ·intro x hx
   rcases List.mem_cons.1 hx with hx | hx
   ·subst hx;omega
   ·exact ih (n / 128) Q8 x hx
theorem vS (z:Int):Byt (jI z):=V0 _
theorem a7J {v:Val} (h:nT v):Byt (fD v):=fun x hx=>by
 unfold fD at hx;rcases List.mem_cons.1 hx with hx | hx
 ·subst hx
  rcases h.2 with h | h | h
  ·rw [h];exact ⟨Int.le_refl _,by decide⟩
  ·omega
  ·omega
 ·split at hx
  ·exact vS _ x hx
  ·split at hx
   ·exact V0 _ x hx
   ·cases hx
theorem qC {l:List Val} (h:∀v,v∈l→nT v):Byt (Y9 l):=Byt.flat fun v hv=>a7J (h v hv)
theorem a5Q (g:PgR):Byt (progB g):=by
 unfold progB dM;refine (V0 _).app (Byt.flat fun i _=>?_);unfold fnB bE;refine (((V0 _).app (V0 _)).app (V0 _)).app (Byt.flat fun j _=>?_);unfold inB;exact (V0 _).app (vS _)
theorem a5P {g:PgR} {p:McA} (h:pT g p):Byt (machB g p):=by
 unfold machB jJ V2 V9 eT gK oT;refine ((((a5Q g).app (V0 _)).app ((V0 _).app (Byt.flat fun z _=>vS z))).app ((V0 _).app (Byt.flat fun f hf=>?_))).app ((V0 _).app (Byt.flat fun o ho=>?_))
 ·have:=h.frs.2 f hf
  unfold frB;exact (((V0 _).app (V0 _)).app (qC this.loc)).app (qC this.stk)
 ·have:=h.obs.2 o ho
  unfold obB;refine ((V0 _).app ?_).app (qC this.1);split
  ·intro x hx;cases hx
  ·exact V0 _
end Go.Proofs.YtbkmgoffiigdbabGreatDoor
