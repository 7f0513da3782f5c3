import Derived.Test.YtbkmgoffiigdbabGreatDoorVUc
import Derived.Test.YtbkmgoffiigdbabGreatDoorVXf
namespace Go.Proofs.YtbkmgoffiigdbabGreatDoor
open Go.RowKit Go.Sort
theorem a9i {obs:List Ob} : ∀(n i:Nat) (met:List Nat) (k:Nat),(z8 obs n i met).length≤n+i→z8 obs (n+k) i met=z8 obs n i met
 | 0,i,met,k,h=>by
  rw[z8] at h ⊢
  cases k with
  | zero=>rfl
  | succ k =>
   rw[Nat.zero_add,z8,List.getElem?_eq_none_iff.2 Q8]
 | n+1,i,met,k,h=>by
  have e:n+1+k=(n+k)+1:=by omega
  rw[z8] at h;rw[e,z8,z8]
  cases hi:met[i]? with
  | none=>rfl
  | some j =>
   rw[hi] at h;simp only at h ⊢
   cases ho:obs[j]? with
   | none=>rfl
   | some o =>
    rw[ho] at h;simp only at h ⊢;exact a9i n (i+1) _ k Q8
theorem b6m {obs:List Ob} {n m:Nat} {i:Nat} {met:List Nat} (hnm:n≤m) (h:(z8 obs n i met).length≤n+i):z8 obs m i met=z8 obs n i met:=by
 obtain⟨k,rfl⟩:=Nat.exists_eq_add_of_le hnm;exact a9i n i met k h
theorem b0s {r:Nat→Nat} {obs obt:List Ob} {l:List Val} {A:List Nat} (hA:N1 obs l A) (hlen:A.length≤obt.length) (hr:a1X r A) (hmv:a3S r A obs obt) (hsub:∀n j,j∈z8 obs n 0 (r7 [] l)→j∈A) (hnd:∀n,(z8 obs n 0 (r7 [] l)).Nodup):o5 obt (l.map (ren r))=(o5 obs l).map r:=by
 unfold o5;have h0:∀j,j∈r7 [] l→j∈A:=fun j hj=>by
  rcases (K2 l [] j).1 hj with h | ⟨v,hv,h2,rfl⟩
  ·cases h
  ·exact hA.roots v hv h2
 have e:=a1m hr l [] Q9 fun v hv h2=>hA.roots v hv h2
 rw[show ([]:List Nat).map r=[] from rfl] at e;rw[e,a4O hr hmv hA.shut _ _ _ h0];congr 1
 have hb:∀n,(z8 obs n 0 (r7 [] l)).length≤A.length:=fun n=>a1o (hnd n) (hsub n)
 have hAo:A.length≤obs.length:=A9 hA.nodup hA.lt;rcases Nat.le_total obt.length obs.length with h | h
 ·exact (b6m h (by have:=hb obt.length;omega)).symm
 ·exact b6m h (by have:=hb obs.length;omega)
structure b0Y (r:Nat→Nat) (s t:McA):Prop where
 st:t.st=s.st
 out:t.out=s.out
 cap:(a6 s).length≤t.obs.length
 frs:t.frs=s.frs.map (D3 r)
 inj:a1X r (a6 s)
 moved:a3S r (a6 s) s.obs t.obs
theorem b5v {obs:List Ob} (hw:a3y obs) {l:List Val} (hl:∀v,v∈l→v.1=2→v.2.toNat < obs.length):∀n,(z8 obs n 0 (r7 [] l)).Nodup:=by
 intro n
 suffices ∀(n i:Nat) (met:List Nat),a3x obs i met→(z8 obs n i met).Nodup from this n 0 _ ⟨I1 _ _ List.nodup_nil,X4 Q9 hl,fun k j hk _=>by omega⟩
 intro n
 induction n with
 | zero=>intro i met h;exact h.nodup
 | succ n ih =>
  intro i met h;rw[z8]
  cases hi:met[i]? with
  | none=>exact h.nodup
  | some j =>
   obtain⟨o,ho⟩:∃o,obs[j]?=some o:=⟨_,List.getElem?_eq_getElem (h.lt j (List.mem_of_getElem? hi))⟩
   simp only[ho];exact ih _ _ (h.next hw hi ho)
theorem b0Y.alive {g:PgR} {r:Nat→Nat} {s t:McA} (h:b0Y r s t) (hi:e8 g s):a6 t=(a6 s).map r:=by
 unfold a6;rw[h.frs,Y1];have hl:∀v,v∈z7 s.frs→v.1=2→v.2.toNat < s.obs.length:=fun v hv h2=>hi.alive.lt _ (hi.alive.roots v hv h2)
 refine b0s hi.alive h.cap h.inj h.moved (fun n j hj=>?_) (b5v hi.within hl);have:a0K s.obs (z7 s.frs) j:=a3Q n 0 _ (a3F Q9 fun v hv h2=>a0K.root v hv h2) j hj;exact hi.alive.of_lead this
def c0P (r:Nat→Nat) (s t:McA):Prop:=∀j o p,j∈a6 s→s.obs[j]?=some o→t.obs[r j]?=some p→o.1=3→a9t r (a6 s) (a6 t) (o.2.headD (0,0)) (p.2.headD (0,0))
theorem b0Y.rel {r:Nat→Nat} {s t:McA} (h:b0Y r s t) (hw:c0P r s t) (hc:t.obs.length=s.obs.length):Rel r s t:=⟨h.st,h.out,hc,h.frs,h.inj,h.moved,hw⟩
theorem a1L {g:PgR} {r:Nat→Nat} {s t:McA} (h:b0Y r s t) (hi:e8 g s) {v:Val} (hv:v.1=2→v.2.toNat∈a6 s):j4 (a6 t) (ren r v)=j4 (a6 s) v:=by
 unfold j4;rw[a0j];by_cases h2:v.1=2
 ·rw [if_pos h2,if_pos h2,a0D h2,h.alive hi,b5O h.inj (hv h2) fun _ hj=>hj]
 ·rw [if_neg h2,if_neg h2,B3 h2]
theorem b7T {g:PgR} {r:Nat→Nat} {s t:McA} (h:b0Y r s t) (hw:c0P r s t) (hi:e8 g s) (hj:e8 g t):g8 t=g8 s:=by
 unfold g8;rw[h.st,h.out,h.frs,List.map_map];have e1:s.frs.map (a1p (a6 t)∘D3 r)=s.frs.map (a1p (a6 s)):=List.map_congr_left fun f hf=>by
  have hin:=In.frs hi hf;show FrA.mk f.fn f.pc ((f.loc.map (ren r)).map (j4 (a6 t))) ((f.stk.map (ren r)).map (j4 (a6 t)))=FrA.mk f.fn f.pc (f.loc.map (j4 (a6 s))) (f.stk.map (j4 (a6 s)));rw[List.map_map,List.map_map];congr 1
  ·exact List.map_congr_left fun v hv=>a1L h hi (hin v (by simp [hv]))
  ·exact List.map_congr_left fun v hv=>a1L h hi (hin v (by simp [hv]))
 have e2:(a6 t).map (J8 t)=(a6 s).map (J8 s):=by
  rw[h.alive hi,List.map_map];refine List.map_congr_left fun j hj'=>?_
  obtain⟨o,p,ho,hp,hk,hf⟩:=h.moved j hj';show J8 t (r j)=J8 s j;unfold J8;rw[ho,hp];show (p.1,p.2.map (j4 (a6 t)))=(o.1,o.2.map (j4 (a6 s)));rw[hk];congr 1
  by_cases h3:o.1=3
  ·obtain ⟨f1,_,f3⟩:=a5v hi ho h3
   obtain⟨g1,_,g3⟩:=a5v hj hp (by rw [hk];exact h3);rw[f1,g1];rcases hw j o p hj' ho hp h3 with ⟨a1,a2,a3⟩ | ⟨a1,a2⟩
   ·show [j4 (a6 t) (p.2.headD (0,0))]=[j4 (a6 s) (o.2.headD (0,0))]
    rw[a3,a1L h hi fun _=>a2]
   ·show [j4 (a6 t) (p.2.headD (0,0))]=[j4 (a6 s) (o.2.headD (0,0))]
    rw[a1K a1 f3,a1K a2 g3]
  ·rw [hf h3,List.map_map]
   exact List.map_congr_left fun v hv=>a1L h hi (hi.alive.shut j hj' o ho h3 v hv)
 rw[e1,e2]
section
theorem b0a:∀{l:List Nat} {x i:Nat},ixA l x=some i→l[i]?=some x
 | [],_,_,h=>by cases h
 | a::l,x,i,h=>by
  rw[ixA] at h;by_cases e:a=x
  ·rw [if_pos e] at h
   injection h with h
   subst h;rw[e];rfl
  ·rw [if_neg e] at h
   cases q:ixA l x with
   | none=>rw [q] at h;cases h
   | some k =>
    rw[q] at h
    injection h with h
    subst h;rw[List.getElem?_cons_succ];exact b0a q
theorem b0b {l:List Nat} {x:Nat} (h:x∈l):∃i,ixA l x=some i:=by
 induction l with
 | nil=>cases h
 | cons a l ih =>
  rw[ixA];by_cases e:a=x
  ·rw [if_pos e];exact ⟨0,rfl⟩
  ·rw [if_neg e]
   obtain⟨i,hi⟩:=ih (by rcases List.mem_cons.1 h with h | h;exact absurd h.symm e;exact h);rw[hi];exact⟨i+1,rfl⟩
theorem a7p {l:List Nat} (hn:l.Nodup) {i j x:Nat} (hi:l[i]?=some x) (hj:l[j]?=some x):i=j:=by
 obtain⟨hil,e1⟩:=List.getElem?_eq_some_iff.1 hi;obtain⟨hjl,e2⟩:=List.getElem?_eq_some_iff.1 hj;have hp:=List.pairwise_iff_getElem.1 (show List.Pairwise (·≠·) l from hn);rcases Nat.lt_trichotomy i j with h | h | h
 ·exact absurd (e1.trans e2.symm) (hp i j hil hjl h)
 ·exact h
 ·exact absurd (e2.trans e1.symm) (hp j i hjl hil h)
theorem c2k {l:List Nat} (hn:l.Nodup) {i x:Nat} (hi:l[i]?=some x):ixA l x=some i:=by
 obtain⟨k,hk⟩:=b0b (List.mem_of_getElem? hi);rw[hk,a7p hn (b0a hk) hi]
def atL (laid:List Nat) (i:Nat):Nat:=laid.getD i 0
def b0i (al laid:List Nat) (j:Nat):Nat:=atL laid ((ixA al j).getD 0)
theorem a2C {al laid:List Nat} {v:Val} (h:v.1=2→v.2.toNat∈al):ren (atL laid) (j4 al v)=ren (b0i al laid) v:=by
 unfold j4;by_cases h2:v.1=2
 ·obtain ⟨i,hi⟩:=b0b (h h2)
  rw[if_pos h2,hi];unfold ren;rw[if_pos rfl,if_pos h2];unfold b0i;rw[hi];rfl
 ·rw [if_neg h2,B3 h2,B3 h2]
structure a0Y (os obs:List Ob) (laid:List Nat):Prop where
 len:laid.length=os.length
 nodup:laid.Nodup
 at_:∀(k:Nat) o,os[k]?=some o→∃j,laid[k]?=some j∧obs[j]?=some o
 free:∀(j:Nat) o,obs[j]?=some o→j∉laid→o=(0,[])
def a3o (p:McA) (obs:List Ob) (laid:List Nat) (dr:List Int):McA:=⟨p.st,p.out,p.frs.map (D3 (atL laid)),obs.map fun o=>(o.1,o.2.map (ren (atL laid))),dr⟩
section
variable {g:PgR} {s:McA} {obs:List Ob} {laid:List Nat} {dr:List Int}
theorem a7s {k:Nat} {j:Nat} (hj:(a6 s)[k]?=some j) {o:Ob} (ho:s.obs[j]?=some o):(g8 s).obs[k]?=some (o.1,o.2.map (j4 (a6 s))):=by
 show ((a6 s).map (J8 s))[k]?=_;rw[List.getElem?_map,hj];show some (J8 s j)=_;unfold J8;rw[ho]
theorem a2I (h:a0Y (g8 s).obs obs laid) (hi:e8 g s) {j:Nat} (hj:j∈a6 s):∃(o:Ob) (k:Nat),s.obs[j]?=some o∧o.1≠0∧(a6 s)[k]?=some j∧laid[k]?=some (b0i (a6 s) laid j)∧obs[b0i (a6 s) laid j]?=some (o.1,o.2.map (j4 (a6 s))):=by
 obtain⟨o,ho,hne⟩:=q8 hi hj;obtain⟨k,hk⟩:=b0b hj;have hk':=b0a hk;obtain⟨i,h1,h2⟩:=h.at_ k _ (a7s hk' ho);have e:b0i (a6 s) laid j=i:=by
  unfold b0i atL;rw[hk];show laid.getD k 0=i;rw[List.getD_eq_getElem?_getD,h1];rfl
 rw[e];exact⟨o,k,ho,hne,hk',h1,h2⟩
theorem b8y (h:a0Y (g8 s).obs obs laid) (hi:e8 g s) (hlt:∀j,j∈laid→j < obs.length):b0Y (b0i (a6 s) laid) s (a3o (g8 s) obs laid dr):=by
 refine⟨rfl,rfl,?_,?_,fun i j h1 h2 e=>?_,fun j hj=>?_⟩
 ·show _≤(obs.map _).length
  rw[List.length_map];have:laid.length=(a6 s).length:=by rw [h.len];exact List.length_map _
  rw[← this];exact A9 h.nodup hlt
 ·show (s.frs.map (a1p (a6 s))).map (D3 (atL laid))=_
  rw[List.map_map];refine List.map_congr_left fun f hf=>?_
  have hin:=In.frs hi hf;show FrA.mk f.fn f.pc ((f.loc.map _).map _) ((f.stk.map _).map _)=FrA.mk f.fn f.pc _ _;rw[List.map_map,List.map_map];congr 1
  ·exact List.map_congr_left fun v hv=>a2C (hin v (by simp [hv]))
  ·exact List.map_congr_left fun v hv=>a2C (hin v (by simp [hv]))
 ·obtain ⟨_,k,_,_,hk,hl,_⟩:=a2I h hi h1
  obtain⟨_,k',_,_,hk',hl',_⟩:=a2I h hi h2;rw[← e] at hl';obtain rfl:=a7p h.nodup hl hl';rw[hk] at hk';exact Option.some.inj hk'
 ·obtain ⟨o,k,ho,hne,hk,hl,hob⟩:=a2I h hi hj
  refine⟨o,(o.1,(o.2.map (j4 (a6 s))).map (ren (atL laid))),ho,?_,rfl,fun h3=>?_⟩
  ·show (obs.map _)[_]?=_
   rw[List.getElem?_map,hob];rfl
  ·show (o.2.map (j4 (a6 s))).map (ren (atL laid))=_
   rw[List.map_map];exact List.map_congr_left fun v hv=>a2C (hi.alive.shut j hj o ho h3 v hv)
theorem b8z (h:a0Y (g8 s).obs obs laid) (hi:e8 g s):c0P (b0i (a6 s) laid) s (a3o (g8 s) obs laid dr):=by
 intro j o p hj ho hp h3;obtain⟨o',k,ho',hne,hk,hl,hob⟩:=a2I h hi hj;rw[ho] at ho'
 cases ho';have hp':p=(o.1,(o.2.map (j4 (a6 s))).map (ren (atL laid))):=by
  have:(obs.map fun o=>((o.1,o.2.map (ren (atL laid))):Ob))[b0i (a6 s) laid j]?=some p:=hp;rw[List.getElem?_map,hob] at this;exact (Option.some.inj this).symm
 obtain⟨f1,f2,f3⟩:=a5v hi ho h3;rw[hp',f1];show a9t _ _ _ (o.2.headD (0,0)) (ren (atL laid) (j4 (a6 s) (o.2.headD (0,0))));generalize o.2.headD (0,0)=v at f2 f3 ⊢;by_cases hc:v.1=2∧v.2.toNat∈a6 s
 ·exact Or.inl ⟨hc.1,hc.2,a2C fun _=>hc.2⟩
 ·refine Or.inr ⟨hc,?_⟩
  rw[a1K hc f3,a4E];simp
end
end
section
def a0d:List Ob→List Ob→List Int→List Nat→List Ob × List Int × List Nat
 | [],obs,dr,laid=>(obs,dr,laid)
 | o::l,obs,dr,laid=>match a1q obs dr with
  | none=>(obs,dr,laid)
  | some j=>a0d l (obs.set j.1 o) j.2 (laid++[j.1])
theorem a0Y.none (c:Nat):a0Y [] (List.replicate c (0,[])) []:=by
 refine⟨rfl,List.nodup_nil,fun k o ho=>by simp at ho,fun j o ho _=>?_⟩;exact (List.mem_replicate.1 (List.mem_of_getElem? ho)).2
theorem a0Y.free_at {os obs:List Ob} {laid:List Nat} (h:a0Y os obs laid) (hk:∀o,o∈os→o.1≠0) {j:Nat} {o:Ob} (ho:obs[j]?=some o) (h0:o.1=0):j∉laid:=fun hj=>by
 obtain⟨k,hk'⟩:=List.mem_iff_getElem?.1 hj;have hkl:=(List.getElem?_eq_some_iff.1 hk').1;rw[h.len] at hkl;obtain⟨j',h1,h2⟩:=h.at_ k _ (List.getElem?_eq_getElem hkl);rw[hk'] at h1
 cases h1;rw[ho] at h2
 injection h2 with h2
 exact hk _ (List.getElem_mem hkl) (by rw [← h2];exact h0)
theorem a0Y.put {os obs:List Ob} {laid:List Nat} (h:a0Y os obs laid) {j:Nat} (hj:j∉laid) (hl:j < obs.length) (o:Ob):a0Y (os++[o]) (obs.set j o) (laid++[j]):=by
 refine⟨by rw [List.length_append,List.length_append,h.len];rfl,?_,fun k x hx=>?_,fun i x hx hn=>?_⟩
 ·rw [List.nodup_append]
  refine⟨h.nodup,by simp,fun a ha b hb=>?_⟩;rw[List.mem_singleton] at hb;rintro rfl;exact hj (hb▸ha)
 ·by_cases hk:k < os.length
  ·rw [List.getElem?_append_left hk] at hx
   obtain⟨i,h1,h2⟩:=h.at_ k x hx;refine⟨i,by rw [List.getElem?_append_left (by rw [h.len];exact hk)];exact h1,?_⟩;rw[List.getElem?_set_ne (fun e=>hj (by rw [e];exact List.mem_of_getElem? h1))];exact h2
  ·have hkl:=(List.getElem?_eq_some_iff.1 hx).1
   rw[List.length_append] at hkl;simp at hkl;obtain rfl:k=os.length:=by omega
   rw[List.getElem?_append_right (Nat.le_refl _)] at hx;simp at hx;subst hx;refine⟨j,by rw [← h.len,List.getElem?_append_right (Nat.le_refl _)];simp,?_⟩;rw[List.getElem?_set_self hl]
 ·rw [List.mem_append,List.mem_singleton] at hn
  have hne:j≠i:=fun e=>hn (Or.inr e.symm)
  rw[List.getElem?_set_ne hne] at hx;exact h.free i x hx fun e=>hn (Or.inl e)
theorem a0Y.room {os obs:List Ob} {laid:List Nat} (h:a0Y os obs laid) (hlt:os.length < obs.length):G9 obs≠obs.length:=fun e=>by
 have hall:∀o,o∈obs→(o.1 != 0)=true:=List.length_filter_eq_length_iff.1 e
 have hsub:∀j,j∈List.range obs.length→j∈laid:=fun j hj=>by
  have hj':=List.mem_range.1 hj;refine Decidable.byContradiction fun hn=>?_
  have h1:=h.free j _ (List.getElem?_eq_getElem hj') hn;have h2:=hall _ (List.getElem_mem hj');rw[h1] at h2;exact absurd h2 Q7
 have:=a1o List.nodup_range hsub;rw[List.length_range,h.len] at this;omega
theorem b1V:∀(rest os obs:List Ob) (dr:List Int) (laid:List Nat),a0Y os obs laid→(∀j,j∈laid→j < obs.length)→(∀o,o∈os++rest→o.1≠0)→(os++rest).length≤obs.length →
  a0Y (os++rest) (a0d rest obs dr laid).1 (a0d rest obs dr laid).2.2∧(a0d rest obs dr laid).1.length=obs.length∧(∀j,j∈(a0d rest obs dr laid).2.2→j < obs.length)∧(a0d rest obs dr laid).2.1.length≤dr.length
 | [],os,obs,dr,laid,h,hlt,_,_=>by
  rw[List.append_nil];exact⟨h,rfl,hlt,Nat.le_refl _⟩
 | o::rest,os,obs,dr,laid,h,hlt,hk,hc=>by
  have hc':=hc;rw[List.length_append,List.length_cons] at hc';obtain⟨j,hj⟩:=V5 (dr:=dr) (show 0 < obs.length by omega) (h.room Q8);obtain⟨⟨x,hx,h0⟩,hdr⟩:=V4 hj;have hjl:=(List.getElem?_eq_some_iff.1 hx).1;have hnot:=h.free_at (fun y hy=>hk y (by simp [hy])) hx h0;rw[a0d,hj];simp only;have e:os++o::rest=(os++[o])++rest:=by simp
  obtain⟨a1,a2,a3,a4⟩:=b1V rest (os++[o]) (obs.set j.1 o) j.2 (laid++[j.1]) (h.put hnot hjl o) (fun i hi=>by
   rw[List.length_set];rcases List.mem_append.1 hi with hi | hi
   ·exact hlt i hi
   ·rw [List.mem_singleton] at hi;rw [hi];exact hjl) (by rw [← e];exact hk) (by rw [← e,List.length_set];exact hc)
  rw[List.length_set] at a2 a3;rw[e];exact⟨a1,a2,a3,Nat.le_trans a4 hdr⟩
theorem b7o {o:Ob} {l obs:List Ob} {dr:List Int} {laid:List Nat} {j:Nat × List Int} (h:a1q obs dr=some j):a0d (o::l) obs dr laid=a0d l (obs.set j.1 o) j.2 (laid++[j.1]):=by rw [a0d,h]
structure b0U (φ:FrA→FrA):Prop where
 fn:∀f,(φ f).fn=f.fn
 pc:∀f,(φ f).pc=f.pc
 loc:∀f,(φ f).loc.length=f.loc.length
 stk:∀f,(φ f).stk.length=f.stk.length
theorem b0U.frOk {φ:FrA→FrA} (h:b0U φ) {g:PgR} {f:FrA} {q:Int} (hf:Z7 g f q):Z7 g (φ f) q:=by
 refine⟨by rw [h.fn];exact hf.fn,by rw [h.loc,h.fn];exact hf.loc,?_⟩;rw[h.fn,h.pc,h.stk];exact hf.reach
theorem b0U.lower {φ:FrA→FrA} (h:b0U φ) {g:PgR} : ∀(l:List FrA) (fn:Nat),Y5 g fn l→Y5 g fn (l.map φ)
 | [],_,hl=>hl
 | c::r,fn,⟨h1,h2,h3,h4⟩=>by
  refine⟨h.frOk h1,by rw [h.fn,h.pc];exact h2,by rw [h.fn,h.pc];exact h3,?_⟩;rw[h.fn];exact h.lower r c.fn h4
theorem b0U.frames {φ:FrA→FrA} (h:b0U φ) {g:PgR} {l:List FrA} (hf:Z8 g l):Z8 g (l.map φ):=by
 cases l with
 | nil=>trivial
 | cons f r =>
  refine⟨h.frOk hf.1,?_⟩;show Y5 g (φ f).fn (r.map φ);rw[h.fn];exact h.lower r f.fn hf.2
theorem b9E (r:Nat→Nat):b0U (D3 r):=⟨fun _=>rfl,fun _=>rfl,fun _=>List.length_map _,fun _=>List.length_map _⟩
theorem a8N (al:List Nat):b0U (a1p al):=⟨fun _=>rfl,fun _=>rfl,fun _=>List.length_map _,fun _=>List.length_map _⟩
section
variable {g:PgR} {s:McA} {obs:List Ob} {laid:List Nat} {dr:List Int}
theorem b3b (h:a0Y (g8 s).obs obs laid) (hi:e8 g s) {v:Val} (hv:VOk s.obs v):VOk (a3o (g8 s) obs laid dr).obs (ren (atL laid) (j4 (a6 s) v)):=by
 rcases hv with rfl | h1 | ⟨h2,h0,_⟩
 ·have e:j4 (a6 s) (0,0)=(0,0):=rfl
  rw[e,a4E];exact Or.inl rfl
 ·have e:j4 (a6 s) v=v:=by unfold j4;rw [if_neg Q8]
  rw[e,B3 Q8];exact Or.inr (Or.inl h1)
 ·by_cases hin:v.2.toNat∈a6 s
  ·rw [a2C fun _=>hin]
   obtain⟨o,k,_,hne,_,_,hob⟩:=a2I h hi hin;unfold ren;rw[if_pos h2];refine Or.inr (Or.inr ⟨rfl,Int.natCast_nonneg _,(o.1,(o.2.map (j4 (a6 s))).map (ren (atL laid))),?_,hne⟩);show (obs.map _)[_]?=_;rw[List.getElem?_map,Int.toNat_natCast,hob];rfl
  ·rw [a1K (fun e=>hin e.2) (fun e=>absurd h2 e),a4E]
   exact Or.inl rfl
theorem c0F (h:a0Y (g8 s).obs obs laid) (hi:e8 g s) (h1:1≤obs.length) (h40:obs.length≤40) (hdr:dr.length≤200):e8 g (a3o (g8 s) obs laid dr):=by
 refine⟨fun h0=>?_,?_,?_,fun f hf v hv=>?_,fun o ho=>?_,?_,hi.out,hdr⟩
 ·have:=hi.run h0
  show (s.frs.map _).map _≠[];simpa using this
 ·show Z8 g ((s.frs.map _).map _).reverse
  rw[← List.map_reverse,← List.map_reverse];exact (b9E _).frames ((a8N _).frames hi.frs)
 ·show ((s.frs.map _).map _).length≤12
  rw[List.length_map,List.length_map];exact hi.depth
 ·have hf':f∈(s.frs.map (a1p (a6 s))).map (D3 (atL laid)):=hf
  rw[List.map_map] at hf';obtain⟨f',hm,rfl⟩:=List.mem_map.1 hf';have hv':v∈(f'.loc.map (j4 (a6 s))).map (ren (atL laid))++(f'.stk.map (j4 (a6 s))).map (ren (atL laid)):=hv;rw[List.map_map,List.map_map,← List.map_append] at hv';obtain⟨u,hu,rfl⟩:=List.mem_map.1 hv';exact b3b h hi (hi.vals f' hm u hu)
 ·have ho':o∈obs.map fun o=>((o.1,o.2.map (ren (atL laid))):Ob):=ho
  obtain⟨x,hx,rfl⟩:=List.mem_map.1 ho';obtain⟨j,hj⟩:=List.mem_iff_getElem?.1 hx;by_cases hin:j∈laid
  ·obtain ⟨k,hk⟩:=List.mem_iff_getElem?.1 hin
   have hkl:=(List.getElem?_eq_some_iff.1 hk).1;have hkl':k < (a6 s).length:=by
    have e:(g8 s).obs.length=(a6 s).length:=List.length_map _;rw[h.len,e] at hkl;exact hkl
   obtain⟨o',hm,hne⟩:=q8 hi (List.getElem_mem hkl');obtain⟨j',q1,q2⟩:=h.at_ k _ (a7s (List.getElem?_eq_getElem hkl') hm);rw[hk] at q1
   cases q1;rw[hj] at q2
   injection q2 with q2
   subst q2;have hv:∀v,v∈o'.2→VOk s.obs v→VOk (a3o (g8 s) obs laid dr).obs (ren (atL laid) (j4 (a6 s) v)):=fun v _ hv=>b3b h hi hv
   rcases hi.obs o' (List.mem_of_getElem? hm) with ⟨e,_⟩ | ⟨e,e2,e3⟩ | ⟨e,e2,e3⟩ | ⟨e,u,e2,e3,e4⟩
   ·exact absurd e hne
   ·refine Or.inr (Or.inl ⟨e,by simpa using e2,fun v hv'=>?_⟩)
    have hv':v∈(o'.2.map (j4 (a6 s))).map (ren (atL laid)):=hv';rw[List.map_map] at hv';obtain⟨u,hu,rfl⟩:=List.mem_map.1 hv';exact hv u hu (e3 u hu)
   ·refine Or.inr (Or.inr (Or.inl ⟨e,by simpa using e2,fun v hv'=>?_⟩))
    have hv':v∈(o'.2.map (j4 (a6 s))).map (ren (atL laid)):=hv';rw[List.map_map] at hv';obtain⟨u,hu,rfl⟩:=List.mem_map.1 hv';exact hv u hu (e3 u hu)
   ·refine Or.inr (Or.inr (Or.inr ⟨e,ren (atL laid) (j4 (a6 s) u),?_,hv u (by rw [e2];simp) e3,?_⟩))
    ·show (o'.2.map _).map _=_
     rw[e2];rfl
    ·rw [a0j]
     unfold j4;split
     ·split
      ·show (2:Int)≠1;decide
      ·show (0:Int)≠1;decide
     ·exact e4
  ·rw [h.free j x hj hin]
   exact Or.inl ⟨rfl,rfl⟩
 ·show 1≤(obs.map _).length∧(obs.map _).length≤40
  rw[List.length_map];exact⟨h1,h40⟩
theorem c2c {c:Nat} (hc:1≤c) (hlt:∀j,j∈laid→j < c) (i:Nat):atL laid i < c:=by
 unfold atL;rw[List.getD_eq_getElem?_getD]
 cases q:laid[i]? with
 | none=>show 0 < c;omega
 | some x=>exact hlt x (List.mem_of_getElem? q)
theorem c1G {r:Nat→Nat} (hr:∀i,r i < 1000) {v:Val} (hv:I64 v.2):I64 (ren r v).2:=by
 unfold ren;split
 ·have:=hr v.2.toNat
  exact D2 (by show (-1000000:Int)≤((r v.2.toNat:Nat):Int);omega) (by show ((r v.2.toNat:Nat):Int)≤(1000000:Int);omega)
 ·exact hv
theorem b8x (hI:o7 s) (hi:e8 g s) (h:a0Y (g8 s).obs obs laid) (h1:1≤obs.length) (h40:obs.length≤40) (hlt:∀j,j∈laid→j < obs.length):o7 (a3o (g8 s) obs laid dr):=by
 have hal:(a6 s).length≤40:=by
  have:=A9 hi.alive.nodup hi.alive.lt;have:=hi.cap.2;omega
 have hv:∀v,I64 v.2→I64 (ren (atL laid) (j4 (a6 s) v)).2:=fun v hv=>c1G (fun i=>by have:=c2c h1 hlt i;omega) (a2z hal hv).1
 refine⟨hI.st,hI.out,fun f hf v hv'=>?_,fun o ho v hv'=>?_⟩
 ·have hf':f∈(s.frs.map (a1p (a6 s))).map (D3 (atL laid)):=hf
  rw[List.map_map] at hf';obtain⟨f',hm,rfl⟩:=List.mem_map.1 hf';have hv':v∈(f'.loc.map (j4 (a6 s))).map (ren (atL laid))++(f'.stk.map (j4 (a6 s))).map (ren (atL laid)):=hv';rw[List.map_map,List.map_map,← List.map_append] at hv';obtain⟨u,hu,rfl⟩:=List.mem_map.1 hv';exact hv u (hI.frs f' hm u hu)
 ·have ho':o∈obs.map fun o=>((o.1,o.2.map (ren (atL laid))):Ob):=ho
  obtain⟨x,hx,rfl⟩:=List.mem_map.1 ho';obtain⟨j,hj⟩:=List.mem_iff_getElem?.1 hx;by_cases hin:j∈laid
  ·obtain ⟨k,hk⟩:=List.mem_iff_getElem?.1 hin
   have hkl:=(List.getElem?_eq_some_iff.1 hk).1;have hkl':k < (a6 s).length:=by
    have e:(g8 s).obs.length=(a6 s).length:=List.length_map _;rw[h.len,e] at hkl;exact hkl
   obtain⟨o',hm,hne⟩:=q8 hi (List.getElem_mem hkl');obtain⟨j',q1,q2⟩:=h.at_ k _ (a7s (List.getElem?_eq_getElem hkl') hm);rw[hk] at q1
   cases q1;rw[hj] at q2
   injection q2 with q2
   subst q2;have hv':v∈(o'.2.map (j4 (a6 s))).map (ren (atL laid)):=hv';rw[List.map_map] at hv';obtain⟨u,hu,rfl⟩:=List.mem_map.1 hv';exact hv u (hI.obs o' (List.mem_of_getElem? hm) u hu)
  ·rw [h.free j x hj hin] at hv'
   cases hv'
theorem b5u (h:a0Y (g8 s).obs obs laid) (hi:e8 g s) (hlt:∀j,j∈laid→j < obs.length):G9 (a3o (g8 s) obs laid dr).obs=(a6 s).length:=by
 have e:(g8 s).obs.length=(a6 s).length:=List.length_map _;rw[a1S,← e,← h.len];have hk:∀o,o∈(g8 s).obs→o.1≠0:=fun o ho=>by
  obtain⟨j,hj,rfl⟩:=List.mem_map.1 (show o∈(a6 s).map (J8 s) from ho);obtain⟨x,hx,hne⟩:=q8 hi hj;unfold J8;rw[hx];exact hne
 refine a3G (List.Pairwise.filter _ List.nodup_range) h.nodup fun j=>?_
 rw[List.mem_filter,List.mem_range];show (j < (obs.map _).length∧(((obs.map _)[j]?).map _).getD false=true)↔_;rw[List.length_map,List.getElem?_map];constructor
 ·rintro ⟨h1,h2⟩
  rw[List.getElem?_eq_getElem h1] at h2;refine Decidable.byContradiction fun hn=>?_
  have:=h.free j _ (List.getElem?_eq_getElem h1) hn;rw[this] at h2;exact absurd (show ((0:Int) != 0)=true from h2) Q7
 ·intro hj
  have hl:=hlt j hj;refine⟨hl,?_⟩;rw[List.getElem?_eq_getElem hl];have hne:(obs[j]).1≠0:=fun e=>h.free_at hk (List.getElem?_eq_getElem hl) e hj
  show ((obs[j]).1 != 0)=true;simpa using hne
theorem a5J (hi:e8 g s):∀o,o∈(g8 s).obs→o.1≠0:=fun o ho=>by
 obtain⟨j,hj,rfl⟩:=List.mem_map.1 (show o∈(a6 s).map (J8 s) from ho);obtain⟨x,hx,hne⟩:=q8 hi hj;unfold J8;rw[hx];exact hne
theorem a8P (s:McA):(∀f,f∈(g8 s).frs→∀v,v∈f.loc++f.stk→v.1=2→0≤v.2∧v.2.toNat < (g8 s).obs.length)∧∀o,o∈(g8 s).obs→∀v,v∈o.2→v.1=2→0≤v.2∧v.2.toNat < (g8 s).obs.length:=by
 have e:(g8 s).obs.length=(a6 s).length:=List.length_map _;have hv:∀v,(j4 (a6 s) v).1=2→0≤(j4 (a6 s) v).2∧(j4 (a6 s) v).2.toNat < (g8 s).obs.length:=fun v h2=>by
  rw[e];unfold j4 at h2 ⊢;by_cases h:v.1=2
  ·rw [if_pos h] at h2 ⊢
   cases q:ixA (a6 s) v.2.toNat with
   | none=>rw [q] at h2;exact absurd h2 Q7
   | some i =>
    have:=b3W q;show 0≤(i:Int)∧(i:Int).toNat < _;omega
  ·rw [if_neg h] at h2
   exact absurd h2 h
 constructor
 ·intro f hf v hv'
  obtain⟨f',_,rfl⟩:=List.mem_map.1 (show f∈s.frs.map (a1p (a6 s)) from hf);have hv':v∈f'.loc.map (j4 (a6 s))++f'.stk.map (j4 (a6 s)):=hv';rw[← List.map_append] at hv';obtain⟨u,_,rfl⟩:=List.mem_map.1 hv';exact hv u
 ·intro o ho v hv'
  obtain⟨j,_,rfl⟩:=List.mem_map.1 (show o∈(a6 s).map (J8 s) from ho);unfold J8 at hv'
  cases q:s.obs[j]? with
  | none=>rw [q] at hv';cases hv'
  | some x =>
   rw[q] at hv';obtain⟨u,_,rfl⟩:=List.mem_map.1 hv';exact hv u
end
end
def K8 (g g':PgR):Prop:=g'.n=g.n∧∀i,i < g.n→(g'.f i).p=(g.f i).p∧(g'.f i).l=(g.f i).l∧(g'.f i).n=(g.f i).n∧∀j,j < (g.f i).n→(g'.f i).op j=(g.f i).op j∧(g'.f i).ar j=(g.f i).ar j
structure Z6 (F F':n7):Prop where
 n:F'.n=F.n
 pop:∀a,a < F.n→F'.pop a=F.pop a
 push:∀a,a < F.n→F'.push a=F.push a
 next:∀a,a < F.n→F'.next a=F.next a
theorem Z6.reach {F F':n7} (h:Z6 F F') (hF:F.Fits) {a:Nat} {b:Int} (hr:F.Reach a b):F'.Reach a b:=by
 have key:F.Reach a b∧F'.Reach a b:=by
  refine hr (fun a b=>F.Reach a b∧F'.Reach a b) ⟨n7.reach_first F,n7.reach_first F'⟩ ?_;rintro a b c ⟨h1,h2⟩ hc;refine⟨n7.reach_next h1 hc,?_⟩;have ha:=(hF.1 a b h1).1;have h3:=n7.reach_next h2 (c:=c) (by rw [h.next a ha];exact hc);have e:F'.behind a b=F.behind a b:=by
   unfold n7.behind;rw[h.pop a ha,h.push a ha]
  rw[e] at h3;exact h3
 exact key.2
theorem Z6.back {F F':n7} (h:Z6 F F') (hF:F.Fits) {a:Nat} {b:Int} (hr:F'.Reach a b):F.Reach a b:=by
 refine hr (fun a b=>F.Reach a b) (n7.reach_first F) ?_;intro a b c h1 hc;have ha:=(hF.1 a b h1).1;have h3:=n7.reach_next h1 (c:=c) (by rw [← h.next a ha];exact hc);have e:F'.behind a b=F.behind a b:=by
  unfold n7.behind;rw[h.pop a ha,h.push a ha]
 rw[e];exact h3
theorem Z6.fits {F F':n7} (h:Z6 F F') (hF:F.Fits):F'.Fits:=by
 refine⟨fun a b hr=>?_,fun a b b' h1 h2=>hF.2 a b b' (h.back hF h1) (h.back hF h2)⟩;have h1:=h.back hF hr;obtain⟨q1,q2,q3⟩:=hF.1 a b h1;refine⟨by rw [h.n];exact q1,by rw [h.pop a q1];exact q2,?_⟩;unfold n7.behind at q3 ⊢;rw[h.pop a q1,h.push a q1];exact q3
theorem K8.flow {g g':PgR} (hp:s7 g) (h:K8 g g') {i:Nat} (hi:i < g.n):Z6 (b9 g (g.f i)) (b9 g' (g'.f i)):=by
 obtain⟨_,hj⟩:=h;obtain⟨q1,q2,q3,q4⟩:=hj i hi;refine⟨q3,fun a ha=>?_,fun a ha=>by show v9 ((g'.f i).op a)=v9 ((g.f i).op a);rw [(q4 a ha).1],fun a ha=>by show m7 a ((g'.f i).op a) ((g'.f i).ar a)=m7 a ((g.f i).op a) ((g.f i).ar a);rw [(q4 a ha).1,(q4 a ha).2]⟩;show s6 ((g'.f i).op a) (g'.f ((g'.f i).ar a).toNat).p=s6 ((g.f i).op a) (g.f ((g.f i).ar a).toNat).p;rw[(q4 a ha).1,(q4 a ha).2]
 by_cases h14:(g.f i).op a=14
 ·have hl:m5 g.n (g.f i).l (g.f i).n ((g.f i).op a) ((g.f i).ar a)=true:=hp.legal i hi a ha
  have hc:=A7 hl h14;rw[(hj ((g.f i).ar a).toNat Q8).1]
 ·unfold s6
  rw[if_neg h14,if_neg h14]
theorem K8.pgOk {g g':PgR} (hp:s7 g) (h:K8 g g'):s7 g':=by
 have hn:=h.1;refine⟨⟨by rw [hn];exact hp.sized.1,by rw [hn];exact hp.sized.2.1,fun i hi=>?_⟩,fun i hi j hj=>?_,fun i hi=>?_⟩
 ·rw [hn] at hi
  obtain⟨q1,q2,q3,q4⟩:=h.2 i hi;rw[q1,q2,q3];exact hp.sized.2.2 i hi
 ·rw [hn] at hi
  obtain⟨q1,q2,q3,q4⟩:=h.2 i hi;rw[q3] at hj;have:=hp.legal i hi j hj;unfold M1 at this ⊢;rw[hn,q2,q3,(q4 j hj).1,(q4 j hj).2];exact this
 ·rw [hn] at hi
  exact (h.flow hp hi).fits (hp.fits i hi)
theorem Z7.pc_lt {g:PgR} (hp:s7 g) {f:FrA} {q:Int} (hf:Z7 g f q):f.pc < (g.f f.fn).n:=((hp.fits _ hf.fn).1 _ _ hf.reach).1
theorem K8.frOk {g g':PgR} (hp:s7 g) (h:K8 g g') {f:FrA} {q:Int} (hf:Z7 g f q):Z7 g' f q:=by
 obtain⟨q1,q2,q3,q4⟩:=h.2 f.fn hf.fn;exact⟨by rw [h.1];exact hf.fn,by rw [q2];exact hf.loc,(h.flow hp hf.fn).reach (hp.fits _ hf.fn) hf.reach⟩
theorem K8.lower {g g':PgR} (hp:s7 g) (h:K8 g g'):∀(l:List FrA) (fn:Nat),fn < g.n→Y5 g fn l→Y5 g' fn l
 | [],_,_,hl=>hl
 | c::r,fn,hfn,hl=>by
  obtain⟨h1,h2,h3,h4⟩:=hl;obtain⟨q1,q2,q3,q4⟩:=h.2 c.fn h1.fn;have hpc:=h1.pc_lt hp;refine⟨?_,by rw [(q4 _ hpc).1];exact h2,by rw [(q4 _ hpc).2];exact h3,h.lower hp r c.fn h1.fn h4⟩;rw[(h.2 fn hfn).1];exact h.frOk hp h1
theorem K8.inv {g g':PgR} (hp:s7 g) (h:K8 g g') {s:McA} (hi:e8 g s):e8 g' s:=by
 refine⟨hi.run,?_,hi.depth,hi.vals,hi.obs,hi.cap,hi.out,hi.dr⟩;have:=hi.frs
 revert this
 cases s.frs.reverse with
 | nil=>exact fun _=>trivial
 | cons f r=>exact fun hf=>⟨h.frOk hp hf.1,h.lower hp r f.fn hf.1.fn hf.2⟩
theorem a2p {α β:Type} {l:List α} {f g:α→List β} (h:∀x,x∈l→f x=g x):l.flatMap f=l.flatMap g:=by
 induction l with
 | nil=>rfl
 | cons a l ih=>rw [List.flatMap_cons,List.flatMap_cons,h a Q9,ih fun x hx=>h x (by simp [hx])]
theorem K8.progB {g g':PgR} (h:K8 g g'):progB g'=progB g:=by
 unfold YtbkmgoffiigdbabGreatDoor.progB a2q;rw[h.1];congr 1
 refine a2p fun i hi=>?_
 obtain⟨q1,q2,q3,q4⟩:=h.2 i (List.mem_range.1 hi);unfold fnB U6;rw[q1,q2,q3];congr 1
 refine a2p fun j hj=>?_
 unfold inB;rw[(q4 j (List.mem_range.1 hj)).1,(q4 j (List.mem_range.1 hj)).2]
theorem K8.machB {g g':PgR} (h:K8 g g') (s:McA):machB g' s=machB g s:=by
 unfold YtbkmgoffiigdbabGreatDoor.machB;rw[h.progB]
theorem K8.arI {g g':PgR} (h:K8 g g') (ha:ArI g):ArI g':=fun i hi j hj=>by
 rw[h.1] at hi;obtain⟨q1,q2,q3,q4⟩:=h.2 i hi;rw[q3] at hj;rw[(q4 j hj).2];exact ha i hi j hj
theorem b3v {g:PgR} (hp:s7 g):y5 g 0 0 :=
 Or.inr ⟨Or.inl ⟨rfl,rfl,hp.sized.1,hp.sized.2.1,hp.sized.2.2⟩,Or.inr ⟨Or.inl ⟨rfl,rfl,hp.legal⟩,Or.inr ⟨Or.inl ⟨rfl,rfl,hp.fits⟩,rfl,rfl⟩⟩⟩
def c0V (g g':PgR):PgR:={ g' with f:=fun i=>{ g'.f i with op:=(g.f i).op,ar:=(g.f i).ar } }
theorem K8.same {g g':PgR} (h:K8 g g'):R6 g (c0V g g'):=⟨h.1,fun j hj=>⟨(h.2 j hj).1,(h.2 j hj).2.1,(h.2 j hj).2.2.1,rfl,rfl⟩⟩
def c2F (bs:List Int) (p:Nat) (r:List Int):Prop:=p≤bs.length∧bs.drop p=r
theorem Enc.run {α:Type} {bs:List Int} {rd:Rs→α × Rs} {x:α} {e post:List Int} (h:Enc bs rd x e) {p:Nat} (hr:c2F bs p (e++post)):rd ⟨p,false⟩=(x,⟨p+e.length,false⟩)∧c2F bs (p+e.length) post:=by
 obtain⟨hp,hd⟩:=hr;have hb:bs=bs.take p++(e++post):=by rw [← hd,List.take_append_drop]
 have hl:(bs.take p).length=p:=by rw [List.length_take];omega
 have:=h (bs.take p) post hb;rw[hl] at this;refine⟨this,?_,?_⟩
 ·have:=congrArg List.length hd
  rw[List.length_drop,List.length_append] at this;omega
 ·rw [← List.drop_drop,hd,List.drop_left]
theorem c0v (v:Val):1≤(a1T v).length:=by unfold a1T;rw [List.length_cons];omega
def a2s (x:Int × Int):List Int:=n8 x.1.toNat++a0R x.2
def a9s (o:Ob):Prop:=(∀v,v∈o.2→a3h v)∧((o.1=1∧o.2.length≤8)∨(o.1=2∧o.2.length≤12)∨(o.1=3∧o.2.length=1∧∀v,v∈o.2→v.1≠1))
theorem c1k (o:Ob):1≤(obB o).length:=by
 unfold obB;simp only[List.length_append];have:=a4v o.1.toNat;omega
structure a9q (f:FrA):Prop where
 fn:f.fn < 1000
 pc:f.pc < 1000
 loc:∀v,v∈f.loc→a3h v
 stk:∀v,v∈f.stk→a3h v
def Up (g:PgR):Nat→List FrA→Prop
 | _,[]=>True
 | fn,[f]=>f.fn=fn∧Z7 g f 0
 | fn,f::c::r=>f.fn=fn∧Z7 g f (g.f c.fn).p∧(g.f f.fn).op f.pc=14∧(g.f f.fn).ar f.pc=c.fn∧Up g c.fn (c::r)
theorem b2X {g:PgR} : ∀(l:List FrA) (f:FrA) (rest:List FrA),Y5 g f.fn l→Up g f.fn (f::rest)→Up g 0 (l.reverse++f::rest)
 | [],f,rest,hl,hu=>by
  have hl:f.fn=0:=hl;rw[hl] at hu;exact hu
 | c::r,f,rest,⟨h1,h2,h3,h4⟩,hu=>by
  rw[List.reverse_cons,List.append_assoc];exact b2X r c (f::rest) h4 ⟨rfl,h1,h2,h3,hu⟩
theorem b8t {g:PgR} {l:List FrA} (h:Z8 g l.reverse):Up g 0 l:=by
 rw[← List.reverse_reverse l]
 cases q:l.reverse with
 | nil=>trivial
 | cons f r =>
  rw[q] at h;rw[List.reverse_cons];exact b2X r f [] h.2 ⟨rfl,h.1⟩
def J5 (s:McA):Prop:=s.st=1↔s.frs=[]
structure a2g (g:PgR) (p:McA):Prop where
 st:0≤p.st∧p.st≤7
 out:p.out.length≤40∧∀z,z∈p.out→I64 z
 up:Up g 0 p.frs
 frs:p.frs.length≤12∧∀f,f∈p.frs→a9q f
 obs:p.obs.length≤40∧∀o,o∈p.obs→a9s o
 halt:J5 p
theorem c0Z (g:PgR) (k:Nat) (a:Int) (s:McA) (fs:List FrA) (f:FrA) (rest args:List Val) (h0:s.st=0) (hf:s.frs=fs++[f]):J5 (doA g k a s fs f rest args):=by
 have hne:∀x:FrA,fs++[x]≠[]:=fun x=>by simp
 have hs:J5 s:=⟨fun e=>by omega,fun e=>by rw [hf] at e;exact absurd e (hne f)⟩;have hgo:∀(pc:Nat) (l:List Val),J5 (goA s fs f pc l):=fun pc l=>⟨fun e=>absurd (show (0:Int)=1 from e) Q7,fun e=>absurd (show fs++[_]=[] from e) (hne _)⟩
 have htr:∀st:Int,st≠1→J5 (z9 s st):=fun st h1=>⟨fun e=>absurd (show st=1 from e) h1,fun e=>by rw [show (z9 s st).frs=fs++[f] from hf] at e;exact absurd e (hne f)⟩
 have hrt:∀(o:Ob) (kind:Int) (ix:Val),x7 o kind ix≠1:=fun o kind ix=>by
  unfold x7;split
  ·decide
  ·split <;> decide
 have hget:∀(v:Val) (kind:Int) (ix:Val),J5 (a2f s fs f rest v kind ix):=fun v kind ix=>by
  unfold a2f;split
  ·exact hgo _ _
  ·exact htr _ (hrt _ _ _)
 have hset:∀(v:Val) (kind:Int) (ix y:Val),J5 (a1w s fs f rest v kind ix y):=fun v kind ix y=>by
  unfold a1w;split
  ·exact ⟨fun e=>absurd (show (0:Int)=1 from e) Q7,fun e=>absurd (show fs++[_]=[] from e) (hne _)⟩
  ·exact htr _ (hrt _ _ _)
 have hroom:(s9 s).frs=fs++[f]:=by unfold s9;split <;> exact hf
 have hnew:∀(kind:Int) (fl:List Val),J5 (M2 s fs f rest kind fl):=fun kind fl=>by
  unfold M2;split
  ·exact ⟨fun e=>absurd (show (6:Int)=1 from e) Q7,fun e=>by rw [show ({ s9 s with st:=6 } : McA).frs=fs++[f] from hroom] at e;exact absurd e (hne f)⟩
  ·split
   ·exact hs
   ·exact ⟨fun e=>absurd (show (0:Int)=1 from e) Q7,fun e=>absurd (show fs++[_]=[] from e) (hne _)⟩
 have hrk:∀(x y:Val) (z:Int),J5 (J2 s fs f rest x y z):=fun x y z=>by
  unfold J2;split
  ·exact hgo _ _
  ·exact htr 2 Q7
 have hone:∀(out:List Int) (x:FrA) (obs:List Ob) (dr:List Int),J5 ⟨0,out,fs++[x],obs,dr⟩:=fun out x obs dr=>⟨fun e=>absurd (show (0:Int)=1 from e) Q7,fun e=>absurd (show fs++[_]=[] from e) (hne _)⟩
 have hend:J5 ⟨1,s.out,[],s.obs,s.dr⟩:=⟨fun _=>rfl,fun _=>rfl⟩;unfold doA;split
 ·exact hgo _ _
 ·exact hgo _ _
 ·exact hgo _ _
 ·exact hone _ _ _ _
 ·exact hgo _ _
 ·exact hgo _ _
 ·exact hgo _ _
 ·exact hrk _ _ _
 ·exact hrk _ _ _
 ·exact hrk _ _ _
 ·exact hrk _ _ _
 ·exact hgo _ _
 ·exact hgo _ _
 ·split
  ·exact hgo _ _
  ·exact hgo _ _
 ·unfold Y7
  split
  ·exact htr 5 Q7
  ·exact ⟨fun e=>absurd (show (0:Int)=1 from e) Q7,fun e=>absurd (show fs++[_]++[_]=[] from e) Q9⟩
 ·unfold r8
  split
  ·exact hend
  ·exact ⟨fun e=>absurd (show (0:Int)=1 from e) Q7,fun e=>absurd (show fs.dropLast++[_]=[] from e) Q9⟩
 ·exact hnew _ _
 ·split
  ·exact htr 2 Q7
  ·split
   ·exact hnew _ _
   ·exact htr 4 Q7
 ·split
  ·exact hnew _ _
  ·exact htr 2 Q7
 ·exact hget _ _ _
 ·exact hset _ _ _ _
 ·exact hget _ _ _
 ·exact hset _ _ _ _
 ·split
  ·exact hgo _ _
  ·exact htr 2 Q7
 ·split
  ·exact hgo _ _
  ·exact htr 2 Q7
 ·exact hgo _ _
 ·split
  ·exact htr 2 Q7
  ·split
   ·exact htr 7 Q7
   ·exact hone _ _ _ _
 ·exact hend
 ·exact hs
theorem b7c {g:PgR} {s:McA} (hi:e8 g s) (h0:s.st=0):J5 (T8 g s):=by
 have hne:=hi.run h0;have hf:s.frs=s.frs.dropLast++[s.frs.getLast hne]:=(List.dropLast_concat_getLast hne).symm;unfold T8;rw[List.getLast?_eq_some_getLast hne];exact c0Z g _ _ s _ _ _ _ h0 hf
theorem b1M {g:PgR} (hp:s7 g):∀(n:Nat) {s:McA},e8 g s→J5 s→J5 (runA g n s)
 | 0,_,_,h=>h
 | n+1,s,hi,h=>by
  rw[runA];by_cases h0:s.st=0
  ·rw [if_pos h0]
   exact b1M hp n (a4m hp hi h0) (b7c hi h0)
  ·rw [if_neg h0]
   exact h
theorem a3H {obs:List Ob} {al:List Nat} (hal:al.length≤40) {v:Val} (hv:VOk obs v) (hi:I64 v.2):a3h (j4 al v):=by
 refine⟨a2z hal hi,?_⟩;unfold j4;by_cases h2:v.1=2
 ·rw [if_pos h2]
  split
  ·exact Or.inr (Or.inr rfl)
  ·exact Or.inl rfl
 ·rw [if_neg h2]
  rcases hv with h | h | h
  ·exact Or.inl h
  ·exact Or.inr (Or.inl h)
  ·exact absurd h.1 h2
theorem b7R {g:PgR} (hp:s7 g) {s:McA} (hi:e8 g s) (hz:o7 s) (hh:J5 s):a2g g (g8 s):=by
 have hsm:=a1M hp hi hz;have hal:(a6 s).length≤40:=by
  have:=A9 hi.alive.nodup hi.alive.lt;have:=hi.cap.2;omega
 refine⟨hsm.st,hsm.out,?_,⟨hsm.frs.1,fun f hf=>?_⟩,⟨hsm.obs.1,fun o ho=>?_⟩,?_⟩
 ·refine b8t ?_
  show Z8 g (s.frs.map _).reverse;rw[← List.map_reverse];exact (a8N _).frames hi.frs
 ·have hs:=hsm.frs.2 f hf
  obtain⟨f',hf',rfl⟩:=List.mem_map.1 (show f∈s.frs.map (a1p (a6 s)) from hf);refine⟨hs.fn,hs.pc,fun v hv=>?_,fun v hv=>?_⟩
  ·obtain ⟨u,hu,rfl⟩:=List.mem_map.1 (show v∈f'.loc.map (j4 (a6 s)) from hv)
   exact a3H hal (hi.vals f' hf' u (by simp [hu])) (hz.frs f' hf' u (by simp [hu]))
  ·obtain ⟨u,hu,rfl⟩:=List.mem_map.1 (show v∈f'.stk.map (j4 (a6 s)) from hv)
   exact a3H hal (hi.vals f' hf' u (by simp [hu])) (hz.frs f' hf' u (by simp [hu]))
 ·obtain ⟨j,hj,rfl⟩:=List.mem_map.1 (show o∈(a6 s).map (J8 s) from ho)
  obtain⟨x,hx,hne⟩:=q8 hi hj;have hx':=List.mem_of_getElem? hx;have e:J8 s j=(x.1,x.2.map (j4 (a6 s))):=by unfold J8;rw [hx]
  rw[e];refine⟨fun v hv=>?_,?_⟩
  ·obtain ⟨u,hu,rfl⟩:=List.mem_map.1 (show v∈x.2.map (j4 (a6 s)) from hv)
   exact a3H hal ((hi.obs x hx').vals hu) (hz.obs x hx' u hu)
  ·rcases hi.obs x hx' with ⟨q,_⟩ | ⟨q,q2,_⟩ | ⟨q,q2,_⟩ | ⟨q,u,q2,_,q4⟩
   ·exact absurd q hne
   ·exact Or.inl ⟨q,by rw [List.length_map];exact q2⟩
   ·exact Or.inr (Or.inl ⟨q,by rw [List.length_map];exact q2⟩)
   ·refine Or.inr (Or.inr ⟨q,by rw [List.length_map,q2];rfl,fun v hv=>?_⟩)
    have hv:v∈x.2.map (j4 (a6 s)):=hv;rw[q2] at hv;have hv:v=j4 (a6 s) u:=by simpa using hv
    rw[hv];unfold j4;split
    ·split
     ·show (2:Int)≠1;decide
     ·show (0:Int)≠1;decide
    ·exact q4
 ·show s.st=1↔s.frs.map _=[]
  rw[List.map_eq_nil_iff];exact hh
theorem a9h {R:McR} {s:McA} (h:R.abs=s) {q:Nat} {v:Value} {l:List Val} {t:Tag} (hv:v8 R q v l t):(∃f,f∈s.frs∧(l=f.loc∨l=f.stk))∨∃o,o∈s.obs∧l=o.2:=by
 subst h;rcases hv with ⟨i,f,hf,_,_,rfl,_⟩ | ⟨i,f,hf,_,_,rfl,_⟩ | ⟨j,o,ho,_,_,rfl,_⟩
 ·exact Or.inl ⟨f.abs,List.mem_map.2 ⟨f,List.mem_of_getElem? hf,rfl⟩,Or.inl rfl⟩
 ·exact Or.inl ⟨f.abs,List.mem_map.2 ⟨f,List.mem_of_getElem? hf,rfl⟩,Or.inr rfl⟩
 ·exact Or.inr ⟨o.abs,List.mem_map.2 ⟨o,List.mem_of_getElem? ho,rfl⟩,rfl⟩
def Byt (l:List Int):Prop:=∀x,x∈l→0≤x∧x < 256
theorem Byt.app {l k:List Int} (h:Byt l) (h':Byt k):Byt (l++k):=fun x hx=>by
 rcases List.mem_append.1 hx with hx | hx
 ·exact h x hx
 ·exact h' x hx
theorem Byt.flat {α:Type} {l:List α} {f:α→List Int} (h:∀a,a∈l→Byt (f a)):Byt (l.flatMap f):=fun x hx=>by
 obtain⟨a,ha,hx⟩:=List.mem_flatMap.1 hx;exact h a ha x hx
theorem I8:∀(n:Nat),Byt (n8 n):=fun n=>by
 induction n using Nat.strongRecOn with
 | ind n ih =>
  rw[n8];split
  ·intro x hx
   rw[List.mem_singleton] at hx;subst hx;omega
  ·intro x hx
   rcases List.mem_cons.1 hx with hx | hx
   ·subst hx;omega
   ·exact ih (n / 128) Q8 x hx
theorem a9w (z:Int):Byt (a0R z):=I8 _
theorem c0S {v:Val} (h:a3h v):Byt (a1T v):=fun x hx=>by
 unfold a1T at hx;rcases List.mem_cons.1 hx with hx | hx
 ·subst hx
  rcases h.2 with h | h | h
  ·rw [h];exact ⟨Int.le_refl _,by decide⟩
  ·omega
  ·omega
 ·split at hx
  ·exact a9w _ x hx
  ·split at hx
   ·exact I8 _ x hx
   ·cases hx
theorem a6H {l:List Val} (h:∀v,v∈l→a3h v):Byt (R0 l):=Byt.flat fun v hv=>c0S (h v hv)
theorem b8R (g:PgR):Byt (progB g):=by
 unfold progB a2q;refine (I8 _).app (Byt.flat fun i _=>?_);unfold fnB U6;refine (((I8 _).app (I8 _)).app (I8 _)).app (Byt.flat fun j _=>?_);unfold inB;exact (I8 _).app (a9w _)
theorem b8Q {g:PgR} {p:McA} (h:a2g g p):Byt (machB g p):=by
 unfold machB a5k N2 L5 a1g a3g a5Z;refine ((((b8R g).app (I8 _)).app ((I8 _).app (Byt.flat fun z _=>a9w z))).app ((I8 _).app (Byt.flat fun f hf=>?_))).app ((I8 _).app (Byt.flat fun o ho=>?_))
 ·have:=h.frs.2 f hf
  unfold frB;exact (((I8 _).app (I8 _)).app (a6H this.loc)).app (a6H this.stk)
 ·have:=h.obs.2 o ho
  unfold obB;refine ((I8 _).app ?_).app (a6H this.1);split
  ·intro x hx;cases hx
  ·exact I8 _
end Go.Proofs.YtbkmgoffiigdbabGreatDoor
