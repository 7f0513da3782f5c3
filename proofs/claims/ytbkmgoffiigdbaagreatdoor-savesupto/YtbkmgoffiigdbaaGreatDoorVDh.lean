import Derived.Test.YtbkmgoffiigdbaaGreatDoorVDf
namespace Go.Proofs.YtbkmgoffiigdbaaGreatDoor
open Go.RowKit Go.Sort
theorem a8l {own:Own} {mb:Nat} {g:PgR} {R:McR} {fs:List FrR} {f:FrR} {w:World} (h:A4 w own mb g R) (hf:R.frs=fs++[f]) (k:Nat) (a:Int) (rest args:List Val) (hst:f.stk=rest++args) (hx:a8J g f k a args.length) (hn:fs.length<=1000) (hs:f.stk.length<=1000) (hpc:f.pc<=1000) (hgn:g.n<=1000) (hcn:(g.f f.fn).n<=1000)
  (P:McR->Prop) (st:Int) (HD:∀W va vc sb,C0 W own mb g R fs f rest args va sb->Calls Tryz.prog (doT k) #[zB mb,J a,.slice va args.length vc] W fun e w'=>aW own mb g P st W e w') (S:McR->Prop) (himp:∀Q,P Q->S { Q with st:=st }) :
  Calls Tryz.prog 136 #[zB mb] w fun e w'=>jV own mb g S w e w':=by
 refine (a6q h hf k a rest args hst hx hn hs hpc hgn hcn P st (fun W va vc sb _ hA=>HD W va vc sb hA)).mono ?_;rintro e w' ⟨xa,R',he,hm,⟨Q,hQ,rfl⟩,ht⟩;exact⟨xa,_,he,hm,himp Q hQ,ht⟩
structure FrA where
 fn:Nat
 pc:Nat
 loc:List Val
 stk:List Val
structure McA where
 st:Int
 out:List Int
 frs:List FrA
 obs:List (Int × List Val)
 dr:List Int
def FrR.abs (f:FrR):FrA:=⟨f.fn,f.pc,f.loc,f.stk⟩
def ObR.abs (o:ObR):Int × List Val:=(o.kind,o.fl)
def McR.abs (R:McR):McA:=⟨R.st,R.out,R.frs.map FrR.abs,R.obs.map ObR.abs,R.dr⟩
def F4 (R:McR):Prop:=R.out=[]->R.ov=.slice none 0 0
def goA (s:McA) (fs:List FrA) (f:FrA) (pc:Nat) (l:List Val):McA:=⟨0,s.out,fs++[⟨f.fn,pc,f.loc,l⟩],s.obs,s.dr⟩
theorem a7q (R:McR) (fs:List FrR) (f:FrR) (pc:Nat) (l:List Val) (sv:Value) :
  McR.abs { ({ R with frs:=fs++[{ f with pc:=pc,sv:=sv,stk:=l }] } : McR) with st:=0 }=goA R.abs (fs.map FrR.abs) f.abs pc l:=by
 simp[McR.abs,goA,FrR.abs]
def freeA:List (Int × List Val)->Nat->Option Nat
 | [],_=>none
 | o::l,n=>if o.1=0 then some n else freeA l (n+1)
theorem oK:∀(l:List ObR) (n j:Nat),freeA (l.map ObR.abs) n=some j->n<=j/\Z4 l (j - n)
 | [],n,j,h=>by cases h
 | o::l,n,j,h=>by
  simp only[List.map_cons,freeA] at h;by_cases h0:o.abs.1=0
  ·rw [if_pos h0] at h
   cases h;refine⟨L1c _,⟨o,by simp,h0⟩,fun i x hi _=>by omega⟩
  ·rw [if_neg h0] at h
   obtain⟨h1,⟨x,hx,hk⟩,h3⟩:=oK l (n+1) j h;have e:j - n=(j - (n+1))+1:=by omega
   rw[e];refine⟨by omega,⟨x,by simpa using hx,hk⟩,fun i y hi hy=>?_⟩
   cases i with
   | zero=>simp at hy;subst hy;exact h0
   | succ i=>exact h3 i y R5 (by simpa using hy)
def eG (obs:List (Int × List Val)) (dr:List Int):Option (Nat × List Int) :=
 match dr with
 | []=>(freeA obs 0).map fun j=>(j,[])
 | d::ds=>match obs[(d % (obs.length:Int)).toNat]? with
  | none=>none
  | some o=>if o.1=0 then some ((d % (obs.length:Int)).toNat,ds) else (freeA obs 0).map fun j=>(j,ds)
theorem pE {l:List ObR} {dr ds:List Int} {j:Nat} (h:eG (l.map ObR.abs) dr=some (j,ds)):jR l dr j ds:=by
 have xa:∀i,freeA (l.map ObR.abs) 0=some i->Z4 l i:=fun i hi=>by have:=(oK l 0 i hi).2;simpa using this
 cases dr with
 | nil =>
  obtain⟨i,hi,e⟩:=Option.map_eq_some_iff.1 h
  cases e;exact⟨rfl,xa _ hi⟩
 | cons d r =>
  simp only[eG,List.length_map,List.getElem?_map] at h
  cases ho:l[(d % (l.length:Int)).toNat]? with
  | none=>rw [ho] at h;cases h
  | some o =>
   rw[ho] at h;simp only[Option.map_some] at h;split at h
   ·rename_i hk
    cases h;exact⟨rfl,o,ho,L4a ⟨hk,rfl⟩⟩
   ·rename_i hk
    obtain⟨i,hi,e⟩:=Option.map_eq_some_iff.1 h
    cases e;exact⟨rfl,o,ho,L4b ⟨hk,xa _ hi⟩⟩
abbrev Ob:=Int × List Val
def C6 (l:List FrA):List Val:=l.flatMap fun f=>f.loc++f.stk
def C1:List Nat->List Val->List Nat
 | met,[]=>met
 | met,v::l=>C1 (if v.1=2/\v.2.toNat∉met then met++[v.2.toNat] else met) l
def G8 (obs:List Ob):Nat->Nat->List Nat->List Nat
 | 0,_,met=>met
 | n+1,i,met=>match met[i]? with
  | none=>met
  | some j=>match obs[j]? with
   | none=>met
   | some o=>G8 obs n (i+1) (if o.1=3 then met else C1 met o.2)
def M0 (obs:List Ob) (l:List Val):List Nat:=G8 obs obs.length 0 (C1 [] l)
def A0 (s:McA):List Nat:=M0 s.obs (C6 s.frs)
theorem kM (met:List Nat) (l k:List Val):C1 met (l++k)=C1 (C1 met l) k:=by
 induction l generalizing met with
 | nil=>rfl
 | cons v l ih=>simp only [List.cons_append,C1];exact ih _
theorem aD (l:List Val):∀(met:List Nat) (j:Nat),j∈C1 met l↔j∈met\/∃v,v∈l/\v.1=2/\v.2.toNat=j:=by
 induction l with
 | nil=>intro met j;simp [C1]
 | cons v l ih =>
  intro met j;rw[C1,ih];by_cases h:v.1=2/\v.2.toNat∉met
  ·rw [if_pos h,List.mem_append,List.mem_singleton]
   constructor
   ·rintro ((h1 | h1) | ⟨u,h1,h2⟩)
    ·exact L4a h1
    ·exact L4b ⟨v,by simp,h.1,h1.symm⟩
    ·exact L4b ⟨u,by simp [h1],h2⟩
   ·rintro (h1 | ⟨u,h1,h2,h3⟩)
    ·exact L4a (L4a h1)
    ·rcases List.mem_cons.1 h1 with rfl | h1
     ·exact L4a (L4b h3.symm)
     ·exact L4b ⟨u,h1,h2,h3⟩
  ·rw [if_neg h]
   constructor
   ·rintro (h1 | ⟨u,h1,h2⟩)
    ·exact L4a h1
    ·exact L4b ⟨u,by simp [h1],h2⟩
   ·rintro (h1 | ⟨u,h1,h2,h3⟩)
    ·exact L4a h1
    ·rcases List.mem_cons.1 h1 with rfl | h1
     ·refine L4a ?_
      rw[<- h3];exact Decidable.byContradiction fun hc=>h ⟨h2,hc⟩
     ·exact L4b ⟨u,h1,h2,h3⟩
theorem kN (l:List Val):∀met:List Nat,met <+: C1 met l:=by
 induction l with
 | nil=>intro met;exact List.prefix_refl _
 | cons v l ih =>
  intro met;rw[C1];split
  ·exact (List.prefix_append _ _).trans (ih _)
  ·exact ih _
theorem W0 (l:List Val):∀met:List Nat,met.Nodup->(C1 met l).Nodup:=by
 induction l with
 | nil=>intro met h;exact h
 | cons v l ih =>
  intro met h;rw[C1];split
  ·rename_i hv
   refine ih _ ?_;rw[List.nodup_append];refine⟨h,by simp,fun a ha b hb=>?_⟩;rw[List.mem_singleton] at hb;rintro rfl;exact hv.2 (hb▸ha)
  ·exact ih _ h
theorem cM {n:Nat} {l:List Val} {met:List Nat} (hm:∀j,j∈met->j < n) (hl:∀v,v∈l->v.1=2->v.2.toNat < n):∀j,j∈C1 met l->j < n:=by
 intro j hj;rcases (aD l met j).1 hj with h | ⟨v,h1,h2,rfl⟩
 ·exact hm j h
 ·exact hl v h1 h2
theorem L7:∀{n:Nat} {l:List Nat},l.Nodup->(∀j,j∈l->j < n)->l.length<=n
 | 0,l,_,hl=>by
  cases l with
  | nil=>simp
  | cons a l=>have:=hl a R6;omega
 | n+1,l,h,hl=>by
  by_cases hn:n∈l
  ·have:=L7 (n:=n) (h.erase n) fun j hj=>by
    have h1:=hl j (List.mem_of_mem_erase hj);have h2:j≠n:=fun e=>by subst e;exact h.not_mem_erase hj
    omega
   rw[List.length_erase_of_mem hn] at this;omega
  ·have:=L7 (n:=n) h fun j hj=>by
    have h1:=hl j hj;have h2:j≠n:=fun e=>hn (e▸hj)
    omega
   omega
def iQ (obs:List Ob):Prop:=∀o,o∈obs->∀v,v∈o.2->v.1=2->v.2.toNat < obs.length
def lD (obs:List Ob) (met:List Nat) (j:Nat):Prop:=∀o,obs[j]?=some o->o.1≠3->∀v,v∈o.2->v.1=2->v.2.toNat∈met
theorem lD.mono {obs:List Ob} {met met':List Nat} {j:Nat} (h:lD obs met j) (hs:∀k,k∈met->k∈met'):lD obs met' j:=fun o ho h3 v hv h2=>hs _ (h o ho h3 v hv h2)
structure eO (obs:List Ob) (i:Nat) (met:List Nat):Prop where
 nodup:met.Nodup
 lt:∀j,j∈met->j < obs.length
 shut:∀k j,k < i->met[k]?=some j->lD obs met j
theorem eO.next {obs:List Ob} (hw:iQ obs) {i j:Nat} {met:List Nat} {o:Ob} (h:eO obs i met) (hi:met[i]?=some j) (ho:obs[j]?=some o):eO obs (i+1) (if o.1=3 then met else C1 met o.2):=by
 have xa:o∈obs:=L2a ho;by_cases h3:o.1=3
 ·rw [if_pos h3]
  refine⟨h.nodup,h.lt,fun k j' hk hj'=>?_⟩;by_cases e:k=i
  ·subst e
   rw[hi] at hj'
   cases hj';intro o' xa hne;rw[ho] at xa
   cases xa;exact absurd h3 hne
  ·exact h.shut k j' R5 hj'
 ·rw [if_neg h3]
  have xc:∀k,k∈met->k∈C1 met o.2:=fun k hk=>(aD _ _ _).2 (L4a hk)
  refine⟨W0 _ _ h.nodup,cM h.lt (hw o xa),fun k j' hk hj'=>?_⟩;have xd:k < met.length:=by have:=(L1a.1 hi).1;omega
  have xb:met[k]?=some j':=by
   obtain⟨t,ht⟩:=kN o.2 met;rw[<- ht,List.getElem?_append_left xd] at hj';exact hj'
  by_cases e:k=i
  ·subst e
   rw[hi] at xb
   cases xb;intro o' xa _ v hv h2;rw[ho] at xa
   cases xa;exact (aD _ _ _).2 (L4b ⟨v,hv,h2,rfl⟩)
  ·exact (h.shut k j' R5 xb).mono xc
theorem lA {obs:List Ob} (hw:iQ obs):∀(n i:Nat) (met:List Nat),obs.length<=n+i->eO obs i met->∃i',eO obs i' (G8 obs n i met)/\(G8 obs n i met).length<=i'/\∀j,j∈met->j∈G8 obs n i met
 | 0,i,met,hn,h=>⟨i,h,by have:=L7 h.nodup h.lt;simp only [G8];omega,fun _ hj=>hj⟩
 | n+1,i,met,hn,h=>by
  rw[G8]
  cases hi:met[i]? with
  | none=>exact ⟨i,h,by have:=List.getElem?_eq_none_iff.1 hi;exact this,fun _ hj=>hj⟩
  | some j =>
   obtain⟨o,ho⟩:∃o,obs[j]?=some o:=⟨_,L1b (h.lt j (L2a hi))⟩
   simp only[ho];obtain⟨i',h1,h2,h3⟩:=lA hw n (i+1) _ R5 (h.next hw hi ho);refine⟨i',h1,h2,fun k hk=>h3 k ?_⟩;split
   ·exact hk
   ·exact (aD _ _ _).2 (L4a hk)
structure gN (obs:List Ob) (l:List Val) (met:List Nat):Prop where
 nodup:met.Nodup
 lt:∀j,j∈met->j < obs.length
 shut:∀j,j∈met->lD obs met j
 roots:∀v,v∈l->v.1=2->v.2.toNat∈met
theorem dA {obs:List Ob} (hw:iQ obs) {l:List Val} (hl:∀v,v∈l->v.1=2->v.2.toNat < obs.length):gN obs l (M0 obs l):=by
 have h0:eO obs 0 (C1 [] l):=⟨W0 _ _ List.nodup_nil,cM R6 hl,fun k j hk _=>by omega⟩;obtain⟨i',h1,h2,h3⟩:=lA hw obs.length 0 _ R5 h0;refine⟨h1.nodup,h1.lt,fun j hj=>?_,fun v hv h2'=>h3 _ ((aD _ _ _).2 (L4b ⟨v,hv,h2',rfl⟩))⟩;obtain⟨k,hk⟩:=List.mem_iff_getElem?.1 hj;have xa:=(L1a.1 hk).1;exact h1.shut k j (by unfold M0 at xa;omega) hk
def bH (obs:List Ob) (al:List Nat):List Ob:=obs.mapIdx fun i o=>if i∈al then o else (0,[])
def gD (obs:List Ob) (v:Val):Bool:=if v.1=2 then (match obs[v.2.toNat]? with | some o=>o.1 == 0 | none=>true) else true
def L2 (all:List Ob) (o:Ob):Ob:=if o.1=3/\gD all (o.2.headD (0,0))=true then (o.1,o.2.set 0 (0,0)) else o
def nF (obs:List Ob):List Ob:=obs.map (L2 obs)
def V3 (obs:List Ob) (al:List Nat):List Ob:=nF (bH obs al)
def L3 (obs:List Ob):Nat:=(obs.filter fun o=>o.1 != 0).length
def J4 (s:McA):McA:={ s with obs:=V3 s.obs (A0 s) }
theorem fE (obs:List Ob) (al:List Nat) (j:Nat):(bH obs al)[j]?=(obs[j]?).map fun o=>if j∈al then o else (0,[]):=by
 simp[bH,List.getElem?_mapIdx]
theorem Z2 (obs:List Ob) (al:List Nat) (j:Nat):(V3 obs al)[j]?=(obs[j]?).map fun o=>L2 (bH obs al) (if j∈al then o else (0,[])):=by
 unfold V3 nF;rw[List.getElem?_map,fE,Option.map_map];rfl
theorem T8 (obs:List Ob) (al:List Nat):(V3 obs al).length=obs.length:=by simp [V3,nF,bH]
theorem bY (all:List Ob) (o:Ob):(L2 all o).1=o.1:=by unfold L2;split <;> rfl
section
variable {g:PgR} {o:Ob} {obs obs':List Ob} {s:McA} {v:Val}
def D4 (s:McA) (st:Int):McA:={ s with st:=st }
def F9 (s:McA):McA:=if L3 s.obs=s.obs.length then J4 s else s
def X0 (s:McA) (fs:List FrA) (f:FrA) (rest:List Val) (kind:Int) (fl:List Val):McA :=
 if L3 (F9 s).obs=(F9 s).obs.length then { F9 s with st:=6 }
 else match eG (F9 s).obs s.dr with
  | none=>s
  | some j=>⟨0,s.out,fs++[⟨f.fn,f.pc+1,f.loc,rest++[(2,(j.1:Int))]⟩],(F9 s).obs.set j.1 (kind,fl),j.2⟩
def A1 (obs:List Ob) (v:Val):Ob:=if v.1=2 then obs.getD v.2.toNat (0,[]) else (0,[])
def F6 (o:Ob) (kind:Int) (ix:Val):Int:=if o.1≠kind\/ix.1≠1 then 2 else if 0<=ix.2/\ix.2 < (o.2.length:Int) then 0 else 3
def cU (s:McA) (fs:List FrA) (f:FrA) (rest:List Val) (v:Val) (kind:Int) (ix:Val):McA :=
 if F6 (A1 s.obs v) kind ix=0 then goA s fs f (f.pc+1) (rest++[(A1 s.obs v).2.getD ix.2.toNat (0,0)]) else D4 s (F6 (A1 s.obs v) kind ix)
def setE (s:McA) (fs:List FrA) (f:FrA) (rest:List Val) (v:Val) (kind:Int) (ix y:Val):McA :=
 if F6 (A1 s.obs v) kind ix=0 then ⟨0,s.out,fs++[⟨f.fn,f.pc+1,f.loc,rest⟩],s.obs.set v.2.toNat ((A1 s.obs v).1,(A1 s.obs v).2.set ix.2.toNat y),s.dr⟩
 else D4 s (F6 (A1 s.obs v) kind ix)
def T7 (s:McA) (v:Val):Val:=if v.1=2/\v.2.toNat∈A0 s then v else (0,0)
def J6 (s:McA) (fs:List FrA) (f:FrA) (rest:List Val) (x y:Val) (z:Int):McA :=
 if x.1=1/\y.1=1 then goA s fs f (f.pc+1) (rest++[(1,z)]) else D4 s 2
def aO (g:PgR) (a:Int) (s:McA) (fs:List FrA) (f:FrA) (rest args:List Val):McA :=
 if 12<=fs.length+1 then D4 s 5
 else ⟨0,s.out,fs++[⟨f.fn,f.pc,f.loc,rest⟩]++[⟨a.toNat,0,args++List.replicate ((g.f a.toNat).l.toNat - args.length) (0,0),[]⟩],s.obs,s.dr⟩
def C9 (s:McA) (fs:List FrA) (x:Val):McA :=
 match fs.getLast? with
 | none=>⟨1,s.out,[],s.obs,s.dr⟩
 | some c=>goA s fs.dropLast c (c.pc+1) (c.stk++[x])
def doA (g:PgR) (k:Nat) (a:Int) (s:McA) (fs:List FrA) (f:FrA) (rest args:List Val):McA :=
 match k,args with
 | 0,[]=>goA s fs f (f.pc+1) (rest++[(1,a)])
 | 1,[]=>goA s fs f (f.pc+1) (rest++[(0,0)])
 | 2,[]=>goA s fs f (f.pc+1) (rest++[f.loc.getD a.toNat (0,0)])
 | 3,[x]=>⟨0,s.out,fs++[⟨f.fn,f.pc+1,f.loc.set a.toNat x,rest⟩],s.obs,s.dr⟩
 | 4,[x]=>goA s fs f (f.pc+1) (rest++[x,x])
 | 5,[_]=>goA s fs f (f.pc+1) rest
 | 6,[x,y]=>goA s fs f (f.pc+1) (rest++[y,x])
 | 7,[x,y]=>J6 s fs f rest x y (wrap64 (x.2+y.2))
 | 8,[x,y]=>J6 s fs f rest x y (wrap64 (x.2 - y.2))
 | 9,[x,y]=>J6 s fs f rest x y (wrap64 (x.2*y.2))
 | 10,[x,y]=>J6 s fs f rest x y (D6 (decide (x.2 < y.2)))
 | 11,[x,y]=>goA s fs f (f.pc+1) (rest++[(1,D6 (x.1 == y.1 && x.2 == y.2))])
 | 12,[]=>goA s fs f a.toNat rest
 | 13,[x]=>if M7 x then goA s fs f (f.pc+1) rest else goA s fs f a.toNat rest
 | 14,l=>aO g a s fs f rest l
 | 15,[x]=>C9 s fs x
 | 16,[]=>X0 s fs f rest 1 (List.replicate a.toNat (0,0))
 | 17,[x]=>if x.1≠1 then D4 s 2 else if 0<=x.2/\x.2<=12 then X0 s fs f rest 2 (List.replicate x.2.toNat (0,0)) else D4 s 4
 | 18,[x]=>if x.1=2 then X0 s fs f rest 3 [x] else D4 s 2
 | 19,[x]=>cU s fs f rest x 1 (1,a)
 | 20,[x,y]=>setE s fs f rest x 1 (1,a) y
 | 21,[x,y]=>cU s fs f rest x 2 y
 | 22,[x,y,z]=>setE s fs f rest x 2 y z
 | 23,[x]=>if (A1 s.obs x).1=1\/(A1 s.obs x).1=2 then goA s fs f (f.pc+1) (rest++[(1,((A1 s.obs x).2.length:Int))]) else D4 s 2
 | 24,[x]=>if (A1 s.obs x).1=3 then goA s fs f (f.pc+1) (rest++[T7 s ((A1 s.obs x).2.headD (0,0))]) else D4 s 2
 | 25,[x]=>goA s fs f (f.pc+1) (rest++[(1,D6 (x.1 == 2))])
 | 26,[x]=>if x.1≠1 then D4 s 2 else if 40<=s.out.length then D4 s 7 else ⟨0,s.out++[x.2],fs++[⟨f.fn,f.pc+1,f.loc,rest⟩],s.obs,s.dr⟩
 | 27,[]=>⟨1,s.out,[],s.obs,s.dr⟩
 | _,_=>s
def X2 (g:PgR) (s:McA):McA :=
 match s.frs.getLast? with
 | none=>s
 | some f =>
  doA g ((g.f f.fn).op f.pc).toNat ((g.f f.fn).ar f.pc) s s.frs.dropLast f
   (f.stk.take (f.stk.length - (U5 ((g.f f.fn).op f.pc) (g.f ((g.f f.fn).ar f.pc).toNat).p).toNat))
   (f.stk.drop (f.stk.length - (U5 ((g.f f.fn).op f.pc) (g.f ((g.f f.fn).ar f.pc).toNat).p).toNat))
def VOk (obs:List Ob) (v:Val):Prop:=v=(0,0)\/v.1=1\/(v.1=2/\0<=v.2/\∃o,obs[v.2.toNat]?=some o/\o.1≠0)
def OOk (obs:List Ob) (o:Ob):Prop :=
 (o.1=0/\o.2=[])\/(o.1=1/\o.2.length<=8/\∀v,v∈o.2->VOk obs v)\/(o.1=2/\o.2.length<=12/\∀v,v∈o.2->VOk obs v)\/(o.1=3/\∃v,o.2=[v]/\VOk obs v/\v.1≠1)
structure jM (g:PgR) (f:FrA) (q:Int):Prop where
 fn:f.fn < g.n
 loc:(f.loc.length:Int)=(g.f f.fn).l
 reach:(B6 g (g.f f.fn)).Reach f.pc (f.stk.length+q)
def jO (g:PgR):Nat->List FrA->Prop
 | fn,[]=>fn=0
 | fn,c::r=>jM g c (g.f fn).p/\(g.f c.fn).op c.pc=14/\(g.f c.fn).ar c.pc=fn/\jO g c.fn r
def sF (g:PgR):List FrA->Prop
 | []=>True
 | f::r=>jM g f 0/\jO g f.fn r
structure C8 (g:PgR) (s:McA):Prop where
 run:s.st=0->s.frs≠[]
 frs:sF g s.frs.reverse
 depth:s.frs.length<=12
 vals:∀f,f∈s.frs->∀v,v∈f.loc++f.stk->VOk s.obs v
 obs:∀o,o∈s.obs->OOk s.obs o
 cap:1<=s.obs.length/\s.obs.length<=40
 out:s.out.length<=40
 dr:s.dr.length<=200
theorem VOk.ref (h:VOk obs v) (h2:v.1=2):0<=v.2/\∃o,obs[v.2.toNat]?=some o/\o.1≠0:=by
 rcases h with rfl | h | h
 ·simp at h2
 ·omega
 ·exact h.2
theorem VOk.lt (h:VOk obs v) (h2:v.1=2):v.2.toNat < obs.length:=by
 obtain⟨_,o,ho,_⟩:=h.ref h2;exact (L1a.1 ho).1
theorem OOk.vals (h:OOk obs o) {v:Val} (hv:v∈o.2):VOk obs v:=by
 rcases h with h | h | h | ⟨_,u,h,h',_⟩
 ·rw [h.2] at hv;cases hv
 ·exact h.2.2 v hv
 ·exact h.2.2 v hv
 ·rw [h,List.mem_singleton] at hv;subst hv;exact h'
theorem OOk.len (h:OOk obs o):o.2.length<=12:=by
 rcases h with h | h | h | ⟨_,u,h,_⟩
 ·rw [h.2];simp
 ·omega
 ·omega
 ·rw [h];simp
theorem C8.within (h:C8 g s):iQ s.obs:=fun o ho _ hv h2=>((h.obs o ho).vals hv).lt h2
theorem I2 {l:List FrA} : v∈C6 l↔∃f,f∈l/\v∈f.loc++f.stk:=by simp [C6,List.mem_flatMap]
theorem C8.alive (h:C8 g s):gN s.obs (C6 s.frs) (A0 s) :=
 dA h.within fun v hv h2=>by
  obtain⟨f,hf,hv⟩:=I2.1 hv;exact (h.vals f hf v hv).lt h2
theorem VOk.mono (h:VOk obs v) (hk:v.1=2->∀o,obs[v.2.toNat]?=some o->o.1≠0->∃o',obs'[v.2.toNat]?=some o'/\o'.1≠0):VOk obs' v:=by
 rcases h with h | h | ⟨h2,h0,o,ho,hne⟩
 ·exact L4a h
 ·exact L4b (L4a h)
 ·exact L4b (L4b ⟨h2,h0,hk h2 o ho hne⟩)
theorem OOk.mono (h:OOk obs o) (hv:∀v,v∈o.2->VOk obs v->VOk obs' v):OOk obs' o:=by
 rcases h with h | ⟨h1,h2,h3⟩ | ⟨h1,h2,h3⟩ | ⟨h1,u,h2,h3,h4⟩
 ·exact L4a h
 ·exact L4b (L4a ⟨h1,h2,fun v hm=>hv v hm (h3 v hm)⟩)
 ·exact L4b (L4b (L4a ⟨h1,h2,fun v hm=>hv v hm (h3 v hm)⟩))
 ·exact L4b (L4b (L4b ⟨h1,u,h2,hv u (by rw [h2];simp) h3,h4⟩))
end
end Go.Proofs.YtbkmgoffiigdbaaGreatDoor
