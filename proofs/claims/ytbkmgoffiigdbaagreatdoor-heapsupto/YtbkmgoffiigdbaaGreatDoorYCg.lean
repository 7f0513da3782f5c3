import Derived.Test.YtbkmgoffiigdbaaGreatDoorYCe
namespace Go.Proofs.YtbkmgoffiigdbaaGreatDoor
open Go.RowKit Go.Sort Go.Proofs.Tryz
set_option maxHeartbeats 4000000
set_option maxRecDepth 100000
section
variable {i:Nat} {ops:Array Oper} {v:Value}
abbrev a0b (b s e l z d:Nat) (p:String):Array Oper:=#[⟨some b,.move (.tmp 1),s,p,#[],none⟩,⟨some (b+1),.move (.tmp 1),s,p,#[],none⟩,⟨some (b+2),.load e (.tmp z),e,p,#[],none⟩,⟨some (b+3),.buildSlice s 1 #[(0,.tmp (b+2))],s,p,#[⟨2,.data⟩],none⟩,⟨some (b+4),.call ⟨.builtin .append,#[.tmp (b+1),.tmp (b+3)],#[s,s]⟩,s,p,#[⟨1,.data⟩,⟨3,.data⟩],none⟩,
 ⟨some (b+5),.move (.tmp 1),s,p,#[],none⟩,⟨some (b+6),.load e (.tmp z),e,p,#[],none⟩,⟨some (b+7),.load e (.tmp z),e,p,#[],none⟩,⟨some (b+8),.buildSlice s 2 #[(0,.tmp (b+6)),(1,.tmp (b+7))],s,p,#[⟨6,.data⟩,⟨7,.data⟩],none⟩,⟨some (b+9),.call ⟨.builtin .append,#[.tmp (b+5),.tmp (b+8)],#[s,s]⟩,s,p,#[⟨5,.data⟩,⟨8,.data⟩,⟨4,.chain⟩],none⟩,
 ⟨some (b+10),.move (.tmp 1),s,p,#[],none⟩,⟨some (b+11),.load e (.tmp z),e,p,#[],none⟩,⟨some (b+12),.load e (.tmp z),e,p,#[],none⟩,⟨some (b+13),.load e (.tmp z),e,p,#[],none⟩,⟨some (b+14),.buildSlice s 3 #[(0,.tmp (b+11)),(1,.tmp (b+12)),(2,.tmp (b+13))],s,p,#[⟨11,.data⟩,⟨12,.data⟩,⟨13,.data⟩],none⟩,⟨some (b+15),.call ⟨.builtin .append,#[.tmp (b+10),.tmp (b+14)],#[s,s]⟩,s,p,#[⟨10,.data⟩,⟨14,.data⟩,⟨9,.chain⟩],none⟩,
 ⟨some (b+16),.buildSlice l 4 #[(0,.tmp b),(1,.tmp (b+4)),(2,.tmp (b+9)),(3,.tmp (b+15))],l,p,#[⟨0,.data⟩,⟨4,.data⟩,⟨9,.data⟩,⟨15,.data⟩],none⟩,⟨some d,.assign (.tmp (b+16)),l,p,#[⟨16,.data⟩,⟨15,.chain⟩,⟨0,.phase⟩,⟨1,.phase⟩,⟨2,.phase⟩,⟨3,.phase⟩,⟨4,.phase⟩,⟨5,.phase⟩,⟨6,.phase⟩,⟨7,.phase⟩,⟨8,.phase⟩,⟨9,.phase⟩,⟨10,.phase⟩,⟨11,.phase⟩,⟨12,.phase⟩,⟨13,.phase⟩,⟨14,.phase⟩,⟨15,.phase⟩,⟨16,.phase⟩],none⟩]
abbrev bls (x1 y1 x2 y2 x3 y3 m:Bool):Array Bool:=#[true,true,true,x1,y1,true,true,true,x2,y2,true,true,true,true,x3,y3,m,false]
theorem rR (b s e l z d:Nat) (p:String):∀x1 y1 x2 y2 x3 y3:Bool,(y1=true->x1=true)->(y2=true->x2=true/\y1=true)->(y3=true->x3=true/\y2=true) ->
  Region.ready .any (a0b b s e l z d p) (bls x1 y1 x2 y2 x3 y3 false)=(if x1 then [] else [3])++((if x1 && !y1 then [4] else [])++((if x2 then [] else [8])++((if x2 && (y1 && !y2) then [9] else [])++((if x3 then [] else [14])++((if x3 && (y2 && !y3) then [15] else [])++(if y3 then [16] else [])))))):=by
 intro x1 y1 x2 y2 x3 y3 h1 h2 h3
 cases x1 <;> cases y1 <;> cases x2 <;> cases y2 <;> cases x3 <;> cases y3 <;> first | exact absurd (h1 rfl) R3 | exact absurd (h2 rfl) R3 | exact absurd (h3 rfl) R3 | kernel_rfl
theorem a5R {x1 y1 x2 y2 x3 y3:Bool} (hi:i∈(if x1 then [] else [3])++((if x1 && !y1 then [4] else [])++((if x2 then [] else [8])++((if x2 && (y1 && !y2) then [9] else [])++((if x3 then [] else [14])++((if x3 && (y2 && !y3) then [15] else [])++(if y3 then [16] else []))))))) :
  (x1=false/\i=3)\/(x1=true/\y1=false/\i=4)\/(x2=false/\i=8)\/(x2=true/\y1=true/\y2=false/\i=9)\/(x3=false/\i=14)\/(x3=true/\y2=true/\y3=false/\i=15)\/y3=true:=by
 cases x1 <;> cases y1 <;> cases x2 <;> cases y2 <;> cases x3 <;> cases y3 <;> simp at hi ⊢ <;> omega
def fil (a:Act) (f:Nat->Option Value):Act:=⟨a.tmps.mapIdx fun i x=>(f i).getD x,a.defers⟩
theorem pJ (a:Act) (f:Nat->Option Value) (j:Nat) (v:Value):(fil a f).put (some j) v=fil a fun i=>if i=j then some v else f i:=by
 simp only[fil,Act.put,Act.mk.injEq,and_true];refine Array.ext R5 fun i h1 h2=>?_
 by_cases e:i=j
 ·subst e;simp
 ·rw [Array.getElem_setIfInBounds_ne (by simpa using h2) (Ne.symm e)];simp [e]
theorem a2B (a:Act) (f:Nat->Option Value) {i:Nat} (hi:i < a.tmps.size):(fil a f).eval (.tmp i)=(f i).getD (a.eval (.tmp i)):=by
 simp[fil,Act.eval,hi]
def six (b:Nat) (o1 o2 o3 o4 o5 o6:Option Value) (i:Nat):Option Value:=if i=b+3 then o1 else if i=b+4 then o2 else if i=b+8 then o3 else if i=b+9 then o4 else if i=b+14 then o5 else if i=b+15 then o6 else none
theorem eW {a:Act} {b:Nat} {o1 o2 o3 o4 o5 o6:Option Value} {j:Nat} {q1 q2 q3 q4 q5 q6:Option Value} (h:∀i,(if i=j then some v else six b o1 o2 o3 o4 o5 o6 i)=six b q1 q2 q3 q4 q5 q6 i):(fil a (six b o1 o2 o3 o4 o5 o6)).put (some j) v=fil a (six b q1 q2 q3 q4 q5 q6):=by
 rw[pJ];exact congrArg _ (funext h)
theorem a3y (a:Act) (b:Nat) (v1 v2 v3 v4 v5 v6:Value):fil a (six b (some v1) (some v2) (some v3) (some v4) (some v5) (some v6))=(((((a.put (some (b+3)) v1).put (some (b+4)) v2).put (some (b+8)) v3).put (some (b+9)) v4).put (some (b+14)) v5).put (some (b+15)) v6:=by
 have e:a=fil a (fun _=>none):=by cases a;simp only [fil,Option.getD_none,Act.mk.injEq,and_true];exact Array.ext R5 fun i h1 h2=>by simp
 conv=>rhs;rw [e]
 simp only[pJ];exact congrArg _ (funext fun i=>by unfold six;(repeat' split) <;> first | rfl | omega)
def Lit (o:Option Value) (m:Nat) (lits:List (Nat × Nat)):Prop:=∃k,o=some (.slice (some ⟨k,0,none⟩) m m)/\(k,m)∈lits
def Sli (o:Option Value) (m:Nat):Prop:=∃a c,o=some (.slice a m c)
def Bld (o:Oper) (ts:List Nat) (zc:List Value) (e m:Nat):Prop:=∀(c:Operand->Value) (u:World),(∀i,i∈ts->c (.tmp i)=.agg zc.toArray)->(execOp c o).run prog u=.ok (.value (.slice (some ⟨u.heap.size,0,none⟩) m m)) (u.alloc (.cells ((List.replicate m zc).flatten).toArray e (0,0)))
theorem iO {P:Program} {o:Oper} {c:Act} {u u':World} {K:Act->World->Prop} {Q:Exit->Act->World->Prop} (hr:(execOp c.eval o).run P u=.ok (.value v) u') (hk:K (c.put o.dst v) u') (hg:o.guard=none:=by rfl) (ho:ops[i]?=some o:=by rfl):wpOp P ops Q i K c u :=
 wpOp_step ho fun K' hK=>by
  rw[if_pos (by simp [Region.wanted,hg])];unfold Oper.wp;rw[hr];exact hK _ _ hk
theorem a2f {listed:Array Bool} {U:World} (b z d l:Nat) (p:String) {s e sz n vc:Nat} {va:Option Addr} {V:World} {xs zc:List Value} {a:Act} {S:World->Prop} {Q:Exit->Act->World->Prop}
  (hS:∀u lits res,Stt V u 0 e sz (.slice va n vc) n xs zc lits res->S u/\∀o,S (u.alloc o)) (hT:TI s e sz) (hn:n<=1000000) (hzc:zc.length=sz) (hone:∀u,u∈zc->u.oneCell'=true) (st:Stt V U 0 e sz (.slice va n vc) n xs zc [] [(.slice va n vc,n)])
  (hQ:∀(x1 x2 x3:Nat) (a1 a2 a3:Option Addr) (c1 c2 c3:Nat) lits u,Stt V u 0 e sz (.slice va n vc) n xs zc lits [(.slice a3 (n+3) c3,n+3),(.slice a2 (n+2) c2,n+2),(.slice a1 (n+1) c1,n+1),(.slice va n vc,n)] ->
   Q .normal ((((((((a.put (some (b+3)) (.slice (some ⟨x1,0,none⟩) 1 1)).put (some (b+4)) (.slice a1 (n+1) c1)).put (some (b+8)) (.slice (some ⟨x2,0,none⟩) 2 2)).put (some (b+9)) (.slice a2 (n+2) c2)).put (some (b+14)) (.slice (some ⟨x3,0,none⟩) 3 3)).put (some (b+15)) (.slice a3 (n+3) c3)).put (some (b+16)) (.slice (some ⟨u.heap.size,0,none⟩) 4 4)).put (some d) (.slice (some ⟨u.heap.size,0,none⟩) 4 4)) (u.alloc (.cells #[.slice va n vc,.slice a1 (n+1) c1,.slice a2 (n+2) c2,.slice a3 (n+3) c3] s)))
  (ho:ops=a0b b s e l z d p:=by rfl) (hl:listed=bls false false false false false false false:=by kernel_rfl) (hsz:b+17<=a.tmps.size:=by simp) (hV:∀i,i∈[b,b+1,b+5,b+10]->a.eval (.tmp i)=.slice va n vc:=by simp only [List.forall_mem_cons];exact ⟨rfl,rfl,rfl,rfl,nofun⟩) (hZ:∀i,i∈[b+2,b+6,b+7,b+11,b+12,b+13]->a.eval (.tmp i)=.agg zc.toArray:=by simp only [List.forall_mem_cons];exact ⟨rfl,rfl,rfl,rfl,rfl,rfl,nofun⟩)
  (hb1:Bld ⟨some (b+3),.buildSlice s 1 #[(0,.tmp (b+2))],s,p,#[⟨2,.data⟩],none⟩ [b+2] zc e 1:=by intro c u h;simp only [List.forall_mem_cons,Nat.reduceAdd] at h;go_simp) (hb2:Bld ⟨some (b+8),.buildSlice s 2 #[(0,.tmp (b+6)),(1,.tmp (b+7))],s,p,#[⟨6,.data⟩,⟨7,.data⟩],none⟩ [b+6,b+7] zc e 2:=by intro c u h;simp only [List.forall_mem_cons,Nat.reduceAdd] at h;go_simp) (hb3:Bld ⟨some (b+14),.buildSlice s 3 #[(0,.tmp (b+11)),(1,.tmp (b+12)),(2,.tmp (b+13))],s,p,#[⟨11,.data⟩,⟨12,.data⟩,⟨13,.data⟩],none⟩ [b+11,b+12,b+13] zc e 3:=by intro c u h;simp only [List.forall_mem_cons,Nat.reduceAdd] at h;go_simp)
  (hb4:∀(c:Operand->Value) (u:World) (a1 a2 a3:Option Addr) (c1 c2 c3:Nat),c (.tmp b)=.slice va n vc->c (.tmp (b+4))=.slice a1 (n+1) c1->c (.tmp (b+9))=.slice a2 (n+2) c2->c (.tmp (b+15))=.slice a3 (n+3) c3->(execOp c ⟨some (b+16),.buildSlice l 4 #[(0,.tmp b),(1,.tmp (b+4)),(2,.tmp (b+9)),(3,.tmp (b+15))],l,p,#[⟨0,.data⟩,⟨4,.data⟩,⟨9,.data⟩,⟨15,.data⟩],none⟩).run prog u=.ok (.value (.slice (some ⟨u.heap.size,0,none⟩) 4 4)) (u.alloc (.cells #[.slice va n vc,.slice a1 (n+1) c1,.slice a2 (n+2) c2,.slice a3 (n+3) c3] s)):=by intro c u a1 a2 a3 c1 c2 c3 h1 h2 h3 h4;go_simp) :
  wpAnyH prog .any ops Q S 8 listed a U:=by
 subst ho hl;have ev:∀f i,i < b+17->(fil a f).eval (.tmp i)=(f i).getD (a.eval (.tmp i)):=fun f i hi=>a2B a f R4
 have eV:∀{o1 o2 o3 o4 o5 o6:Option Value} i,i∈[b,b+1,b+5,b+10]->(fil a (six b o1 o2 o3 o4 o5 o6)).eval (.tmp i)=.slice va n vc:=fun i hi=>by
  rw[<- hV i hi];simp only[List.mem_cons,List.mem_nil_iff,or_false] at hi;rw[ev _ _ R4,show six b _ _ _ _ _ _ i=none by unfold six;(repeat' split) <;> first | rfl | omega];rfl
 have eZ:∀{o1 o2 o3 o4 o5 o6:Option Value} i,i∈[b+2,b+6,b+7,b+11,b+12,b+13]->(fil a (six b o1 o2 o3 o4 o5 o6)).eval (.tmp i)=.agg zc.toArray:=fun i hi=>by
  rw[<- hZ i hi];simp only[List.mem_cons,List.mem_nil_iff,or_false] at hi;rw[ev _ _ R4,show six b _ _ _ _ _ _ i=none by unfold six;(repeat' split) <;> first | rfl | omega];rfl
 have H:∀(f:Nat) (x1 y1 x2 y2 x3 y3:Bool) (o1 o2 o3 o4 o5 o6:Option Value) (u:World) (lits:List (Nat × Nat)),(y1=true->x1=true)->(y2=true->x2=true/\y1=true)->(y3=true->x3=true/\y2=true)->x1.toNat+y1.toNat+x2.toNat+y2.toNat+x3.toNat+y3.toNat+f=6 ->
   (x1=true->Lit o1 1 lits)->(y1=true->Sli o2 (n+1))->(x2=true->Lit o3 2 lits)->(y2=true->Sli o4 (n+2))->(x3=true->Lit o5 3 lits)->(y3=true->Sli o6 (n+3)) ->
   Stt V u 0 e sz (.slice va n vc) n xs zc lits ((if y3 then [(o6.getD undef,n+3)] else [])++((if y2 then [(o4.getD undef,n+2)] else [])++((if y1 then [(o2.getD undef,n+1)] else [])++[(.slice va n vc,n)]))) ->
   wpAnyH prog .any (a0b b s e l z d p) Q S (f+2) (bls x1 y1 x2 y2 x3 y3 false) (fil a (six b o1 o2 o3 o4 o5 o6)) u:=by
  intro f
  induction f with
  | zero =>
   intro x1 y1 x2 y2 x3 y3 o1 o2 o3 o4 o5 o6 u lits h1 h2 h3 hc l1 s1 l2 s2 l3 s3 st
   cases y3
   ·exfalso;have:=x1.toNat_le;have:=y1.toNat_le;have:=x2.toNat_le;have:=y2.toNat_le;have:=x3.toNat_le;simp only [Bool.toNat_false] at hc;omega
   obtain⟨rfl,rfl⟩:=h3 rfl;obtain⟨rfl,rfl⟩:=h2 rfl;obtain rfl:=h1 rfl;obtain⟨k1,rfl,_⟩:=l1 rfl;obtain⟨k2,rfl,_⟩:=l2 rfl;obtain⟨k3,rfl,_⟩:=l3 rfl;obtain⟨a1,c1,rfl⟩:=s1 rfl;obtain⟨a2,c2,rfl⟩:=s2 rfl;obtain⟨a3,c3,rfl⟩:=s3 rfl;refine wpAnyH_ready (rs:=[16]) (rR b s e l z d p true true true true true true h1 h2 h3) R5 fun i hi=>?_
   obtain rfl:=List.mem_singleton.1 hi;refine iO (hb4 _ _ a1 a2 a3 c1 c2 c3 (eV _ R5) (by rw [ev _ _ R4];simp [six]) (by rw [ev _ _ R4];simp [six]) (by rw [ev _ _ R4];simp [six])) ⟨(hS _ _ _ st).2 _,?_⟩;have hr:Region.ready .any (a0b b s e l z d p) ((bls true true true true true true false).setIfInBounds 16 true)=[17]:=by kernel_rfl
   refine wpAnyH_ready hr R5 fun i hi=>?_
   obtain rfl:=List.mem_singleton.1 hi;refine iO (v:=.slice (some ⟨u.heap.size,0,none⟩) 4 4) (o:=⟨some d,.assign (.tmp (b+16)),l,p,_,none⟩) (u':=u.alloc (.cells #[.slice va n vc,.slice a1 (n+1) c1,.slice a2 (n+2) c2,.slice a3 (n+3) c3] s)) ?_ ⟨(hS _ _ _ st).2 _,wpAnyH_done Q7 ?_ _⟩
   ·show Result.ok (Next.value (Act.eval _ _)) _=_
    rw[pJ,ev _ _ R4];simp
   ·have:=hQ k1 k2 k3 a1 a2 a3 c1 c2 c3 lits u st
    rwa [<- a3y] at this
  | succ f ih =>
   intro x1 y1 x2 y2 x3 y3 o1 o2 o3 o4 o5 o6 u lits h1 h2 h3 hc l1 s1 l2 s2 l3 s3 st;have hr:=rR b s e l z d p x1 y1 x2 y2 x3 y3 h1 h2 h3;have mo:∀{o:Option Value} {m:Nat} {q:Nat × Nat},Lit o m lits->Lit o m (q::lits):=fun ⟨k,h,h'⟩=>⟨k,h,List.mem_cons_of_mem _ h'⟩
   refine wpAnyH_ready hr (fun h0=>?_) fun i hi=>?_
   ·cases x1 <;> cases y1 <;> cases x2 <;> cases y2 <;> cases x3 <;> cases y3 <;> first | exact absurd h0 R5 | (simp only [Bool.toNat_true] at hc;omega)
   have kk:∀{L:Array Bool} {c c':Act} {u:World},c=c'->wpAnyH prog .any (a0b b s e l z d p) Q S (f+2) L c' u->wpAnyH prog .any (a0b b s e l z d p) Q S (f+2) L c u:=fun h k=>h▸k
   rcases a5R hi with ⟨rfl,rfl⟩ | ⟨rfl,rfl,rfl⟩ | ⟨rfl,rfl⟩ | ⟨rfl,rfl,rfl,rfl⟩ | ⟨rfl,rfl⟩ | ⟨rfl,rfl,rfl,rfl⟩ | rfl
   ·exact iO (hb1 _ u fun i hi=>eZ i (by simp at hi ⊢;omega)) ⟨(hS _ _ _ st).2 _,kk (eW fun i=>by unfold six;(repeat' split) <;> first | rfl | omega) (ih true y1 x2 y2 x3 y3 _ _ _ _ _ _ _ _ (fun _=>rfl) h2 h3 (by simp at hc ⊢;omega) (fun _=>⟨_,rfl,List.mem_cons_self ..⟩) s1 (fun h=>mo (l2 h)) s2 (fun h=>mo (l3 h)) s3 (st.build 1))⟩
   ·obtain rfl:y2=false:=Bool.eq_false_iff.2 fun h=>by cases (h2 h).2
    obtain rfl:y3=false:=Bool.eq_false_iff.2 fun h=>by cases (h3 h).2
    obtain⟨k,rfl,hk⟩:=l1 rfl;exact wpOp_step (o:=⟨some (b+4),.call ⟨.builtin .append,#[.tmp (b+1),.tmp (b+3)],#[s,s]⟩,s,p,#[⟨1,.data⟩,⟨3,.data⟩],none⟩) rfl fun K hK=>st.step hT rfl (.tmp (b+1)) (.tmp (b+3)) rfl (eV _ R5) k 1 (by rw [ev _ _ R4];simp [six]) hk R3 R3 hn hzc hone fun a' c' w' s'=>hK _ _ ⟨(hS _ _ _ s').1,kk (eW fun i=>by unfold six;(repeat' split) <;> first | rfl | omega) (ih true true x2 false x3 false _ _ _ _ _ _ _ _ (fun _=>rfl) nofun nofun (by simp at hc ⊢;omega) l1 (fun _=>⟨_,_,rfl⟩) l2 s2 l3 s3 s')⟩
   ·exact iO (hb2 _ u fun i hi=>eZ i (by simp at hi ⊢;omega)) ⟨(hS _ _ _ st).2 _,kk (eW fun i=>by unfold six;(repeat' split) <;> first | rfl | omega) (ih x1 y1 true y2 x3 y3 _ _ _ _ _ _ _ _ h1 (fun h=>⟨rfl,(h2 h).2⟩) h3 (by simp at hc ⊢;omega) (fun h=>mo (l1 h)) s1 (fun _=>⟨_,rfl,List.mem_cons_self ..⟩) s2 (fun h=>mo (l3 h)) s3 (st.build 2))⟩
   ·obtain rfl:=h1 rfl
    obtain rfl:y3=false:=Bool.eq_false_iff.2 fun h=>by cases (h3 h).2
    obtain⟨k,rfl,hk⟩:=l2 rfl;exact wpOp_step (o:=⟨some (b+9),.call ⟨.builtin .append,#[.tmp (b+5),.tmp (b+8)],#[s,s]⟩,s,p,#[⟨5,.data⟩,⟨8,.data⟩,⟨4,.chain⟩],none⟩) rfl fun K hK=>st.step hT rfl (.tmp (b+5)) (.tmp (b+8)) rfl (eV _ R5) k 2 (by rw [ev _ _ R4];simp [six]) hk R3 R3 hn hzc hone fun a' c' w' s'=>hK _ _ ⟨(hS _ _ _ s').1,kk (eW fun i=>by unfold six;(repeat' split) <;> first | rfl | omega) (ih true true true true x3 false _ _ _ _ _ _ _ _ h1 (fun _=>⟨rfl,rfl⟩) nofun (by simp at hc ⊢;omega) l1 s1 l2 (fun _=>⟨_,_,rfl⟩) l3 s3 s')⟩
   ·exact iO (hb3 _ u fun i hi=>eZ i (by simp at hi ⊢;omega)) ⟨(hS _ _ _ st).2 _,kk (eW fun i=>by unfold six;(repeat' split) <;> first | rfl | omega) (ih x1 y1 x2 y2 true y3 _ _ _ _ _ _ _ _ h1 h2 (fun h=>⟨rfl,(h3 h).2⟩) (by simp at hc ⊢;omega) (fun h=>mo (l1 h)) s1 (fun h=>mo (l2 h)) s2 (fun _=>⟨_,rfl,List.mem_cons_self ..⟩) s3 (st.build 3))⟩
   ·obtain ⟨rfl,rfl⟩:=h2 rfl
    obtain rfl:=h1 rfl;obtain⟨k,rfl,hk⟩:=l3 rfl;exact wpOp_step (o:=⟨some (b+15),.call ⟨.builtin .append,#[.tmp (b+10),.tmp (b+14)],#[s,s]⟩,s,p,#[⟨10,.data⟩,⟨14,.data⟩,⟨9,.chain⟩],none⟩) rfl fun K hK=>st.step hT rfl (.tmp (b+10)) (.tmp (b+14)) rfl (eV _ R5) k 3 (by rw [ev _ _ R4];simp [six]) hk R3 R3 hn hzc hone fun a' c' w' s'=>hK _ _ ⟨(hS _ _ _ s').1,kk (eW fun i=>by unfold six;(repeat' split) <;> first | rfl | omega) (ih true true true true true true _ _ _ _ _ _ _ _ h1 h2 (fun _=>⟨rfl,rfl⟩) (by simp at hc ⊢;omega) l1 s1 l2 s2 l3 (fun _=>⟨_,_,rfl⟩) s')⟩
   ·obtain ⟨rfl,rfl⟩:=h3 rfl
    obtain⟨rfl,rfl⟩:=h2 rfl;obtain rfl:=h1 rfl;simp only[Bool.toNat_true] at hc;omega
 have:=H 6 false false false false false false none none none none none none U [] nofun nofun nofun rfl nofun nofun nofun nofun nofun nofun st;rwa [show fil a (six b none none none none none none)=a by cases a;simp only [fil,six,ite_self,Option.getD_none,Act.mk.injEq,and_true];exact Array.ext R5 fun i h1 h2=>by simp] at this
theorem uU {V ww:World} {e sz s n vc:Nat} {va a1 a2 a3:Option Addr} {c1 c2 c3:Nat} {xs zc:List Value} {lits:List (Nat × Nat)} {zv:Nat->Value} (hS:Stt V ww 0 e sz (.slice va n vc) n xs zc lits [(.slice a3 (n+3) c3,n+3),(.slice a2 (n+2) c2,n+2),(.slice a1 (n+1) c1,n+1),(.slice va n vc,n)]) :
  ∃(vs:List (Value × Nat)) (nb:Nat) (W4:World),nb=ww.heap.size/\W4=ww.alloc (.cells #[.slice va n vc,.slice a1 (n+1) c1,.slice a2 (n+2) c2,.slice a3 (n+3) c3] s)/\Hid (Wr W4 W4 e sz zv vs 0 0)/\vs.length=4/\Hid (W4.heap[nb]?=some (.cells (vs.map Prod.fst).toArray s (0,0)))/\Hid (∀p,p∈vs->p.1.ownBlock≠some nb) /\
   Hid (∀k,k < V.heap.size->(Value.slice va n vc).ownBlock≠some k->∀p,p∈vs->p.1.ownBlock≠some k)/\Hid (∀k,k < V.heap.size->(Value.slice va n vc).ownBlock≠some k->W4.heap[k]?=V.heap[k]?)/\Hid (∀p,p∈vs->p.2<=n+3)/\Hid (vs=[(.slice a3 (n+3) c3,n+3),(.slice a2 (n+2) c2,n+2),(.slice a1 (n+1) c1,n+1),((.slice va n vc:Value),n)].reverse)/\Hid (nb=ww.heap.size)/\Hid (W4.heap.size=ww.heap.size+1)/\Hid (ww.alloc (.cells (vs.map Prod.fst).toArray s (0,0))=W4):=by
 have xb:=hS.size;have HM:∀p,p∈[(.slice a3 (n+3) c3,n+3),(.slice a2 (n+2) c2,n+2),(.slice a1 (n+1) c1,n+1),((.slice va n vc:Value),n)].reverse->p∈[(.slice a3 (n+3) c3,n+3),(.slice a2 (n+2) c2,n+2),(.slice a1 (n+1) c1,n+1),((.slice va n vc:Value),n)]:=fun p hp=>List.mem_reverse.1 hp
 refine⟨_,_,_,rfl,rfl,hid (Wr.start fun p hp=>(hS.res p (HM p hp)).1.block fun b hb=>Below.heap_alloc _ _ _ ?_),rfl,hid (heap_alloc_new ww _),hid fun p hp hb=>?_,hid fun k hk hn p hp hb=>?_,hid fun k hk hn=>(Below.heap_alloc _ _ _ R4).trans (hS.keep k hk hn),hid fun p hp=>?_,hid rfl,hid rfl,hid R5,hid rfl⟩
 ·obtain ⟨ys,xa⟩:=(hS.res p (HM p hp)).1
  exact (xa.lt b hb).2
 ·obtain ⟨ys,xa⟩:=(hS.res p (HM p hp)).1
  have:=(xa.lt _ hb).2;omega
 ·rcases (hS.res p (HM p hp)).2 k hb with h | h
  ·exact hn h
  ·omega
 ·simp at hp
  rcases hp with h | h | h | h <;> rw [h] <;> simp
end
theorem a6R:(prog.info? 92).map (fun i=>(i.zero,i.size,i.bytes))=some (some (.agg #[.int .u8 0,.int .i64 0]),2,16):=by kernel_rfl
theorem a6b:(prog.info? 132).map (fun i=>(i.zero,i.size,i.bytes))=some (some (.slice none 0 0),1,24):=by kernel_rfl
theorem tD (i:Nat) (W:World) (hi:i<=1000000000):Calls prog 53 #[.int .i64 (i:Int)] W fun e w'=>e=.returned (.agg #[.int .u8 9,.int .i64 (-7070 - (i:Int))])/\L0d W w':=by
 have xa:IntKind.i64.wrap (-7070 - (i:Int)) = -7070 - (i:Int):=Go.IntWalk.i64_in _ R4;go_enter func53,ntmps53;go_wp2_with fail;refine bodyPost_ret (v:=.agg #[.int .u8 9,.int .i64 (-7070 - (i:Int))]) (by simp [results,results53,go_sem]) rfl ⟨rfl,by repeat (first | exact L3b _ _ | refine Below.setCell ?_ Q1 _ | refine L3a ?_ Q1 _)⟩
def dG (na:Nat) (off:Nat):Value:=if off % 2=0 then .int .u8 9 else .int .i64 (-7070 - (na:Int))
theorem a3Q {w:World} {yb na n:Nat} {av v:Value} {al xs:List Value} (hy:yb < w.heap.size) (hc:w.cell? ⟨yb,3,none⟩=some av) (hz:w.frozen? ⟨yb,3,none⟩=false)
  (ha:w.ownsRow 0 132 1 av na al) (hv:w.ownsRow 0 92 2 v n xs) (hna:na<=1000000000) (hn:n<=1000000) (hy1:av.ownBlock≠some yb) (hy2:v.ownBlock≠some yb) :
  Calls prog 50 #[.pointer (some ⟨yb,1,none⟩),v] w fun e w'=>e=.returned (.tuple #[])/\aU 92 2 84 132 yb 3 na (dG na) av v al w w':=by
 obtain⟨aa,xv,zh,_⟩:=B4 ha;subst zh;obtain⟨va,vc,yw,zt⟩:=B4 hv;subst yw;obtain⟨i3,yg,yc,xr,yr⟩:=info_parts a6R;obtain⟨i9,yn,yh,ym,ya⟩:=info_parts a6b;have HI:=hid (And.intro yg (And.intro yc (And.intro xr yr)));have HN:=hid (And.intro yn (And.intro yh (And.intro ym ya)));have HA:=hid ha;have HV:=hid hv;have yv:Hid (∀U,Calls prog 53 #[.int .i64 (na:Int)] U fun e w'=>e=.returned (.agg #[.int .u8 9,.int .i64 (-7070 - (na:Int))])/\L0d U w'):=hid fun U=>tD na U hna
 clear yg yc xr yr yn yh ym ya ha hv;go_enter func50,ntmps50;go_wp2_with (go_at_call 53;refine (yv.out _).mono ?_;rintro e w0 ⟨rfl,xk⟩)
 have q0:(w0.alloc (Obj.cells #[.int .u8 9,.int .i64 (-7070 - (na:Int))] 92)).cell? ⟨w0.heap.size,0,none⟩=some (.int .u8 9):=by go_simp
 have q1:(w0.alloc (Obj.cells #[.int .u8 9,.int .i64 (-7070 - (na:Int))] 92)).cell? ⟨w0.heap.size,1,none⟩=some (.int .i64 (-7070 - (na:Int))):=by go_simp
 have xx:L0d w (w0.alloc (Obj.cells #[.int .u8 9,.int .i64 (-7070 - (na:Int))] 92)):=L3a xk xk.size _;have ye:=G9 HV.out xx;have zf:w.heap.size<=w0.heap.size:=xk.size;have zj:(w0.alloc (Obj.cells #[.int .u8 9,.int .i64 (-7070 - (na:Int))] 92)).heap.size=w0.heap.size+1:=by simp
 have xl:=hid xx;generalize (w0.alloc (Obj.cells #[.int .u8 9,.int .i64 (-7070 - (na:Int))] 92))=V at *
 generalize hzb:w0.heap.size=zb at *
 have xb:zb < V.heap.size:=by omega
 have xd:(Value.slice va n vc).ownBlock≠some zb:=fun e=>by have:=(HV.out.lt zb e).2;omega
 have S0:Hid (Stt V V 0 92 2 (.slice va n vc) n xs [.int .u8 9,.int .i64 (-7070 - (na:Int))] [] [(.slice va n vc,n)]):=hid (Stt.start ye);have zl:([.int .u8 9,.int .i64 (-7070 - (na:Int))]:List Value).length=2:=rfl;have xf:Hid (∀u,u∈([.int .u8 9,.int .i64 (-7070 - (na:Int))]:List Value)->u.oneCell'=true):=hid fun u hu=>by simp at hu;rcases hu with rfl | rfl <;> rfl
 have HT:Hid (TI 84 92 2):=hid ⟨i3,_,_,underlying84,HI.out.1,HI.out.2.1,HI.out.2.2.1,HI.out.2.2.2,rfl,by decide,by decide⟩;have HC:Hid (∀u lits res,Stt V u 0 92 2 (.slice va n vc) n xs [.int .u8 9,.int .i64 (-7070 - (na:Int))] lits res->u.cell? ⟨zb,0,none⟩=some (.int .u8 9)/\u.cell? ⟨zb,1,none⟩=some (.int .i64 (-7070 - (na:Int)))):=hid fun u lits res h=>⟨h.z xb xd q0,h.z xb xd q1⟩
 have xg:Hid (∀u lits res (o:Obj),Stt V u 0 92 2 (.slice va n vc) n xs [.int .u8 9,.int .i64 (-7070 - (na:Int))] lits res->(u.alloc o).cell? ⟨zb,0,none⟩=some (.int .u8 9)/\(u.alloc o).cell? ⟨zb,1,none⟩=some (.int .i64 (-7070 - (na:Int)))):=hid fun u lits res o h=>⟨(L0b (a:=⟨zb,0,none⟩) (Below.heap_alloc _ _ _ (L0a xb h.size))).trans (h.z xb xd q0),(L0b (a:=⟨zb,1,none⟩) (Below.heap_alloc _ _ _ (L0a xb h.size))).trans (h.z xb xd q1)⟩
 have HQ:Hid (V.cell? ⟨zb,0,none⟩=some (.int .u8 9)/\V.cell? ⟨zb,1,none⟩=some (.int .i64 (-7070 - (na:Int)))):=hid ⟨q0,q1⟩;clear q0 q1 ye xk xx zj hzb;refine wp_region_held_drew (S:=fun u=>u.cell? ⟨zb,0,none⟩=some (.int .u8 9)/\u.cell? ⟨zb,1,none⟩=some (.int .i64 (-7070 - (na:Int)))) Q7 (HC.out _ _ _ S0.out.drew) (fun hHeld=>?_);have yd:=hid S0.out.drew;generalize V.drew=U at *
 refine TW 0 ⟨some 14,.move (.tmp 1),84,"book.go:81",#[],none⟩ ?_
 refine TW 1 ⟨some 15,.move (.tmp 1),84,"book.go:81",#[],none⟩ ?_
 refine TW 2 ⟨some 16,.load 92 (.tmp 4),92,"book.go:81",#[],none⟩ ?_
 refine TW 5 ⟨some 19,.move (.tmp 1),84,"book.go:81",#[],none⟩ ?_
 refine TW 6 ⟨some 20,.load 92 (.tmp 4),92,"book.go:81",#[],none⟩ ?_
 refine TW 7 ⟨some 21,.load 92 (.tmp 4),92,"book.go:81",#[],none⟩ ?_
 refine TW 10 ⟨some 24,.move (.tmp 1),84,"book.go:81",#[],none⟩ ?_
 refine TW 11 ⟨some 25,.load 92 (.tmp 4),92,"book.go:81",#[],none⟩ ?_
 refine TW 12 ⟨some 26,.load 92 (.tmp 4),92,"book.go:81",#[],none⟩ ?_
 refine TW 13 ⟨some 27,.load 92 (.tmp 4),92,"book.go:81",#[],none⟩ ?_
 clear hHeld
 refine a2f 14 4 5 132 "book.go:81" (fun u lits res h => ⟨HC.out _ _ _ h, fun o => xg.out _ _ _ o h⟩) HT.out hn zl xf.out yd.out ?_
 intro x1 x2 x3 a1 a2 a3 c1 c2 c3 lits ww hS;simp only[Act.put,Nat.reduceAdd,T1,T2,T3];clear xf HT HC xg yd S0;have HS:=hid hS;have xr:=hS.size;obtain⟨vs,nb,W4,yl,yp,SW,yu,xt,yq,xw,ys,zi,yf,zo,xq,xn⟩:=uU (s:=84) (zv:=dG na) hS;rw[<- yl,<- yp];clear hS yl yp;go_wp2_with fail;go_loopw [6] (fun vi wr=>∃k:Nat,k<=4/\vi=.int .i64 k/\Wr W4 wr 92 2 (dG na) vs k 0) (fun vi _=>4 - (intOf vi).toNat)
 case atStart=>exact ⟨0,by omega,rfl,SW.out⟩
 case round =>
  obtain⟨k,hk,rfl,xa⟩:=hrel;by_cases hlt:k < 4
  ·obtain ⟨p,hp⟩:∃p,vs[k]?=some p:=⟨_,L1b R4⟩
   have yy:(k:Int) < 4:=by omega
   have xz:=hid xa;have xi:=L2a hp;obtain⟨pa,pc,zd,zs,_⟩:=(xa.has p xi).form;have zw:=zi.out p xi;have xc:Hid (∀u:World,(∀b,(∀p,p∈vs->p.1.ownBlock≠some b)->u.heap[b]?=W4.heap[b]?)->u.cell? ⟨nb,k,none⟩=some p.1/\nb < u.heap.size):=hid fun u hu=>by
    have h1:=(hu nb yq.out).trans xt.out;refine⟨?_,(L2b.1 h1).1⟩;simp only[World.cell?,h1];simp[List.getElem?_map,hp]
   clear xa;go_wp2_with fail;go_loopw [7] (fun vi wr=>∃i:Nat,i<=p.2/\vi=.int .i64 i/\Wr W4 wr 92 2 (dG na) vs k (i*2)) (fun vi _=>p.2 - (intOf vi).toNat)
   case atStart=>exact ⟨0,by omega,rfl,by rw [Nat.zero_mul];exact xz.out⟩
   case round =>
    obtain⟨i,hi,rfl,xa⟩:=hrel;have cn:=(xc.out wr xa.keep).1;have zp:=(xc.out wr xa.keep).2;have yo:=hid xa;by_cases hli:i < p.2
    ·obtain ⟨zu,zn,xo,zk,zq⟩:=(xa.has p xi).form
     obtain⟨b,rfl,xj,zx,xp,xy⟩:=zq R4;have ze:b≠nb:=fun e=>yq.out p xi (by rw [xj,e])
     have xe:b≠zb:=fun e=>xw.out zb xb xd p xi (by rw [xj,e])
     have xh:=(xa.keep zb (xw.out zb xb xd)).trans (ys.out zb xb xd);have d0:wr.cell? ⟨zb,0,none⟩=some (.int .u8 9):=(L0b (a:=⟨zb,0,none⟩) xh).trans HQ.out.1;have d1:wr.cell? ⟨zb,1,none⟩=some (.int .i64 (-7070 - (na:Int))):=(L0b (a:=⟨zb,1,none⟩) xh).trans HQ.out.2;obtain⟨g0,yk⟩:=xy (i*2) R4;have yt:=xp (i*2);obtain⟨g1,yj⟩:=xy (i*2+1) R4
     have yx:=xp (i*2+1);rw[xo] at cn;have zm:(i:Int) < (p.2:Int):=by omega
     clear xa xp xy;go_wp2_with fail;refine wp_region_held_drew (S:=fun u=>u.cell? ⟨nb,k,none⟩=some (.slice (some ⟨b,0,none⟩) p.2 zn)/\u.cell? ⟨zb,0,none⟩=some (.int .u8 9)/\u.cell? ⟨zb,1,none⟩=some (.int .i64 (-7070 - (na:Int)))) Q7 ⟨cn,d0,d1⟩ (fun hHeld=>?_)
     refine TW 0 ⟨some 46,.move (.tmp 5),132,"book.go:84",#[],none⟩ ?_
     refine TW 1 ⟨some 47,.move (.tmp 6),3,"book.go:84",#[],none⟩ ?_
     refine TW 2 ⟨some 48,.indexAddr 132 (.tmp 46) (.tmp 47),0,"book.go:84",#[⟨0,.data⟩,⟨1,.data⟩],none⟩ ?_
     refine TW 3 ⟨some 49,.load 84 (.tmp 48),84,"book.go:84",#[⟨2,.data⟩],none⟩ ?_
     refine TW 4 ⟨some 50,.move (.tmp 7),3,"book.go:84",#[],none⟩ ?_
     refine TW 5 ⟨some 51,.load 92 (.tmp 4),92,"book.go:84",#[],none⟩ ?_
     refine TW 6 ⟨some 52,.indexAddr 84 (.tmp 49) (.tmp 50),0,"book.go:84",#[⟨3,.data⟩,⟨4,.data⟩,⟨0,.phase⟩,⟨1,.phase⟩,⟨2,.phase⟩,⟨3,.phase⟩,⟨4,.phase⟩,⟨5,.phase⟩],none⟩ ?_
     clear hHeld
     refine TO 7 ⟨none,.store 92 (.tmp 52) (.tmp 51),0,"book.go:84",#[⟨6,.data⟩,⟨5,.data⟩,⟨0,.phase⟩,⟨1,.phase⟩,⟨2,.phase⟩,⟨3,.phase⟩,⟨4,.phase⟩,⟨5,.phase⟩],none⟩ fun K hK => ?_
     go_simp
     refine TG hK ⟨show ((wr.setCell ⟨b,i*2,none⟩ (.int .u8 9)).setCell ⟨b,i*2+1,none⟩ (.int .i64 (-7070 - (na:Int)))).cell? ⟨nb,k,none⟩=_ from by (repeat rw [World.cell?_setCell_far _ _ _ _ (show b≠nb from ze)]);exact cn,show ((wr.setCell ⟨b,i*2,none⟩ (.int .u8 9)).setCell ⟨b,i*2+1,none⟩ (.int .i64 (-7070 - (na:Int)))).cell? ⟨zb,0,none⟩=_ from by (repeat rw [World.cell?_setCell_far _ _ _ _ (show b≠zb from xe)]);exact d0,show ((wr.setCell ⟨b,i*2,none⟩ (.int .u8 9)).setCell ⟨b,i*2+1,none⟩ (.int .i64 (-7070 - (na:Int)))).cell? ⟨zb,1,none⟩=_ from by (repeat rw [World.cell?_setCell_far _ _ _ _ (show b≠zb from xe)]);exact d1⟩ fun hHeld=>?_
     clear hK K;clear hHeld;refine wpAnyH_done Q7 ?_ _;have HX:Hid (Wr W4 ((wr.setCell ⟨b,i*2,none⟩ (.int .u8 9)).setCell ⟨b,i*2+1,none⟩ (.int .i64 (-7070 - (na:Int)))).drew 92 2 (dG na) vs k ((i+1)*2)):=hid (by
      have z0:(dG na) (i*2)=.int .u8 9:=by unfold dG;rw [if_pos R4]
      have z1:(dG na) (i*2+1)=.int .i64 (-7070 - (na:Int)):=by unfold dG;rw [if_neg R4]
      have s0:=yo.out;have s1:=s0.next hp xj ⟨g0,yk⟩;rw[z0] at s1;have s2:=s1.next hp xj ⟨g1,by rw [World.cell?_setCell_other _ _ _ _ R5];exact yj⟩;rw[z1] at s2;rw[show (i+1)*2=i*2+1+1 by omega];exact s2.drew)
     generalize ((wr.setCell ⟨b,i*2,none⟩ (.int .u8 9)).setCell ⟨b,i*2+1,none⟩ (.int .i64 (-7070 - (na:Int)))).drew=Y at *
     clear cn d0 d1 yk yt yj yx;go_wp2_with fail;go_roundw
     case rel=>exact ⟨i+1,by omega,by go_num,HX.out⟩
     case measure=>simp [intOf];omega
    ·obtain rfl:i=p.2:=by omega
     have zc:¬(p.2:Int) < (p.2:Int):=by omega
     rw[zd] at cn;clear xa;go_wp2_with fail;go_roundw
     case rel=>exact ⟨k+1,by omega,by go_num,Wr.done yo.out hp⟩
     case measure=>simp [intOf];omega
  ·obtain rfl:k=4:=by omega
   have xz:=hid xa;have xm:∀b,b < w.heap.size->(Value.slice va n vc).ownBlock≠some b->wr.heap[b]?=w.heap[b]?:=fun b hb hn=>by
    have yi:b < V.heap.size:=by have:=xl.out.size;omega
    rw[xa.keep b (xw.out b yi hn),ys.out b yi hn];exact xl.out.block b hb
   have xu:=xm yb hy hy2;have y1:wr.cell? ⟨yb,3,none⟩=some (.slice aa na xv):=(L0b (a:=⟨yb,3,none⟩) xu).trans hc;have y2:wr.frozen? ⟨yb,3,none⟩=false:=(L0c (a:=⟨yb,3,none⟩) xu).trans hz;have zr:yb < wr.heap.size:=by have:=xa.size;have:=xq.out;have:=xl.out.size;omega
   have za:Hid (wr.ownsRow 0 132 1 (.slice aa na xv) na al):=hid (A6 HA.out fun b hb=>xm b (HA.out.lt b hb).2 fun e=>G8 HA.out HV.out R3 b hb e);have yz:=hid (HS.out.rebase xl.out HV.out);have zc:¬(4:Int) < 4:=by decide
   clear xa xu xm;go_wp2_with (at_builtin;go_must (refine A9 _ rfl (.tmp 57) (.tmp 59) 31 rfl 0 132 i9 _ 1 24 underlying31 HN.out.1 HN.out.2.1 HN.out.2.2.1 HN.out.2.2.2 rfl R3 (.slice aa na xv) na al rfl (za.out.alloc _) (some ⟨wr.heap.size,0,none⟩) 1 1 [.slice (some ⟨nb,0,none⟩) 4 4] rfl rfl (fun _=>⟨_,rfl,World.news_of_block (cs:=#[.slice (some ⟨nb,0,none⟩) 4 4]) (t:=132) (fr:=(0,0)) (B1 (by first | rfl | simp))⟩) (by intro u hu;simp at hu;subst hu;rfl) Q5 R4 R5 ?_))
   intro v5 w5 hown5 hgrow5 hat5;obtain⟨a5,c5,zg,_⟩:=B4 hown5;subst zg;obtain⟨e1,e2,e3,e4,e5,e6,e7⟩:=gZ (te:=84) (zv:=dG na) yz.out HV.out zo.out (by rw [<- yf.out,xn.out];exact xz.out) HA.out R3 hy hy1 hy2 hgrow5 hown5 (fun g hg=>by rcases hat5 g hg with e | e;exact L4a e;exact L4b (by rw [e];simp)) ⟨_,hc⟩;rw[hc] at e1;rw[hz] at e2;rw[<- yf.out] at e4 e7;have HE:=hid (And.intro e4 (And.intro e5 (And.intro e6 e7)))
   clear hown5 hgrow5 hat5 e4 e5 e6 e7;go_wp2_with fail;go_end0
   exact⟨rfl,nb,vs,_,yu,HE.out.1,HE.out.2.1,HE.out.2.2.1,HE.out.2.2.2⟩
section
variable {P:A3} {j yb:Nat} {w w':World}
structure PlR where
 ps:List (Nat × Nat)
 psv:Value
 v:Nat->Value
 l:Nat->List Nat
def tyE (j:Nat):Nat:=if j=1 then 109 else if j=2 then 128 else if j=3 then 132 else if j=4 then 83 else 88
def cC (p:Nat × Nat):List Value:=[.pointer (some ⟨p.1,0,none⟩),.pointer (some ⟨p.2,0,none⟩)]
def nH (nb:Nat):Value:=.slice (some ⟨nb,0,none⟩) 4 4
structure H7 (w:World) (yb:Nat) (Y:PlR):Prop where
 me:yb < w.heap.size
 fz:∀j,w.frozen? ⟨yb,j,none⟩=false
 c0:w.cell? ⟨yb,0,none⟩=some Y.psv
 row0:w.ownsRow 0 48 2 Y.psv Y.ps.length (Y.ps.flatMap cC)
 ne0:Y.psv.ownBlock≠some yb
 c:∀j,1<=j->j<=5->w.cell? ⟨yb,j,none⟩=some (Y.v j)
 row:∀j,1<=j->j<=5->w.ownsRow 0 (tyE j) 1 (Y.v j) (Y.l j).length ((Y.l j).map nH)
 ne:∀j,1<=j->j<=5->(Y.v j).ownBlock≠some yb
def R7 (yb:Nat) (Y:PlR) (k:Nat):Prop:=k=yb\/Y.psv.ownBlock=some k\/∃j,1<=j/\j<=5/\(Y.v j).ownBlock=some k
theorem H7.lt {Y:PlR} (h:H7 w yb Y):∀k,R7 yb Y k->k < w.heap.size:=fun k hk=>by
 rcases hk with rfl | hk | ⟨j,h1,h2,hk⟩
 ·exact h.me
 ·exact (h.row0.lt k hk).2
 ·exact ((h.row j h1 h2).lt k hk).2
theorem H7.keep {Y:PlR} (h:H7 w yb Y) (hs:w.heap.size<=w'.heap.size) (hk:∀k,k < w.heap.size->R7 yb Y k->w'.heap[k]?=w.heap[k]?):H7 w' yb Y:=by
 have hy:=hk yb h.me (L4a rfl);exact⟨L0a h.me hs,fun j=>(L0c (a:=⟨yb,j,none⟩) hy).trans (h.fz j),(L0b (a:=⟨yb,0,none⟩) hy).trans h.c0,A6 h.row0 fun b hb=>hk b (h.row0.lt b hb).2 (L4b (L4a hb)),h.ne0,fun j h1 h2=>(L0b (a:=⟨yb,j,none⟩) hy).trans (h.c j h1 h2),fun j h1 h2=>A6 (h.row j h1 h2) fun b hb=>hk b ((h.row j h1 h2).lt b hb).2 (L4b (L4b ⟨j,h1,h2,hb⟩)),h.ne⟩
def H9 (yb:Nat) (Y:PlR):D7 :=
 ⟨R7 yb Y,fun w=>H7 w yb Y,fun _ h=>h.lt,fun _ _ h hs hk=>h.keep hs fun k hl hb=>hk k hl (L4a hb)⟩
def PlR.upd (Y:PlR) (j:Nat) (av:Value) (nb:Nat):PlR:={ Y with v:=fun i=>if i=j then av else Y.v i,l:=fun i=>if i=j then Y.l i++[nb] else Y.l i }
theorem a6z {i:Nat} (hi:1<=i) (hi5:i<=5) (hj:1<=j) (hj5:j<=5) (h:i≠j):tyE i≠tyE j:=by
 have:i=1\/i=2\/i=3\/i=4\/i=5:=by omega
 have:j=1\/j=2\/j=3\/j=4\/j=5:=by omega
 rcases ‹i=1\/_› with rfl | rfl | rfl | rfl | rfl <;> rcases ‹j=1\/_› with rfl | rfl | rfl | rfl | rfl <;> first | exact absurd rfl h | decide
theorem a3P (j:Nat):tyE j≠48:=by
 unfold tyE;split
 ·decide
 ·split
  ·decide
  ·split
   ·decide
   ·split <;> decide
theorem H7.book {Y:PlR} {v av':Value} {nb:Nat} {vs:List (Value × Nat)} (h:H7 w yb Y) (h1:1<=j) (h5:j<=5) (hv:∀k,v.ownBlock=some k->¬R7 yb Y k) (hW:uP w w' yb j (Y.v j) v av' nb vs) (hc:w'.cell? ⟨yb,j,none⟩=some av') (ho:w'.ownsRow 0 (tyE j) 1 av' ((Y.l j).length+1) ((Y.l j).map nH++[.slice (some ⟨nb,0,none⟩) 4 4])) :
  H7 w' yb (Y.upd j av' nb)/\∀k,R7 yb (Y.upd j av' nb) k->R7 yb Y k\/w.heap.size<=k:=by
 have xb:(PlR.upd Y j av' nb).v j=av':=if_pos rfl;have xc:(PlR.upd Y j av' nb).l j=Y.l j++[nb]:=if_pos rfl;have xa:∀i,i≠j->(PlR.upd Y j av' nb).v i=Y.v i:=fun i hi=>if_neg hi
 have xd:∀i,i≠j->(PlR.upd Y j av' nb).l i=Y.l i:=fun i hi=>if_neg hi
 refine⟨⟨L0a h.me hW.size,fun i=>(hW.yf i).trans (h.fz i),(hW.yc 0 R4).trans h.c0,A6 h.row0 fun b hb=>hW.keep b (h.row0.lt b hb).2 (fun e=>h.ne0 (e▸hb)) (fun e=>G8 (h.row j h1 h5) h.row0 (a3P j) b e hb) (fun e=>hv b e (L4b (L4a hb))),h.ne0,fun i hi hi5=>?_,fun i hi hi5=>?_,fun i hi hi5=>?_⟩,fun k hk=>?_⟩
 ·by_cases e:i=j
  ·subst e;rw [xb];exact hc
  ·rw [xa i e];exact (hW.yc i e).trans (h.c i hi hi5)
 ·by_cases e:i=j
  ·subst e
   rw[xb,xc,List.length_append,List.map_append];exact ho
  ·rw [xa i e,xd i e]
   refine A6 (h.row i hi hi5) fun b hb=>hW.keep b ((h.row i hi hi5).lt b hb).2 (fun e'=>h.ne i hi hi5 (by rw [hb,e'])) (fun e'=>G8 (h.row j h1 h5) (h.row i hi hi5) (a6z h1 h5 hi hi5 fun q=>e q.symm) b e' hb) (fun e'=>hv b e' (L4b (L4b ⟨i,hi,hi5,hb⟩)))
 ·by_cases e:i=j
  ·subst e
   rw[xb];intro hb;rcases hW.avn yb hb with h' | h'
   ·exact h.ne i hi hi5 h'
   ·have:=h.me;omega
  ·rw [xa i e];exact h.ne i hi hi5
 ·rcases hk with hk | hk | ⟨i,hi,hi5,hk⟩
  ·exact L4a (L4a hk)
  ·exact L4a (L4b (L4a hk))
  ·by_cases e:i=j
   ·subst e
    rw[xb] at hk;rcases hW.avn k hk with h' | h'
    ·exact L4a (L4b (L4b ⟨i,hi,hi5,h'⟩))
    ·exact L4b h'
   ·rw [xa i e] at hk
    exact L4a (L4b (L4b ⟨i,hi,hi5,hk⟩))
theorem Sep.two (h:Sep P w) (i k m:Nat × Nat) (p q:D7) (hs:w.heap.size<=w'.heap.size) (hk:∀b,b < w.heap.size->¬(P i).B b->¬(P k).B b->w'.heap[b]?=w.heap[b]?) (hp:p.F w') (hq:q.F w') (hpB:∀b,p.B b->(P i).B b\/w.heap.size<=b) (hqB:∀b,q.B b->(P k).B b\/w.heap.size<=b) (hd:∀b,p.B b->¬q.B b) :
  Sep (((P.put i p).put k D7.none).put m q) w':=by
 have xa:=h.pos;have xb:∀j,(((P.put i p).put k D7.none).put m q) j=if j=m then q else if j=k then D7.none else if j=i then p else P j:=fun j=>rfl
 have xc:∀j,j≠m->j≠k->j≠i->∀b,(P j).B b->b < w.heap.size/\¬(P i).B b/\¬(P k).B b:=fun j _ h2 h3 b hb=>⟨(P j).lt w (h.F j) b hb,fun hc=>h3 (h.dis j i b hb hc),fun hc=>h2 (h.dis j k b hb hc)⟩
 have bp:∀j,j≠m->j≠k->j≠i->∀b,(P j).B b->¬p.B b/\¬q.B b:=fun j h1 h2 h3 b hb=>by
  obtain⟨o1,o2,o3⟩:=xc j h1 h2 h3 b hb;exact⟨fun hc=>by rcases hpB b hc with h' | h';exact o2 h';omega,fun hc=>by rcases hqB b hc with h' | h';exact o3 h';omega⟩
 refine⟨L0a xa hs,fun j=>?_,fun j l b hj hl=>?_,fun j hj=>?_⟩
 ·rw [xb]
  split
  ·exact hq
  ·split
   ·exact trivial
   ·split
    ·exact hp
    ·rename_i h1 h2 h3
     refine (P j).keep w w' (h.F j) hs fun b hb hb'=>?_
     rcases hb' with hb' | rfl
     ·obtain ⟨o1,o2,o3⟩:=xc j h1 h2 h3 b hb'
      exact hk b hb o2 o3
     ·exact hk 0 hb (h.z i) (h.z k)
 ·rw [xb] at hj hl
  split at hj
  ·split at hl
   ·rename_i e1 e2;rw [e1,e2]
   ·split at hl
    ·exact hl.elim
    ·split at hl
     ·exact (hd b hl hj).elim
     ·rename_i h1 h2 h3;exact ((bp l h1 h2 h3 b hl).2 hj).elim
  ·split at hj
   ·exact hj.elim
   ·split at hj
    ·split at hl
     ·exact (hd b hj hl).elim
     ·split at hl
      ·exact hl.elim
      ·split at hl
       ·rename_i e1 _ _ e2;rw [e1,e2]
       ·rename_i h1 h2 h3;exact ((bp l h1 h2 h3 b hl).1 hj).elim
    ·rename_i h1 h2 h3
     split at hl
     ·exact ((bp j h1 h2 h3 b hj).2 hl).elim
     ·split at hl
      ·exact hl.elim
      ·split at hl
       ·exact ((bp j h1 h2 h3 b hj).1 hl).elim
       ·exact h.dis j l b hj hl
 ·rw [xb] at hj
  split at hj
  ·rcases hqB 0 hj with h' | h'
   ·exact h.z k h'
   ·omega
  ·split at hj
   ·exact hj
   ·split at hj
    ·rcases hpB 0 hj with h' | h'
     ·exact h.z i h'
     ·omega
    ·exact h.z j hj
structure Stp (P:A3) (w:World) (P':A3) (w':World):Prop where
 os:w'.os=w.os
 tape:w'.tape=w.tape
 output:w'.output=w.output
 size:w.heap.size<=w'.heap.size
 out:∀b,b < w.heap.size->(∀i,¬(P i).B b)->w'.heap[b]?=w.heap[b]?
 grow:∀i b,(P' i).B b->(∃j,(P j).B b)\/w.heap.size<=b
theorem Stp.refl (P:A3) (w:World):Stp P w P w:=⟨rfl,rfl,rfl,L1c _,fun _ _ _=>rfl,fun i _ hb=>L4a ⟨i,hb⟩⟩
theorem Stp.trans {P' P'':A3} {w'':World} (h:Stp P w P' w') (h':Stp P' w' P'' w''):Stp P w P'' w'':=by
 have hs:=h.size;refine⟨h'.os.trans h.os,h'.tape.trans h.tape,h'.output.trans h.output,L5a hs h'.size,fun b hb hn=>(h'.out b R4 fun i hi=>?_).trans (h.out b hb hn),fun i b hb=>?_⟩
 ·rcases h.grow i b hi with ⟨j,hj⟩ | h0
  ·exact hn j hj
  ·omega
 ·rcases h'.grow i b hb with ⟨j,hj⟩ | h0
  ·exact h.grow j b hj
  ·exact L4b R4
theorem Stp.swap (i:Nat × Nat) (p:D7) (hB:∀b,p.B b->(P i).B b):Stp P w (P.put i p) w :=
 ⟨rfl,rfl,rfl,L1c _,fun _ _ _=>rfl,fun j b hb=>by
  by_cases e:j=i
  ·rw [e,A3.put_same] at hb;exact L4a ⟨i,hB b hb⟩
  ·rw [A3.put_ne P e] at hb;exact L4a ⟨j,hb⟩⟩
theorem Stp.below (h:L0d w w'):Stp P w P w':=⟨h.os,h.tape,h.output,h.size,fun b hb _=>h.block b hb,fun i _ hb=>L4a ⟨i,hb⟩⟩
theorem Stp.two (i k m:Nat × Nat) (p q:D7) (h1:w'.os=w.os) (h2:w'.tape=w.tape) (h3:w'.output=w.output) (hs:w.heap.size<=w'.heap.size) (hk:∀b,b < w.heap.size->¬(P i).B b->¬(P k).B b->w'.heap[b]?=w.heap[b]?) (hpB:∀b,p.B b->(P i).B b\/w.heap.size<=b) (hqB:∀b,q.B b->(P k).B b\/w.heap.size<=b):Stp P w (((P.put i p).put k D7.none).put m q) w':=by
 refine⟨h1,h2,h3,hs,fun b hb hn=>hk b hb (hn i) (hn k),fun j b hb=>?_⟩;have xa:(((P.put i p).put k D7.none).put m q) j=if j=m then q else if j=k then D7.none else if j=i then p else P j:=rfl
 rw[xa] at hb;split at hb
 ·rcases hqB b hb with h | h
  ·exact L4a ⟨k,h⟩
  ·exact L4b h
 ·split at hb
  ·exact hb.elim
  ·split at hb
   ·rcases hpB b hb with h | h
    ·exact L4a ⟨i,h⟩
    ·exact L4b h
   ·exact L4a ⟨j,hb⟩
def cU (e sz:Nat) (v:Value) (n:Nat):D7 :=
 ⟨fun k=>v.ownBlock=some k,fun w=>Has w 0 e sz v n,fun _ h k hk=>by obtain ⟨xs,hx⟩:=h;exact (hx.lt k hk).2,fun _ _ h _ hk=>h.block fun b hb=>hk b (by obtain ⟨xs,hx⟩:=h;exact (hx.lt b hb).2) (L4a hb)⟩
end
section
variable {P:A3} {Y:PlR} {e n sz te yb:Nat} {k:Nat × Nat} {v:Value} {w:World}
theorem jU {B nb:Nat} {cs:Array Value} {xs:List Value} (h:w.ownsRow B e sz v n xs) (hb:w.heap[nb]?=some (.cells cs te (0,0))) (hne:e≠te):v.ownBlock≠some nb:=fun hv=>by
 rcases h.2 with ⟨h0,_⟩ | ⟨g,xc,xb,xa,_,hg,_⟩
 ·rw [h0] at hv;cases hv
 ·rw [xa] at hv
  obtain rfl:g=nb:=by simpa [Value.ownBlock] using hv
  rw[hb] at hg;have:=L5b hg;simp at this;exact hne this.2.symm
theorem Sep.book {w':World} {j:Nat} {zv:Nat->Value} (h:Sep P w) (hp:P (0,0)=H9 yb Y) (hk:P k=cU e sz v n) (hk0:k≠(0,0)) (h1:1<=j) (h5:j<=5) (het:e≠tyE j) (htt:te≠tyE j) (hb:aU e sz te (tyE j) yb j (Y.l j).length zv (Y.v j) v ((Y.l j).map nH) w w') (m:Nat × Nat) :
  ∃nb vs av',vs.length=4/\Sep (((P.put (0,0) (H9 yb (Y.upd j av' nb))).put k D7.none).put m (nG e sz te zv nb vs)) w'/\Stp P w (((P.put (0,0) (H9 yb (Y.upd j av' nb))).put k D7.none).put m (nG e sz te zv nb vs)) w':=by
 obtain⟨nb,vs,av',hl,hE,hc,ho,hW⟩:=hb;have xd:H7 w yb Y:=by have:=h.F (0,0);rw [hp] at this;exact this
 have xb:∀b,(P (0,0)).B b↔R7 yb Y b:=fun b=>by rw [hp];exact Iff.rfl
 have xc:∀b,(P k).B b↔v.ownBlock=some b:=fun b=>by rw [hk];exact Iff.rfl
 have hv:∀b,v.ownBlock=some b->¬R7 yb Y b:=fun b hb hq=>hk0 (h.dis k (0,0) b ((xc b).2 hb) ((xb b).2 hq))
 obtain⟨xf,xe⟩:=xd.book h1 h5 hv hW hc ho;have k1:∀b,b < w.heap.size->¬(P (0,0)).B b->¬(P k).B b->w'.heap[b]?=w.heap[b]?:=fun b hb h0 hk'=>by
  rw[xb] at h0;rw[xc] at hk';exact hW.keep b hb (fun e=>h0 (L4a e)) (fun e=>h0 (L4b (L4b ⟨j,h1,h5,e⟩))) hk'
 have k2:∀b,(H9 yb (Y.upd j av' nb)).B b->(P (0,0)).B b\/w.heap.size<=b:=fun b hb=>by rw [xb];exact xe b hb
 have k3:∀b,(nG e sz te zv nb vs).B b->(P k).B b\/w.heap.size<=b:=fun b hb=>by
  rw[xc];rcases hb with hb | ⟨p,hp,hb⟩
  ·exact L4b (by rw [hb];exact hW.nbn)
  ·exact hW.vsn p hp b hb
 refine⟨nb,vs,av',hl,h.two (0,0) k m _ _ hW.size k1 xf hE k2 k3 (fun b hb hq=>?_),Stp.two (0,0) k m _ _ hW.os hW.tape hW.output hW.size k1 k2 k3⟩
 ·-- the book's own blocks are none of the entry's
  have xa:R7 yb Y b->False:=fun hpb=>by
   have xg:=xd.lt b hpb;rcases hq with hq | ⟨p,hp',hq⟩
   ·have:=hW.nbn;omega
   ·rcases hW.vsn p hp' b hq with h' | h'
    ·exact hv b h' hpb
    ·omega
  rcases hb with hb | hb | ⟨i,hi,hi5,hb⟩
  ·exact xa (L4a hb)
  ·exact xa (L4b (L4a hb))
  ·by_cases e':i=j
   ·subst e'
    have ev:(Y.upd i av' nb).v i=av':=if_pos rfl;rw[ev] at hb;rcases hq with hq | ⟨p,hp',hq⟩
    ·subst hq
     exact jU ho hE.blk (fun e=>htt e.symm) hb
    ·obtain ⟨ys,hy⟩:=hE.has p hp'
     exact G8 hy ho het b hq hb
   ·have ev:(Y.upd j av' nb).v i=Y.v i:=if_neg e'
    rw[ev] at hb;exact xa (L4b (L4b ⟨i,hi,hi5,hb⟩))
theorem a3R (h:Sep P w) (hp:P (0,0)=H9 yb Y) (hk:P k=cU 92 2 v n) (hk0:k≠(0,0)) (hn:n<=1000000) (hna:(Y.l 3).length<=1000000000) (m:Nat × Nat) :
  Calls Tryz.prog 50 #[.pointer (some ⟨yb,1,none⟩),v] w fun e w'=>e=.returned (.tuple #[])/\∃nb vs av',vs.length=4/\Sep (((P.put (0,0) (H9 yb (Y.upd 3 av' nb))).put k D7.none).put m (nG 92 2 84 (dG (Y.l 3).length) nb vs)) w'/\Stp P w (((P.put (0,0) (H9 yb (Y.upd 3 av' nb))).put k D7.none).put m (nG 92 2 84 (dG (Y.l 3).length) nb vs)) w':=by
 have xa:H7 w yb Y:=by have:=h.F (0,0);rw [hp] at this;exact this
 have xb:Has w 0 92 2 v n:=by have:=h.F k;rw [hk] at this;exact this
 obtain⟨xs,hx⟩:=xb;have xc:v.ownBlock≠some yb:=fun e=>hk0 (h.dis k (0,0) yb (by rw [hk];exact e) (by rw [hp];exact L4a rfl))
 have hr:=xa.row 3 R3 R3;rw[show (Y.l 3).length=((Y.l 3).length) from rfl] at hr;refine (a3Q xa.me (xa.c 3 R3 R3) (xa.fz 3) hr hx hna hn (xa.ne 3 R3 R3) xc).mono ?_;rintro e w' ⟨rfl,hb⟩;exact⟨rfl,h.book hp hk hk0 R3 R3 R3 R3 hb m⟩
theorem a2N (h:Sep P w) (hp:P (0,0)=H9 yb Y) (hk:P k=cU 3 1 v n) (hk0:k≠(0,0)) (hn:n<=1000000) (hna:(Y.l 1).length<=1000000000) (m:Nat × Nat) :
  Calls Tryz.prog 24 #[.pointer (some ⟨yb,1,none⟩),v] w fun e w'=>e=.returned (.tuple #[])/\∃nb vs av',vs.length=4/\Sep (((P.put (0,0) (H9 yb (Y.upd 1 av' nb))).put k D7.none).put m (nG 3 1 24 (fun _=>.int .i64 (-7070 - ((Y.l 1).length:Int))) nb vs)) w'/\Stp P w (((P.put (0,0) (H9 yb (Y.upd 1 av' nb))).put k D7.none).put m (nG 3 1 24 (fun _=>.int .i64 (-7070 - ((Y.l 1).length:Int))) nb vs)) w':=by
 have xa:H7 w yb Y:=by have:=h.F (0,0);rw [hp] at this;exact this
 have xb:Has w 0 3 1 v n:=by have:=h.F k;rw [hk] at this;exact this
 obtain⟨xs,hx⟩:=xb;have xc:v.ownBlock≠some yb:=fun e=>hk0 (h.dis k (0,0) yb (by rw [hk];exact e) (by rw [hp];exact L4a rfl))
 refine (a2L xa.me (xa.c 1 R3 R3) (xa.fz 1) (xa.row 1 R3 R3) hx hna hn (xa.ne 1 R3 R3) xc).mono ?_;rintro e w' ⟨rfl,hb⟩;exact⟨rfl,h.book hp hk hk0 R3 R3 R3 R3 hb m⟩
end
section
variable {P:A3} {Y:PlR} {j n yb:Nat} {k:Nat × Nat} {p p0:D7} {v:Value} {w:World}
theorem Sep.swap (h:Sep P w) (i:Nat × Nat) (p:D7) (hF:p.F w) (hB:∀b,p.B b->(P i).B b):Sep (P.put i p) w :=
 h.upd i p (L1c _) (fun _ _ _=>rfl) hF fun b hb=>L4a (hB b hb)
def mP (e sz:Nat) (v:Value) (n:Nat) (xs:List Value):D7 :=
 ⟨fun k=>v.ownBlock=some k,fun w=>w.ownsRow 0 e sz v n xs,fun _ h k hk=>(h.lt k hk).2,fun _ _ h _ hk=>A6 h fun b hb=>hk b (h.lt b hb).2 (L4a hb)⟩
def zfr (na:Nat) (off:Nat):Value:=if off % 4=0 then .int .i64 (-7070 - (na:Int)) else if off % 4=1 then .int .i64 0 else .slice none 0 0
def zob (fb:Nat) (off:Nat):Value:=if off % 2=0 then .int .u8 9 else .slice (some ⟨fb,0,none⟩) 1 1
def obP (na nb fb:Nat) (vs:List (Value × Nat)):D7 :=
 ⟨fun k=>a4E nb vs k\/k=fb,fun w=>Z8 w 90 2 74 (zob fb) nb vs/\w.heap[fb]?=some (.cells #[.int .u8 9,.int .i64 (-7070 - (na:Int))] 92 (0,0)),fun w h k hk=>by
  rcases hk with hk | rfl
  ·exact h.1.lt k hk
  ·exact (L2b.1 h.2).1,fun w w' h _ hk=>⟨h.1.keep fun k hl hb=>hk k hl (L4a (L4a hb)),(hk fb (L2b.1 h.2).1 (L4a (L4b rfl))).trans h.2⟩⟩
structure a5y (j i nb:Nat) (p:D7):Prop where
 a:j=1->∃vs:List (Value × Nat),vs.length=4/\p=nG 3 1 24 (fun _=>.int .i64 (-7070 - (i:Int))) nb vs
 c:j=3->∃vs:List (Value × Nat),vs.length=4/\p=nG 92 2 84 (dG i) nb vs
 d:j=4->∃vs:List (Value × Nat),vs.length=4/\p=nG 86 4 66 (zfr i) nb vs
 e:j=5->∃(vs:List (Value × Nat)) (fb:Nat),vs.length=4/\p=obP i nb fb vs
def J0 (P:A3) (Y:PlR):Prop:=Y.l 2=[]/\∀j i nb,1<=j->j<=5->(Y.l j)[i]?=some nb->a5y j i nb (P (j+2,i))
def aV (P P':A3) (K:Nat × Nat->Prop):Prop:=∀q,(q.1=1\/q.1=2\/8<=q.1)->¬K q->P' q=P q
theorem J0.upd {nb:Nat} {av:Value} (h:J0 P Y) (h1:1<=j) (h5:j<=5) (hj2:j≠2) (hk:8<=k.1) (hE:a5y j (Y.l j).length nb p):J0 (((P.put (0,0) p0).put k D7.none).put (j+2,(Y.l j).length) p) (Y.upd j av nb):=by
 refine⟨by show (if 2=j then _ else Y.l 2)=[];rw [if_neg (fun e=>hj2 e.symm)];exact h.1,fun i q b hi hi5 hq=>?_⟩;by_cases e:i=j
 ·subst e
  have el:(Y.upd i av nb).l i=Y.l i++[nb]:=if_pos rfl;rw[el] at hq;by_cases e2:q=(Y.l i).length
  ·subst e2
   rw[List.getElem?_append_right (L1c _)] at hq;simp at hq;subst hq;rw[A3.put_same];exact hE
  ·have xa:q < (Y.l i).length:=by
    have:=(L1a.1 hq).1;simp at this;omega
   rw[List.getElem?_append_left xa] at hq;rw[A3.put_ne _ (by intro e;simp only [Prod.mk.injEq] at e;omega),A3.put_ne _ (by intro e;rw [<- e] at hk;simp only at hk;omega),A3.put_ne _ (by intro e;simp only [Prod.mk.injEq] at e;omega)];exact h.2 i q b hi hi5 hq
 ·have el:(Y.upd j av nb).l i=Y.l i:=if_neg e
  rw[el] at hq;rw[A3.put_ne _ (by intro e;simp only [Prod.mk.injEq] at e;omega),A3.put_ne _ (by intro e;rw [<- e] at hk;simp only at hk;omega),A3.put_ne _ (by intro e;simp only [Prod.mk.injEq] at e;omega)];exact h.2 i q b hi hi5 hq
theorem iG (h1:1<=j) (h5:j<=5):aV P (((P.put (0,0) p0).put k D7.none).put (j+2,n) p) (fun q=>q=k):=fun q hq hn=>by
 rw[A3.put_ne _ (by intro e;rw [e] at hq;simp only at hq;omega),A3.put_ne _ hn,A3.put_ne _ (by intro e;rw [e] at hq;simp only at hq;omega)]
structure aA (Y Y':PlR) (j:Nat) (n:Nat):Prop where
 ps:Y'.ps=Y.ps
 psv:Y'.psv=Y.psv
 l:∀i,i≠j->Y'.l i=Y.l i
 lj:(Y'.l j).length=(Y.l j).length+n
theorem fB (Y:PlR) (j:Nat) (av:Value) (nb:Nat):aA Y (Y.upd j av nb) j 1 :=
 ⟨rfl,rfl,fun i hi=>if_neg hi,by have e:(Y.upd j av nb).l j=Y.l j++[nb]:=if_pos rfl;rw [e,List.length_append];rfl⟩
theorem a5F (P:A3) {j n:Nat} {p0 p:D7} {k:Nat × Nat} (hk:8<=k.1) (h5:j<=5):(((P.put (0,0) p0).put k D7.none).put (j+2,n) p) k=D7.none:=by
 rw[A3.put_ne _ (by intro e;rw [e] at hk;simp only at hk;omega),A3.put_same]
theorem zN (P:A3) {j n:Nat} {p0 p:D7} {k:Nat × Nat} (hk:8<=k.1):(((P.put (0,0) p0).put k D7.none).put (j+2,n) p) (0,0)=p0:=by
 rw[A3.put_ne _ (by intro e;simp only [Prod.mk.injEq] at e;omega),A3.put_ne _ (by intro e;rw [<- e] at hk;simp only at hk;omega),A3.put_same]
def yQ (P:A3) (yb:Nat) (Y:PlR) (K:Nat × Nat->Prop) (j n:Nat) (w:World) (e:Ending) (w':World):Prop :=
 e=.returned (.tuple #[])/\∃P' Y',Sep P' w'/\P' (0,0)=H9 yb Y'/\J0 P' Y'/\aV P P' K/\(∀q,K q->P' q=D7.none)/\aA Y Y' j n/\Stp P w P' w'
theorem mY (h:Sep P w) (hp:P (0,0)=H9 yb Y) (hL:J0 P Y) (hk:P k=cU 92 2 v n) (hk8:8<=k.1) (hn:n<=1000000) (hna:(Y.l 3).length<=1000000000) :
  Calls Tryz.prog 50 #[.pointer (some ⟨yb,1,none⟩),v] w fun e w'=>yQ P yb Y (fun q=>q=k) 3 1 w e w':=by
 refine (a3R h hp hk (fun e=>by rw [e] at hk8;simp only at hk8;omega) hn hna (3+2,(Y.l 3).length)).mono ?_;rintro e w' ⟨rfl,nb,vs,xa,hl,hS,hs⟩;exact⟨rfl,_,Y.upd 3 xa nb,hS,zN P hk8,hL.upd R3 R3 R3 hk8 ⟨fun e=>by omega,fun _=>⟨vs,hl,rfl⟩,fun e=>by omega,fun e=>by omega⟩,iG R3 R3,fun q hq=>by rw [hq];exact a5F P hk8 R3,fB _ _ _ _,hs⟩
theorem a2M (h:Sep P w) (hp:P (0,0)=H9 yb Y) (hL:J0 P Y) (hk:P k=cU 3 1 v n) (hk8:8<=k.1) (hn:n<=1000000) (hna:(Y.l 1).length<=1000000000) :
  Calls Tryz.prog 24 #[.pointer (some ⟨yb,1,none⟩),v] w fun e w'=>yQ P yb Y (fun q=>q=k) 1 1 w e w':=by
 refine (a2N h hp hk (fun e=>by rw [e] at hk8;simp only at hk8;omega) hn hna (1+2,(Y.l 1).length)).mono ?_;rintro e w' ⟨rfl,nb,vs,xa,hl,hS,hs⟩;exact⟨rfl,_,Y.upd 1 xa nb,hS,zN P hk8,hL.upd R3 R3 R3 hk8 ⟨fun _=>⟨vs,hl,rfl⟩,fun e=>by omega,fun e=>by omega,fun e=>by omega⟩,iG R3 R3,fun q hq=>by rw [hq];exact a5F P hk8 R3,fB _ _ _ _,hs⟩
end
section
variable {P:A3} {Y:PlR} {e nb sz te:Nat} {vs:List (Value × Nat)} {w:World} {zv:Nat->Value}
theorem H7.list {yb j:Nat} (h:H7 w yb Y) (h1:1<=j) (h5:j<=5):∃a c,w.cell? ⟨yb,j,none⟩=some (.slice a (Y.l j).length c)/\∀i nb,(Y.l j)[i]?=some nb->∃ab,a=some ⟨ab,0,none⟩/\ab < w.heap.size/\w.cell? ⟨ab,i,none⟩=some (.slice (some ⟨nb,0,none⟩) 4 4):=by
 have hr:=h.row j h1 h5;obtain⟨a,c,hv,_⟩:=B4 hr;have hc:=h.c j h1 h5;rw[hv] at hc;refine⟨a,c,hc,fun i nb hi=>?_⟩;have xd:=(L1a.1 hi).1;rcases hr.2 with ⟨_,h0⟩ | ⟨g,xc,xb,xa,_⟩
 ·omega
 ·rw [hv] at xa
  cases xa;rw[hv] at hr;refine⟨g,rfl,(hr.lt g rfl).2,?_⟩;rw[hr.cellAt i R4,List.getElem?_map,hi];rfl
theorem Z8.get (h:Z8 w e sz te zv nb vs) {k:Nat} {p:Value × Nat} (hp:vs[k]?=some p):w.cell? ⟨nb,k,none⟩=some p.1/\nb < w.heap.size/\∃a c,p.1=.slice a p.2 c/\(0 < p.2->∃b,a=some ⟨b,0,none⟩/\b < w.heap.size/\∀off,off < p.2*sz->w.cell? ⟨b,off,none⟩=some (zv off)):=by
 have xa:=L2a hp;refine⟨?_,(L2b.1 h.blk).1,?_⟩
 ·simp only [World.cell?,h.blk]
  simp[List.getElem?_map,hp]
 ·obtain ⟨a,c,hv,_,hb⟩:=(h.has p xa).form
  refine⟨a,c,hv,fun h0=>?_⟩;obtain⟨b,ha,xb,xc,_⟩:=hb h0;exact⟨b,ha,xc,fun off ho=>h.zed p xa b xb off ho⟩
theorem Z8.small (h:Z8 w e sz te zv nb vs) {k:Nat} {p:Value × Nat} (hp:vs[k]?=some p):p.2<=9223372036854775807:=by
 obtain⟨xs,hx⟩:=h.has p (L2a hp);rcases hx.2 with ⟨_,h0⟩ | ⟨g,xb,xa,_,_,_,h3,h4,_⟩
 ·omega
 ·unfold maxLen at h4
  omega
theorem J0.entA (h:J0 P Y) (hS:Sep P w) {i nb:Nat} (hi:(Y.l 1)[i]?=some nb):∃vs:List (Value × Nat),vs.length=4/\Z8 w 3 1 24 (fun _=>.int .i64 (-7070 - (i:Int))) nb vs:=by
 obtain⟨vs,hl,hp⟩:=(h.2 1 i nb R3 R3 hi).a rfl;have:=hS.F (1+2,i);rw[hp] at this;exact⟨vs,hl,this⟩
theorem J0.entC (h:J0 P Y) (hS:Sep P w) {i nb:Nat} (hi:(Y.l 3)[i]?=some nb):∃vs:List (Value × Nat),vs.length=4/\Z8 w 92 2 84 (dG i) nb vs:=by
 obtain⟨vs,hl,hp⟩:=(h.2 3 i nb R3 R3 hi).c rfl;have:=hS.F (3+2,i);rw[hp] at this;exact⟨vs,hl,this⟩
theorem J0.entD (h:J0 P Y) (hS:Sep P w) {i nb:Nat} (hi:(Y.l 4)[i]?=some nb):∃vs:List (Value × Nat),vs.length=4/\Z8 w 86 4 66 (zfr i) nb vs:=by
 obtain⟨vs,hl,hp⟩:=(h.2 4 i nb R3 R3 hi).d rfl;have:=hS.F (4+2,i);rw[hp] at this;exact⟨vs,hl,this⟩
theorem J0.entE (h:J0 P Y) (hS:Sep P w) {i nb:Nat} (hi:(Y.l 5)[i]?=some nb):∃(vs:List (Value × Nat)) (fb:Nat),vs.length=4/\Z8 w 90 2 74 (zob fb) nb vs/\w.heap[fb]?=some (.cells #[.int .u8 9,.int .i64 (-7070 - (i:Int))] 92 (0,0)):=by
 obtain⟨vs,fb,hl,hp⟩:=(h.2 5 i nb R3 R3 hi).e rfl;have:=hS.F (5+2,i);rw[hp] at this;exact⟨vs,fb,hl,this.1,this.2⟩
end
end Go.Proofs.YtbkmgoffiigdbaaGreatDoor
