import Derived.Test.YtbkmgoffiigdbaaGreatDoorXCd
namespace Go.Proofs.YtbkmgoffiigdbaaGreatDoor
open Go.RowKit Go.Sort Go.Proofs.Tryz
section
variable {i:Nat} {ops:Array Oper} {v:Value}
abbrev a0d (b s e l z d:Nat) (p:String):Array Oper:=#[⟨some b,.move (.tmp 1),s,p,#[],none⟩,⟨some (b+1),.move (.tmp 1),s,p,#[],none⟩,⟨some (b+2),.load e (.tmp z),e,p,#[],none⟩,⟨some (b+3),.buildSlice s 1 #[(0,.tmp (b+2))],s,p,#[⟨2,.data⟩],none⟩,⟨some (b+4),.call ⟨.builtin .append,#[.tmp (b+1),.tmp (b+3)],#[s,s]⟩,s,p,#[⟨1,.data⟩,⟨3,.data⟩],none⟩,
 ⟨some (b+5),.move (.tmp 1),s,p,#[],none⟩,⟨some (b+6),.load e (.tmp z),e,p,#[],none⟩,⟨some (b+7),.load e (.tmp z),e,p,#[],none⟩,⟨some (b+8),.buildSlice s 2 #[(0,.tmp (b+6)),(1,.tmp (b+7))],s,p,#[⟨6,.data⟩,⟨7,.data⟩],none⟩,⟨some (b+9),.call ⟨.builtin .append,#[.tmp (b+5),.tmp (b+8)],#[s,s]⟩,s,p,#[⟨5,.data⟩,⟨8,.data⟩,⟨4,.chain⟩],none⟩,
 ⟨some (b+10),.move (.tmp 1),s,p,#[],none⟩,⟨some (b+11),.load e (.tmp z),e,p,#[],none⟩,⟨some (b+12),.load e (.tmp z),e,p,#[],none⟩,⟨some (b+13),.load e (.tmp z),e,p,#[],none⟩,⟨some (b+14),.buildSlice s 3 #[(0,.tmp (b+11)),(1,.tmp (b+12)),(2,.tmp (b+13))],s,p,#[⟨11,.data⟩,⟨12,.data⟩,⟨13,.data⟩],none⟩,⟨some (b+15),.call ⟨.builtin .append,#[.tmp (b+10),.tmp (b+14)],#[s,s]⟩,s,p,#[⟨10,.data⟩,⟨14,.data⟩,⟨9,.chain⟩],none⟩,
 ⟨some (b+16),.buildSlice l 4 #[(0,.tmp b),(1,.tmp (b+4)),(2,.tmp (b+9)),(3,.tmp (b+15))],l,p,#[⟨0,.data⟩,⟨4,.data⟩,⟨9,.data⟩,⟨15,.data⟩],none⟩,⟨some d,.assign (.tmp (b+16)),l,p,#[⟨16,.data⟩,⟨15,.chain⟩,⟨0,.phase⟩,⟨1,.phase⟩,⟨2,.phase⟩,⟨3,.phase⟩,⟨4,.phase⟩,⟨5,.phase⟩,⟨6,.phase⟩,⟨7,.phase⟩,⟨8,.phase⟩,⟨9,.phase⟩,⟨10,.phase⟩,⟨11,.phase⟩,⟨12,.phase⟩,⟨13,.phase⟩,⟨14,.phase⟩,⟨15,.phase⟩,⟨16,.phase⟩],none⟩]
abbrev bls (x1 y1 x2 y2 x3 y3 m:Bool):Array Bool:=#[true,true,true,x1,y1,true,true,true,x2,y2,true,true,true,true,x3,y3,m,false]
theorem rV (b s e l z d:Nat) (p:String):∀x1 y1 x2 y2 x3 y3:Bool,(y1=true->x1=true)->(y2=true->x2=true/\y1=true)->(y3=true->x3=true/\y2=true) ->
  Region.ready .any (a0d b s e l z d p) (bls x1 y1 x2 y2 x3 y3 false)=(if x1 then [] else [3])++((if x1 && !y1 then [4] else [])++((if x2 then [] else [8])++((if x2 && (y1 && !y2) then [9] else [])++((if x3 then [] else [14])++((if x3 && (y2 && !y3) then [15] else [])++(if y3 then [16] else [])))))):=by
 intro x1 y1 x2 y2 x3 y3 h1 h2 h3
 cases x1 <;> cases y1 <;> cases x2 <;> cases y2 <;> cases x3 <;> cases y3 <;> first | exact absurd (h1 rfl) R3 | exact absurd (h2 rfl) R3 | exact absurd (h3 rfl) R3 | kernel_rfl
theorem a5O {x1 y1 x2 y2 x3 y3:Bool} (hi:i∈(if x1 then [] else [3])++((if x1 && !y1 then [4] else [])++((if x2 then [] else [8])++((if x2 && (y1 && !y2) then [9] else [])++((if x3 then [] else [14])++((if x3 && (y2 && !y3) then [15] else [])++(if y3 then [16] else []))))))) :
  (x1=false/\i=3)\/(x1=true/\y1=false/\i=4)\/(x2=false/\i=8)\/(x2=true/\y1=true/\y2=false/\i=9)\/(x3=false/\i=14)\/(x3=true/\y2=true/\y3=false/\i=15)\/y3=true:=by
 cases x1 <;> cases y1 <;> cases x2 <;> cases y2 <;> cases x3 <;> cases y3 <;> simp at hi ⊢ <;> omega
def fil (a:Act) (f:Nat->Option Value):Act:=⟨a.tmps.mapIdx fun i x=>(f i).getD x,a.defers⟩
theorem pR (a:Act) (f:Nat->Option Value) (j:Nat) (v:Value):(fil a f).put (some j) v=fil a fun i=>if i=j then some v else f i:=by
 simp only[fil,Act.put,Act.mk.injEq,and_true];refine Array.ext R5 fun i h1 h2=>?_
 by_cases e:i=j
 ·subst e;simp
 ·rw [Array.getElem_setIfInBounds_ne (by simpa using h2) (Ne.symm e)];simp [e]
theorem a2x (a:Act) (f:Nat->Option Value) {i:Nat} (hi:i < a.tmps.size):(fil a f).eval (.tmp i)=(f i).getD (a.eval (.tmp i)):=by
 simp[fil,Act.eval,hi]
def six (b:Nat) (o1 o2 o3 o4 o5 o6:Option Value) (i:Nat):Option Value:=if i=b+3 then o1 else if i=b+4 then o2 else if i=b+8 then o3 else if i=b+9 then o4 else if i=b+14 then o5 else if i=b+15 then o6 else none
theorem fC {a:Act} {b:Nat} {o1 o2 o3 o4 o5 o6:Option Value} {j:Nat} {q1 q2 q3 q4 q5 q6:Option Value} (h:∀i,(if i=j then some v else six b o1 o2 o3 o4 o5 o6 i)=six b q1 q2 q3 q4 q5 q6 i):(fil a (six b o1 o2 o3 o4 o5 o6)).put (some j) v=fil a (six b q1 q2 q3 q4 q5 q6):=by
 rw[pR];exact congrArg _ (funext h)
theorem a3w (a:Act) (b:Nat) (v1 v2 v3 v4 v5 v6:Value):fil a (six b (some v1) (some v2) (some v3) (some v4) (some v5) (some v6))=(((((a.put (some (b+3)) v1).put (some (b+4)) v2).put (some (b+8)) v3).put (some (b+9)) v4).put (some (b+14)) v5).put (some (b+15)) v6:=by
 have e:a=fil a (fun _=>none):=by cases a;simp only [fil,Option.getD_none,Act.mk.injEq,and_true];exact Array.ext R5 fun i h1 h2=>by simp
 conv=>rhs;rw [e]
 simp only[pR];exact congrArg _ (funext fun i=>by unfold six;(repeat' split) <;> first | rfl | omega)
def Lit (o:Option Value) (m:Nat) (lits:List (Nat × Nat)):Prop:=∃k,o=some (.slice (some ⟨k,0,none⟩) m m)/\(k,m)∈lits
def Sli (o:Option Value) (m:Nat):Prop:=∃a c,o=some (.slice a m c)
def Bld (o:Oper) (ts:List Nat) (zc:List Value) (e m:Nat):Prop:=∀(c:Operand->Value) (u:World),(∀i,i∈ts->c (.tmp i)=.agg zc.toArray)->(execOp c o).run prog u=.ok (.value (.slice (some ⟨u.heap.size,0,none⟩) m m)) (u.alloc (.cells ((List.replicate m zc).flatten).toArray e (0,0)))
theorem iR {P:Program} {o:Oper} {c:Act} {u u':World} {K:Act->World->Prop} {Q:Exit->Act->World->Prop} (hr:(execOp c.eval o).run P u=.ok (.value v) u') (hk:K (c.put o.dst v) u') (hg:o.guard=none:=by rfl) (ho:ops[i]?=some o:=by rfl):wpOp P ops Q i K c u :=
 wpOp_step ho fun K' hK=>by
  rw[if_pos (by simp [Region.wanted,hg])];unfold Oper.wp;rw[hr];exact hK _ _ hk
theorem a2b {listed:Array Bool} {U:World} (b z d l:Nat) (p:String) {s e sz n vc:Nat} {va:Option Addr} {V:World} {xs zc:List Value} {a:Act} {S:World->Prop} {Q:Exit->Act->World->Prop}
  (hS:∀u lits res,Stt V u 0 e sz (.slice va n vc) n xs zc lits res->S u/\∀o,S (u.alloc o)) (hT:TI s e sz) (hn:n<=1000000) (hzc:zc.length=sz) (hone:∀u,u∈zc->u.oneCell'=true) (st:Stt V U 0 e sz (.slice va n vc) n xs zc [] [(.slice va n vc,n)])
  (hQ:∀(x1 x2 x3:Nat) (a1 a2 a3:Option Addr) (c1 c2 c3:Nat) lits u,Stt V u 0 e sz (.slice va n vc) n xs zc lits [(.slice a3 (n+3) c3,n+3),(.slice a2 (n+2) c2,n+2),(.slice a1 (n+1) c1,n+1),(.slice va n vc,n)] ->
   Q .normal ((((((((a.put (some (b+3)) (.slice (some ⟨x1,0,none⟩) 1 1)).put (some (b+4)) (.slice a1 (n+1) c1)).put (some (b+8)) (.slice (some ⟨x2,0,none⟩) 2 2)).put (some (b+9)) (.slice a2 (n+2) c2)).put (some (b+14)) (.slice (some ⟨x3,0,none⟩) 3 3)).put (some (b+15)) (.slice a3 (n+3) c3)).put (some (b+16)) (.slice (some ⟨u.heap.size,0,none⟩) 4 4)).put (some d) (.slice (some ⟨u.heap.size,0,none⟩) 4 4)) (u.alloc (.cells #[.slice va n vc,.slice a1 (n+1) c1,.slice a2 (n+2) c2,.slice a3 (n+3) c3] s)))
  (ho:ops=a0d b s e l z d p:=by rfl) (hl:listed=bls false false false false false false false:=by kernel_rfl) (hsz:b+17<=a.tmps.size:=by simp) (hV:∀i,i∈[b,b+1,b+5,b+10]->a.eval (.tmp i)=.slice va n vc:=by simp only [List.forall_mem_cons];exact ⟨rfl,rfl,rfl,rfl,nofun⟩) (hZ:∀i,i∈[b+2,b+6,b+7,b+11,b+12,b+13]->a.eval (.tmp i)=.agg zc.toArray:=by simp only [List.forall_mem_cons];exact ⟨rfl,rfl,rfl,rfl,rfl,rfl,nofun⟩)
  (hb1:Bld ⟨some (b+3),.buildSlice s 1 #[(0,.tmp (b+2))],s,p,#[⟨2,.data⟩],none⟩ [b+2] zc e 1:=by intro c u h;simp only [List.forall_mem_cons,Nat.reduceAdd] at h;go_simp) (hb2:Bld ⟨some (b+8),.buildSlice s 2 #[(0,.tmp (b+6)),(1,.tmp (b+7))],s,p,#[⟨6,.data⟩,⟨7,.data⟩],none⟩ [b+6,b+7] zc e 2:=by intro c u h;simp only [List.forall_mem_cons,Nat.reduceAdd] at h;go_simp) (hb3:Bld ⟨some (b+14),.buildSlice s 3 #[(0,.tmp (b+11)),(1,.tmp (b+12)),(2,.tmp (b+13))],s,p,#[⟨11,.data⟩,⟨12,.data⟩,⟨13,.data⟩],none⟩ [b+11,b+12,b+13] zc e 3:=by intro c u h;simp only [List.forall_mem_cons,Nat.reduceAdd] at h;go_simp)
  (hb4:∀(c:Operand->Value) (u:World) (a1 a2 a3:Option Addr) (c1 c2 c3:Nat),c (.tmp b)=.slice va n vc->c (.tmp (b+4))=.slice a1 (n+1) c1->c (.tmp (b+9))=.slice a2 (n+2) c2->c (.tmp (b+15))=.slice a3 (n+3) c3->(execOp c ⟨some (b+16),.buildSlice l 4 #[(0,.tmp b),(1,.tmp (b+4)),(2,.tmp (b+9)),(3,.tmp (b+15))],l,p,#[⟨0,.data⟩,⟨4,.data⟩,⟨9,.data⟩,⟨15,.data⟩],none⟩).run prog u=.ok (.value (.slice (some ⟨u.heap.size,0,none⟩) 4 4)) (u.alloc (.cells #[.slice va n vc,.slice a1 (n+1) c1,.slice a2 (n+2) c2,.slice a3 (n+3) c3] s)):=by intro c u a1 a2 a3 c1 c2 c3 h1 h2 h3 h4;go_simp) :
  wpAnyH prog .any ops Q S 8 listed a U:=by
 subst ho hl;have ev:∀f i,i < b+17->(fil a f).eval (.tmp i)=(f i).getD (a.eval (.tmp i)):=fun f i hi=>a2x a f R4
 have eV:∀{o1 o2 o3 o4 o5 o6:Option Value} i,i∈[b,b+1,b+5,b+10]->(fil a (six b o1 o2 o3 o4 o5 o6)).eval (.tmp i)=.slice va n vc:=fun i hi=>by
  rw[<- hV i hi];simp only[List.mem_cons,List.mem_nil_iff,or_false] at hi;rw[ev _ _ R4,show six b _ _ _ _ _ _ i=none by unfold six;(repeat' split) <;> first | rfl | omega];rfl
 have eZ:∀{o1 o2 o3 o4 o5 o6:Option Value} i,i∈[b+2,b+6,b+7,b+11,b+12,b+13]->(fil a (six b o1 o2 o3 o4 o5 o6)).eval (.tmp i)=.agg zc.toArray:=fun i hi=>by
  rw[<- hZ i hi];simp only[List.mem_cons,List.mem_nil_iff,or_false] at hi;rw[ev _ _ R4,show six b _ _ _ _ _ _ i=none by unfold six;(repeat' split) <;> first | rfl | omega];rfl
 have H:∀(f:Nat) (x1 y1 x2 y2 x3 y3:Bool) (o1 o2 o3 o4 o5 o6:Option Value) (u:World) (lits:List (Nat × Nat)),(y1=true->x1=true)->(y2=true->x2=true/\y1=true)->(y3=true->x3=true/\y2=true)->x1.toNat+y1.toNat+x2.toNat+y2.toNat+x3.toNat+y3.toNat+f=6 ->
   (x1=true->Lit o1 1 lits)->(y1=true->Sli o2 (n+1))->(x2=true->Lit o3 2 lits)->(y2=true->Sli o4 (n+2))->(x3=true->Lit o5 3 lits)->(y3=true->Sli o6 (n+3)) ->
   Stt V u 0 e sz (.slice va n vc) n xs zc lits ((if y3 then [(o6.getD undef,n+3)] else [])++((if y2 then [(o4.getD undef,n+2)] else [])++((if y1 then [(o2.getD undef,n+1)] else [])++[(.slice va n vc,n)]))) ->
   wpAnyH prog .any (a0d b s e l z d p) Q S (f+2) (bls x1 y1 x2 y2 x3 y3 false) (fil a (six b o1 o2 o3 o4 o5 o6)) u:=by
  intro f
  induction f with
  | zero =>
   intro x1 y1 x2 y2 x3 y3 o1 o2 o3 o4 o5 o6 u lits h1 h2 h3 hc l1 s1 l2 s2 l3 s3 st
   cases y3
   ·exfalso;have:=x1.toNat_le;have:=y1.toNat_le;have:=x2.toNat_le;have:=y2.toNat_le;have:=x3.toNat_le;simp only [Bool.toNat_false] at hc;omega
   obtain⟨rfl,rfl⟩:=h3 rfl;obtain⟨rfl,rfl⟩:=h2 rfl;obtain rfl:=h1 rfl;obtain⟨k1,rfl,_⟩:=l1 rfl;obtain⟨k2,rfl,_⟩:=l2 rfl;obtain⟨k3,rfl,_⟩:=l3 rfl;obtain⟨a1,c1,rfl⟩:=s1 rfl;obtain⟨a2,c2,rfl⟩:=s2 rfl;obtain⟨a3,c3,rfl⟩:=s3 rfl;refine wpAnyH_ready (rs:=[16]) (rV b s e l z d p true true true true true true h1 h2 h3) R5 fun i hi=>?_
   obtain rfl:=List.mem_singleton.1 hi;refine iR (hb4 _ _ a1 a2 a3 c1 c2 c3 (eV _ R5) (by rw [ev _ _ R4];simp [six]) (by rw [ev _ _ R4];simp [six]) (by rw [ev _ _ R4];simp [six])) ⟨(hS _ _ _ st).2 _,?_⟩;have hr:Region.ready .any (a0d b s e l z d p) ((bls true true true true true true false).setIfInBounds 16 true)=[17]:=by kernel_rfl
   refine wpAnyH_ready hr R5 fun i hi=>?_
   obtain rfl:=List.mem_singleton.1 hi;refine iR (v:=.slice (some ⟨u.heap.size,0,none⟩) 4 4) (o:=⟨some d,.assign (.tmp (b+16)),l,p,_,none⟩) (u':=u.alloc (.cells #[.slice va n vc,.slice a1 (n+1) c1,.slice a2 (n+2) c2,.slice a3 (n+3) c3] s)) ?_ ⟨(hS _ _ _ st).2 _,wpAnyH_done Q7 ?_ _⟩
   ·show Result.ok (Next.value (Act.eval _ _)) _=_
    rw[pR,ev _ _ R4];simp
   ·have:=hQ k1 k2 k3 a1 a2 a3 c1 c2 c3 lits u st
    rwa [<- a3w] at this
  | succ f ih =>
   intro x1 y1 x2 y2 x3 y3 o1 o2 o3 o4 o5 o6 u lits h1 h2 h3 hc l1 s1 l2 s2 l3 s3 st;have hr:=rV b s e l z d p x1 y1 x2 y2 x3 y3 h1 h2 h3;have mo:∀{o:Option Value} {m:Nat} {q:Nat × Nat},Lit o m lits->Lit o m (q::lits):=fun ⟨k,h,h'⟩=>⟨k,h,List.mem_cons_of_mem _ h'⟩
   refine wpAnyH_ready hr (fun h0=>?_) fun i hi=>?_
   ·cases x1 <;> cases y1 <;> cases x2 <;> cases y2 <;> cases x3 <;> cases y3 <;> first | exact absurd h0 R5 | (simp only [Bool.toNat_true] at hc;omega)
   have kk:∀{L:Array Bool} {c c':Act} {u:World},c=c'->wpAnyH prog .any (a0d b s e l z d p) Q S (f+2) L c' u->wpAnyH prog .any (a0d b s e l z d p) Q S (f+2) L c u:=fun h k=>h▸k
   rcases a5O hi with ⟨rfl,rfl⟩ | ⟨rfl,rfl,rfl⟩ | ⟨rfl,rfl⟩ | ⟨rfl,rfl,rfl,rfl⟩ | ⟨rfl,rfl⟩ | ⟨rfl,rfl,rfl,rfl⟩ | rfl
   ·exact iR (hb1 _ u fun i hi=>eZ i (by simp at hi ⊢;omega)) ⟨(hS _ _ _ st).2 _,kk (fC fun i=>by unfold six;(repeat' split) <;> first | rfl | omega) (ih true y1 x2 y2 x3 y3 _ _ _ _ _ _ _ _ (fun _=>rfl) h2 h3 (by simp at hc ⊢;omega) (fun _=>⟨_,rfl,List.mem_cons_self ..⟩) s1 (fun h=>mo (l2 h)) s2 (fun h=>mo (l3 h)) s3 (st.build 1))⟩
   ·obtain rfl:y2=false:=Bool.eq_false_iff.2 fun h=>by cases (h2 h).2
    obtain rfl:y3=false:=Bool.eq_false_iff.2 fun h=>by cases (h3 h).2
    obtain⟨k,rfl,hk⟩:=l1 rfl;exact wpOp_step (o:=⟨some (b+4),.call ⟨.builtin .append,#[.tmp (b+1),.tmp (b+3)],#[s,s]⟩,s,p,#[⟨1,.data⟩,⟨3,.data⟩],none⟩) rfl fun K hK=>st.step hT rfl (.tmp (b+1)) (.tmp (b+3)) rfl (eV _ R5) k 1 (by rw [ev _ _ R4];simp [six]) hk R3 R3 hn hzc hone fun a' c' w' s'=>hK _ _ ⟨(hS _ _ _ s').1,kk (fC fun i=>by unfold six;(repeat' split) <;> first | rfl | omega) (ih true true x2 false x3 false _ _ _ _ _ _ _ _ (fun _=>rfl) nofun nofun (by simp at hc ⊢;omega) l1 (fun _=>⟨_,_,rfl⟩) l2 s2 l3 s3 s')⟩
   ·exact iR (hb2 _ u fun i hi=>eZ i (by simp at hi ⊢;omega)) ⟨(hS _ _ _ st).2 _,kk (fC fun i=>by unfold six;(repeat' split) <;> first | rfl | omega) (ih x1 y1 true y2 x3 y3 _ _ _ _ _ _ _ _ h1 (fun h=>⟨rfl,(h2 h).2⟩) h3 (by simp at hc ⊢;omega) (fun h=>mo (l1 h)) s1 (fun _=>⟨_,rfl,List.mem_cons_self ..⟩) s2 (fun h=>mo (l3 h)) s3 (st.build 2))⟩
   ·obtain rfl:=h1 rfl
    obtain rfl:y3=false:=Bool.eq_false_iff.2 fun h=>by cases (h3 h).2
    obtain⟨k,rfl,hk⟩:=l2 rfl;exact wpOp_step (o:=⟨some (b+9),.call ⟨.builtin .append,#[.tmp (b+5),.tmp (b+8)],#[s,s]⟩,s,p,#[⟨5,.data⟩,⟨8,.data⟩,⟨4,.chain⟩],none⟩) rfl fun K hK=>st.step hT rfl (.tmp (b+5)) (.tmp (b+8)) rfl (eV _ R5) k 2 (by rw [ev _ _ R4];simp [six]) hk R3 R3 hn hzc hone fun a' c' w' s'=>hK _ _ ⟨(hS _ _ _ s').1,kk (fC fun i=>by unfold six;(repeat' split) <;> first | rfl | omega) (ih true true true true x3 false _ _ _ _ _ _ _ _ h1 (fun _=>⟨rfl,rfl⟩) nofun (by simp at hc ⊢;omega) l1 s1 l2 (fun _=>⟨_,_,rfl⟩) l3 s3 s')⟩
   ·exact iR (hb3 _ u fun i hi=>eZ i (by simp at hi ⊢;omega)) ⟨(hS _ _ _ st).2 _,kk (fC fun i=>by unfold six;(repeat' split) <;> first | rfl | omega) (ih x1 y1 x2 y2 true y3 _ _ _ _ _ _ _ _ h1 h2 (fun h=>⟨rfl,(h3 h).2⟩) (by simp at hc ⊢;omega) (fun h=>mo (l1 h)) s1 (fun h=>mo (l2 h)) s2 (fun _=>⟨_,rfl,List.mem_cons_self ..⟩) s3 (st.build 3))⟩
   ·obtain ⟨rfl,rfl⟩:=h2 rfl
    obtain rfl:=h1 rfl;obtain⟨k,rfl,hk⟩:=l3 rfl;exact wpOp_step (o:=⟨some (b+15),.call ⟨.builtin .append,#[.tmp (b+10),.tmp (b+14)],#[s,s]⟩,s,p,#[⟨10,.data⟩,⟨14,.data⟩,⟨9,.chain⟩],none⟩) rfl fun K hK=>st.step hT rfl (.tmp (b+10)) (.tmp (b+14)) rfl (eV _ R5) k 3 (by rw [ev _ _ R4];simp [six]) hk R3 R3 hn hzc hone fun a' c' w' s'=>hK _ _ ⟨(hS _ _ _ s').1,kk (fC fun i=>by unfold six;(repeat' split) <;> first | rfl | omega) (ih true true true true true true _ _ _ _ _ _ _ _ h1 h2 (fun _=>⟨rfl,rfl⟩) (by simp at hc ⊢;omega) l1 s1 l2 s2 l3 (fun _=>⟨_,_,rfl⟩) s')⟩
   ·obtain ⟨rfl,rfl⟩:=h3 rfl
    obtain⟨rfl,rfl⟩:=h2 rfl;obtain rfl:=h1 rfl;simp only[Bool.toNat_true] at hc;omega
 have:=H 6 false false false false false false none none none none none none U [] nofun nofun nofun rfl nofun nofun nofun nofun nofun nofun st;rwa [show fil a (six b none none none none none none)=a by cases a;simp only [fil,six,ite_self,Option.getD_none,Act.mk.injEq,and_true];exact Array.ext R5 fun i h1 h2=>by simp] at this
theorem uX {V ww:World} {e sz s n vc:Nat} {va a1 a2 a3:Option Addr} {c1 c2 c3:Nat} {xs zc:List Value} {lits:List (Nat × Nat)} {zv:Nat->Value} (hS:Stt V ww 0 e sz (.slice va n vc) n xs zc lits [(.slice a3 (n+3) c3,n+3),(.slice a2 (n+2) c2,n+2),(.slice a1 (n+1) c1,n+1),(.slice va n vc,n)]) :
  ∃(vs:List (Value × Nat)) (nb:Nat) (W4:World),nb=ww.heap.size/\W4=ww.alloc (.cells #[.slice va n vc,.slice a1 (n+1) c1,.slice a2 (n+2) c2,.slice a3 (n+3) c3] s)/\Hid (Wr W4 W4 e sz zv vs 0 0)/\vs.length=4/\Hid (W4.heap[nb]?=some (.cells (vs.map Prod.fst).toArray s (0,0)))/\Hid (∀p,p∈vs->p.1.ownBlock≠some nb) /\
   Hid (∀k,k < V.heap.size->(Value.slice va n vc).ownBlock≠some k->∀p,p∈vs->p.1.ownBlock≠some k)/\Hid (∀k,k < V.heap.size->(Value.slice va n vc).ownBlock≠some k->W4.heap[k]?=V.heap[k]?)/\Hid (∀p,p∈vs->p.2<=n+3)/\Hid (vs=[(.slice a3 (n+3) c3,n+3),(.slice a2 (n+2) c2,n+2),(.slice a1 (n+1) c1,n+1),((.slice va n vc:Value),n)].reverse)/\Hid (nb=ww.heap.size)/\Hid (W4.heap.size=ww.heap.size+1)/\Hid (ww.alloc (.cells (vs.map Prod.fst).toArray s (0,0))=W4):=by
 have xb:=hS.size;have HM:∀p,p∈[(.slice a3 (n+3) c3,n+3),(.slice a2 (n+2) c2,n+2),(.slice a1 (n+1) c1,n+1),((.slice va n vc:Value),n)].reverse->p∈[(.slice a3 (n+3) c3,n+3),(.slice a2 (n+2) c2,n+2),(.slice a1 (n+1) c1,n+1),((.slice va n vc:Value),n)]:=fun p hp=>List.mem_reverse.1 hp
 refine⟨_,_,_,rfl,rfl,hid (Wr.start fun p hp=>(hS.res p (HM p hp)).1.block fun b hb=>Below.heap_alloc _ _ _ ?_),rfl,hid (heap_alloc_new ww _),hid fun p hp hb=>?_,hid fun k hk hn p hp hb=>?_,hid fun k hk hn=>(Below.heap_alloc _ _ _ R4).trans (hS.keep k hk hn),hid fun p hp=>?_,hid rfl,hid rfl,hid R5,hid rfl⟩
 ·obtain ⟨ys,xa⟩:=(hS.res p (HM p hp)).1
  exact (xa.lt b hb).2
 ·obtain ⟨ys,xa⟩:=(hS.res p (HM p hp)).1
  have:=(xa.lt _ hb).2;omega
 ·rcases (hS.res p (HM p hp)).2 k hb with h | h
  ·exact hn h
  ·omega
 ·simp at hp
  rcases hp with h | h | h | h <;> rw [h] <;> simp
end
end Go.Proofs.YtbkmgoffiigdbaaGreatDoor
