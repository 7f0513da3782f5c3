import Derived.Deep.RegionHeld
import Derived.KernelRfl
import Derived.Test.YtbkmgoffiigdbaaGreatDoorVFb
import Derived.Test.YtbkmgoffiigdbaaGreatDoorVBa
import Derived.Deep.DeepAppendRoom
namespace Go.Proofs.YtbkmgoffiigdbaaGreatDoor

section
variable {α:Type}
theorem T1 (l:List α) (i:Nat) (a:α):l.toArray.setIfInBounds i a=(l.set i a).toArray:=List.setIfInBounds_toArray ..
theorem T2 (x:α) (xs:List α) (a:α):(x::xs).set 0 a=a::xs:=rfl
theorem T3 (x:α) (xs:List α) (i:Nat) (a:α):(x::xs).set (i+1) a=x::xs.set i a:=rfl
section
variable {P:Program} {ops:Array Oper} {Q:Exit->Act->World->Prop} {md:Region.Mode} {S:World->Prop} {fuel:Nat} {listed:Array Bool} {a:Act} {w:World}
theorem TK (i:Nat) (oi:Oper) (v:Value) (hy:∀w,S w->(execOp a.eval oi).run P w=.ok (.value v) w) (h:wpAnyH P md ops Q S fuel (listed.setIfInBounds i true) (a.put oi.dst v) w) (hi:ops[i]?=some oi:=by rfl) (hs:Region.noSelect ops=true:=by kernel_rfl) (hf:Region.free md ops listed i=true:=by kernel_rfl) (hr:(Region.ready md ops listed).contains i=true:=by kernel_rfl) (hQ:∀c a w,Q (.panic c) (a.put oi.dst v) w->Q (.panic c) a w:=by exact fun _ _ _ h=>h) (hg:Region.wanted oi (yielded ops a.tmps)=true:=by rfl) (hS:S w:=by assumption):wpAnyH P md ops Q S (fuel+1) listed a w :=
 wpAnyH_take hi hs hf hr hQ (Or.inl ⟨hg,hy⟩) hS h
theorem TW (i:Nat) (oi:Oper) {v:Value} {a':Act} (h:wpAnyH P md ops Q S fuel (listed.setIfInBounds i true) a' w) (hy:∀w,S w->(execOp a.eval oi).run P w=.ok (.value v) w:=by intro wq hSw;(try dsimp only at hSw);go_simp;try with_reducible rfl) (hp:a.put oi.dst v=a':=by (try simp only [Act.put,T1,T2,T3]);exact rfl) (hi:ops[i]?=some oi:=by rfl) (hs:Region.noSelect ops=true:=by kernel_rfl) (hf:Region.free md ops listed i=true:=by kernel_rfl) (hr:(Region.ready md ops listed).contains i=true:=by kernel_rfl) (hQ:∀c a w,Q (.panic c) (a.put oi.dst v) w->Q (.panic c) a w:=by exact fun _ _ _ h=>h) (hg:Region.wanted oi (yielded ops a.tmps)=true:=by rfl) (hS:S w:=by assumption):wpAnyH P md ops Q S (fuel+1) listed a w :=
 wpAnyH_take hi hs hf hr hQ (Or.inl ⟨hg,hy⟩) hS (hp▸h)
theorem TS (i:Nat) (oi:Oper) (h:wpAnyH P md ops Q S fuel (listed.setIfInBounds i true) (a.put oi.dst undef) w) (hi:ops[i]?=some oi:=by rfl) (hs:Region.noSelect ops=true:=by kernel_rfl) (hf:Region.free md ops listed i=true:=by kernel_rfl) (hr:(Region.ready md ops listed).contains i=true:=by kernel_rfl) (hQ:∀c a w,Q (.panic c) (a.put oi.dst undef) w->Q (.panic c) a w:=by exact fun _ _ _ h=>h) (hg:Region.wanted oi (yielded ops a.tmps)=false:=by rfl) (hS:S w:=by assumption):wpAnyH P md ops Q S (fuel+1) listed a w :=
 wpAnyH_take hi hs hf hr hQ (Or.inr ⟨hg,rfl⟩) hS h
theorem TO (i:Nat) (o:Oper) (h:∀K':Act->World->Prop,Shut (∀a w,S w->(S w->wpAnyH P md ops Q S fuel (listed.setIfInBounds i true) a w)->K' a w)->if Region.wanted o (yielded ops a.tmps)=true then Oper.wp P o a w K' Q else K' (a.put o.dst undef) w) (ho:ops[i]?=some o:=by rfl) (hr:Region.ready md ops listed=[i]:=by kernel_rfl):wpAnyH P md ops Q S (fuel+1) listed a w :=
 wpAnyH_ready hr (by simp) (AllReadyH.cons ho h AllReadyH.nil)
end
theorem TG {K Z:Act->World->Prop} {a a':Act} {w:World} {S:World->Prop} (hK:Shut (∀a w,S w->(S w->Z a w)->K a w)) (hS:S w) (h:S w->Z a' w) (hp:a=a':=by (try simp only [Act.put,T1,T2,T3]);exact rfl):K a w:=hK.out _ _ hS (fun s=>hp▸h s)
end
open Go.RowKit Go.Sort
end Go.Proofs.YtbkmgoffiigdbaaGreatDoor
namespace Go.Proofs.YtbkmgoffiigdbaaGreatDoor
open Go.RowKit Go.Sort
theorem bD {w:World} {B B' e e' sz sz' n n':Nat} {v v':Value} {xs xs':List Value} (h:w.ownsRow B e sz v n xs) (h':w.ownsRow B' e' sz' v' n' xs') (hne:e≠e'):∀b,v.ownBlock=some b->v'.ownBlock≠some b:=fun b hb hb'=>by
 rcases h.2 with ⟨h0,_⟩ | ⟨g1,c1,xf,xc,_,xb,_⟩
 ·rw [h0] at hb;cases hb
 ·rcases h'.2 with ⟨h0,_⟩ | ⟨g2,c2,xe,xd,_,xa,_⟩
  ·rw [h0] at hb';cases hb'
  ·rw [xc] at hb
   rw[xd] at hb';obtain rfl:g1=b:=by simpa [Value.ownBlock] using hb
   obtain rfl:g2=g1:=by simpa [Value.ownBlock] using hb'
   rw[xb] at xa;have:=L5b xa;simp at this;exact hne this.2
section
variable {B e n sz:Nat} {P:Program} {w:World}
def Has (w:World) (B e sz:Nat) (v:Value) (n:Nat):Prop:=∃xs,w.ownsRow B e sz v n xs
theorem Has.block {w':World} {v:Value} (h:Has w B e sz v n) (hb:∀b,v.ownBlock=some b->w'.heap[b]?=w.heap[b]?):Has w' B e sz v n:=by
 obtain⟨xs,hx⟩:=h;exact⟨xs,A6 hx hb⟩
theorem a3d {m c:Nat} {a:Option Addr} {xs ys:List Value} (hx:xs.length=n*sz) (h:w.ownsRow B e sz (.slice a (n+m) c) (n+m) (xs++ys)) (ha:∃g,a=some ⟨g,0,none⟩):w.ownsRow B e sz (.slice a n c) n xs:=by
 rcases h.2 with ⟨h0,_⟩ | ⟨g,xb,xa,hv,h1,h2,h3,h4,h5,h6⟩
 ·obtain ⟨g,rfl⟩:=ha
  cases h0
 ·cases hv
  refine⟨hx,L4b ⟨g,c,xa,rfl,h1,h2,by omega,h4,h5,?_⟩⟩;have:(xa.toList.take ((n+m)*sz)).take (n*sz)=xs:=by
   rw[h6,<- hx];exact List.take_left
  rw[List.take_take] at this;rwa [Nat.min_eq_left (Nat.mul_le_mul_right _ R5)] at this
theorem mX (w:World) (base:Nat) (t ty e:TypeId) (i:TypeInfo) (z:Value) (size bytes:Nat) (ht:P.underlying t=some (.slice e)) (hi:P.info? e=some i) (hz:i.zero=some z)
  (hsize:i.size=size) (hby:i.bytes=bytes) (hzs:z.cells.size=size) (hsz:0 < size)
  (v:Value) (n:Nat) (xs:List Value) (hown:w.ownsRow base e size v n xs)
  (a:Addr) (m c:Nat) (hm:0 < m) (news:List Value) (hl:news.length=m*size) (hnews:∀j u,news[j]?=some u->w.cell? (a.add j)=some u) (h1:∀u∈news,u.oneCell'=true)
  (h63:n+m<=maxLen) (hbytes:(n+m)*bytes<=140737488355328) (hbase:base<=w.heap.size) :
  ∃v' w',(Builtin.append_ #[t,t] ty #[v,.slice (some a) m c]).run P w=.ok v' w'/\w'.ownsRow base e size v' (n+m) (xs++news)/\w'.ownsRow base e size v n xs/\w.grownBy w' v.ownBlock /\
   (∀g,v'.ownBlock=some g->v.ownBlock=some g\/g=w.heap.size)/\∀B2 v2 n2,Has w B2 e size v2 n2->Has w' B2 e size v2 n2:=by
 rcases hown.2 with ⟨rfl,rfl⟩ | ⟨g,cap,xm,rfl,xv,hg,xy,xz,xo,xi⟩
 ·obtain ⟨v',w',h2,h3,h4,h5⟩:=run_append_own (P:=P) w base t ty e i z size bytes ht hi hz hsize hby hzs hsz zD 0 xs hown a m c news hl hnews h1 h63 hbytes hbase
  subst hsize;subst hby;have hx:xs=[]:=List.eq_nil_of_length_eq_zero (by simpa using hown.1);subst hx;have hr:=run_append_nil (P:=P) w t ty e i z ht hi hz a m c news hl hnews R5 (by simp only [maxLen] at h63;omega) (by have hb:=hbytes;simp only [Nat.zero_add] at hb;omega);rw[hr] at h2;have xe:v'=.slice (zA w.heap.size) m (grownCap w m 0 e):=by
   have:=h2;simp only [Result.ok.injEq] at this;exact this.1.symm
  refine⟨v',w',hr.trans h2,h3,World.ownsRow_nil _ _ _ _,h4,fun g hgg=>L4b ?_,fun B2 v2 n2 hh=>hh.block fun b hb=>h4.block b ?_ (by simp [Value.ownBlock])⟩
  ·rw [xe] at hgg;simpa [Value.ownBlock] using hgg.symm
  ·obtain ⟨ys,hy⟩:=hh
   exact (hy.lt b hb).2
 ·by_cases hroom:n+m<=cap
  ·obtain ⟨w',h2,h3,h4⟩:=run_append_own_spare (P:=P) w base t ty e i size ht hi hsize g n cap xs hown a m c news hl hnews h1 hroom
   refine⟨_,w',h2,h3,a3d hown.1 h3 ⟨g,rfl⟩,h4,fun g' hgg=>L4a hgg,fun B2 v2 n2 hh=>?_⟩;obtain⟨ys,hy⟩:=hh;by_cases hb:v2.ownBlock=some g
   ·rcases hy.2 with ⟨h0,_⟩ | ⟨g2,xc,cur2,xg,xt,xj,xk,xu,xq,xw⟩
    ·rw [h0] at hb;cases hb
    ·rw [xg] at hb
     obtain rfl:g2=g:=by simpa [Value.ownBlock] using hb
     rw[hg] at xj;have xn:xm=cur2:=by have:=L5b xj;simpa using this
     subst xn;have xf:xc=cap:=Nat.eq_of_mul_eq_mul_right hsz (xq.symm.trans xo);subst xf;rcases h3.2 with ⟨h0,_⟩ | ⟨g3,xp,xb,xr,yc,xl,yb,xx,xh,ya⟩
     ·cases h0
     ·cases xr
      refine⟨xb.toList.take (n2*size),?_,L4b ⟨g2,xc,xb,xg,xt,xl,xk,xu,xh,rfl⟩⟩;rw[List.length_take,Array.length_toList,xh];exact Nat.min_eq_left (Nat.mul_le_mul_right _ xk)
   ·exact Has.block ⟨ys,hy⟩ fun b hb'=>h4.block b (hy.lt b hb').2 fun e=>hb (by rw [hb',e])
  ·subst hsize
   subst hby;have xd:∀j u,xs[j]?=some u->w.cell? ((⟨g,0,none⟩:Addr).add j)=some u:=hown.cells (g:=g) rfl
   have hr:=run_append_grow (P:=P) w t ty e i z ht hi hz ⟨g,0,none⟩ n cap xs hown.1 xd a m c news hl hnews R5 (by simp only [maxLen] at h63;omega) (growslice_fits R5 hbytes);obtain⟨v',w',h2,h3,h4,h5⟩:=run_append_own (P:=P) w base t ty e i z i.size i.bytes ht hi hz rfl rfl hzs hsz (.slice (zA g) n cap) n xs hown a m c news hl hnews h1 h63 hbytes hbase;rw[hr] at h2;have xe:=h2
   simp only[Result.ok.injEq] at xe;have xa:∀k,k < w.heap.size->w'.heap[k]?=w.heap[k]?:=fun k hk=>by rw [<- xe.2];exact Below.heap_alloc w.drew _ k hk
   refine⟨v',w',hr.trans h2,h3,A6 hown fun b hb=>xa b (hown.lt b hb).2,h4,fun g' hgg=>L4b ?_,fun B2 v2 n2 hh=>?_⟩
   ·rw [<- xe.1] at hgg;simpa [Value.ownBlock] using hgg.symm
   ·obtain ⟨ys,hy⟩:=hh
    exact Has.block ⟨ys,hy⟩ fun b hb'=>xa b (hy.lt b hb').2
theorem Z3 (w:World) {ops:Array Oper} {rest:List Oper} {o:Oper} {a:Act} {Q:Exit->Act->World->Prop} (hgd:o.guard=none) (s x:Operand) (t:TypeId)
  (ho:o.op=.call { callee:=.builtin .append,args:=#[s,x],argTypes:=#[t,t] })
  (base:Nat) (e:TypeId) (i:TypeInfo) (z:Value) (size bytes:Nat) (ht:P.underlying t=some (.slice e)) (hi:P.info? e=some i) (hz:i.zero=some z)
  (hsize:i.size=size) (hby:i.bytes=bytes) (hzs:z.cells.size=size) (hsz:0 < size)
  (v:Value) (n:Nat) (xs:List Value) (hs:a.eval s=v) (hown:w.ownsRow base e size v n xs)
  (ad:Addr) (m c:Nat) (hm:0 < m) (news:List Value) (hx:a.eval x=.slice (some ad) m c) (hl:news.length=m*size) (hnews:∀j u,news[j]?=some u->w.cell? (ad.add j)=some u) (h1:∀u∈news,u.oneCell'=true)
  (h63:n+m<=maxLen) (hbytes:(n+m)*bytes<=140737488355328) (hbase:base<=w.heap.size)
  (h:∀v' w',w'.ownsRow base e size v' (n+m) (xs++news)->w'.ownsRow base e size v n xs->w.grownBy w' v.ownBlock->(∀g,v'.ownBlock=some g->v.ownBlock=some g\/g=w.heap.size)->(∀B2 v2 n2,Has w B2 e size v2 n2->Has w' B2 e size v2 n2)->wpList P ops Q rest (a.put o.dst v') w'):wpList P ops Q (o::rest) a w:=by
 refine wpList_plain hgd fun _ hK=>?_
 obtain⟨v',w',hr,h2,h3,h4,h5,h6⟩:=mX (P:=P) w base t o.type e i z size bytes ht hi hz hsize hby hzs hsz v n xs hown ad m c hm news hl hnews h1 h63 hbytes hbase;unfold Oper.wp execOp;simp only[ho,resolve,invoke,builtin,Sem.run_bind,Sem.run_pure,Result.andThen_ok,List.map_toArray,List.map_cons,List.map_nil,hs,hx,hr];exact hK _ _ (h v' w' h2 h3 h4 h5 h6)
end
end Go.Proofs.YtbkmgoffiigdbaaGreatDoor
namespace Go.Proofs.YtbkmgoffiigdbaaGreatDoor

open Go.RowKit Go.Sort
end Go.Proofs.YtbkmgoffiigdbaaGreatDoor
