import Derived.Test.YtbkmgoffiigdbaaGreatDoorVEf
import Derived.Lib.AppendZeros
namespace Go.Proofs.YtbkmgoffiigdbaaGreatDoor
open Go.RowKit Go.Sort Go.Proofs.Tryz
set_option maxHeartbeats 4000000
set_option maxRecDepth 100000
def Y8 (w:World) (a:Option Addr) (l:List Nat):Prop:=0 < l.length->∃b,a=some ⟨b,0,none⟩/\b < w.heap.size/\∀(i x:Nat),l[i]?=some x->w.cell? ⟨b,i,none⟩=some (J (x:Int))
theorem a2G (a:Option Addr) (l:List Nat) (c x:Nat) (w:World) (hl:l.length<=1000) (hs:Y8 w a l) :
  Calls prog 197 #[.slice a l.length c,J (x:Int)] w fun e w'=>(∃r:Int,e=.returned (J r)/\(0<=r↔x∈l))/\L0d w w':=by
 have HS:=hid hs;clear hs;go_enter func197,ntmps197;go_wp2_with fail;go_loopw [8] (fun v wr=>∃i:Nat,i<=l.length/\v=J i/\x∉l.take i/\L0d w wr) (fun v _=>l.length - (intOf v).toNat)
 case atStart=>exact ⟨0,L4c _,rfl,by simp,L3b _ _⟩
 case round =>
  obtain⟨i,hi,rfl,xc,xa⟩:=hrel;have xb:=hid xa;have xd:=hid xc;by_cases hlt:i < l.length
  ·obtain ⟨b,rfl,hb,hc⟩:=HS.out R5
   obtain⟨y,hy⟩:∃y,l[i]?=some y:=⟨_,L1b hlt⟩
   have k0:=(xa.cell (p:=⟨b,i,none⟩) hb).trans (hc i y hy);have xe:b < wr.heap.size:=L0a hb xa.size;have HY:=hid hy;clear hc xa xc hy
   cases hxy:((x:Int) == (y:Int))
   ·go_wp2_with fail
    go_roundw
    case rel=>exact ⟨i+1,by omega,by go_num,by
     rw[List.take_add_one,HY.out];simp only[Option.toList_some,List.mem_append,List.mem_singleton,not_or];exact⟨xd.out,fun e=>by subst e;simp at hxy⟩,by repeat (first | exact xb.out | refine L3c ?_ | refine Below.drewQ ?_ _)⟩
    case measure=>simp [intOf];omega
   ·go_wp2_with fail
    go_ret;refine⟨⟨(i:Int),rfl,⟨fun _=>?_,fun _=>by omega⟩⟩,by repeat (first | exact xb.out | refine L3c ?_ | refine Below.drewQ ?_ _)⟩;have:x=y:=by have:=beq_iff_eq.1 hxy;omega
    rw[this];exact L2a HY.out
  ·obtain rfl:i=l.length:=by omega
   clear xa xc;go_wp2_with fail;go_ret;refine⟨⟨-1,rfl,⟨fun h=>by omega,fun h=>?_⟩⟩,xb.out⟩;have:=xd.out;rw[List.take_length] at this;exact absurd h this
section
variable {P:Program}
theorem jH (w:World) (t ty:TypeId) (base:Nat) (e:TypeId) (i:TypeInfo) (size:Nat) (ht:P.underlying t=some (.slice e)) (hi:P.info? e=some i) (v:Value) (n:Nat) (xs:List Value) (hown:w.ownsRow base e size v n xs) (a:Option Addr) (c:Nat) :
  (Builtin.append_ #[t,t] ty #[v,.slice a 0 c]).run P w=.ok v w:=by
 have hv:(v=.slice none 0 0/\n=0)\/∃g cap,v=.slice (zA g) n cap/\n<=cap:=by
  rcases hown.2 with h | ⟨g,cap,cur,h1,_,_,h2,_⟩
  ·exact L4a h
  ·exact L4b ⟨g,cap,h1,h2⟩
 have hf:(Builtin.firstCells i.size 0 (.slice a 0 c)).run P w=.ok #[] w:=by
  cases a with
  | none=>simp [Builtin.firstCells]
  | some ad=>simpa using run_firstCells_some (P:=P) w i.size 0 ad 0 c [] R6 R6
 rcases hv with ⟨rfl,rfl⟩ | ⟨g,cap,rfl,xa⟩
 ·simp [Builtin.append_,run_underlying ht,sizeOf,typeInfo,hi,Builtin.lenOf,hf]
 ·simp [Builtin.append_,run_underlying ht,sizeOf,typeInfo,hi,Builtin.lenOf,hf,xa,storeCells]
theorem pX (w:World) (t ty:TypeId) (base:Nat) (e:TypeId) (i:TypeInfo) (z:Value) (size bytes:Nat) (ht:P.underlying t=some (.slice e)) (hi:P.info? e=some i) (hz:i.zero=some z)
  (hsize:i.size=size) (hby:i.bytes=bytes) (hzs:z.cells.size=size) (hsz:0 < size) (v:Value) (n:Nat) (xs:List Value) (hown:w.ownsRow base e size v n xs)
  (a:Option Addr) (m c:Nat) (news:List Value) (hl:news.length=m*size) (hnews:0 < m->∃ad,a=some ad/\∀j u,news[j]?=some u->w.cell? (ad.add j)=some u) (h1:∀u∈news,u.oneCell'=true)
  (h63:n+m<=maxLen) (hbytes:(n+m)*bytes<=140737488355328) (hbase:base<=w.heap.size) :
  ∃v' w',(Builtin.append_ #[t,t] ty #[v,.slice a m c]).run P w=.ok v' w'/\w'.ownsRow base e size v' (n+m) (xs++news)/\w.grownBy w' v.ownBlock/\∀g,v'.ownBlock=some g->v.ownBlock=some g\/g=w.heap.size:=by
 rcases Nat.eq_zero_or_pos m with rfl | hm
 ·have h0:news=[]:=List.length_eq_zero_iff.1 R5
  subst h0;exact⟨v,w,jH w t ty base e i size ht hi v n xs hown a c,by simpa using hown,⟨rfl,rfl,rfl,L1c _,fun _ _ _=>rfl⟩,fun _ h=>L4a h⟩
 ·obtain ⟨ad,rfl,hc⟩:=hnews hm
  obtain⟨g,xa,w',hr,h2,h3,h4,_⟩:=run_append_lies (P:=P) w t ty base e i z size bytes ht hi hz hsize hby hzs hsz v n xs hown ad m c news hl hc h1 hm h63 hbytes hbase _ rfl
  exact⟨_,w',hr,h2,h3,fun b hb=>by obtain rfl:g=b:=by simpa [Value.ownBlock] using hb
                                   exact h4⟩
theorem dV (w:World) {o:Oper} {a:Act} {K:Act->World->Prop} {Q:Exit->Act->World->Prop} (s x:Operand) (t:TypeId)
  (ho:o.op=.call { callee:=.builtin .append,args:=#[s,x],argTypes:=#[t,t] })
  (base:Nat) (e:TypeId) (i:TypeInfo) (z:Value) (size bytes:Nat) (ht:P.underlying t=some (.slice e)) (hi:P.info? e=some i) (hz:i.zero=some z)
  (hsize:i.size=size) (hby:i.bytes=bytes) (hzs:z.cells.size=size) (hsz:0 < size)
  (v:Value) (n:Nat) (xs:List Value) (hs:a.eval s=v) (hown:w.ownsRow base e size v n xs)
  (ad:Option Addr) (m c:Nat) (news:List Value) (hx:a.eval x=.slice ad m c) (hl:news.length=m*size) (hnews:0 < m->∃d,ad=some d/\∀j u,news[j]?=some u->w.cell? (d.add j)=some u) (h1:∀u∈news,u.oneCell'=true)
  (h63:n+m<=maxLen) (hbytes:(n+m)*bytes<=140737488355328) (hbase:base<=w.heap.size)
  (h:∀v' w',w'.ownsRow base e size v' (n+m) (xs++news)->w.grownBy w' v.ownBlock->(∀g,v'.ownBlock=some g->v.ownBlock=some g\/g=w.heap.size)->K (a.put o.dst v') w'):o.wp P a w K Q:=by
 obtain⟨v',w',hr,h2,h3,h4⟩:=pX (P:=P) w t o.type base e i z size bytes ht hi hz hsize hby hzs hsz v n xs hown ad m c news hl hnews h1 h63 hbytes hbase;unfold Oper.wp execOp;simp only[ho,resolve,invoke,builtin,Sem.run_bind,Sem.run_pure,Result.andThen_ok,List.map_toArray,List.map_cons,List.map_nil,hs,hx,hr];exact h v' w' h2 h3 h4
theorem A8 (w:World) {ops:Array Oper} {rest:List Oper} {o:Oper} {a:Act} {Q:Exit->Act->World->Prop} (hgd:o.guard=none) (s x:Operand) (t:TypeId)
  (ho:o.op=.call { callee:=.builtin .append,args:=#[s,x],argTypes:=#[t,t] })
  (base:Nat) (e:TypeId) (i:TypeInfo) (z:Value) (size bytes:Nat) (ht:P.underlying t=some (.slice e)) (hi:P.info? e=some i) (hz:i.zero=some z)
  (hsize:i.size=size) (hby:i.bytes=bytes) (hzs:z.cells.size=size) (hsz:0 < size)
  (v:Value) (n:Nat) (xs:List Value) (hs:a.eval s=v) (hown:w.ownsRow base e size v n xs)
  (ad:Option Addr) (m c:Nat) (news:List Value) (hx:a.eval x=.slice ad m c) (hl:news.length=m*size) (hnews:0 < m->∃d,ad=some d/\∀j u,news[j]?=some u->w.cell? (d.add j)=some u) (h1:∀u∈news,u.oneCell'=true)
  (h63:n+m<=maxLen) (hbytes:(n+m)*bytes<=140737488355328) (hbase:base<=w.heap.size)
  (h:∀v' w',w'.ownsRow base e size v' (n+m) (xs++news)->w.grownBy w' v.ownBlock->(∀g,v'.ownBlock=some g->v.ownBlock=some g\/g=w.heap.size)->wpList P ops Q rest (a.put o.dst v') w'):wpList P ops Q (o::rest) a w :=
 wpList_plain hgd fun _ hK=>dV w s x t ho base e i z size bytes ht hi hz hsize hby hzs hsz v n xs hs hown ad m c news hx hl hnews h1 h63 hbytes hbase fun v' w' h2 h3 h4=>hK _ _ (h v' w' h2 h3 h4)
end
section
variable {W w:World} {v:Value}
def O1 (l:List FrR):List Val:=l.flatMap fun f=>f.loc++f.stk
theorem mQ (l:List FrR):C6 (l.map FrR.abs)=O1 l:=by
 unfold C6 O1;rw[List.flatMap_map];rfl
theorem xX (l:List FrR) (k:Nat) (h:∀f,f∈l->f.loc.length<=k/\f.stk.length<=k):(O1 l).length<=l.length*(2*k):=by
 induction l with
 | nil=>simp [O1]
 | cons f l ih =>
  have h1:=ih fun x hx=>h x (by simp [hx])
  have h2:=h f R6;unfold O1 at h1 ⊢;simp only[List.flatMap_cons,List.length_append,List.length_cons];rw[Nat.add_mul];omega
def nR (l:List Val) (w:World) (e:Ending) (w':World):Prop:=∃v,e=.returned v/\w'.ownsRow w.heap.size 92 2 v l.length (A7 l)/\L0d w w'
theorem M8 {w':World} {e size n:Nat} {xs:List Value} (hB:L0d w W) (ho:W.ownsRow w.heap.size e size v n xs) (hg:W.grownBy w' v.ownBlock):L0d w w' :=
 ⟨hg.os.trans hB.os,hg.tape.trans hB.tape,hg.output.trans hB.output,L5a hB.size hg.size,fun k hk=>(hg.block k (L0a hk hB.size) (fun e=>by have:=(ho.lt k e.symm).1;omega)).trans (hB.block k hk)⟩
theorem Row.src {own:Own} {t:Tag} {l:List Val} {a:Option Addr} {c:Nat} (h:Row w own t 92 2 v l.length (A7 l)) (hv:v=.slice a l.length c) (hB:L0d w W):0 < l.length->∃d,a=some d/\∀j u,(A7 l)[j]?=some u->W.cell? (d.add j)=some u:=fun h0=>by
 obtain⟨b,c',e,_,hb⟩:=h.1.form h0;have h1:=h.1;rw[e] at hv h1
 cases hv;refine⟨_,rfl,fun j u hu=>?_⟩;have hj:=(L1a.1 hu).1;rw[D8] at hj;rw[X8,hB.cell (p:=⟨b,j,none⟩) hb,h1.cellAt j hj];exact hu
end
theorem iI (a b:Value) (n:Nat):(Builtin.zeroCells #[a,b] n).size=n*2:=by simp [Builtin.zeroCells]
def nL (w:World) (e:Ending) (w':World):Prop:=∃v,e=.returned v/\w'.ownsRow w.heap.size 92 2 v 0 []/\L0d w w'
theorem a2E (w:World):Calls prog 235 #[zD,J 0] w fun e w'=>nL w e w':=by
 go_enter func235,ntmps235;go_wp2_with fail;go_ret;exact⟨_,rfl,World.ownsRow_nil _ _ _ _,L3b _ _⟩
theorem a2F (n:Nat) (h0:0 < n) (hn:n<=4000000) (w:World):Calls prog 235 #[zD,J (n:Int)] w fun e w'=>nL w e w':=by
 obtain⟨xa,hi,hz,xc,xb⟩:=info_parts J2;have hr:∀W:World,(Builtin.append_ #[84,3] 84 #[zD,J (n:Int)]).run prog W=_:=fun W=>Go.Lib.run_append_nil_zeros W 84 3 84 92 xa _ .i64 .i64 underlying84 underlying3 hi hz n h0 (by rw [xc];decide) R5 (by rw [xb];omega)
 have HR:=hid hr;clear hr hi hz xc xb;go_enter func235,ntmps235;go_wp2_with (at_builtin;go_must (refine Go.Lib.wpList_append_run _ rfl (.tmp 20) (.tmp 21) 84 3 rfl zD (J (n:Int)) rfl rfl _ _ (HR.out _) ?_))
 go_ret;have h1:=grownCap_ge w n 0 92;refine⟨_,rfl,World.ownsRow.drew (World.ownsRow_made w _ _ (L1c _) (grownCap_le_maxLen w n 0 92 Q7) ?_),L3c (L3a (L3b _ _) (L1c _) _)⟩;rw[Array.size_append,iI,iI];omega
theorem sV:(prog.info? 84).map (fun i=>(i.zero,i.size,i.bytes))=some (some zD,1,24):=by kernel_rfl
def T4 (l:List FrR):List Value:=l.flatMap fun f=>[f.lv,f.sv]
theorem eT (l:List FrR):(T4 l).length=l.length*2:=by
 induction l with
 | nil=>rfl
 | cons f l ih=>unfold T4 at ih ⊢;simp only [List.flatMap_cons,List.length_append,List.length_cons,List.length_nil];omega
theorem xC {l:List FrR} {i:Nat} {f:FrR} (h:l[i]?=some f):T4 (l.take (i+1))=T4 (l.take i)++[f.lv,f.sv]:=by
 have e:l.take (i+1)=l.take i++[f]:=by rw [List.take_add_one,h];rfl
 rw[e];simp[T4]
def a1Y (l:List FrR) (w:World) (e:Ending) (w':World):Prop:=∃v,e=.returned v/\w'.ownsRow w.heap.size 84 1 v (l.length*2) (T4 l)/\L0d w w'
theorem kP {own:Own} {mb:Nat} {g:PgR} {R:McR} {w:World} (h:A4 w own mb g R) (hn:R.frs.length<=1000) :
  Calls prog 207 #[.pointer (some ⟨mb,3,none⟩)] w fun e w'=>a1Y R.frs w e w':=by
 have c3:=h.c3;obtain⟨ca,cc,xg⟩:=E0 h.called;rw[xg] at c3;have xy:mb < w.heap.size:=h.lt mb _ h.me;obtain⟨xq,hi,hz,xj,xl⟩:=info_parts sV;have HI:=hid hi;have HZ:=hid hz;have xv:=hid xj;have xt:=hid xl;have HH:=hid h;have xm:=hid xg;clear h xg hi hz xj xl;go_enter func207,ntmps207;go_wp2_with fail;go_loopw [3,11] (fun vl vi wr=>∃i:Nat,i<=R.frs.length/\vi=J i/\wr.ownsRow w.heap.size 84 1 vl (i*2) (T4 (R.frs.take i))/\L0d w wr) (fun _ vi _=>R.frs.length - (intOf vi).toNat)
 case atStart=>exact ⟨0,L4c _,rfl,World.ownsRow_nil _ _ _ _,L3b _ _⟩
 case round =>
  obtain⟨i,hi,rfl,xe,xb⟩:=hrel;have xc:=hid xb;have xd:=hid xe;by_cases hlt:i < R.frs.length
  ·obtain ⟨f,hf⟩:∃f,R.frs[i]?=some f:=⟨_,L1b hlt⟩
   obtain⟨cb,xx,e,_,xk⟩:=HH.out.called.1.form R5;have xi:=HH.out.called.1;rw[xm.out] at e
   cases e;rw[xm.out] at xi;have xa:∀j,j < 4->wr.cell? ⟨cb,i*4+j,none⟩=f.cells[j]?:=fun j hj=>by
    rw[xb.cell (p:=⟨cb,_,none⟩) xk,xi.cellAt _ R5];exact D3 FrR.cells_len hf hj
   obtain⟨la,lc,xf⟩:=E0 (HH.out.loc i f hf);obtain⟨sa,sc,xh⟩:=E0 (HH.out.stk i f hf);have k0:wr.cell? ⟨cb,i*4,none⟩=some (J f.fn):=xa 0 R5;have k1:wr.cell? ⟨cb,i*4+1,none⟩=some (J f.pc):=xa 1 R5;have k2:wr.cell? ⟨cb,i*4+2,none⟩=some f.lv:=xa 2 R5;have k3:wr.cell? ⟨cb,i*4+3,none⟩=some f.sv:=xa 3 R5;rw[xf] at k2;rw[xh] at k3;have xz:cb < wr.heap.size:=L0a xk xb.size
   have xo:=hid (xC hf);have xp:=hid xf;have xs:=hid xh;clear xa xi xe xb hf xf xh;have xw:w.heap.size<=wr.heap.size:=xc.out.size;go_wp2_with (at_builtin;go_must (refine wpList_append_lies _ rfl (.tmp 15) (.tmp 20) 131 rfl w.heap.size 84 xq _ 1 24 underlying131 HI.out HZ.out xv.out xt.out rfl R4 _ (i*2) (T4 (R.frs.take i)) rfl ((xd.out.alloc _).alloc _) _ 2 2 [.slice la f.loc.length lc,.slice sa f.stk.length sc] rfl rfl (World.news_of_block (cs:=#[.slice la f.loc.length lc,.slice sa f.stk.length sc]) (t:=84) (fr:=(0,0)) (B0 R6)) (by intro u hu;simp at hu;rcases hu with rfl | rfl <;> rfl) R5 Q7 R5 Q9 _ rfl ?_))
   intro g1 cap1 w1 hown1 hgrow1 _ _;have xn:=M8 (L3a (L3a xc.out xc.out.size _) Q9 _) ((xd.out.alloc _).alloc _) hgrow1;have xu:=hid xn;have xr:=hid hown1;clear xn hown1 hgrow1 k0 k1 k2 k3;go_wp2_with fail;go_roundw
   case rel=>exact ⟨i+1,by omega,by go_num,by
    rw[xo.out,xp.out,xs.out,show (i+1)*2=i*2+2 by omega];exact xr.out,xu.out⟩
   case measure=>simp [intOf];omega
  ·obtain rfl:i=R.frs.length:=by omega
   rw[List.take_length] at xd;clear xb xe;go_wp2_with fail;go_ret;exact⟨_,rfl,xd.out,xc.out⟩
def a1u (W:World) (a:Option Addr) (ls:List (Value × List Val)):Prop :=
 0 < ls.length->∃b,a=some ⟨b,0,none⟩/\b < W.heap.size/\∀(i:Nat) (p:Value × List Val),ls[i]?=some p->W.cell? ⟨b,i,none⟩=some p.1 /\
  ∃la lc,p.1=.slice la p.2.length lc/\(0 < p.2.length->∃d,la=some ⟨d,0,none⟩/\d < W.heap.size/\∀(j:Nat) (u:Value),(A7 p.2)[j]?=some u->W.cell? ⟨d,j,none⟩=some u)
def fS (ls:List (Value × List Val)):List Val:=ls.flatMap (·.2)
theorem rD {ls:List (Value × List Val)} {i:Nat} {p:Value × List Val} (h:ls[i]?=some p):fS (ls.take (i+1))=fS (ls.take i)++p.2:=by
 have e:ls.take (i+1)=ls.take i++[p]:=by rw [List.take_add_one,h];rfl
 rw[e];simp[fS]
theorem a4I (ls:List (Value × List Val)) (h:∀p,p∈ls->p.2.length<=1000):(fS ls).length<=ls.length*1000:=by
 induction ls with
 | nil=>simp [fS]
 | cons p l ih =>
  have h1:=ih fun x hx=>h x (by simp [hx])
  have h2:=h p R6;unfold fS at h1 ⊢;simp only[List.flatMap_cons,List.length_append,List.length_cons];rw[Nat.add_mul];omega
theorem a5b (n:Nat) (hn:n<=4000000) (w:World):Calls prog 235 #[zD,J (n:Int)] w fun e w'=>nL w e w':=by
 rcases Nat.eq_zero_or_pos n with rfl | h
 ·exact a2E w
 ·exact a2F n h hn w
theorem zF (a:Option Addr) (c:Nat) (ls:List (Value × List Val)) (w:World) (hn:ls.length<=2000) (hl:∀p,p∈ls->p.2.length<=1000) (hs:a1u w a ls) :
  Calls prog 227 #[.slice a ls.length c] w fun e w'=>nR (fS ls) w e w':=by
 obtain⟨xk,hi,hz,xl,xm⟩:=info_parts J2;have HI:=hid hi;have HZ:=hid hz;have xv:=hid xl;have xs:=hid xm;have HS:=hid hs;have HL:=hid hl;have HT:Hid (∀i,(fS (ls.take i)).length<=2000000):=fun i=>by
  have:=a4I (ls.take i) fun p hp=>hl p (List.mem_of_mem_take hp)
  rw[List.length_take] at this;have:min i ls.length*1000<=2000*1000:=Nat.mul_le_mul_right _ R5;omega
 clear hi hz xl xm hs hl;go_enter func227,ntmps227;go_wp2_with fail;go_loopw [3,11] (fun vs vi wr=>∃i:Nat,i<=ls.length/\vi=J i/\vs=J ((fS (ls.take i)).length:Int)/\L0d w wr) (fun _ vi _=>ls.length - (intOf vi).toNat)
 case atStart=>exact ⟨0,L4c _,rfl,rfl,L3b _ _⟩
 case round =>
  obtain⟨i,hi,rfl,rfl,xa⟩:=hrel;by_cases hlt:i < ls.length
  ·obtain ⟨p,hp⟩:∃p,ls[i]?=some p:=⟨_,L1b hlt⟩
   obtain⟨b,rfl,hb,xg⟩:=HS.out R5;obtain⟨k0,la,lc,hv,_⟩:=xg i p hp;rw[hv,<- xa.cell (p:=⟨b,i,none⟩) hb] at k0;have xr:b < wr.heap.size:=L0a hb xa.size;have xb:=hid xa;have ht:=HT.out i;have xx:=HT.out (i+1);have xi:=hid (rD hp);have xo:=HL.out p (L2a hp);clear xg hv hp xa;generalize hq:(fS (ls.take i)).length=q at *
   go_wp2_with fail;go_roundw
   case rel=>exact ⟨i+1,by omega,by go_num,by rw [xi.out,List.length_append,hq];go_num,xb.out⟩
   case measure=>simp [intOf];omega
  ·obtain rfl:i=ls.length:=by omega
   have ht:=HT.out ls.length;rw[List.take_length] at ht ⊢;generalize hq:(fS ls).length=q at *
   have xe:=hid xa;clear xa;go_wp2_with fail;refine (a5b q R5 _).mono ?_;rintro e w1 ⟨v1,rfl,xd,xn⟩;have xp:=hid (E1 xd xe.out.size);have xu:=hid (A3 xn xe.out);clear xd xn;go_wp2_with fail;go_loopw [6,27] (fun vl vi wr=>∃i:Nat,i<=ls.length/\vi=J i/\wr.ownsRow w.heap.size 92 2 vl (fS (ls.take i)).length (A7 (fS (ls.take i)))/\L0d w wr) (fun _ vi _=>ls.length - (intOf vi).toNat)
   case atStart=>exact ⟨0,L4c _,rfl,xp.out,xu.out⟩
   case round =>
    obtain⟨i,hi,rfl,xf,xa⟩:=hrel;have xb:=hid xa;have xc:=hid xf;by_cases hlt:i < ls.length
    ·obtain ⟨p,hp⟩:∃p,ls[i]?=some p:=⟨_,L1b hlt⟩
     obtain⟨b,rfl,hb,xg⟩:=HS.out R5;obtain⟨k0,la,lc,hv,xh⟩:=xg i p hp;rw[hv,<- xa.cell (p:=⟨b,i,none⟩) hb] at k0;have xr:b < wr.heap.size:=L0a hb xa.size;have ht:=HT.out i;have xi:=hid (rD hp);have xo:=HL.out p (L2a hp);have xj:Hid (0 < p.2.length->∃d,la=some d/\∀j u,(A7 p.2)[j]?=some u->wr.cell? (d.add j)=some u):=fun h0=>by
      obtain⟨d,e1,e2,e3⟩:=xh h0;refine⟨_,e1,fun j u hu=>?_⟩;rw[X8,xa.cell (p:=⟨d,j,none⟩) e2];exact e3 j u hu
     have xw:w.heap.size<=wr.heap.size:=xa.size;clear xg hv hp xh xa xf;go_wp2_with (at_builtin;go_must (refine A8 _ rfl (.tmp 31) (.tmp 32) 84 rfl w.heap.size 92 xk _ 2 16 underlying84 HI.out HZ.out xv.out xs.out rfl R4 _ (fS (ls.take i)).length (A7 (fS (ls.take i))) rfl xc.out la p.2.length lc (A7 p.2) rfl (D8 _) xj.out (aH _) Q7 R5 R5 ?_))
     intro v2 w2 hown2 hgrow2 _;have xt:=hid (M8 xb.out xc.out hgrow2);have xq:=hid hown2;clear hown2 hgrow2 k0;go_wp2_with fail;go_roundw
     case rel=>exact ⟨i+1,by omega,by go_num,by
      rw[xi.out,J7,List.length_append];exact xq.out,xt.out⟩
     case measure=>simp [intOf];omega
    ·obtain rfl:i=ls.length:=by omega
     rw[List.take_length] at xc;clear xa xf;go_wp2_with fail;go_ret;exact⟨_,rfl,xc.out,xb.out⟩
section
variable {own:Own} {w:World}
def bC (l:List FrR):List (Value × List Val):=l.flatMap fun f=>[(f.lv,f.loc),(f.sv,f.stk)]
theorem jB (l:List FrR):(bC l).length=l.length*2:=by
 induction l with
 | nil=>rfl
 | cons f l ih=>unfold bC at ih ⊢;simp only [List.flatMap_cons,List.length_append,List.length_cons,List.length_nil];omega
theorem a0g (l:List FrR):fS (bC l)=O1 l:=by
 induction l with
 | nil=>rfl
 | cons f l ih=>unfold bC fS O1 at ih ⊢;simp only [List.flatMap_cons,List.flatMap_append,List.flatMap_nil,List.append_nil,ih]
theorem a0h (l:List FrR):T4 l=(bC l).map (·.1):=by
 induction l with
 | nil=>rfl
 | cons f l ih=>unfold bC T4 at ih ⊢;simp only [List.flatMap_cons,List.map_append,List.map_cons,List.map_nil,ih]
theorem oU {l:List FrR} {p:Value × List Val} (h:p∈bC l):∃(i:Nat) (f:FrR),l[i]?=some f/\(p=(f.lv,f.loc)\/p=(f.sv,f.stk)):=by
 unfold bC at h;obtain⟨f,hf,hp⟩:=List.mem_flatMap.1 h;obtain⟨i,hi⟩:=List.mem_iff_getElem?.1 hf;refine⟨i,f,hi,?_⟩;simpa using hp
theorem a1R {t:Tag} {v:Value} {l:List Val} (h:Row w own t 92 2 v l.length (A7 l)) {W:World} (hB:L0d w W):∃la lc,v=.slice la l.length lc/\(0 < l.length->∃d,la=some ⟨d,0,none⟩/\d < W.heap.size/\∀(j:Nat) (u:Value),(A7 l)[j]?=some u->W.cell? ⟨d,j,none⟩=some u):=by
 obtain⟨la,lc,hv⟩:=E0 h;refine⟨la,lc,hv,fun h0=>?_⟩;obtain⟨b,c',e,_,hb⟩:=h.1.form h0;have h1:=h.1;rw[e] at hv h1
 cases hv;refine⟨b,rfl,L0a hb hB.size,fun j u hu=>?_⟩;have hj:=(L1a.1 hu).1;rw[D8] at hj;rw[hB.cell (p:=⟨b,j,none⟩) hb,h1.cellAt j hj];exact hu
theorem xY {mb:Nat} {g:PgR} {R:McR} (h:A4 w own mb g R) (hn:R.frs.length<=1000) (hf:∀f,f∈R.frs->f.loc.length<=1000/\f.stk.length<=1000) :
  Calls prog 189 #[.pointer (some ⟨mb,3,none⟩)] w fun e w'=>nR (O1 R.frs) w e w':=by
 have HH:=hid h;have HF:=hid hf;clear h hf;go_enter func189,ntmps189;go_wp2_with fail;refine (kP HH.out hn).mono ?_;rintro e w1 ⟨v,rfl,xa,hb⟩;obtain⟨la,lc,rfl⟩:∃la lc,v=.slice la (bC R.frs).length lc:=by
  rw[jB];rcases xa.2 with ⟨h1,h2⟩ | ⟨g,xi,xh,h1,_⟩
  ·exact ⟨none,0,by rw [h1,h2]⟩
  ·exact ⟨_,_,h1⟩
 have HL:Hid (a1u w1 la (bC R.frs)):=fun h0=>by
  have xa:=xa;rw[<- jB] at xa;obtain⟨b,c',e,_,xf⟩:=xa.form h0
  cases e;refine⟨b,rfl,xf,fun i p hp=>?_⟩;have hi:=(L1a.1 hp).1;refine⟨?_,?_⟩
  ·rw [xa.cellAt i R5,a0h,List.getElem?_map,hp]
   rfl
  ·obtain ⟨k,f,hk,he⟩:=oU (L2a hp)
   rcases he with rfl | rfl
   ·exact a1R (HH.out.loc k f hk) hb
   ·exact a1R (HH.out.stk k f hk) hb
 have HB:=hid hb;have xe:(bC R.frs).length<=2000:=by rw [jB];omega
 have HM:Hid (∀p,p∈bC R.frs->p.2.length<=1000):=fun p hp=>by
  obtain⟨k,f,hk,he⟩:=oU hp;have:=HF.out f (L2a hk);rcases he with rfl | rfl
  ·exact this.1
  ·exact this.2
 have HC:=hid (a0g R.frs);clear xa hb;generalize bC R.frs=ls at *
 go_wp2_with fail;refine (zF la lc ls w1 xe HM.out HL.out).mono ?_;rintro e w2 ⟨v2,rfl,xb,xc⟩;rw[HC.out] at xb;have xd:=hid (E1 xb HB.out.size);have xg:=hid (A3 xc HB.out);clear xb xc;go_wp2_with fail;go_ret;exact⟨_,rfl,xd.out,xg.out⟩
end
section
variable {R:McR} {W w:World} {g:PgR} {mb:Nat} {own:Own} {v:Value}
def L9 (ty size n:Nat) (xs:List Value) (w:World) (e:Ending) (w':World):Prop :=
 ∃v,e=.returned v/\w'.ownsRow w.heap.size ty size v n xs/\L0d w w'
theorem vK (d:Addr) (n c:Nat) (xs:List Value) (w:World) (hm:n<=100000) (hl:xs.length=n*2) (hx:∀W,L0d w W->∀j u,xs[j]?=some u->W.cell? (d.add j)=some u) (h1:∀u∈xs,u.oneCell'=true) :
  Calls prog 90 #[.slice (some d) n c] w fun e w'=>L9 92 2 n xs w e w':=by
 have HX:=hid hx;have HL:=hid hl;have H1:=hid h1;clear hx hl h1;go_enter func90,ntmps90;have xe:∀W:World,(binOp .eql 84 (.slice (some d) n c) zD).run prog W=.ok (.bool false) W:=fun W=>Go.Lib.run_eql_slice_nil W 84 92 _ n c 0 0 underlying84
 obtain⟨i,hi,hz,xb,xa⟩:=info_parts J2;have HI:=hid hi;have HZ:=hid hz;have xc:=hid xb;have xd:=hid xa;clear hi hz xb xa;go_wp2_with (at_builtin;go_must (refine A8 _ rfl (.tmp 5) (.tmp 6) 84 rfl w.heap.size 92 i _ 2 16 underlying84 HI.out HZ.out xc.out xd.out rfl R4 (.slice (zA w.heap.size) 0 0) 0 [] rfl (World.ownsRow_made w #[] 0 (L1c _) (L4c _) rfl) (some d) n c xs rfl HL.out (fun _=>⟨d,rfl,HX.out _ (L3a (L3b _ _) (L1c _) _)⟩) H1.out Q7 R5 R6 ?_))
 intro v' w5 hown hgrow _;have HB:Hid (L0d w w5):=aA (v:=.slice (zA w.heap.size) 0 0) (L3a (L3b _ _) (L1c _) _) rfl (L1c _) hgrow;have ho:w5.ownsRow w.heap.size 92 2 v' n xs:=by simpa using hown
 have HO:=hid ho;clear hown hgrow ho;go_wp2_with fail;go_ret;exact⟨v',rfl,HO.out,HB.out⟩
theorem yV (n c:Nat) (w:World):Calls prog 90 #[.slice none n c] w fun e w'=>L9 92 2 0 [] w e w':=by
 have xa:∀W:World,(binOp .eql 84 (.slice none n c) zD).run prog W=.ok (.bool true) W:=fun W=>Go.Lib.run_eql_slice_nil W 84 92 none n c 0 0 underlying84
 go_enter func90,ntmps90;go_wp2_with fail;go_ret;exact⟨_,rfl,World.ownsRow_nil _ _ _ _,L3b _ _⟩
theorem iS {t:Tag} {l:List Val} {a:Option Addr} {c:Nat} (h:Row w own t 92 2 v l.length (A7 l)) (hv:v=.slice a l.length c) (hB:L0d w W) (hm:l.length<=1000) :
  Calls prog 90 #[.slice a l.length c] W fun e w'=>L9 92 2 l.length (A7 l) W e w':=by
 cases a with
 | none =>
  have h0:l.length=0:=by
   rcases Nat.eq_zero_or_pos l.length with h0 | h0
   ·exact h0
   ·obtain ⟨d,hd,_⟩:=h.src hv hB h0;cases hd
  have xa:=List.length_eq_zero_iff.1 h0;subst xa;exact yV _ _ _
 | some d =>
  refine vK d l.length c (A7 l) W R5 (D8 _) (fun V hV j u hu=>?_) (aH _);have hj:=(L1a.1 hu).1;rw[D8] at hj;obtain⟨d',hd,hc⟩:=h.src hv (A3 hV hB) R5
  cases hd;exact hc j u hu
theorem vI (d:Addr) (n c:Nat) (xs:List Value) (w:World) (hm:n<=100000) (hl:xs.length=n*4) (hx:∀W,L0d w W->∀j u,xs[j]?=some u->W.cell? (d.add j)=some u) (h1:∀u∈xs,u.oneCell'=true) :
  Calls prog 89 #[.slice (some d) n c] w fun e w'=>L9 86 4 n xs w e w':=by
 have HX:=hid hx;have HL:=hid hl;have H1:=hid h1;clear hx hl h1;go_enter func89,ntmps89;have xe:∀W:World,(binOp .eql 66 (.slice (some d) n c) zD).run prog W=.ok (.bool false) W:=fun W=>Go.Lib.run_eql_slice_nil W 66 86 _ n c 0 0 underlying66
 obtain⟨i,hi,hz,xb,xa⟩:=info_parts jA;have HI:=hid hi;have HZ:=hid hz;have xc:=hid xb;have xd:=hid xa;clear hi hz xb xa;go_wp2_with (at_builtin;go_must (refine A8 _ rfl (.tmp 5) (.tmp 6) 66 rfl w.heap.size 86 i _ 4 64 underlying66 HI.out HZ.out xc.out xd.out rfl R4 (.slice (zA w.heap.size) 0 0) 0 [] rfl (World.ownsRow_made w #[] 0 (L1c _) (L4c _) rfl) (some d) n c xs rfl HL.out (fun _=>⟨d,rfl,HX.out _ (L3a (L3b _ _) (L1c _) _)⟩) H1.out Q7 R5 R6 ?_))
 intro v' w5 hown hgrow _;have HB:Hid (L0d w w5):=aA (v:=.slice (zA w.heap.size) 0 0) (L3a (L3b _ _) (L1c _) _) rfl (L1c _) hgrow;have ho:w5.ownsRow w.heap.size 86 4 v' n xs:=by simpa using hown
 have HO:=hid ho;clear hown hgrow ho;go_wp2_with fail;go_ret;exact⟨v',rfl,HO.out,HB.out⟩
theorem yS (n c:Nat) (w:World):Calls prog 89 #[.slice none n c] w fun e w'=>L9 86 4 0 [] w e w':=by
 have xa:∀W:World,(binOp .eql 66 (.slice none n c) zD).run prog W=.ok (.bool true) W:=fun W=>Go.Lib.run_eql_slice_nil W 66 86 none n c 0 0 underlying66
 go_enter func89,ntmps89;go_wp2_with fail;go_ret;exact⟨_,rfl,World.ownsRow_nil _ _ _ _,L3b _ _⟩
theorem oI (h:A4 w own mb g R):∀u∈R.frs.flatMap FrR.cells,u.oneCell'=true:=by
 intro u hu;obtain⟨f,hf,hu⟩:=List.mem_flatMap.1 hu;obtain⟨i,hi⟩:=List.mem_iff_getElem?.1 hf;obtain⟨la,lc,xa⟩:=E0 (h.loc i f hi);obtain⟨sa,sc,xb⟩:=E0 (h.stk i f hi);simp only[FrR.cells,List.mem_cons,List.not_mem_nil,or_false] at hu;rcases hu with rfl | rfl | rfl | rfl
 ·rfl
 ·rfl
 ·rw [xa];rfl
 ·rw [xb];rfl
theorem nX (h:A4 w own mb g R) (hB:L0d w W) (hn:R.frs.length<=1000) {a:Option Addr} {c:Nat} (hv:R.cv=.slice a R.frs.length c) :
  Calls prog 89 #[.slice a R.frs.length c] W fun e w'=>L9 86 4 R.frs.length (R.frs.flatMap FrR.cells) W e w':=by
 cases a with
 | none =>
  have h0:R.frs.length=0:=by
   rcases h.called.1.2 with ⟨_,e⟩ | ⟨_,_,_,e,_⟩
   ·exact e
   ·rw [hv] at e;cases e
  have xb:=List.length_eq_zero_iff.1 h0;rw[xb];exact yS _ _ _
 | some d =>
  refine vI d R.frs.length c _ W R5 (aR FrR.cells_len _) (fun V hV j u hu=>?_) (oI h);have hj:=(L1a.1 hu).1;rw[aR FrR.cells_len] at hj;obtain⟨b,c',e,_,hb⟩:=h.called.1.form R5;have xa:=h.called.1;rw[hv] at e
  cases e;rw[hv] at xa;rw[X8,(A3 hV hB).cell (p:=⟨b,j,none⟩) hb,xa.cellAt j hj];exact hu
theorem U8 {B e size n:Nat} {xs:List Value} (h:w.ownsRow B e size v n xs):∃a c,v=.slice a n c:=by
 rcases h.2 with ⟨e,e0⟩ | ⟨gb,xa,_,e,_⟩
 ·exact ⟨none,0,by rw [e,e0]⟩
 ·exact ⟨_,_,e⟩
end
end Go.Proofs.YtbkmgoffiigdbaaGreatDoor
