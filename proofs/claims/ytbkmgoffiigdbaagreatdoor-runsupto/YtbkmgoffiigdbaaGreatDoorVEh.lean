import Derived.Test.YtbkmgoffiigdbaaGreatDoorVEi
import Derived.Lib.AppendZeros
namespace Go.Proofs.YtbkmgoffiigdbaaGreatDoor
open Go.RowKit Go.Sort Go.Proofs.Tryz
set_option maxHeartbeats 4000000
set_option maxRecDepth 100000
def aN (w:World) (a:Option Addr) (l:List Nat):Prop:=0 < l.length->∃b,a=some ⟨b,0,none⟩/\b < w.heap.size/\∀(i x:Nat),l[i]?=some x->w.cell? ⟨b,i,none⟩=some (.int .i64 (x:Int))
theorem a0B (a:Option Addr) (l:List Nat) (c x:Nat) (w:World) (hl:l.length<=1000) (hs:aN w a l) :
  Calls prog 197 #[.slice a l.length c,.int .i64 (x:Int)] w fun e w'=>(∃r:Int,e=.returned (.int .i64 r)/\(0<=r↔x∈l))/\Below w.heap.size w w':=by
 have HS:=hid hs;clear hs;go_enter func197,ntmps197;go_wp2_with fail;go_loopw [8] (fun v wr=>∃i:Nat,i<=l.length/\v=.int .i64 i/\x∉l.take i/\Below w.heap.size w wr) (fun v _=>l.length - (intOf v).toNat)
 case atStart=>exact ⟨0,Nat.zero_le _,rfl,by simp,Below.refl _ _⟩
 case round =>
  obtain⟨i,hi,rfl,xc,xa⟩:=hrel;have xb:=hid xa;have xd:=hid xc;by_cases hlt:i < l.length
  ·obtain ⟨b,rfl,hb,hc⟩:=HS.out R4
   obtain⟨y,hy⟩:∃y,l[i]?=some y:=⟨_,L1b hlt⟩
   have k0:=(xa.cell (p:=⟨b,i,none⟩) hb).trans (hc i y hy);have xe:b < wr.heap.size:=L0a hb xa.size;have HY:=hid hy;clear hc xa xc hy
   cases hxy:((x:Int) == (y:Int))
   ·go_wp2_with fail
    go_roundw
    case rel=>exact ⟨i+1,by omega,by go_num,by
     rw[List.take_add_one,HY.out];simp only[Option.toList_some,List.mem_append,List.mem_singleton,not_or];exact⟨xd.out,fun e=>by subst e;simp at hxy⟩,by repeat (first | exact xb.out | refine Below.drew ?_ | refine Below.drewQ ?_ _)⟩
    case measure=>simp [intOf];omega
   ·go_wp2_with fail
    go_ret;refine⟨⟨(i:Int),rfl,⟨fun _=>?_,fun _=>by omega⟩⟩,by repeat (first | exact xb.out | refine Below.drew ?_ | refine Below.drewQ ?_ _)⟩;have:x=y:=by have:=beq_iff_eq.1 hxy;omega
    rw[this];exact L2a HY.out
  ·obtain rfl:i=l.length:=by omega
   clear xa xc;go_wp2_with fail;go_ret;refine⟨⟨-1,rfl,⟨fun h=>by omega,fun h=>?_⟩⟩,xb.out⟩;have:=xd.out;rw[List.take_length] at this;exact absurd h this
section
variable {P:Program}
theorem gI (w:World) (t ty:TypeId) (base:Nat) (e:TypeId) (i:TypeInfo) (size:Nat) (ht:P.underlying t=some (.slice e)) (hi:P.info? e=some i) (v:Value) (n:Nat) (xs:List Value) (hown:w.ownsRow base e size v n xs) (a:Option Addr) (c:Nat) :
  (Builtin.append_ #[t,t] ty #[v,.slice a 0 c]).run P w=.ok v w:=by
 have hv:(v=.slice none 0 0/\n=0)\/∃g cap,v=.slice (some ⟨g,0,none⟩) n cap/\n<=cap:=by
  rcases hown.2 with h | ⟨g,cap,cur,h1,_,_,h2,_⟩
  ·exact Or.inl h
  ·exact Or.inr ⟨g,cap,h1,h2⟩
 have hf:(Builtin.firstCells i.size 0 (.slice a 0 c)).run P w=.ok #[] w:=by
  cases a with
  | none=>simp [Builtin.firstCells]
  | some ad=>simpa using run_firstCells_some (P:=P) w i.size 0 ad 0 c [] R5 R5
 rcases hv with ⟨rfl,rfl⟩ | ⟨g,cap,rfl,xa⟩
 ·simp [Builtin.append_,run_underlying ht,sizeOf,typeInfo,hi,Builtin.lenOf,hf]
 ·simp [Builtin.append_,run_underlying ht,sizeOf,typeInfo,hi,Builtin.lenOf,hf,xa,storeCells]
theorem mY (w:World) (t ty:TypeId) (base:Nat) (e:TypeId) (i:TypeInfo) (z:Value) (size bytes:Nat) (ht:P.underlying t=some (.slice e)) (hi:P.info? e=some i) (hz:i.zero=some z)
  (hsize:i.size=size) (hby:i.bytes=bytes) (hzs:z.cells.size=size) (hsz:0 < size) (v:Value) (n:Nat) (xs:List Value) (hown:w.ownsRow base e size v n xs)
  (a:Option Addr) (m c:Nat) (news:List Value) (hl:news.length=m*size) (hnews:0 < m->∃ad,a=some ad/\∀j u,news[j]?=some u->w.cell? (ad.add j)=some u) (h1:∀u∈news,u.oneCell'=true)
  (h63:n+m<=maxLen) (hbytes:(n+m)*bytes<=140737488355328) (hbase:base<=w.heap.size) :
  ∃v' w',(Builtin.append_ #[t,t] ty #[v,.slice a m c]).run P w=.ok v' w'/\w'.ownsRow base e size v' (n+m) (xs++news)/\w.grownBy w' v.ownBlock/\∀g,v'.ownBlock=some g->v.ownBlock=some g\/g=w.heap.size:=by
 rcases Nat.eq_zero_or_pos m with rfl | hm
 ·have h0:news=[]:=List.length_eq_zero_iff.1 R4
  subst h0;exact⟨v,w,gI w t ty base e i size ht hi v n xs hown a c,by simpa using hown,⟨rfl,rfl,rfl,L1c _,fun _ _ _=>rfl⟩,fun _ h=>Or.inl h⟩
 ·obtain ⟨ad,rfl,hc⟩:=hnews hm
  obtain⟨g,xa,w',hr,h2,h3,h4,_⟩:=run_append_lies (P:=P) w t ty base e i z size bytes ht hi hz hsize hby hzs hsz v n xs hown ad m c news hl hc h1 hm h63 hbytes hbase _ rfl
  exact⟨_,w',hr,h2,h3,fun b hb=>by obtain rfl:g=b:=by simpa [Value.ownBlock] using hb
                                   exact h4⟩
theorem fR (w:World) {o:Oper} {a:Act} {K:Act->World->Prop} {Q:Exit->Act->World->Prop} (s x:Operand) (t:TypeId)
  (ho:o.op=.call { callee:=.builtin .append,args:=#[s,x],argTypes:=#[t,t] })
  (base:Nat) (e:TypeId) (i:TypeInfo) (z:Value) (size bytes:Nat) (ht:P.underlying t=some (.slice e)) (hi:P.info? e=some i) (hz:i.zero=some z)
  (hsize:i.size=size) (hby:i.bytes=bytes) (hzs:z.cells.size=size) (hsz:0 < size)
  (v:Value) (n:Nat) (xs:List Value) (hs:a.eval s=v) (hown:w.ownsRow base e size v n xs)
  (ad:Option Addr) (m c:Nat) (news:List Value) (hx:a.eval x=.slice ad m c) (hl:news.length=m*size) (hnews:0 < m->∃d,ad=some d/\∀j u,news[j]?=some u->w.cell? (d.add j)=some u) (h1:∀u∈news,u.oneCell'=true)
  (h63:n+m<=maxLen) (hbytes:(n+m)*bytes<=140737488355328) (hbase:base<=w.heap.size)
  (h:∀v' w',w'.ownsRow base e size v' (n+m) (xs++news)->w.grownBy w' v.ownBlock->(∀g,v'.ownBlock=some g->v.ownBlock=some g\/g=w.heap.size)->K (a.put o.dst v') w'):o.wp P a w K Q:=by
 obtain⟨v',w',hr,h2,h3,h4⟩:=mY (P:=P) w t o.type base e i z size bytes ht hi hz hsize hby hzs hsz v n xs hown ad m c news hl hnews h1 h63 hbytes hbase;unfold Oper.wp execOp;simp only[ho,resolve,invoke,builtin,Sem.run_bind,Sem.run_pure,Result.andThen_ok,List.map_toArray,List.map_cons,List.map_nil,hs,hx,hr];exact h v' w' h2 h3 h4
theorem B0 (w:World) {ops:Array Oper} {rest:List Oper} {o:Oper} {a:Act} {Q:Exit->Act->World->Prop} (hgd:o.guard=none) (s x:Operand) (t:TypeId)
  (ho:o.op=.call { callee:=.builtin .append,args:=#[s,x],argTypes:=#[t,t] })
  (base:Nat) (e:TypeId) (i:TypeInfo) (z:Value) (size bytes:Nat) (ht:P.underlying t=some (.slice e)) (hi:P.info? e=some i) (hz:i.zero=some z)
  (hsize:i.size=size) (hby:i.bytes=bytes) (hzs:z.cells.size=size) (hsz:0 < size)
  (v:Value) (n:Nat) (xs:List Value) (hs:a.eval s=v) (hown:w.ownsRow base e size v n xs)
  (ad:Option Addr) (m c:Nat) (news:List Value) (hx:a.eval x=.slice ad m c) (hl:news.length=m*size) (hnews:0 < m->∃d,ad=some d/\∀j u,news[j]?=some u->w.cell? (d.add j)=some u) (h1:∀u∈news,u.oneCell'=true)
  (h63:n+m<=maxLen) (hbytes:(n+m)*bytes<=140737488355328) (hbase:base<=w.heap.size)
  (h:∀v' w',w'.ownsRow base e size v' (n+m) (xs++news)->w.grownBy w' v.ownBlock->(∀g,v'.ownBlock=some g->v.ownBlock=some g\/g=w.heap.size)->wpList P ops Q rest (a.put o.dst v') w'):wpList P ops Q (o::rest) a w :=
 wpList_plain hgd fun _ hK=>fR w s x t ho base e i z size bytes ht hi hz hsize hby hzs hsz v n xs hs hown ad m c news hx hl hnews h1 h63 hbytes hbase fun v' w' h2 h3 h4=>hK _ _ (h v' w' h2 h3 h4)
end
section
variable {W w:World} {v:Value}
def L7 (l:List FrR):List Val:=l.flatMap fun f=>f.loc++f.stk
theorem kJ (l:List FrR):B7 (l.map FrR.abs)=L7 l:=by
 unfold B7 L7;rw[List.flatMap_map];rfl
theorem uJ (l:List FrR) (k:Nat) (h:∀f,f∈l->f.loc.length<=k/\f.stk.length<=k):(L7 l).length<=l.length*(2*k):=by
 induction l with
 | nil=>simp [L7]
 | cons f l ih =>
  have h1:=ih fun x hx=>h x (by simp [hx])
  have h2:=h f R5;unfold L7 at h1 ⊢;simp only[List.flatMap_cons,List.length_append,List.length_cons];rw[Nat.add_mul];omega
def lD (l:List Val) (w:World) (e:Ending) (w':World):Prop:=∃v,e=.returned v/\w'.ownsRow w.heap.size 92 2 v l.length (A5 l)/\Below w.heap.size w w'
theorem V7 {w':World} {e size n:Nat} {xs:List Value} (hB:Below w.heap.size w W) (ho:W.ownsRow w.heap.size e size v n xs) (hg:W.grownBy w' v.ownBlock):Below w.heap.size w w' :=
 ⟨hg.os.trans hB.os,hg.tape.trans hB.tape,hg.output.trans hB.output,Nat.le_trans hB.size hg.size,fun k hk=>(hg.block k (L0a hk hB.size) (fun e=>by have:=(ho.lt k e.symm).1;omega)).trans (hB.block k hk)⟩
theorem Row.src {own:Own} {t:Tag} {l:List Val} {a:Option Addr} {c:Nat} (h:Row w own t 92 2 v l.length (A5 l)) (hv:v=.slice a l.length c) (hB:Below w.heap.size w W):0 < l.length->∃d,a=some d/\∀j u,(A5 l)[j]?=some u->W.cell? (d.add j)=some u:=fun h0=>by
 obtain⟨b,c',e,_,hb⟩:=h.1.form h0;have h1:=h.1;rw[e] at hv h1
 cases hv;refine⟨_,rfl,fun j u hu=>?_⟩;have hj:=(L1a.1 hu).1;rw[D3] at hj;rw[X3,hB.cell (p:=⟨b,j,none⟩) hb,h1.cellAt j hj];exact hu
end
theorem fS (a b:Value) (n:Nat):(Builtin.zeroCells #[a,b] n).size=n*2:=by simp [Builtin.zeroCells]
def kY (w:World) (e:Ending) (w':World):Prop:=∃v,e=.returned v/\w'.ownsRow w.heap.size 92 2 v 0 []/\Below w.heap.size w w'
theorem a0y (w:World):Calls prog 235 #[.slice none 0 0,.int .i64 0] w fun e w'=>kY w e w':=by
 go_enter func235,ntmps235;go_wp2_with fail;go_ret;exact⟨_,rfl,World.ownsRow_nil _ _ _ _,Below.refl _ _⟩
theorem a0z (n:Nat) (h0:0 < n) (hn:n<=4000000) (w:World):Calls prog 235 #[.slice none 0 0,.int .i64 (n:Int)] w fun e w'=>kY w e w':=by
 obtain⟨xa,hi,hz,xc,xb⟩:=info_parts I5;have hr:∀W:World,(Builtin.append_ #[84,3] 84 #[.slice none 0 0,.int .i64 (n:Int)]).run prog W=_:=fun W=>Go.Lib.run_append_nil_zeros W 84 3 84 92 xa _ .i64 .i64 underlying84 underlying3 hi hz n h0 (by rw [xc];decide) R4 (by rw [xb];omega)
 have HR:=hid hr;clear hr hi hz xc xb;go_enter func235,ntmps235;go_wp2_with (at_builtin;go_must (refine Go.Lib.wpList_append_run _ rfl (.tmp 20) (.tmp 21) 84 3 rfl (.slice none 0 0) (.int .i64 (n:Int)) rfl rfl _ _ (HR.out _) ?_))
 go_ret;have h1:=grownCap_ge w n 0 92;refine⟨_,rfl,World.ownsRow.drew (World.ownsRow_made w _ _ (L1c _) (grownCap_le_maxLen w n 0 92 Q5) ?_),Below.drew (Below.alloc (Below.refl _ _) (L1c _) _)⟩;rw[Array.size_append,fS,fS];omega
theorem a4F:(prog.info? 84).map (fun i=>(i.zero,i.size,i.bytes))=some (some (.slice none 0 0),1,24):=by kernel_rfl
def eL (l:List FrR):List Value:=l.flatMap fun f=>[f.lv,f.sv]
theorem tP {l:List FrR} {i:Nat} {f:FrR} (h:l[i]?=some f):eL (l.take (i+1))=eL (l.take i)++[f.lv,f.sv]:=by
 have e:l.take (i+1)=l.take i++[f]:=by rw [List.take_add_one,h];rfl
 rw[e];simp[eL]
def zZ (l:List FrR) (w:World) (e:Ending) (w':World):Prop:=∃v,e=.returned v/\w'.ownsRow w.heap.size 84 1 v (l.length*2) (eL l)/\Below w.heap.size w w'
theorem qK {own:Own} {mb:Nat} {g:PgR} {R:McR} {w:World} (h:A4 w own mb g R) (hn:R.frs.length<=1000) :
  Calls prog 207 #[.pointer (some ⟨mb,3,none⟩)] w fun e w'=>zZ R.frs w e w':=by
 have c3:=h.c3;obtain⟨ca,cc,xh⟩:=G8 h.called;rw[xh] at c3;have xw:mb < w.heap.size:=h.lt mb _ h.me;obtain⟨xp,hi,hz,xn,xj⟩:=info_parts a4F;have HI:=hid hi;have HZ:=hid hz;have xt:=hid xn;have xv:=hid xj;have HH:=hid h;have xk:=hid xh;clear h xh hi hz xn xj;go_enter func207,ntmps207;go_wp2_with fail;go_loopw [3,11] (fun vl vi wr=>∃i:Nat,i<=R.frs.length/\vi=.int .i64 i/\wr.ownsRow w.heap.size 84 1 vl (i*2) (eL (R.frs.take i))/\Below w.heap.size w wr) (fun _ vi _=>R.frs.length - (intOf vi).toNat)
 case atStart=>exact ⟨0,Nat.zero_le _,rfl,World.ownsRow_nil _ _ _ _,Below.refl _ _⟩
 case round =>
  obtain⟨i,hi,rfl,xe,xb⟩:=hrel;have xc:=hid xb;have xd:=hid xe;by_cases hlt:i < R.frs.length
  ·obtain ⟨f,hf⟩:∃f,R.frs[i]?=some f:=⟨_,L1b hlt⟩
   obtain⟨cb,xx,e,_,xl⟩:=HH.out.called.1.form R4;have xf:=HH.out.called.1;rw[xk.out] at e
   cases e;rw[xk.out] at xf;have xa:∀j,j < 4->wr.cell? ⟨cb,i*4+j,none⟩=f.cells[j]?:=fun j hj=>by
    rw[xb.cell (p:=⟨cb,_,none⟩) xl,xf.cellAt _ R4];exact D6 FrR.cells_len hf hj
   obtain⟨la,lc,xi⟩:=G8 (HH.out.loc i f hf);obtain⟨sa,sc,xg⟩:=G8 (HH.out.stk i f hf);have k0:wr.cell? ⟨cb,i*4,none⟩=some (.int .i64 f.fn):=xa 0 R4;have k1:wr.cell? ⟨cb,i*4+1,none⟩=some (.int .i64 f.pc):=xa 1 R4;have k2:wr.cell? ⟨cb,i*4+2,none⟩=some f.lv:=xa 2 R4;have k3:wr.cell? ⟨cb,i*4+3,none⟩=some f.sv:=xa 3 R4;rw[xi] at k2;rw[xg] at k3;have xy:cb < wr.heap.size:=L0a xl xb.size
   have xo:=hid (tP hf);have xr:=hid xi;have xu:=hid xg;clear xa xf xe xb hf xi xg;have xz:w.heap.size<=wr.heap.size:=xc.out.size;go_wp2_with (at_builtin;go_must (refine wpList_append_lies _ rfl (.tmp 15) (.tmp 20) 131 rfl w.heap.size 84 xp _ 1 24 underlying131 HI.out HZ.out xt.out xv.out rfl R3 _ (i*2) (eL (R.frs.take i)) rfl ((xd.out.alloc _).alloc _) _ 2 2 [.slice la f.loc.length lc,.slice sa f.stk.length sc] rfl rfl (World.news_of_block (cs:=#[.slice la f.loc.length lc,.slice sa f.stk.length sc]) (t:=84) (fr:=(0,0)) (B1 R5)) (by intro u hu;simp at hu;rcases hu with rfl | rfl <;> rfl) R4 Q5 R4 Q8 _ rfl ?_))
   intro g1 cap1 w1 hown1 hgrow1 _ _;have xm:=V7 (Below.alloc (Below.alloc xc.out xc.out.size _) Q8 _) ((xd.out.alloc _).alloc _) hgrow1;have xq:=hid xm;have xs:=hid hown1;clear xm hown1 hgrow1 k0 k1 k2 k3;go_wp2_with fail;go_roundw
   case rel=>exact ⟨i+1,by omega,by go_num,by
    rw[xo.out,xr.out,xu.out,show (i+1)*2=i*2+2 by omega];exact xs.out,xq.out⟩
   case measure=>simp [intOf];omega
  ·obtain rfl:i=R.frs.length:=by omega
   rw[List.take_length] at xd;clear xb xe;go_wp2_with fail;go_ret;exact⟨_,rfl,xd.out,xc.out⟩
def yT (W:World) (a:Option Addr) (ls:List (Value × List Val)):Prop :=
 0 < ls.length->∃b,a=some ⟨b,0,none⟩/\b < W.heap.size/\∀(i:Nat) (p:Value × List Val),ls[i]?=some p->W.cell? ⟨b,i,none⟩=some p.1 /\
  ∃la lc,p.1=.slice la p.2.length lc/\(0 < p.2.length->∃d,la=some ⟨d,0,none⟩/\d < W.heap.size/\∀(j:Nat) (u:Value),(A5 p.2)[j]?=some u->W.cell? ⟨d,j,none⟩=some u)
def eC (ls:List (Value × List Val)):List Val:=ls.flatMap (·.2)
theorem oI {ls:List (Value × List Val)} {i:Nat} {p:Value × List Val} (h:ls[i]?=some p):eC (ls.take (i+1))=eC (ls.take i)++p.2:=by
 have e:ls.take (i+1)=ls.take i++[p]:=by rw [List.take_add_one,h];rfl
 rw[e];simp[eC]
theorem a2f (ls:List (Value × List Val)) (h:∀p,p∈ls->p.2.length<=1000):(eC ls).length<=ls.length*1000:=by
 induction ls with
 | nil=>simp [eC]
 | cons p l ih =>
  have h1:=ih fun x hx=>h x (by simp [hx])
  have h2:=h p R5;unfold eC at h1 ⊢;simp only[List.flatMap_cons,List.length_append,List.length_cons];rw[Nat.add_mul];omega
theorem a2A (n:Nat) (hn:n<=4000000) (w:World):Calls prog 235 #[.slice none 0 0,.int .i64 (n:Int)] w fun e w'=>kY w e w':=by
 rcases Nat.eq_zero_or_pos n with rfl | h
 ·exact a0y w
 ·exact a0z n h hn w
theorem vH (a:Option Addr) (c:Nat) (ls:List (Value × List Val)) (w:World) (hn:ls.length<=2000) (hl:∀p,p∈ls->p.2.length<=1000) (hs:yT w a ls) :
  Calls prog 227 #[.slice a ls.length c] w fun e w'=>lD (eC ls) w e w':=by
 obtain⟨xi,hi,hz,xn,xl⟩:=info_parts I5;have HI:=hid hi;have HZ:=hid hz;have xq:=hid xn;have xv:=hid xl;have HS:=hid hs;have HL:=hid hl;have HT:Hid (∀i,(eC (ls.take i)).length<=2000000):=fun i=>by
  have:=a2f (ls.take i) fun p hp=>hl p (List.mem_of_mem_take hp)
  rw[List.length_take] at this;have:min i ls.length*1000<=2000*1000:=Nat.mul_le_mul_right _ R4;omega
 clear hi hz xn xl hs hl;go_enter func227,ntmps227;go_wp2_with fail;go_loopw [3,11] (fun vs vi wr=>∃i:Nat,i<=ls.length/\vi=.int .i64 i/\vs=.int .i64 ((eC (ls.take i)).length:Int)/\Below w.heap.size w wr) (fun _ vi _=>ls.length - (intOf vi).toNat)
 case atStart=>exact ⟨0,Nat.zero_le _,rfl,rfl,Below.refl _ _⟩
 case round =>
  obtain⟨i,hi,rfl,rfl,xa⟩:=hrel;by_cases hlt:i < ls.length
  ·obtain ⟨p,hp⟩:∃p,ls[i]?=some p:=⟨_,L1b hlt⟩
   obtain⟨b,rfl,hb,xg⟩:=HS.out R4;obtain⟨k0,la,lc,hv,_⟩:=xg i p hp;rw[hv,<- xa.cell (p:=⟨b,i,none⟩) hb] at k0;have xr:b < wr.heap.size:=L0a hb xa.size;have xb:=hid xa;have ht:=HT.out i;have xx:=HT.out (i+1);have xj:=hid (oI hp);have xt:=HL.out p (L2a hp);clear xg hv hp xa;generalize hq:(eC (ls.take i)).length=q at *
   go_wp2_with fail;go_roundw
   case rel=>exact ⟨i+1,by omega,by go_num,by rw [xj.out,List.length_append,hq];go_num,xb.out⟩
   case measure=>simp [intOf];omega
  ·obtain rfl:i=ls.length:=by omega
   have ht:=HT.out ls.length;rw[List.take_length] at ht ⊢;generalize hq:(eC ls).length=q at *
   have xd:=hid xa;clear xa;go_wp2_with fail;refine (a2A q R4 _).mono ?_;rintro e w1 ⟨v1,rfl,xe,xm⟩;have xp:=hid (E2 xe xd.out.size);have xo:=hid (A6 xm xd.out);clear xe xm;go_wp2_with fail;go_loopw [6,27] (fun vl vi wr=>∃i:Nat,i<=ls.length/\vi=.int .i64 i/\wr.ownsRow w.heap.size 92 2 vl (eC (ls.take i)).length (A5 (eC (ls.take i)))/\Below w.heap.size w wr) (fun _ vi _=>ls.length - (intOf vi).toNat)
   case atStart=>exact ⟨0,Nat.zero_le _,rfl,xp.out,xo.out⟩
   case round =>
    obtain⟨i,hi,rfl,xf,xa⟩:=hrel;have xb:=hid xa;have xc:=hid xf;by_cases hlt:i < ls.length
    ·obtain ⟨p,hp⟩:∃p,ls[i]?=some p:=⟨_,L1b hlt⟩
     obtain⟨b,rfl,hb,xg⟩:=HS.out R4;obtain⟨k0,la,lc,hv,xh⟩:=xg i p hp;rw[hv,<- xa.cell (p:=⟨b,i,none⟩) hb] at k0;have xr:b < wr.heap.size:=L0a hb xa.size;have ht:=HT.out i;have xj:=hid (oI hp);have xt:=HL.out p (L2a hp);have xk:Hid (0 < p.2.length->∃d,la=some d/\∀j u,(A5 p.2)[j]?=some u->wr.cell? (d.add j)=some u):=fun h0=>by
      obtain⟨d,e1,e2,e3⟩:=xh h0;refine⟨_,e1,fun j u hu=>?_⟩;rw[X3,xa.cell (p:=⟨d,j,none⟩) e2];exact e3 j u hu
     have xw:w.heap.size<=wr.heap.size:=xa.size;clear xg hv hp xh xa xf;go_wp2_with (at_builtin;go_must (refine B0 _ rfl (.tmp 31) (.tmp 32) 84 rfl w.heap.size 92 xi _ 2 16 underlying84 HI.out HZ.out xq.out xv.out rfl R3 _ (eC (ls.take i)).length (A5 (eC (ls.take i))) rfl xc.out la p.2.length lc (A5 p.2) rfl (D3 _) xk.out (X1 _) Q5 R4 R4 ?_))
     intro v2 w2 hown2 hgrow2 _;have xu:=hid (V7 xb.out xc.out hgrow2);have xs:=hid hown2;clear hown2 hgrow2 k0;go_wp2_with fail;go_roundw
     case rel=>exact ⟨i+1,by omega,by go_num,by
      rw[xj.out,G9,List.length_append];exact xs.out,xu.out⟩
     case measure=>simp [intOf];omega
    ·obtain rfl:i=ls.length:=by omega
     rw[List.take_length] at xc;clear xa xf;go_wp2_with fail;go_ret;exact⟨_,rfl,xc.out,xb.out⟩
section
variable {own:Own} {w:World}
def Z3 (l:List FrR):List (Value × List Val):=l.flatMap fun f=>[(f.lv,f.loc),(f.sv,f.stk)]
theorem gD (l:List FrR):(Z3 l).length=l.length*2:=by
 induction l with
 | nil=>rfl
 | cons f l ih=>unfold Z3 at ih ⊢;simp only [List.flatMap_cons,List.length_append,List.length_cons,List.length_nil];omega
theorem wL (l:List FrR):eC (Z3 l)=L7 l:=by
 induction l with
 | nil=>rfl
 | cons f l ih=>unfold Z3 eC L7 at ih ⊢;simp only [List.flatMap_cons,List.flatMap_append,List.flatMap_nil,List.append_nil,ih]
theorem wM (l:List FrR):eL l=(Z3 l).map (·.1):=by
 induction l with
 | nil=>rfl
 | cons f l ih=>unfold Z3 eL at ih ⊢;simp only [List.flatMap_cons,List.map_append,List.map_cons,List.map_nil,ih]
theorem mD {l:List FrR} {p:Value × List Val} (h:p∈Z3 l):∃(i:Nat) (f:FrR),l[i]?=some f/\(p=(f.lv,f.loc)\/p=(f.sv,f.stk)):=by
 unfold Z3 at h;obtain⟨f,hf,hp⟩:=List.mem_flatMap.1 h;obtain⟨i,hi⟩:=List.mem_iff_getElem?.1 hf;refine⟨i,f,hi,?_⟩;simpa using hp
theorem zT {t:Tag} {v:Value} {l:List Val} (h:Row w own t 92 2 v l.length (A5 l)) {W:World} (hB:Below w.heap.size w W):∃la lc,v=.slice la l.length lc/\(0 < l.length->∃d,la=some ⟨d,0,none⟩/\d < W.heap.size/\∀(j:Nat) (u:Value),(A5 l)[j]?=some u->W.cell? ⟨d,j,none⟩=some u):=by
 obtain⟨la,lc,hv⟩:=G8 h;refine⟨la,lc,hv,fun h0=>?_⟩;obtain⟨b,c',e,_,hb⟩:=h.1.form h0;have h1:=h.1;rw[e] at hv h1
 cases hv;refine⟨b,rfl,L0a hb hB.size,fun j u hu=>?_⟩;have hj:=(L1a.1 hu).1;rw[D3] at hj;rw[hB.cell (p:=⟨b,j,none⟩) hb,h1.cellAt j hj];exact hu
theorem uK {mb:Nat} {g:PgR} {R:McR} (h:A4 w own mb g R) (hn:R.frs.length<=1000) (hf:∀f,f∈R.frs->f.loc.length<=1000/\f.stk.length<=1000) :
  Calls prog 189 #[.pointer (some ⟨mb,3,none⟩)] w fun e w'=>lD (L7 R.frs) w e w':=by
 have HH:=hid h;have HF:=hid hf;clear h hf;go_enter func189,ntmps189;go_wp2_with fail;refine (qK HH.out hn).mono ?_;rintro e w1 ⟨v,rfl,xa,hb⟩;obtain⟨la,lc,rfl⟩:∃la lc,v=.slice la (Z3 R.frs).length lc:=by
  rw[gD];rcases xa.2 with ⟨h1,h2⟩ | ⟨g,xh,xi,h1,_⟩
  ·exact ⟨none,0,by rw [h1,h2]⟩
  ·exact ⟨_,_,h1⟩
 have HL:Hid (yT w1 la (Z3 R.frs)):=fun h0=>by
  have xa:=xa;rw[<- gD] at xa;obtain⟨b,c',e,_,xd⟩:=xa.form h0
  cases e;refine⟨b,rfl,xd,fun i p hp=>?_⟩;have hi:=(L1a.1 hp).1;refine⟨?_,?_⟩
  ·rw [xa.cellAt i R4,wM,List.getElem?_map,hp]
   rfl
  ·obtain ⟨k,f,hk,he⟩:=mD (L2a hp)
   rcases he with rfl | rfl
   ·exact zT (HH.out.loc k f hk) hb
   ·exact zT (HH.out.stk k f hk) hb
 have HB:=hid hb;have xg:(Z3 R.frs).length<=2000:=by rw [gD];omega
 have HM:Hid (∀p,p∈Z3 R.frs->p.2.length<=1000):=fun p hp=>by
  obtain⟨k,f,hk,he⟩:=mD hp;have:=HF.out f (L2a hk);rcases he with rfl | rfl
  ·exact this.1
  ·exact this.2
 have HC:=hid (wL R.frs);clear xa hb;generalize Z3 R.frs=ls at *
 go_wp2_with fail;refine (vH la lc ls w1 xg HM.out HL.out).mono ?_;rintro e w2 ⟨v2,rfl,xb,xc⟩;rw[HC.out] at xb;have xe:=hid (E2 xb HB.out.size);have xf:=hid (A6 xc HB.out);clear xb xc;go_wp2_with fail;go_ret;exact⟨_,rfl,xe.out,xf.out⟩
end
section
variable {R:McR} {W w:World} {g:PgR} {mb:Nat} {own:Own} {v:Value}
def K1 (ty size n:Nat) (xs:List Value) (w:World) (e:Ending) (w':World):Prop :=
 ∃v,e=.returned v/\w'.ownsRow w.heap.size ty size v n xs/\Below w.heap.size w w'
theorem sB (d:Addr) (n c:Nat) (xs:List Value) (w:World) (hm:n<=100000) (hl:xs.length=n*2) (hx:∀W,Below w.heap.size w W->∀j u,xs[j]?=some u->W.cell? (d.add j)=some u) (h1:∀u∈xs,u.oneCell'=true) :
  Calls prog 90 #[.slice (some d) n c] w fun e w'=>K1 92 2 n xs w e w':=by
 have HX:=hid hx;have HL:=hid hl;have H1:=hid h1;clear hx hl h1;go_enter func90,ntmps90;have xe:∀W:World,(binOp .eql 84 (.slice (some d) n c) (.slice none 0 0)).run prog W=.ok (.bool false) W:=fun W=>Go.Lib.run_eql_slice_nil W 84 92 _ n c 0 0 underlying84
 obtain⟨i,hi,hz,xb,xa⟩:=info_parts I5;have HI:=hid hi;have HZ:=hid hz;have xd:=hid xb;have xc:=hid xa;clear hi hz xb xa;go_wp2_with (at_builtin;go_must (refine B0 _ rfl (.tmp 5) (.tmp 6) 84 rfl w.heap.size 92 i _ 2 16 underlying84 HI.out HZ.out xd.out xc.out rfl R3 (.slice (some ⟨w.heap.size,0,none⟩) 0 0) 0 [] rfl (World.ownsRow_made w #[] 0 (L1c _) (Nat.zero_le _) rfl) (some d) n c xs rfl HL.out (fun _=>⟨d,rfl,HX.out _ (Below.alloc (Below.refl _ _) (L1c _) _)⟩) H1.out Q5 R4 R5 ?_))
 intro v' w5 hown hgrow _;have HB:Hid (Below w.heap.size w w5):=W5 (v:=.slice (some ⟨w.heap.size,0,none⟩) 0 0) (Below.alloc (Below.refl _ _) (L1c _) _) rfl (L1c _) hgrow;have ho:w5.ownsRow w.heap.size 92 2 v' n xs:=by simpa using hown
 have HO:=hid ho;clear hown hgrow ho;go_wp2_with fail;go_ret;exact⟨v',rfl,HO.out,HB.out⟩
theorem vD (n c:Nat) (w:World):Calls prog 90 #[.slice none n c] w fun e w'=>K1 92 2 0 [] w e w':=by
 have xa:∀W:World,(binOp .eql 84 (.slice none n c) (.slice none 0 0)).run prog W=.ok (.bool true) W:=fun W=>Go.Lib.run_eql_slice_nil W 84 92 none n c 0 0 underlying84
 go_enter func90,ntmps90;go_wp2_with fail;go_ret;exact⟨_,rfl,World.ownsRow_nil _ _ _ _,Below.refl _ _⟩
theorem fY {t:Tag} {l:List Val} {a:Option Addr} {c:Nat} (h:Row w own t 92 2 v l.length (A5 l)) (hv:v=.slice a l.length c) (hB:Below w.heap.size w W) (hm:l.length<=1000) :
  Calls prog 90 #[.slice a l.length c] W fun e w'=>K1 92 2 l.length (A5 l) W e w':=by
 cases a with
 | none =>
  have h0:l.length=0:=by
   rcases Nat.eq_zero_or_pos l.length with h0 | h0
   ·exact h0
   ·obtain ⟨d,hd,_⟩:=h.src hv hB h0;cases hd
  have xa:=List.length_eq_zero_iff.1 h0;subst xa;exact vD _ _ _
 | some d =>
  refine sB d l.length c (A5 l) W R4 (D3 _) (fun V hV j u hu=>?_) (X1 _);have hj:=(L1a.1 hu).1;rw[D3] at hj;obtain⟨d',hd,hc⟩:=h.src hv (A6 hV hB) R4
  cases hd;exact hc j u hu
theorem rZ (d:Addr) (n c:Nat) (xs:List Value) (w:World) (hm:n<=100000) (hl:xs.length=n*4) (hx:∀W,Below w.heap.size w W->∀j u,xs[j]?=some u->W.cell? (d.add j)=some u) (h1:∀u∈xs,u.oneCell'=true) :
  Calls prog 89 #[.slice (some d) n c] w fun e w'=>K1 86 4 n xs w e w':=by
 have HX:=hid hx;have HL:=hid hl;have H1:=hid h1;clear hx hl h1;go_enter func89,ntmps89;have xe:∀W:World,(binOp .eql 66 (.slice (some d) n c) (.slice none 0 0)).run prog W=.ok (.bool false) W:=fun W=>Go.Lib.run_eql_slice_nil W 66 86 _ n c 0 0 underlying66
 obtain⟨i,hi,hz,xb,xa⟩:=info_parts eH;have HI:=hid hi;have HZ:=hid hz;have xd:=hid xb;have xc:=hid xa;clear hi hz xb xa;go_wp2_with (at_builtin;go_must (refine B0 _ rfl (.tmp 5) (.tmp 6) 66 rfl w.heap.size 86 i _ 4 64 underlying66 HI.out HZ.out xd.out xc.out rfl R3 (.slice (some ⟨w.heap.size,0,none⟩) 0 0) 0 [] rfl (World.ownsRow_made w #[] 0 (L1c _) (Nat.zero_le _) rfl) (some d) n c xs rfl HL.out (fun _=>⟨d,rfl,HX.out _ (Below.alloc (Below.refl _ _) (L1c _) _)⟩) H1.out Q5 R4 R5 ?_))
 intro v' w5 hown hgrow _;have HB:Hid (Below w.heap.size w w5):=W5 (v:=.slice (some ⟨w.heap.size,0,none⟩) 0 0) (Below.alloc (Below.refl _ _) (L1c _) _) rfl (L1c _) hgrow;have ho:w5.ownsRow w.heap.size 86 4 v' n xs:=by simpa using hown
 have HO:=hid ho;clear hown hgrow ho;go_wp2_with fail;go_ret;exact⟨v',rfl,HO.out,HB.out⟩
theorem vA (n c:Nat) (w:World):Calls prog 89 #[.slice none n c] w fun e w'=>K1 86 4 0 [] w e w':=by
 have xa:∀W:World,(binOp .eql 66 (.slice none n c) (.slice none 0 0)).run prog W=.ok (.bool true) W:=fun W=>Go.Lib.run_eql_slice_nil W 66 86 none n c 0 0 underlying66
 go_enter func89,ntmps89;go_wp2_with fail;go_ret;exact⟨_,rfl,World.ownsRow_nil _ _ _ _,Below.refl _ _⟩
theorem lS (h:A4 w own mb g R):∀u∈R.frs.flatMap FrR.cells,u.oneCell'=true:=by
 intro u hu;obtain⟨f,hf,hu⟩:=List.mem_flatMap.1 hu;obtain⟨i,hi⟩:=List.mem_iff_getElem?.1 hf;obtain⟨la,lc,xb⟩:=G8 (h.loc i f hi);obtain⟨sa,sc,xa⟩:=G8 (h.stk i f hi);simp only[FrR.cells,List.mem_cons,List.not_mem_nil,or_false] at hu;rcases hu with rfl | rfl | rfl | rfl
 ·rfl
 ·rfl
 ·rw [xb];rfl
 ·rw [xa];rfl
theorem lK (h:A4 w own mb g R) (hB:Below w.heap.size w W) (hn:R.frs.length<=1000) {a:Option Addr} {c:Nat} (hv:R.cv=.slice a R.frs.length c) :
  Calls prog 89 #[.slice a R.frs.length c] W fun e w'=>K1 86 4 R.frs.length (R.frs.flatMap FrR.cells) W e w':=by
 cases a with
 | none =>
  have h0:R.frs.length=0:=by
   rcases h.called.1.2 with ⟨_,e⟩ | ⟨_,_,_,e,_⟩
   ·exact e
   ·rw [hv] at e;cases e
  have xb:=List.length_eq_zero_iff.1 h0;rw[xb];exact vA _ _ _
 | some d =>
  refine rZ d R.frs.length c _ W R4 (X5 FrR.cells_len _) (fun V hV j u hu=>?_) (lS h);have hj:=(L1a.1 hu).1;rw[X5 FrR.cells_len] at hj;obtain⟨b,c',e,_,hb⟩:=h.called.1.form R4;have xa:=h.called.1;rw[hv] at e
  cases e;rw[hv] at xa;rw[X3,(A6 hV hB).cell (p:=⟨b,j,none⟩) hb,xa.cellAt j hj];exact hu
theorem eY {B e size n:Nat} {xs:List Value} (h:w.ownsRow B e size v n xs):∃a c,v=.slice a n c:=by
 rcases h.2 with ⟨e,e0⟩ | ⟨gb,xa,_,e,_⟩
 ·exact ⟨none,0,by rw [e,e0]⟩
 ·exact ⟨_,_,e⟩
end
end Go.Proofs.YtbkmgoffiigdbaaGreatDoor
