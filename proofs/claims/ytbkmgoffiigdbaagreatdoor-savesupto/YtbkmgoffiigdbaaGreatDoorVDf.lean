import Derived.Test.YtbkmgoffiigdbaaGreatDoorVDe
import Derived.Lib.SliceRun
namespace Go.Proofs.YtbkmgoffiigdbaaGreatDoor
open Go.RowKit Go.Sort Go.Proofs.Tryz
set_option maxHeartbeats 4000000
set_option maxRecDepth 1000000
section
variable {j:Nat} {l:List ObR}
theorem a4e (d:Int) {n:Nat} (hn:0 < n):(d.tmod (n:Int)+(n:Int)).tmod (n:Int)=d % (n:Int):=by
 have xa:(0:Int) < (n:Int):=by omega
 have h1:0<=d.tmod (n:Int)+(n:Int):=by have:=Int.lt_tmod_of_pos d xa;omega
 rw[Int.tmod_eq_emod_of_nonneg h1,Int.add_emod_right];have h2:=Int.mul_tdiv_add_tmod d (n:Int);have h3:d.tmod (n:Int)=d - (n:Int)*d.tdiv (n:Int):=by omega
 rw[h3,Int.sub_mul_emod_self_left]
theorem a1h (d:Int) {n:Nat} (hn:0 < n):(d.tmod (n:Int)+(n:Int)) % (n:Int)=d % (n:Int):=by
 have h1:0<=d.tmod (n:Int)+(n:Int):=by have:=Int.lt_tmod_of_pos d (show (0:Int) < (n:Int) by omega);omega
 rw[<- Int.tmod_eq_emod_of_nonneg h1];exact a4e d hn
def a0Y {α:Type} : List α->Nat->List α->List α
 | xs,_,[]=>xs
 | xs,o,v::vs=>a0Y (xs.set o v) (o+1) vs
theorem uE {α:Type} : ∀(vs pre ys:List α),vs.length<=ys.length->a0Y (pre++ys) pre.length vs=pre++vs++ys.drop vs.length
 | [],pre,ys,_=>by simp [a0Y]
 | v::vs,pre,[],h=>by simp at h
 | v::vs,pre,y::ys,h=>by
  have e:(pre++y::ys).set pre.length v=(pre++[v])++ys:=by simp
  have:=uE vs (pre++[v]) ys (by simpa using h);rw[a0Y,e,show pre.length+1=(pre++[v]).length by simp,this];simp
theorem dR {e n b cap:Nat} : ∀(vs xs:List Value) (o:Nat) (w:World),w.ownsRow 0 e 1 (.slice (zA b) n cap) n xs->(w.setCells b o vs).ownsRow 0 e 1 (.slice (zA b) n cap) n (a0Y xs o vs)
 | [],_,_,_,h=>h
 | v::vs,_,o,_,h=>dR vs _ (o+1) _ (World.ownsRow.stored h o v).1
theorem cS (b:Nat):∀(vs:List Value) (o:Nat) (w:World),(w.setCells b o vs).heap.size=w.heap.size
 | [],_,_=>rfl
 | v::vs,o,w=>by
  show ((w.setCell ⟨b,o,none⟩ v).setCells b (o+1) vs).heap.size=_;rw[cS b vs];simp
theorem cK (b:Nat):∀(vs:List Value) (o:Nat) (w:World) (k:Nat),k≠b->(w.setCells b o vs).heap[k]?=w.heap[k]?
 | [],_,_,_,_=>rfl
 | v::vs,o,w,k,h=>by
  show ((w.setCell ⟨b,o,none⟩ v).setCells b (o+1) vs).heap[k]?=_;rw[cK b vs _ _ _ h,heap_setCell_other _ _ _ _ h]
theorem cR (b:Nat):∀(vs:List Value) (o:Nat) (w:World),(w.setCells b o vs).os=w.os/\(w.setCells b o vs).tape=w.tape/\(w.setCells b o vs).output=w.output
 | [],_,_=>⟨rfl,rfl,rfl⟩
 | v::vs,o,w=>by
  show ((w.setCell ⟨b,o,none⟩ v).setCells b (o+1) vs).os=_/\((w.setCell ⟨b,o,none⟩ v).setCells b (o+1) vs).tape=_/\((w.setCell ⟨b,o,none⟩ v).setCells b (o+1) vs).output=_;exact cR b vs (o+1) (w.setCell ⟨b,o,none⟩ v)
theorem a5Q (d:Int) (n:Nat) (h1:1<=n) (h2:n<=1000) (w:World) :
  Calls prog 210 #[J d,J (n:Int)] w fun e w'=>e=.returned (J (d % (n:Int)))/\∃m,w'=w.drewN m:=by
 have xa:=Int.lt_tmod_of_pos d (show (0:Int) < (n:Int) by omega);have xd:=Int.tmod_lt_of_pos d (show (0:Int) < (n:Int) by omega);have hr:=a1h d h1;have xc:=Int.emod_nonneg d (show (n:Int)≠0 by omega);have xb:=Int.emod_lt_of_pos d (show (0:Int) < (n:Int) by omega);have HR:=hid hr;clear hr;go_enter func210,ntmps210;go_wp2
 all_goals go_ret
 all_goals exact ⟨congrArg (fun x=>Ending.returned (Value.int .i64 x)) HR.out,0,rfl⟩
def jL (b cap:Nat) (xs:List Value) (w:World) (e:Ending) (w':World):Prop :=
 e=.returned (.slice (zA b) xs.length cap)/\w'.ownsRow 0 3 1 (.slice (zA b) xs.length cap) xs.length xs/\w'.heap.size=w.heap.size/\(∀k,k≠b->w'.heap[k]?=w.heap[k]?)/\w'.os=w.os/\w'.tape=w.tape/\w'.output=w.output
theorem a9S:Tryz.t3.zero=some (J 0):=by kernel_rfl
theorem a8W:∀w:World,(zeroValue 3).run prog w=.ok (J 0) w:=fun w=>by simp [zeroValue,a9S]
theorem zH (b cap:Nat) (x:Value) (xs:List Value) (w:World) (h:w.ownsRow 0 3 1 (.slice (zA b) (xs.length+1) cap) (xs.length+1) (x::xs)) (h1:∀u∈xs,u.oneCell'=true) (hn:xs.length<=1000) :
  Calls prog 211 #[.slice (zA b) (xs.length+1) cap,J 0,J 1] w fun e w'=>jL b cap xs w e w':=by
 obtain⟨i3,hi,hz,xl,xn⟩:=info_parts iE;obtain⟨xk,xq⟩:=W3 h;have xb:cap<=maxLen:=by
  rcases h.2 with ⟨h0,_⟩ | ⟨g',xj,xm,hv,_,_,_,h4,_⟩
  ·cases h0
  ·cases hv;exact h4
 have xi:cap<=9223372036854775807:=by unfold maxLen at xb;exact xb
 have xa:∀j u,(x::xs)[j]?=some u->w.cell? ⟨b,j,none⟩=some u:=fun j u hu=>by
  have hj:=(L1a.1 hu).1;rw[h.cellAt j (by simpa using hj)];exact hu
 obtain⟨A,hA,xh⟩:∃A:Addr,(if cap=1 then some (⟨b,0,none⟩:Addr) else some ⟨b,1,none⟩)=some A/\Hid (∀t u,xs[t]?=some u->w.drew.cell? (A.add t)=some u):=by
  by_cases hc:cap=1
  ·refine ⟨⟨b,0,none⟩,by simp [hc],fun t u hu=>?_⟩
   have h0:xs.length=0:=by omega
   rw[List.length_eq_zero_iff.1 h0] at hu;simp at hu
  ·refine ⟨⟨b,1,none⟩,by simp [hc],fun t u hu=>?_⟩
   have e:(⟨b,1,none⟩:Addr).add t=⟨b,1+t,none⟩:=by unfold Addr.add;split <;> simp_all
   rw[e];exact xa (1+t) u (by rw [Nat.add_comm];simpa using hu)
 have s1:Hid (xs.length=xs.length*1):=(Nat.mul_one _).symm;have s2:Hid (∀u∈xs,u.oneCell'=true):=h1;have s3:Hid (∀t,t < xs.length->(w.drew.cell? ⟨b,0+0*1+t,none⟩).isSome=true/\w.drew.frozen? ⟨b,0+0*1+t,none⟩=false):=fun t ht=>by
  rw[show 0+0*1+t=t by omega];refine⟨?_,h.frozenAt t⟩;show (w.cell? _).isSome=true;rw[xa t _ (L1b Q9)];rfl
 have o1:(w.drew.setCells b (0+0*1) xs).ownsRow 0 3 1 (.slice (zA b) (xs.length+1) cap) (xs.length+1) (a0Y (x::xs) (0+0*1) xs):=dR xs _ _ _ h.drew;obtain⟨y,hy⟩:∃y,a0Y (x::xs) (0+0*1) xs=xs++[y]:=by
  have e:=uE xs [] (x::xs) R6;rw[show 0+0*1=([]:List Value).length from rfl];rw[List.nil_append] at e;rw[e];obtain⟨y,hy⟩:∃y,(x::xs).drop xs.length=[y]:=List.length_eq_one_iff.1 R6
  exact⟨y,by rw [hy];simp⟩
 rw[hy] at o1;have xf:=cS b xs (0+0*1) w.drew;have xg:=cK b xs (0+0*1) w.drew;have xd:=cR b xs (0+0*1) w.drew;obtain⟨W1,xe⟩:∃W1,W1=w.drew.setCells b (0+0*1) xs:=⟨_,rfl⟩
 rw[<- xe] at o1 xf xg xd;have xo:∀ty,(Builtin.clear_ #[24] ty #[.slice (some ⟨b,xs.length,none⟩) 1 (cap - xs.length)]).run prog W1=.ok (.tuple #[]) (W1.setCells b xs.length [J 0]) :=
  fun ty=>Lib.run_clear_slice W1 24 3 ty _ underlying24 a8W rfl rfl b xs.length _ _ R5 (fun t ht=>by
   obtain rfl:t=0:=by omega
   rw[o1.cellAt _ R5];simp) (fun t ht=>o1.frozenAt _)
 have hW:Hid (W1=w.drew.setCells b (0+0*1) xs):=xe;have xc:Hid (jL b cap xs w (.returned (.slice (zA b) xs.length cap)) (W1.setCells b xs.length [J 0])):=by
  have o2:=dR [J 0] _ xs.length _ o1;rw[uE [Value.int .i64 0] xs [y] R6] at o2;have o3:=xA o2 (m:=xs.length) R5;refine⟨rfl,?_,?_,fun k hk=>?_,?_⟩
  ·simpa using o3
  ·rw [cS,xf];rfl
  ·rw [cK b _ _ _ _ hk];exact xg k hk
  ·obtain ⟨r1,r2,r3⟩:=cR b [Value.int .i64 0] xs.length W1
   exact⟨r1.trans xd.1,r2.trans xd.2.1,r3.trans xd.2.2⟩
 have xp:(1:Int)<=(xs.length:Int)+1:=by omega
 clear xe xf xg xd o1 h xa h1 xb;go_enter func211,ntmps211;go_wp2_with fail;go_region_law (refine step_append_room rfl (.tmp 22) (.tmp 25) 24 rfl 3 i3 1 underlying24 hi xl b 0 0 cap (by simp [Act.eval,Act.put]) A xs.length (cap - 1) xs (by simp [Act.eval,Act.put]) s1.out xh.out s2.out R5 s3.out ?_;rw [<- hW.out])
 all_goals go_wp2
 all_goals go_ret
 all_goals exact xc.out
def jR (l:List ObR) (dr:List Int) (j:Nat) (ds:List Int):Prop :=
 match dr with
 | []=>ds=[]/\Z4 l j
 | d::r=>ds=r/\∃o,l[(d % (l.length:Int)).toNat]?=some o/\((o.kind=0/\j=(d % (l.length:Int)).toNat)\/(o.kind≠0/\Z4 l j))
theorem jR.free {dr ds:List Int} (h:jR l dr j ds):∃o,l[j]?=some o/\o.kind=0:=by
 cases dr with
 | nil=>exact h.2.1
 | cons d r =>
  obtain⟨_,o,ho,⟨hk,rfl⟩ | ⟨_,hf⟩⟩:=h
  ·exact ⟨o,ho,hk⟩
  ·exact hf.1
theorem qZ {o:ObR} (ho:l[j]?=some o) (hk:o.kind=0):taken l≠l.length:=by
 intro e;have:=(List.filter_sublist (p:=fun o:ObR=>o.kind != 0) (l:=l)).eq_of_length e;have hm:o∈l.filter fun o=>o.kind != 0:=by rw [this];exact L2a ho
 simp[hk] at hm
theorem A4.setDraws {w w':World} {own:Own} {mb:Nat} {g:PgR} {R:McR} {v:Value} {l:List Int} (h:A4 w own mb g R) (hsize:w.heap.size<=w'.heap.size)
  (hk:∀k,k < w.heap.size->k≠mb->own k≠some .draws->w'.heap[k]?=w.heap[k]?)
  (hc:∀j,j≠5->w'.cell? ⟨mb,j,none⟩=w.cell? ⟨mb,j,none⟩) (hc5:w'.cell? ⟨mb,5,none⟩=some v) (hfz:∀j,w'.frozen? ⟨mb,j,none⟩=false)
  (hrow:w'.ownsRow 0 3 1 v l.length (l.map fun n=>J n)) (hon:E7 w own v .draws) :
  A4 w' (own.upd v.ownBlock .draws) mb g { R with dv:=v,dr:=l }:=by
 have xa:=h.lt;have keep:∀t,t≠.mach->t≠.draws->∀k,own k=some t->w'.heap[k]?=w.heap[k]?:=fun t h1 h2 k hk' =>
  hk k (xa k t hk') (fun e=>by rw [e,h.me] at hk';exact h1 (L5b hk').symm) (by rw [hk'];exact fun e=>h2 (L5b e))
 have xb:∀k,k < w.heap.size->own k=none->w'.heap[k]?=w.heap[k]?:=fun k hk1 hk2=>hk k hk1 (fun e=>by rw [e,h.me] at hk2;cases hk2) (by rw [hk2];simp)
 refine⟨Own.upd_lt xa hsize hrow,?_,?_,?_,?_,?_,?_,hfz,h.out.upd xa hon (keep _ R6 R6),h.called.upd xa hon (keep _ R6 R6),h.slots.upd xa hon (keep _ R6 R6),
  fun i x hx=>(h.loc i x hx).upd xa hon (keep _ R6 R6),fun i x hx=>(h.stk i x hx).upd xa hon (keep _ R6 R6),fun j o ho=>(h.fld j o ho).upd xa hon (keep _ R6 R6),?_,?_,?_,?_,hc5,⟨hrow,fun b hb=>by simp [Own.upd,hb]⟩⟩
 ·rw [Own.upd_old hon (xa mb _ h.me)];exact h.me
 ·rw [hc 0 R5];exact h.c0
 ·rw [hc 1 R5];exact h.c1
 ·rw [hc 2 R5];exact h.c2
 ·rw [hc 3 R5];exact h.c3
 ·rw [hc 4 R5];exact h.c4
 ·exact h.pg.held hsize fun k hb=>xb k (h.pg.blk_lt hb) (h.ro k hb)
 ·intro k hb;rw [Own.upd_old hon (h.pg.blk_lt hb)];exact h.ro k hb
 ·exact h.tab.held hsize (xb 0 h.tab.1 h.ro0)
 ·rw [Own.upd_old hon h.tab.1];exact h.ro0
def iJ (own:Own) (mb:Nat) (g:PgR) (R:McR) (j:Nat) (ds:List Int) (w:World) (e:Ending) (w':World):Prop :=
 ∃dv,e=.returned (J (j:Int))/\A4 w' own mb g { R with dv:=dv,dr:=ds }/\A2 own w own w'/\∀k,k < w.heap.size->k≠mb->own k≠some .draws->w'.heap[k]?=w.heap[k]?
end
section
variable {R:McR} {g:PgR} {mb:Nat} {own:Own} {w:World}
theorem vG (h:A4 w own mb g R) (hd:R.dr=[]) (j:Nat) (hj:Z4 R.obs j) (hn:R.obs.length<=1000) :
  Calls prog 166 #[.pointer (some ⟨mb,4,none⟩)] w fun e w'=>e=.returned (J (j:Int))/\L0d w w':=by
 obtain⟨o,ho,_⟩:=id hj.1;obtain⟨hb,hc,fa,fc,he,xa,xg,_,_,_⟩:=h.slot ho;have c4:=h.c4;rw[he] at c4;obtain⟨da,dc,xb⟩:=E0 h.draws;have c5:=h.c5;rw[xb,hd,List.length_nil] at c5;have xf:mb < w.heap.size:=h.lt mb _ h.me;have xe:Hid (∀U,L0d w U->Calls prog 213 #[.slice (zA hb) R.obs.length hc,.func (.func 212) #[] #[]] U fun e w'=>e=.returned (J (j:Int))/\L0d U w'):=fun U hU=>iD (h.same hU.size fun k hk=>hU.block k hk) j hj hn hb hc he
 clear h hj ho he xa xb hd;go_enter func166,ntmps166;go_wp2_with (go_at_call 213;refine (xe.out _ ?_).mono ?_;exact P5;rintro e w2 ⟨rfl,xc⟩;have xd:Hid (L0d w w2):=A3 xc P5;clear xc)
 go_ret;exact⟨rfl,xd.out⟩
theorem a4X {R:McR} {U w2:World} (h:A4 w own mb g R) (hU:L0d w U) {r:List Int} {db dc:Nat} (hdv:R.dv=.slice (zA db) (r.length+1) dc) {e:Ending} (hp:jL db dc (r.map fun n=>J n) U e w2) :
  (∀k,k < w.heap.size->own k≠some .draws->w2.heap[k]?=w.heap[k]?)/\w.heap.size<=w2.heap.size/\(w2.frozen? ⟨mb,5,none⟩=false/\w2.cell? ⟨mb,5,none⟩=some R.dv) /\
   A4 (w2.setCell ⟨mb,5,none⟩ (.slice (zA db) r.length dc)) own mb g { R with dv:=.slice (zA db) r.length dc,dr:=r } /\
   A2 own w own (w2.setCell ⟨mb,5,none⟩ (.slice (zA db) r.length dc)) /\
   ∀k,k < w.heap.size->k≠mb->own k≠some .draws->(w2.setCell ⟨mb,5,none⟩ (.slice (zA db) r.length dc)).heap[k]?=w.heap[k]?:=by
 obtain⟨_,xf,xr,xh,xp,xg,xj⟩:=hp;have xc:own db=some .draws:=h.draws.2 db (by rw [hdv];rfl);have xn:db≠mb:=fun e=>by rw [e,h.me] at xc;cases xc
 have xb:∀k,k < w.heap.size->own k≠some .draws->w2.heap[k]?=w.heap[k]?:=fun k hk hn =>
  (xh k (fun e=>hn (by rw [e];exact xc))).trans (hU.block k hk)
 have xm:=h.lt mb _ h.me;have xe:=xb mb xm (by rw [h.me];simp);have xi:w.heap.size<=w2.heap.size:=by have:=hU.size;omega
 have xk:∀j,w2.frozen? ⟨mb,j,none⟩=false:=fun j=>by rw [L0c (w:=w) (a:=⟨mb,j,none⟩) xe];exact h.fz j
 have xl:w2.cell? ⟨mb,5,none⟩=some R.dv:=by rw [L0b (w:=w) (a:=⟨mb,5,none⟩) xe];exact h.c5
 have xq:mb < w2.heap.size:=by omega
 have xd:∀j,j≠5->(w2.setCell ⟨mb,5,none⟩ (.slice (zA db) r.length dc)).cell? ⟨mb,j,none⟩=w.cell? ⟨mb,j,none⟩:=fun j hj=>by
  rw[<- L0b (w:=w) (w':=w2) (a:=⟨mb,j,none⟩) xe];go_simp
 have xo:E7 w own (.slice (zA db) r.length dc) .draws:=fun b hb=>by
  obtain rfl:db=b:=by simpa [Value.ownBlock] using hb
  exact L4a xc
 have xa:∀k,k < w.heap.size->k≠mb->own k≠some .draws->(w2.setCell ⟨mb,5,none⟩ (.slice (zA db) r.length dc)).heap[k]?=w.heap[k]?:=fun k hk h1 h2=>by
  rw[heap_setCell_other _ _ _ _ h1];exact xb k hk h2
 rw[List.length_map] at xf;have hM:=A4.setDraws (v:=.slice (zA db) r.length dc) (l:=r) h (w':=w2.setCell ⟨mb,5,none⟩ (.slice (zA db) r.length dc)) (by simpa using xi) xa xd R3 (fun j=>by have:=xk j;go_simp) (ownsRow_setCell_other xf (by simpa [Value.ownBlock] using xn) _) xo;rw[show (Value.slice (zA db) r.length dc).ownBlock=some db from rfl,Own.upd_same xc] at hM
 refine⟨xb,xi,⟨xk 5,xl⟩,hM,⟨xp.trans hU.os,xg.trans hU.tape,xj.trans hU.output,by simpa using xi,fun k hk hno=>?_,fun _ _=>rfl⟩,xa⟩;exact xa k hk (fun e=>by rw [e,h.me] at hno;cases hno) (by rw [hno];simp)
end
section
variable {R:McR} {g:PgR} {mb:Nat} {own:Own} {w:World}
theorem vH (h:A4 w own mb g R) {d:Int} {r:List Int} (hd:R.dr=d::r) (j:Nat) (hp:jR R.obs R.dr j r) (hn:R.obs.length<=1000) (hdn:R.dr.length<=1000) :
  Calls prog 166 #[.pointer (some ⟨mb,4,none⟩)] w fun e w'=>iJ own mb g R j r w e w':=by
 obtain⟨o,ho,xa⟩:∃o,R.obs[(d % (R.obs.length:Int)).toNat]?=some o/\((o.kind=0/\j=(d % (R.obs.length:Int)).toNat)\/(o.kind≠0/\Z4 R.obs j)):=by
  rw[hd] at hp;exact hp.2
 have xy:=(L1a.1 ho).1;have xw:0 < R.obs.length:=by omega
 obtain⟨k,hk⟩:=L5c (Int.emod_nonneg d (show (R.obs.length:Int)≠0 by omega));rw[hk,Int.toNat_natCast] at ho xa xy;obtain⟨hb,hc,fa,fc,he,xf,xq,_,k0,k1⟩:=h.slot ho;have c4:=h.c4;rw[he] at c4;have xt:R.dr.length=r.length+1:=by rw [hd];rfl
 obtain⟨db,dc,xe,_,xm⟩:=h.draws.1.form R5;rw[xt] at xe;have xp:own db=some .draws:=h.draws.2 db (by rw [xe];rfl);have xb:=h.draws.1;rw[xe,hd,List.length_cons,List.map_cons] at xb;have c5:=h.c5;rw[xe] at c5;have xr:mb < w.heap.size:=h.lt mb _ h.me;have d0:w.cell? ⟨db,0,none⟩=some (J d):=by rw [xb.cellAt 0 R5];rfl
 have xc:Hid (∀U:World,Calls prog 210 #[J d,J (R.obs.length:Int)] U fun e w'=>e=.returned (J (k:Int))/\∃m,w'=U.drewN m):=fun U=>by
  rw[<- hk];exact a5Q d R.obs.length R5 hn U
 have xg:Hid (∀U:World,L0d w U->Calls prog 211 #[.slice (zA db) (r.length+1) dc,J 0,J 1] U fun e w'=>jL db dc (r.map fun n=>J n) U e w'):=by
  intro U hU;have xu:U.ownsRow 0 3 1 (.slice (zA db) (r.length+1) dc) (r.length+1) (J d::r.map fun n=>J n):=A6 xb fun b hb'=>by
   obtain rfl:db=b:=by simpa [Value.ownBlock] using hb'
   exact hU.block _ xm
  have:=zH db dc (J d) (r.map fun n=>J n) U (by simpa using xu) (by
   intro u hu;obtain⟨n,_,rfl⟩:=List.mem_map.1 hu;rfl) Q9
  simpa using this
 have xi:Hid (∀U w2 e,L0d w U->jL db dc (r.map fun n=>J n) U e w2->_):=fun U w2 e hU hp=>a4X h hU xe hp
 have xz:Hid (o.kind≠0->∀V U,A4 V own mb g { R with dv:=.slice (zA db) r.length dc,dr:=r }->L0d V U->Calls prog 213 #[.slice (zA hb) R.obs.length hc,.func (.func 212) #[] #[]] U fun e w'=>e=.returned (J (j:Int))/\L0d U w'):=fun xn V U hV hU=>by
  rcases xa with ⟨h0,_⟩ | ⟨_,hf⟩
  ·exact absurd h0 xn
  ·exact iD (R:={ R with dv:=.slice (zA db) r.length dc,dr:=r }) (hV.same hU.size fun k hk=>hU.block k hk) j hf hn hb hc he
 have HJ:Hid ((o.kind == 0)=true->j=k):=fun h0=>by
  rcases xa with ⟨_,hj⟩ | ⟨xn,_⟩
  ·exact hj
  ·exact absurd (beq_iff_eq.1 h0) xn
 have xd:own hb≠some .draws:=by rw [xf];simp
 have xh:own mb≠some .draws:=by rw [h.me];simp
 have yb:hb≠mb:=fun e=>by rw [e,h.me] at xf;cases xf
 have ya:=hid xe;clear h hp hd xa he xb xe xp ho hk;go_enter func166,ntmps166;go_wp2_with fail;go_region_with (first | (go_at_call 210;refine (xc.out _).mono ?_;rintro e w1 ⟨rfl,m1,rfl⟩))
 all_goals
  go_wp2_with (go_at_call 211;refine (xg.out _ ?_).mono ?_;exact P5;intro e w2 hdel;obtain ⟨xj,xo,⟨z5,q5⟩,hM,hT,hO⟩:=xi.out _ w2 _ P5 hdel;have he:=hdel.1;rw [List.length_map] at he;subst he;rw [ya.out] at q5;have xx:mb < w2.heap.size:=L0a xr xo;have xv:hb < w2.heap.size:=L0a xq xo;have m4:=(L0b (w:=w) (a:=⟨mb,4,none⟩) (xj mb xr xh)).trans c4;have n0:=(L0b (w:=w) (a:=⟨hb,k*2,none⟩) (xj hb xq xd)).trans k0;have n1:=(L0b (w:=w) (a:=⟨hb,k*2+1,none⟩) (xj hb xq xd)).trans k1;have HM:=hid hM;have HT:=hid hT;have HO:=hid hO;clear hdel xj xo hM hT hO c4 c5 k0 k1 d0 xi xg xc)
  cases hkk:(o.kind == 0)
  ·go_wp2_with (first | (go_at_call 212;refine (bB _ _ _ _ _).mono ?_;rintro e w' ⟨rfl,o4,rfl⟩) | (go_at_call 213;refine (xz.out (fun e=>by rw [e] at hkk;cases hkk) _ _ HM.out ?_).mono ?_;exact P5;rintro e w3 ⟨rfl,xs⟩;have xl:Hid (Below _ (w2.setCell ⟨mb,5,none⟩ (.slice (zA db) r.length dc)) w3):=A3 xs P5;clear xs))
   go_ret;exact⟨_,rfl,HM.out.same xl.out.size fun k hk=>xl.out.block k hk,HT.out.trans (A2.of_below xl.out),fun k hk h1 h2=>(xl.out.block k (L0a hk HT.out.size)).trans (HO.out k hk h1 h2)⟩
  ·go_wp2_with (first | (go_at_call 212;refine (bB _ _ _ _ _).mono ?_;rintro e w' ⟨rfl,o4,rfl⟩))
   go_ret;have xk:Below (w2.setCell ⟨mb,5,none⟩ (.slice (zA db) r.length dc)).heap.size (w2.setCell ⟨mb,5,none⟩ (.slice (zA db) r.length dc)) ((w2.setCell ⟨mb,5,none⟩ (.slice (zA db) r.length dc)).alloc o4):=L3a (L3b _ _) (L1c _) _;exact⟨_,by rw [HJ.out hkk];rfl,HM.out.same xk.size fun k hk=>xk.block k hk,HT.out.trans (A2.of_below xk),fun k hk h1 h2=>(xk.block k (L0a hk HT.out.size)).trans (HO.out k hk h1 h2)⟩
theorem yR (h:A4 w own mb g R) (j:Nat) (ds:List Int) (hp:jR R.obs R.dr j ds) (hn:R.obs.length<=1000) (hdn:R.dr.length<=1000) :
  Calls prog 166 #[.pointer (some ⟨mb,4,none⟩)] w fun e w'=>iJ own mb g R j ds w e w':=by
 cases hd:R.dr with
 | nil =>
  obtain⟨rfl,hf⟩:ds=[]/\Z4 R.obs j:=by rw [hd] at hp;exact hp
  refine (vG h hd j hf hn).mono ?_;rintro e w' ⟨rfl,hb⟩;refine⟨R.dv,rfl,?_,A2.of_below hb,fun k hk _ _=>hb.block k hk⟩;have:=h.same hb.size fun k hk=>hb.block k hk
  rw[<- hd];exact this
 | cons d r =>
  obtain rfl:ds=r:=by rw [hd] at hp;exact hp.1
  exact vH h hd j hp hn hdn
end
section
variable {R:McR} {W w:World} {args rest:List Val} {f:FrR} {fs:List FrR} {g:PgR} {j mb sb:Nat} {o p:ObR} {own:Own} {va:Option Addr}
theorem a7A {l:List ObR} (h:l[j]?=some o):(l.set j p).flatMap ObR.cells=((l.flatMap ObR.cells).set (j*2) (zC p.kind)).set (j*2+1) p.fv:=by
 have h1:=I7 (c:=ObR.cells) ObR.cells_len (l:=l) (i:=j) (j:=0) (x:=o) (y:=⟨p.kind,o.fv,o.fl⟩) (u:=zC p.kind) h R5 rfl;have xa:=(L1a.1 h).1;have h2:=I7 (c:=ObR.cells) ObR.cells_len (l:=l.set j ⟨p.kind,o.fv,o.fl⟩) (i:=j) (j:=1) (x:=⟨p.kind,o.fv,o.fl⟩) (y:=p) (u:=p.fv) (List.getElem?_set_self xa) R5 rfl;rw[List.set_set] at h2;rw[h2,h1,Nat.add_zero]
def S6 (own:Own) (g:PgR) (v:Value):Prop:=∀b,v.ownBlock=some b->own b=none/\(∀k,g.blk k->k≠b)/\b≠0
theorem S6.upd {v:Value} {t:Tag} (h:S6 own g v) {k:Nat} {s:Tag} (hk:own k=some s):own.upd v.ownBlock t k=own k:=by
 unfold Own.upd;split
 ·rename_i e;rw [(h k e).1] at hk;cases hk
 ·rfl
theorem A4.layOb {R:McR} {hb hc:Nat} (h:A4 w own mb g R) (hB:L0d w W) (hj:R.obs[j]?=some o) (he:R.hv=.slice (zA hb) R.obs.length hc) (hnb:S6 own g p.fv) (hrow:W.ownsRow 0 92 2 p.fv p.fl.length (A7 p.fl)) :
  A4 ((W.setCell ⟨hb,j*2,none⟩ (zC p.kind)).setCell ⟨hb,j*2+1,none⟩ p.fv) (own.upd p.fv.ownBlock (.fld j)) mb g { R with obs:=R.obs.set j p } /\
   ∀k,k < w.heap.size->own k≠some .slots->((W.setCell ⟨hb,j*2,none⟩ (zC p.kind)).setCell ⟨hb,j*2+1,none⟩ p.fv).heap[k]?=w.heap[k]?:=by
 have xh:=h.lt;have xa:own hb=some .slots:=h.slots.2 hb (by rw [he];rfl);have xl:hb < w.heap.size:=xh hb _ xa;have xd:∀k,k < w.heap.size->k≠hb->((W.setCell ⟨hb,j*2,none⟩ (zC p.kind)).setCell ⟨hb,j*2+1,none⟩ p.fv).heap[k]?=w.heap[k]?:=fun k hk hn=>by
  rw[heap_setCell_other _ _ _ _ hn,heap_setCell_other _ _ _ _ hn];exact hB.block k hk
 have keep:∀t,t≠.slots->∀k,own k=some t->((W.setCell ⟨hb,j*2,none⟩ (zC p.kind)).setCell ⟨hb,j*2+1,none⟩ p.fv).heap[k]?=w.heap[k]?/\own.upd p.fv.ownBlock (.fld j) k=some t:=fun t ht k hk=>⟨xd k (xh k t hk) (fun e=>by rw [e,xa] at hk;exact ht (L5b hk).symm),(hnb.upd hk).trans hk⟩
 have xe:=(keep .mach R6 mb h.me).1;have xg:w.heap.size<=((W.setCell ⟨hb,j*2,none⟩ (zC p.kind)).setCell ⟨hb,j*2+1,none⟩ p.fv).heap.size:=by have:=hB.size;simpa using this
 have xf:p.fv.ownBlock≠some hb:=fun e=>by have:=(hnb hb e).1;rw [xa] at this;cases this
 have xb:((W.setCell ⟨hb,j*2,none⟩ (zC p.kind)).setCell ⟨hb,j*2+1,none⟩ p.fv).ownsRow 0 92 2 p.fv p.fl.length (A7 p.fl):=ownsRow_setCell_other (ownsRow_setCell_other hrow xf _) xf _;have xc:((W.setCell ⟨hb,j*2,none⟩ (zC p.kind)).setCell ⟨hb,j*2+1,none⟩ p.fv).ownsRow 0 90 2 R.hv R.obs.length ((R.obs.set j p).flatMap ObR.cells):=by
  have hs:=h.slots.1;rw[he] at hs ⊢;have xj:W.ownsRow 0 90 2 (.slice (zA hb) R.obs.length hc) R.obs.length (R.obs.flatMap ObR.cells):=A6 hs fun b hb'=>by
   obtain rfl:hb=b:=by simpa [Value.ownBlock] using hb'
   exact hB.block _ xl
  have:=(World.ownsRow.stored (World.ownsRow.stored xj (j*2) (zC p.kind)).1 (j*2+1) p.fv).1;rwa [<- a7A hj] at this
 have xi:∀k,k < w.heap.size->own k=none->((W.setCell ⟨hb,j*2,none⟩ (zC p.kind)).setCell ⟨hb,j*2+1,none⟩ p.fv).heap[k]?=w.heap[k]?:=fun k hk hn=>xd k hk (fun e=>by rw [e,xa] at hn;cases hn)
 have xk:=(L1a.1 hj).1;refine⟨⟨Own.upd_lt xh xg xb,?_,?_,?_,?_,?_,?_,?_,h.out.kept (keep _ R6),h.called.kept (keep _ R6),⟨by simpa using xc,fun b hb'=>?_⟩,fun i x hx=>(h.loc i x hx).kept (keep _ R6),fun i x hx=>(h.stk i x hx).kept (keep _ R6),fun i x hx=>?_,?_,?_,?_,?_,?_,h.draws.kept (keep _ R6)⟩,fun k hk hn=>xd k hk (fun e=>hn (by rw [e];exact xa))⟩
 ·exact (hnb.upd h.me).trans h.me
 ·rw [L0b (w:=w) (a:=⟨mb,0,none⟩) xe];exact h.c0
 ·rw [L0b (w:=w) (a:=⟨mb,1,none⟩) xe];exact h.c1
 ·rw [L0b (w:=w) (a:=⟨mb,2,none⟩) xe];exact h.c2
 ·rw [L0b (w:=w) (a:=⟨mb,3,none⟩) xe];exact h.c3
 ·rw [L0b (w:=w) (a:=⟨mb,4,none⟩) xe];exact h.c4
 ·intro i;rw [L0c (w:=w) (a:=⟨mb,i,none⟩) xe];exact h.fz i
 ·have:=h.slots.2 b hb'
  exact (hnb.upd this).trans this
 ·by_cases e:i=j
  ·subst e
   obtain rfl:p=x:=by
    have:(R.obs.set i p)[i]?=some x:=hx;rw[List.getElem?_set_self xk] at this;exact L5b this
   exact⟨xb,fun b hb'=>by simp [Own.upd,hb']⟩
  ·have:(R.obs.set j p)[i]?=some x:=hx
   rw[List.getElem?_set_ne (Ne.symm e)] at this;exact (h.fld i x this).kept (keep _ R6)
 ·exact h.pg.held xg fun k hb'=>xi k (h.pg.blk_lt hb') (h.ro k hb')
 ·intro k hb'
  unfold Own.upd;rw[if_neg (fun e=>(hnb k e).2.1 k hb' rfl)];exact h.ro k hb'
 ·exact h.tab.held xg (xi 0 h.tab.1 h.ro0)
 ·unfold Own.upd
  rw[if_neg (fun e=>(hnb 0 e).2.2 rfl)];exact h.ro0
 ·rw [L0b (w:=w) (a:=⟨mb,5,none⟩) xe];exact h.c5
structure nB (own:Own) (mb:Nat) (w w':World):Prop where
 os:w'.os=w.os
 tape:w'.tape=w.tape
 output:w'.output=w.output
 size:w.heap.size<=w'.heap.size
 block:∀k,k < w.heap.size->k≠mb->own k≠some .draws->own k≠some .slots->w'.heap[k]?=w.heap[k]?
def sG (own:Own) (mb:Nat) (g:PgR) (R:McR) (j:Nat) (ds:List Int) (p:ObR) (w:World) (e:Ending) (w':World):Prop :=
 ∃dv,e=.returned (J (j:Int))/\A4 w' (own.upd p.fv.ownBlock (.fld j)) mb g { R with dv:=dv,dr:=ds,obs:=R.obs.set j p }/\nB own mb w w'
theorem a1H (h:A4 w own mb g R) (j:Nat) (ds:List Int) (hj:jR R.obs R.dr j ds) (hn:R.obs.length<=1000) (hdn:R.dr.length<=1000) (p:ObR) (nb nc:Nat) (hfv:p.fv=.slice (zA nb) p.fl.length nc) (hnb:S6 own g p.fv) (hrow:w.ownsRow 0 92 2 p.fv p.fl.length (A7 p.fl)) :
  Calls prog 118 #[.pointer (some ⟨mb,4,none⟩),.agg #[zC p.kind,p.fv]] w fun e w'=>sG own mb g R j ds p w e w':=by
 obtain⟨o,ho,xq⟩:=hj.free;have xv:=(L1a.1 ho).1;obtain⟨hb,hc,_,_,he,xj,xu,_,_,_⟩:=h.slot ho;have xw:mb < w.heap.size:=h.lt mb _ h.me;have xl:Hid (∀U,L0d w U->Calls prog 166 #[.pointer (some ⟨mb,4,none⟩)] U fun e w'=>iJ own mb g R j ds U e w'):=fun U hU=>yR (h.same hU.size fun k hk=>hU.block k hk) j ds hj hn hdn
 have xg:Hid (∀U w2 dv,L0d w U->A4 w2 own mb g { R with dv:=dv,dr:=ds }->A2 own U own w2->(∀k,k < U.heap.size->k≠mb->own k≠some .draws->w2.heap[k]?=U.heap[k]?) ->
   ((w2.cell? ⟨mb,4,none⟩=some (.slice (zA hb) R.obs.length hc)/\w2.frozen? ⟨hb,j*2,none⟩=false/\w2.frozen? ⟨hb,j*2+1,none⟩=false/\w2.cell? ⟨hb,j*2,none⟩=some (zC o.kind)/\(∃v,w2.cell? ⟨hb,j*2+1,none⟩=some v))/\mb < w2.heap.size/\hb < w2.heap.size) /\
   ∀V,L0d w2 V->sG own mb g R j ds p w (.returned (J (j:Int))) ((V.setCell ⟨hb,j*2,none⟩ (zC p.kind)).setCell ⟨hb,j*2+1,none⟩ p.fv)):=by
  intro U w2 dv hU xb xa xc;have c4:=xb.c4;obtain⟨xf,hc',fa,fc,xn,_,xp,_,k0,k1⟩:=xb.slot (R:={ R with dv:=dv,dr:=ds }) (j:=j) (o:=o) ho;have xe:R.hv=.slice (zA xf) R.obs.length hc':=xn;rw[he] at xe
  cases xe;have xi:w2.ownsRow 0 90 2 R.hv R.obs.length (R.obs.flatMap ObR.cells):=xb.slots.1;rw[he] at xi;have xm:w2.cell? ⟨mb,4,none⟩=some R.hv:=c4;rw[he] at xm;refine⟨⟨⟨xm,xi.frozenAt _,xi.frozenAt _,k0,_,k1⟩,xb.lt mb _ xb.me,xp⟩,fun V hV=>?_⟩;have xd:V.ownsRow 0 92 2 p.fv p.fl.length (A7 p.fl):=A6 hrow fun b xf=>by
   have xh:=(hrow.lt b xf).2;have h1:=(hnb b xf).1;rw[hV.block b (L0a (L0a xh hU.size) xa.size),xc b (L0a xh hU.size) (fun e=>by rw [e,h.me] at h1;cases h1) (by rw [h1];simp),hU.block b xh]
  obtain⟨xs,xr⟩:=xb.layOb (R:={ R with dv:=dv,dr:=ds }) (p:=p) hV ho he hnb xd;refine⟨dv,rfl,xs,⟨hV.os.trans (xa.os.trans hU.os),hV.tape.trans (xa.tape.trans hU.tape),hV.output.trans (xa.output.trans hU.output),?_,fun k hk h1 h2 h3=>?_⟩⟩
  ·have:=hU.size;have:=xa.size;have:=hV.size
   simp;omega
  ·rw [xr k (L0a (L0a hk hU.size) xa.size) h3,xc k (L0a hk hU.size) h1 h2,hU.block k hk]
 have xx:=hid hfv;rw[hfv] at xg ⊢;have hN:own w.heap.size≠some .draws:=by rw [h.new (L1c _)];simp
 have xo:w.heap.size≠mb:=by omega
 clear h hj ho xq he xj hrow hfv hnb;go_enter func118,ntmps118;go_wp2_with (go_at_call 166;refine (xl.out _ ?_).mono ?_;exact P5;rintro e w2 ⟨dv,rfl,xb,xa,xc⟩;obtain ⟨⟨⟨c4,z0,z1,k0,v1,k1⟩,hmb2,hhb2⟩,hfin⟩:=xg.out _ w2 dv P5 xb xa xc;have xk:=xc w.heap.size R6 xo hN;have b0:=(L0b (a:=⟨w.heap.size,0,none⟩) xk).trans (show _=some (Value.int .u8 p.kind) by go_simp);have b1:=(L0b (a:=⟨w.heap.size,1,none⟩) xk).trans (show _=some (Value.slice (zA nb) p.fl.length nc) by go_simp);have xt:w.heap.size < w2.heap.size:=L0a R6 xa.size;have HF:=hid hfin;clear hfin xb xa xc xk)
 go_region
 all_goals
  have HQ:=hid (HF.out w2.drew (L3c (L3b _ _)));clear HF xg xl;go_wp2_with fail;go_ret;exact HQ.out
theorem dS (n:Int) (w:World):Calls prog 214 #[J n] w fun e w'=>e=.returned (.agg #[zC 2,J n])/\∃o,w'=w.alloc o:=by
 go_enter func214,ntmps214;go_wp2
 exact bodyPost_ret (v:=.agg #[zC 2,J n]) (by simp [results,results214,go_sem]) rfl ⟨rfl,_,rfl⟩
def a9D (R:McR) (fs:List FrR) (f:FrR) (rest:List Val) (j:Nat) (ds:List Int) (p:ObR) (R':McR):Prop:=∃sv' dv',R'={ R with dv:=dv',dr:=ds,obs:=R.obs.set j p,frs:=fs++[{ f with pc:=f.pc+1,sv:=sv',stk:=rest++[(2,(j:Int))] }] }
theorem C0.laid {own':Own} {R1:McR} {w':World} (h:C0 w own mb g R fs f rest args va sb) (hm:A4 w' own' mb g R1) (hf:R1.frs=R.frs) (ho:∀k i,own k=some (.stk i)->own' k=own k) (hk:∀k i,own k=some (.stk i)->w'.heap[k]?=w.heap[k]?):C0 w' own' mb g R1 fs f rest args va sb :=
 ⟨hm,hf.trans h.hf,h.hst,fun h0=>by
  obtain⟨q1,q2,q3⟩:=h.hva h0;have e:=hk sb _ q2;refine⟨q1,(ho sb _ q2).trans q2,fun i x hx=>?_⟩;rw[L0b (w:=w) (a:=⟨sb,_,none⟩) e,L0b (w:=w) (a:=⟨sb,_,none⟩) e];exact q3 i x hx,h.hn,h.hs,h.hpc⟩
theorem A4.nobody (h:A4 w own mb g R) {v:Value} {nb:Nat} (hv:v.ownBlock=some nb) (hnew:w.heap.size<=nb):S6 own g v:=fun b hb=>by
 rw[hv] at hb
 cases hb;exact⟨h.new hnew,fun k hk=>by have:=h.pg.blk_lt hk;omega,by have:=h.tab.1;omega⟩
theorem C0.lay {R:McR} (h:C0 w own mb g R fs f rest args va sb) (hB:L0d w W) {j:Nat} {ds:List Int} {p:ObR} {e:Ending} {w':World} (hnew:∀b,p.fv.ownBlock=some b->w.heap.size<=b) (hl:sG own mb g R j ds p W e w') :
  ∃dv,e=.returned (J (j:Int))/\C0 w' (own.upd p.fv.ownBlock (.fld j)) mb g { R with dv:=dv,dr:=ds,obs:=R.obs.set j p } fs f rest args va sb/\A2 own w (own.upd p.fv.ownBlock (.fld j)) w':=by
 obtain⟨dv,he,hm,hb⟩:=hl;have xa:∀k,k < w.heap.size->own.upd p.fv.ownBlock (.fld j) k=own k:=fun k hk=>by
  unfold Own.upd;split
  ·rename_i e;have:=hnew k e;omega
  ·rfl
 have xb:∀k,k < w.heap.size->k≠mb->own k≠some .draws->own k≠some .slots->w'.heap[k]?=w.heap[k]?:=fun k hk h1 h2 h3=>(hb.block k (L0a hk hB.size) h1 h2 h3).trans (hB.block k hk)
 refine⟨dv,he,h.laid hm rfl (fun k i hk=>xa k (h.m.lt k _ hk)) (fun k i hk=>xb k (h.m.lt k _ hk) (fun e=>by rw [e,h.m.me] at hk;cases hk) (by rw [hk];simp) (by rw [hk];simp)),⟨hb.os.trans hB.os,hb.tape.trans hB.tape,hb.output.trans hB.output,L5a hB.size hb.size,fun k hk hn=>xb k hk (fun e=>by rw [e,h.m.me] at hn;cases hn) (by rw [hn];simp) (by rw [hn];simp),xa⟩⟩
theorem sL (h:C0 w own mb g R fs f rest args va sb) (hB:L0d w W) (j:Nat) (ds:List Int) (hj:jR R.obs R.dr j ds) (hn:R.obs.length<=1000) (hdn:R.dr.length<=1000) (p:ObR) (nb nc:Nat) (hfv:p.fv=.slice (zA nb) p.fl.length nc) (hnew:w.heap.size<=nb) (hrow:W.ownsRow 0 92 2 p.fv p.fl.length (A7 p.fl)) (k:Nat) (hk:args.length=k) (vc:Nat) :
  Calls prog 300 #[zB mb,.slice va k vc,zC p.kind,.slice (zA nb) p.fl.length nc] W fun e w'=>aW own mb g (a9D R fs f rest j ds p) 0 w e w':=by
 obtain⟨o,ho,xi⟩:=hj.free;have xe:0 < R.obs.length:=by have:=(L1a.1 ho).1;omega
 have xh:(taken R.obs == R.obs.length)=false:=L2c.2 (qZ ho xi);have xo:Hid (∀U,L0d W U->Calls prog 305 #[.pointer (some ⟨mb,4,none⟩)] U fun e w'=>e=.returned (.bool false)/\L0d U w'):=by
  intro U hU;have xa:=A3 hU hB;have:=oM (h.m.same xa.size fun k hk=>xa.block k hk) xe hn;rw[xh] at this;exact this
 have xb:p.fv.ownBlock=some nb:=by rw [hfv];rfl
 have xf:Hid (∀U,L0d W U->Calls prog 118 #[.pointer (some ⟨mb,4,none⟩),.agg #[zC p.kind,.slice (zA nb) p.fl.length nc]] U fun e w'=>∃dv,e=.returned (J (j:Int))/\C0 w' (own.upd p.fv.ownBlock (.fld j)) mb g { R with dv:=dv,dr:=ds,obs:=R.obs.set j p } fs f rest args va sb/\A2 own w (own.upd p.fv.ownBlock (.fld j)) w'):=by
  intro U hU;have xa:=A3 hU hB;have xm:=h.m.same xa.size fun k hk=>xa.block k hk
  have:=a1H xm j ds hj hn hdn p nb nc hfv (h.m.nobody xb hnew) (A6 hrow fun b hb=>hU.block b (hrow.lt b hb).2);rw[hfv] at this;rw[hfv] at xb ⊢;exact this.mono fun e w' hl=>by
   have:=h.lay xa (fun b hb=>by rw [hfv,xb] at hb;cases hb;exact hnew) hl;rw[hfv] at this;exact this
 clear h hB hj hfv hrow xh ho xi xb;go_enter func300,ntmps300;go_wp2_with (first | (go_at_call 305;refine (xo.out _ ?_).mono ?_;exact (by repeat (first | exact L3b _ _ | exact xd.out));rintro e w2 ⟨rfl,xl⟩;have xd:Hid (L0d W w2):=A3 xl (by repeat (first | exact L3b _ _ | exact xd.out));clear xl))
 refine (xf.out _ xd.out).mono ?_;rintro e w3 ⟨dv,rfl,xk,xj⟩;have xg:=hid xk;have xp:=hid xj;clear xk xj;go_wp2_with (first | (go_at_call 214;refine (dS _ _).mono ?_;rintro e w' ⟨rfl,o4,rfl⟩) | (go_at_call 290;refine (xg.out.answer P5 vc _ [(2,(j:Int))] (G9 xg.out.m Q4 (B0 R6)) R6 k hk).mono ?_;rintro e w' ⟨xc,xn,rfl,hm,ht⟩))
 go_ret;exact⟨xc,_,rfl,hm,⟨xn,dv,rfl⟩,xp.out.trans ht⟩
end
end Go.Proofs.YtbkmgoffiigdbaaGreatDoor
