import Derived.Test.YtbkmgoffiigdbaaGreatDoorVBf
import Derived.Test.YtbkmgoffiigdbaaGreatDoorVCd
namespace Go.Proofs.YtbkmgoffiigdbaaGreatDoor
open Go.RowKit Go.Sort Go.Proofs.Tryz
set_option maxHeartbeats 4000000
set_option maxRecDepth 100000
def jQ (g:PgR) (cap:Nat) (w:World) (e:Ending) (w':World):Prop :=
 ∃own mb g' R,e=.returned (.tuple #[zB mb,J 0])/\A4 w' own mb g' R/\uP g cap R/\X6 g g'/\L0d w w'/\(∀k t,own k=some t->w.heap.size<=k)/\∀k,g'.blk k->w.heap.size<=k
theorem yM (g:PgR) (w:World) (hg:I9 w.heap.size w g) (ht:Tab w) (hck:J9 g 0 0) (cap:Nat) (h1:1<=cap) (h40:cap<=40) :
  Calls prog 92 #[.agg #[.slice g.a g.n g.c],J (cap:Int)] w fun e w'=>jQ g cap w e w':=by
 have yy:B3 (cap:Int) 1 40=true:=U7 R5 R5;have yw:Hid (∀W,L0d w W->Calls prog 95 #[.agg #[.slice g.a g.n g.c]] W fun e w'=>e=.returned (.tuple #[J 0,J 0])/\L0d W w'):=by
  intro W hW;refine (rE g W (hg.held hW.size fun k hk=>hW.block k (hg.blk_lt hk)) (ht.held hW.size (hW.block 0 ht.1))).mono ?_;rintro e w' ⟨x,a,rfl,hx,hb⟩;obtain⟨rfl,rfl⟩:=hx.unique hck;exact⟨rfl,hb⟩
 have HG:=hid hg;have HT:=hid ht;have HC:=hid hck;clear hg ht hck;go_enter func92,ntmps92;go_wp2_with (first | (go_at_call 95;refine (yw.out _ ?_).mono ?_;exact P8;rintro e w2 ⟨rfl,xx⟩;obtain ⟨yu,yo⟩:=Z5 xx) | (go_at_call 116;refine (C5 _ _ _ _).mono ?_;rintro e w' ⟨rfl,hw⟩;rw [hw];clear hw w'))
 have xg:L0d w w2:=A3 xx (L3a (L3b _ _) (L1c _) _);have yi:I9 w2.heap.size w2 g:=HG.out.held xg.size fun k hk=>xg.block k (HG.out.blk_lt hk)
 have ya:Tab w2:=HT.out.held xg.size (xg.block 0 HT.out.1);obtain⟨yn,ys,xu⟩:X7 g:=by
  rcases HC.out with ⟨_,h⟩ | ⟨h,_⟩
  ·cases h
  ·exact h.all.1
 have xf:∀j,j < g.n->1<=(g.f j).n/\(g.f j).n<=60:=fun j hj=>by have:=gI (xu j hj);omega
 have xt:=gI (xu 0 R5);have yz:=hid xf;have yl:=hid xt;refine (mV g w2 yi yn ys xf).mono ?_;clear yu yo xx yi xu xf xt;rintro e w3 ⟨g',rfl,yb,xm,ye,ym,xd⟩;have xh:=hid yb;have xn:=hid xm;have xs:=hid ye;have xi:=hid ym;have xc:=hid xd;have xr:=hid xg;have xy:=hid ya;clear yb xm ye ym xd xg ya;go_wp2_with fail;refine (wT cap w3 h40).mono ?_
 rintro e w4 ⟨hb,rfl,xq,yg⟩;have xe:=hid xq;have xo:=hid yg;clear xq yg;have xb:L0d w2 w4:=xs.out.trans (xo.out.mono xs.out.size);have xp:I9 w4.heap.size w4 g':=xh.out.held xo.out.size fun k hk=>xo.out.block k (xh.out.blk_lt hk)
 have yc:Tab w4:=xy.out.held xb.size (xb.block 0 xy.out.1);have xz:w3.heap.size<=hb:=by
  rcases xe.out.2 with ⟨h0,_⟩ | ⟨_,_,_,hv,h1,_⟩
  ·cases h0
  ·cases hv;exact h1
 have xa:=tE xp yc xe.out (fun k hk=>by have:=xh.out.blk_lt hk;omega) (by have:=xh.out.blk_lt (k:=g'.b) (L4a ⟨by rw [xi.out];omega,rfl⟩);omega);have yh:L0d w (w4.alloc (Obj.cells #[.slice g'.a g'.n g'.c,J 0,zD,zD,.slice (zA hb) cap cap,zD] 107)):=L3a (xr.out.trans (xb.mono xr.out.size)) (L5a xr.out.size xb.size) _
 have xj:∀k t,V8 w4.heap.size hb k=some t->w.heap.size<=k:=fun k t hk=>by
  have:=xr.out.size;have:=xs.out.size;have:=xo.out.size;unfold V8 at hk;split at hk
  ·omega
  ·split at hk
   ·omega
   ·cases hk
 have yj:=xc.out 0 R5;obtain⟨ga,za,xk⟩:=xa.pg.2.1 (by rw [xi.out];omega);obtain⟨q0,q1,q2⟩:=xk 0 (by rw [xi.out];omega);have m0:=xa.c0.trans (show _=some (Value.slice (some ⟨g'.b,g'.o,none⟩) g'.n g'.c) by rw [ga]);simp only[Nat.zero_mul,Nat.add_zero] at q0 q1 q2;have yq:w4.heap.size < (w4.alloc (Obj.cells #[.slice g'.a g'.n g'.c,J 0,zD,zD,.slice (zA hb) cap cap,zD] 107)).heap.size:=by simp
 have HM:=hid xa;have xv:=hid yh;have xl:=hid xj;have HS:=hid yj;have yv:0 < g'.n:=by rw [xi.out];omega
 have yr:Hid (∀k,g'.blk k->w.heap.size<=k):=fun k hk=>L5a xr.out.size (xn.out k hk)
 clear xb xp yc xz xa yh xj yj ga xk xo xe xh xs xn xy;go_wp2_with fail;generalize (w4.alloc (Obj.cells #[.slice g'.a g'.n g'.c,J 0,zD,zD,.slice (zA hb) cap cap,zD] 107))=V at *
 obtain⟨l,hl⟩:=L5c (show 0<=(g'.f 0).l by have:=yl.out;rw [HS.out.2.1];omega);rw[hl] at q1;have xt:l<=8:=by have:=yl.out;have:=HS.out.2.1;omega
 have HL:=hid hl;clear hl;generalize w4.heap.size=mb at *
 have yp:Hid (∀U,A4 U (V8 mb hb) mb g' ⟨0,zD,[],zD,[],.slice (zA hb) cap cap,List.replicate cap V2,zD,[]⟩->Calls prog 130 #[.pointer (some ⟨mb,3,none⟩),J 0,.agg #[J (g'.f 0).p,J (l:Int),.slice (g'.f 0).a (g'.f 0).n (g'.f 0).c],zD] U fun e w'=>a1q (V8 mb hb) mb g' ⟨0,zD,[],zD,[],.slice (zA hb) cap cap,List.replicate cap V2,zD,[]⟩ 0 (List.replicate l (0,0)) U e w') :=
  fun U hU=>a2B hU 0 l (g'.f 0).p (g'.f 0).a (g'.f 0).n (g'.f 0).c xt R6
 go_region_with (first | (go_at_call 130;refine (yp.out _ ?_).mono ?_;exact HM.out.same (L1c _) fun _ _=>rfl;rintro e w6 ⟨xw,cv,lv,rfl,yk,yf⟩;have yt:=hid yk;have yd:=hid yf;clear yk yf))
 all_goals
  go_wp2_with fail;go_ret2;have yx:L0d w w6:=(L3c xv.out).trans (yd.out.below xv.out.size fun k hk=>by
   cases e:V8 mb hb k with
   | none=>rfl
   | some t=>have:=xl.out k t e;omega)
  exact⟨xw,mb,g',_,rfl,yt.out,⟨rfl,rfl,⟨lv,by rw [<- HS.out.2.1,HL.out];rfl⟩,rfl,rfl,rfl⟩,⟨xi.out,xc.out⟩,yx,fun k t hk=>by
   rcases Nat.lt_or_ge k V.heap.size with hl | hl
   ·rw [yd.out.old k hl] at hk;exact xl.out k t hk
   ·exact L5a xv.out.size hl,yr.out⟩
theorem a4t (g:PgR) (w:World) (hg:I9 w.heap.size w g) (ht:Tab w) (hck:J9 g 0 0) (cap:Nat) (h1:1<=cap) (h40:cap<=40) :
  Calls prog 55 #[.agg #[.slice g.a g.n g.c],J (cap:Int)] w fun e w'=>jQ g cap w e w':=by
 have HB:Hid (∀W,L0d w W->Calls prog 92 #[.agg #[.slice g.a g.n g.c],J (cap:Int)] W fun e w'=>jQ g cap W e w'):=by
  intro W hW;exact yM g W (hg.held hW.size fun k hk=>hW.block k (hg.blk_lt hk)) (ht.held hW.size (hW.block 0 ht.1)) hck cap h1 h40
 clear hg ht hck;go_enter func55,ntmps55;go_wp2_with (go_at_call 92;refine (HB.out _ ?_).mono ?_;exact P8;rintro e w2 ⟨own,mb,g',R,rfl,hm,xd,xa,hb,xb,xc⟩)
 go_ret2;have hW:L0d w (w.alloc (Obj.cells #[.slice g.a g.n g.c] 41)):=L3a (L3b _ _) (L1c _) _;exact⟨own,mb,g',R,rfl,hm,xd,xa,A3 hb hW,fun k t hk=>L5a hW.size (xb k t hk),fun k hk=>L5a hW.size (xc k hk)⟩
def nM (g:PgR) (cap:Int) (x:Int):Prop:=(∃a,J9 g x a/\x≠0)\/((J9 g 0 0)/\¬(1<=cap/\cap<=40)/\x=4)
theorem a2W (g:PgR) (cap:Int) {x a:Int} (h:J9 g x a):(∃x,nM g cap x)\/(J9 g 0 0/\1<=cap/\cap<=40):=by
 by_cases h0:x=0
 ·have xa:J9 g 0 0:=by
   subst h0;rcases h with ⟨_,h⟩ | ⟨h1,⟨_,h⟩ | ⟨h2,⟨_,h⟩ | ⟨h3,h4,h5⟩⟩⟩
   ·cases h
   ·cases h
   ·cases h
   ·exact L4b ⟨h1,L4b ⟨h2,L4b ⟨h3,rfl,rfl⟩⟩⟩
  by_cases hc:1<=cap/\cap<=40
  ·exact L4b ⟨xa,hc⟩
  ·exact L4a ⟨4,L4b ⟨xa,hc,rfl⟩⟩
 ·exact L4a ⟨x,L4a ⟨a,h,h0⟩⟩
theorem a2b (g:PgR) (w:World) (hg:I9 w.heap.size w g) (ht:Tab w) (cap x:Int) (hx:nM g cap x) :
  Calls prog 92 #[.agg #[.slice g.a g.n g.c],J cap] w fun e w'=>e=.returned (.tuple #[.pointer none,J x])/\L0d w w':=by
 have xe:Hid (∀W,L0d w W->Calls prog 95 #[.agg #[.slice g.a g.n g.c]] W fun e w'=>gK g W e w'):=by
  intro W hW;exact rE g W (hg.held hW.size fun k hk=>hW.block k (hg.blk_lt hk)) (ht.held hW.size (hW.block 0 ht.1))
 clear hg ht;rcases hx with ⟨a,xa,h0⟩ | ⟨xa,hc,rfl⟩
 ·have HC:=hid xa
  have xg:(x == 0)=false:=L2c.2 h0;clear xa;go_enter func92,ntmps92;go_wp2_with (go_at_call 95;refine (xe.out _ ?_).mono ?_;exact P8;rintro e w2 ⟨x',a',rfl,xb,xc⟩;obtain ⟨rfl,rfl⟩:=xb.unique HC.out;have xd:=hid xc;clear xb xc)
  go_ret2;exact⟨rfl,A3 xd.out (L3a (L3b _ _) (L1c _) _)⟩
 ·have HC:=hid xa
  have xf:B3 cap 1 40=false:=bA hc;clear xa hc;go_enter func92,ntmps92;go_wp2_with (first | (go_at_call 95;refine (xe.out _ ?_).mono ?_;exact P8;rintro e w2 ⟨x',a',rfl,xb,xc⟩;obtain ⟨rfl,rfl⟩:=xb.unique HC.out;have xd:=hid xc;clear xb xc) | (go_at_call 116;refine (C5 _ _ _ _).mono ?_;rintro e w' ⟨rfl,hw⟩;rw [hw,xf];clear hw w'))
  go_ret2;exact⟨rfl,A3 xd.out (L3a (L3b _ _) (L1c _) _)⟩
theorem a7a (g:PgR) (w:World) (hg:I9 w.heap.size w g) (ht:Tab w) (cap x:Int) (hx:nM g cap x) :
  Calls prog 55 #[.agg #[.slice g.a g.n g.c],J cap] w fun e w'=>e=.returned (.tuple #[.pointer none,J x])/\L0d w w':=by
 have HB:Hid (∀W,L0d w W->Calls prog 92 #[.agg #[.slice g.a g.n g.c],J cap] W fun e w'=>e=.returned (.tuple #[.pointer none,J x])/\L0d W w'):=by
  intro W hW;exact a2b g W (hg.held hW.size fun k hk=>hW.block k (hg.blk_lt hk)) (ht.held hW.size (hW.block 0 ht.1)) cap x hx
 clear hg ht hx;go_enter func55,ntmps55;go_wp2_with (go_at_call 92;refine (HB.out _ ?_).mono ?_;exact P8;rintro e w2 ⟨rfl,xa⟩;have xb:=hid xa;clear xa)
 go_ret2;exact⟨rfl,A3 xb.out (L3a (L3b _ _) (L1c _) _)⟩
theorem a5T (g:PgR) (w:World) (hg:I9 w.heap.size w g) (cap x:Int) (hx:nM g cap x) :
  Calls prog 56 #[.agg #[.slice g.a g.n g.c],J cap] w fun e w'=>e=.returned (.tuple #[.pointer none,J x])/\L0d w w':=by
 have xe:Hid (∀W,L0d w W->Calls prog 59 #[.agg #[.slice g.a g.n g.c]] W fun e w'=>∃x a,e=.returned (.tuple #[J x,J a])/\J9 g x a/\L0d W w'):=by
  intro W hW;exact eX g W (hg.held hW.size fun k hk=>hW.block k (hg.blk_lt hk))
 clear hg;rcases hx with ⟨a,xc,h0⟩ | ⟨xc,hc,rfl⟩
 ·have HC:=hid xc
  have xg:(x == 0)=false:=L2c.2 h0;clear xc;go_enter func56,ntmps56;go_wp2_with (go_at_call 59;refine (xe.out _ ?_).mono ?_;exact P8;rintro e w2 ⟨x',a',rfl,xa,xb⟩;obtain ⟨rfl,rfl⟩:=xa.unique HC.out;have xd:=hid xb;clear xa xb)
  go_ret2;exact⟨rfl,A3 xd.out (L3a (L3b _ _) (L1c _) _)⟩
 ·have HC:=hid xc
  clear xc;by_cases hlo:cap < 1
  ·clear hc
   go_enter func56,ntmps56;go_wp2_with (go_at_call 59;refine (xe.out _ ?_).mono ?_;exact P8;rintro e w2 ⟨x',a',rfl,xa,xb⟩;obtain ⟨rfl,rfl⟩:=xa.unique HC.out;have xd:=hid xb;clear xa xb)
   go_ret2;exact⟨rfl,A3 xd.out (L3a (L3b _ _) (L1c _) _)⟩
  ·have xf:40 < cap:=by omega
   clear hc;go_enter func56,ntmps56;go_wp2_with (go_at_call 59;refine (xe.out _ ?_).mono ?_;exact P8;rintro e w2 ⟨x',a',rfl,xa,xb⟩;obtain ⟨rfl,rfl⟩:=xa.unique HC.out;have xd:=hid xb;clear xa xb)
   go_ret2;exact⟨rfl,A3 xd.out (L3a (L3b _ _) (L1c _) _)⟩
section
variable {B cb cc:Nat} {Bk C:Nat->Nat} {g:PgR} {w:World}
def aQ (g:PgR) (Bk C:Nat->Nat) (cb cc:Nat):PgR :=
 { a:=some ⟨cb,0,none⟩,n:=g.n,c:=cc,b:=cb,o:=0,f:=fun i=>{ p:=(g.f i).p,l:=(g.f i).l,a:=some ⟨Bk i,0,none⟩,n:=(g.f i).n,c:=C i,b:=Bk i,o:=0,op:=(g.f i).op,ar:=(g.f i).ar } }
theorem a1A (hn:g.n<=1152921504606846976) (hf:∀i,i < g.n->(g.f i).n<=1152921504606846976) (h:aV B w g Bk C cb cc):I9 w.heap.size w (aQ g Bk C cb cc):=by
 obtain⟨F,xb,xe,hF,_⟩:=a1E h;refine⟨hn,fun _=>⟨rfl,xb.lt,fun i hi=>?_⟩,fun i hi=>⟨hf i hi,fun _=>?_⟩⟩
 ·have xg:i < g.n:=hi
  obtain⟨h1,h2,h3⟩:=hF i xg;show w.cell? ⟨cb,0+i*3,none⟩=some (J (g.f i).p)/\w.cell? ⟨cb,0+i*3+1,none⟩=some (J (g.f i).l)/\w.cell? ⟨cb,0+i*3+2,none⟩=some (.slice (some ⟨Bk i,0,none⟩) (g.f i).n (C i));rw[Nat.zero_add,xb.cell R5,xb.cell R5,xb.cell R5,h1,h2,h3];exact⟨rfl,rfl,rfl⟩
 ·obtain ⟨F',xa,xd,xf⟩:=vQ (h.2.1 i hi)
  refine⟨rfl,xa.lt,fun j hj=>?_⟩;have xc:j < (g.f i).n:=hj;obtain⟨h1,h2⟩:=xf j R5;show w.cell? ⟨Bk i,0+j*2,none⟩=some (J ((g.f i).op j))/\w.cell? ⟨Bk i,0+j*2+1,none⟩=some (J ((g.f i).ar j));rw[Nat.zero_add,xa.cell R5,xa.cell R5,h1,h2];unfold dM dL;rw[if_pos xc,if_pos xc];exact⟨rfl,rfl⟩
theorem aV.below {w':World} (h:aV B w g Bk C cb cc) (hb:L0d w w'):aV B w' g Bk C cb cc :=
 ⟨K5 h.1 (hb.block _ (J5 h.1).2.1),fun j hj=>K5 (h.2.1 j hj) (hb.block _ (J5 (h.2.1 j hj)).2.1),h.2.2⟩
end
section
variable {Bk C:Nat->Nat} {M N cap cb cc yb:Nat} {P:A5} {R:McR} {Y:PlR} {cv lv:Value} {g g1 g2:PgR} {w:World} {w0:X4}
theorem yQ (g:PgR) (w:World) (hg:I9 w.heap.size w g):∃x a,J9 g x a:=by
 obtain⟨e,w',fr,⟨x,a,_,hx,_⟩,_⟩:=(eX g w hg) [];exact⟨x,a,hx⟩
theorem a6h (h1:X6 (aQ g Bk C cb cc) g1) (h2:X6 g g2):X6 g1 g2:=by
 have n1:g1.n=g.n:=h1.1;refine⟨h2.1.trans n1.symm,fun j hj=>?_⟩;rw[n1] at hj;obtain⟨a1,a2,a3,a4,a5⟩:=h1.2 j hj;obtain⟨b1,b2,b3,b4,b5⟩:=h2.2 j hj;exact⟨b1.trans a1.symm,b2.trans a2.symm,b3.trans a3.symm,b4.trans a4.symm,b5.trans a5.symm⟩
theorem a0x (hck:J9 g 0 0) (h1:1<=cap) (h40:cap<=40) (hs1:X6 (aQ g Bk C cb cc) g1) (hs2:X6 g g2) (hb:uP (aQ g Bk C cb cc) cap R) :
  ∃t,Is g1 t R/\C8 g1 t/\N3 g1/\X6 g1 g2/\RV g2 (jC cap cv lv (g.f 0).l.toNat) t/\J3 t:=by
 have xa:N3 (aQ g Bk C cb cc):=a7L (show J9 (aQ g Bk C cb cc) 0 0 from hck);have xb:=hs1.pgOk xa;have xc:=a6h hs1 hs2;obtain⟨e,hn⟩:=a4C hb;have hi:C8 g1 ⟨0,[],[⟨0,0,List.replicate (g.f 0).l.toNat (0,0),[]⟩],List.replicate cap (0,[]),[]⟩:=hs1.inv xa (a2L xa h1 h40);refine⟨⟨0,[],[⟨0,0,List.replicate (g.f 0).l.toNat (0,0),[]⟩],List.replicate cap (0,[]),[]⟩,⟨e,hn⟩,hi,xb,xc,⟨C7.begin 0 _ cap,xc.inv xb hi,N6.nil,by show cap=(List.replicate cap ((0,[]):Ob)).length;rw [List.length_replicate]⟩,zW _ _ _⟩
theorem Lw.open {w1 w2 w3 w4:World} {mb rb B B2:Nat} {own own':Own} (h:Lw w0 P w yb Y N M)
  (ha:ArI g) (hck:J9 g 0 0) (h1:1<=cap) (h40:cap<=40) (hb1:L0d w w1) (hB:w.heap.size<=B) (hB2:B2<=w1.heap.size)
  (hM:A4 w2 own mb g1 R) (hbg:uP (aQ g Bk C cb cc) cap R) (hs1:X6 (aQ g Bk C cb cc) g1) (hb2:L0d w1 w2) (ho1:∀k t,own k=some t->w1.heap.size<=k) (hg1:∀k,g1.blk k->w1.heap.size<=k)
  (hR:A9 w3 own' rb g2 (jC cap cv lv (g.f 0).l.toNat)) (hs2:X6 g g2) (hb3:L0d w2 w3) (ho2:∀k t,own' k=some t->w2.heap.size<=k) (hg2:∀k,g2.blk k->w2.heap.size<=k)
  (hb4:But (fun k=>B<=k/\k < B2) w3 w4) :
  ∃P2,Lw w0 P2 w4 yb Y N M/\nN P2 Y.ps.length mb rb N:=by
 have s1:=hb1.size;have s2:=hb2.size;have s3:=hb3.size;have s4:=hb4.size;have xe:=h.sep.pos;have xb:L0d w w3:=(hb1.trans (hb2.mono s1)).trans (hb3.mono (L5a s1 s2));have xa:L0d w w4:=⟨hb4.os.trans xb.os,hb4.tape.trans xb.tape,hb4.output.trans xb.output,L5a xb.size s4,fun b hb=>(hb4.block b R5 R5).trans (xb.block b hb)⟩;have xd:A4 w4 own mb g1 R:=hM.beside R5 fun k hk hq=>by
  refine (hb4.block k R5 ?_).trans (hb3.block k hk);rcases hq with hq | hq | hq
  ·cases e:own k with
   | none=>exact (hq e).elim
   | some t=>have:=ho1 k t e;omega
  ·have:=hg1 k hq;omega
  ·omega
 have xf:A9 w4 own' rb g2 (jC cap cv lv (g.f 0).l.toNat):=hR.aside s4 (fun k t e=>hb4.block k (hR.lt k t e) (by have:=ho2 k t e;omega)) (fun k _ hq=>by
  rcases hq with hq | hq | ⟨o,hq⟩
  ·exact hb4.block k (hR.pg.blk_lt hq) (by have:=hg2 k hq;omega)
  ·exact hb4.block k R5 R5
  ·cases hq)
 have bm:∀k,(Y3 own mb g1 R).B k->w1.heap.size<=k/\k < w2.heap.size:=fun k hk=>⟨by
  rcases hk with hk | hk
  ·cases e:own k with
   | none=>exact (hk e).elim
   | some t=>exact ho1 k t e
  ·exact hg1 k hk,(Y3 own mb g1 R).lt w2 hM k hk⟩
 have br:∀k,(eY own' rb g2 (jC cap cv lv (g.f 0).l.toNat)).B k->w2.heap.size<=k:=fun k hk=>by
  rcases hk with hk | hk | ⟨o,hk⟩
  ·cases e:own' k with
   | none=>exact (hk e).elim
   | some t=>exact ho2 k t e
  ·exact hg2 k hk
  ·cases hk
 have xh:Sep (P.put (1,Y.ps.length) (Y3 own mb g1 R)) w4:=h.sep.upd _ _ xa.size (fun k hk _=>xa.block k hk) xd fun k hk=>L4b (by have:=(bm k hk).1;omega)
 have xg:Sep ((P.put (1,Y.ps.length) (Y3 own mb g1 R)).put (2,Y.ps.length) (eY own' rb g2 (jC cap cv lv (g.f 0).l.toNat))) w4:=by
  refine xh.fresh _ _ xf (fun e=>by have:=br 0 e;omega) fun k hk j hj hq=>?_
  have:=br k hk;by_cases e:j=(1,Y.ps.length)
  ·rw [e,A5.put_same] at hq
   have:=(bm k hq).2;omega
  ·rw [A5.put_ne _ e] at hq
   have:=(P j).lt w (h.sep.F j) k hq;omega
 have hT:Stp P w ((P.put (1,Y.ps.length) (Y3 own mb g1 R)).put (2,Y.ps.length) (eY own' rb g2 (jC cap cv lv (g.f 0).l.toNat))) w4:=⟨xa.os,xa.tape,xa.output,xa.size,fun b hb _=>xa.block b hb,fun j b hb=>by
  by_cases e:j=(2,Y.ps.length)
  ·rw [e,A5.put_same] at hb
   exact L4b (by have:=br b hb;omega)
  ·rw [A5.put_ne _ e] at hb
   by_cases e':j=(1,Y.ps.length)
   ·rw [e',A5.put_same] at hb
    exact L4b (by have:=(bm b hb).1;omega)
   ·rw [A5.put_ne _ e'] at hb
    exact L4a ⟨j,hb⟩⟩
 obtain⟨hb,xc⟩:=bM h.bel h.lo hT;obtain⟨t,t1,t2,t3,t4,t5,t6⟩:=a0x (cv:=cv) (lv:=lv) hck h1 h40 hs1 hs2 hbg;refine⟨_,⟨xg,?_,⟨h.law.1,fun j i nb j1 j5 hq=>?_⟩,fun i p hp=>?_,h.len,h.nps,hb,xc⟩,⟨own,g1,R,own',g2,_,t,?_,A5.put_same _ _ _,t1,t2,t3,t4,t5,L4c _,t6,hs1.arI (show ArI (aQ g Bk C cb cc) from ha)⟩⟩
 ·rw [A5.put_ne _ (I3 R4 _ _),A5.put_ne _ (I3 R4 _ _)];exact h.p0
 ·rw [A5.put_ne _ (I3 R5 _ _),A5.put_ne _ (I3 R5 _ _)]
  exact h.law.2 j i nb j1 j5 hq
 ·have xi:=(L1a.1 hp).1
  obtain⟨ox,gx,RX,oc,gc,RC,t,q1,q2,q3⟩:=(h.pair i p hp).ex;have n1:((1,i):Nat × Nat)≠(1,Y.ps.length):=fun e'=>by simp only [Prod.mk.injEq] at e';omega
  have n2:((2,i):Nat × Nat)≠(2,Y.ps.length):=fun e'=>by simp only [Prod.mk.injEq] at e';omega
  refine⟨ox,gx,RX,oc,gc,RC,t,?_,?_,q3⟩
  ·rw [A5.put_ne _ (I3 R4 _ _),A5.put_ne _ n1];exact q1
  ·rw [A5.put_ne _ n2,A5.put_ne _ (I3 R4 _ _)];exact q2
 ·rw [A5.put_ne _ (I3 R4 _ _),A5.put_same]
theorem Lw.join {w':World} {xb:Nat} {pv:Value} (h:Lw w0 P w yb Y N M) (hp:nN P Y.ps.length xb cb N) (hP:I5 w' yb (Y.join (xb,cb) pv)) (hk:∀k,k < w.heap.size->¬aE yb Y k->w'.heap[k]?=w.heap[k]?) (hB:∀k,aE yb (Y.join (xb,cb) pv) k->aE yb Y k\/w.heap.size<=k) (hs:w.heap.size<=w'.heap.size) (e1:w'.os=w.os) (e2:w'.tape=w.tape) (e3:w'.output=w.output) :
  ∃P2,Lw w0 P2 w' yb (Y.join (xb,cb) pv) N (M+1):=by
 have xc:∀b,(P (0,0)).B b↔aE yb Y b:=fun b=>by rw [h.p0];exact Iff.rfl
 have k1:∀k,k < w.heap.size->¬(P (0,0)).B k->w'.heap[k]?=w.heap[k]?:=fun k hk' hn=>hk k hk' (by rw [<- xc];exact hn)
 have k2:∀k,(aS yb (Y.join (xb,cb) pv)).B k->(P (0,0)).B k\/w.heap.size<=k:=fun k hk'=>by rw [xc];exact hB k hk'
 have hS:=h.sep.upd (0,0) (aS yb (Y.join (xb,cb) pv)) hs k1 hP k2;have hT:=Stp.one (P:=P) (0,0) (aS yb (Y.join (xb,cb) pv)) e1 e2 e3 hs k1 k2;obtain⟨hb,xf⟩:=bM h.bel h.lo hT;refine⟨_,⟨hS,A5.put_same _ _ _,⟨h.law.1,fun j i nb j1 j5 hq=>?_⟩,fun i p hq=>?_,fun j=>Nat.le_succ_of_le (h.len j),?_,hb,xf⟩⟩
 ·rw [A5.put_ne _ (I3 R5 _ _)]
  exact h.law.2 j i nb j1 j5 hq
 ·have xa:(Y.ps++[(xb,cb)])[i]?=some p:=hq
  have xe:nN P i p.1 p.2 N:=by
   by_cases e:i < Y.ps.length
   ·rw [List.getElem?_append_left e] at xa
    exact h.pair i p xa
   ·have xd:=(L1a.1 xa).1
    rw[List.length_append] at xd;have e2:i=Y.ps.length:=by simp at xd;omega
    subst e2;rw[List.getElem?_append_right (L1c _)] at xa;simp at xa;rw[<- xa];exact hp
  obtain⟨ox,gx,RX,oc,gc,RC,t,q1,q2,q3⟩:=xe.ex;exact⟨ox,gx,RX,oc,gc,RC,t,by rw [A5.put_ne _ (I3 R4 _ _)];exact q1,by rw [A5.put_ne _ (I3 R4 _ _)];exact q2,q3⟩
 ·show (Y.ps++[(xb,cb)]).length<=M+1
  rw[List.length_append];exact Nat.succ_le_succ h.nps
end
section
variable {B M N cb cc yb:Nat} {Bk C:Nat->Nat} {P:A5} {U w:World} {Y:PlR} {g:PgR} {w0:X4}
structure a9E (g:PgR) (w:World):Prop where
 lent:∀U,L0d w U->Calls prog 54 #[.agg #[.slice g.a g.n g.c]] U fun e w'=>uY g U e w'
 ret:∀U B B2 Bk C cb cc,L0d w U->w.heap.size<=B->B<=U.heap.size->aV B U g Bk C cb cc->B2<=U.heap.size->(cb < B2/\∀j,j < g.n->Bk j < B2)->Calls prog 57 #[.agg #[.slice (zA cb) g.n cc],.agg #[.slice g.a g.n g.c]] U fun e w'=>e=.returned (.bool true)/\But (fun k=>B<=k/\k < B2) U w'
theorem a8y (hg:I9 w.heap.size w g) (hr:jT g):a9E g w :=
 ⟨fun U hU=>a5p g U ((hg.below hU).mono hU.size) hr,fun U B B2 Bk C cb cc hU hB hBU hc hB2 hc2=>qQ B B2 g Bk C cb cc U hBU ((hg.below hU).mono hB) hr hc hB2 hc2⟩
theorem rO {w1:World} {q:Nat} (hq:U.heap.size=q) (h1:w1.ownsRow U.heap.size 163 3 (.slice (zA cb) (g.n+1) cc) (g.n+1) (E4 g Bk C g.n++[J (-7070),J 0,zD])) (h2:∀j,j < g.n->Y7 U.heap.size w1 (g.f j) (Bk j) (C j)) (h3:∀i j,i < g.n->j < g.n->Bk i=Bk j->i=j):aV q w1 g Bk C cb cc:=by
 subst hq;exact⟨h1,h2,h3⟩
theorem a1B (h:aV B w g Bk C cb cc):cb < w.heap.size/\∀j,j < g.n->Bk j < w.heap.size :=
 ⟨(J5 h.1).2.1,fun j hj=>(J5 (h.2.1 j hj)).2.1⟩
theorem But.from {w':World} {B2:Nat} (h:But (fun k=>B<=k/\k < B2) U w') (hU:L0d w U) (hB:w.heap.size<=B):L0d w w' :=
 ⟨h.os.trans hU.os,h.tape.trans hU.tape,h.output.trans hU.output,L5a hU.size h.size,fun b hb=>(h.block b (L0a hb hU.size) R5).trans (hU.block b hb)⟩
theorem a0t (h:Lw w0 P w yb Y N M) (g:PgR) (hg:I9 w.heap.size w g) (hr:jT g) (ht:Tab w) (kd a cap x:Int) (hx:nM g cap x) (la sa:Option Addr) (ln lc sn sc:Nat) :
  Calls prog 33 #[zB yb,.agg #[J kd,J a,J cap,.slice g.a g.n g.c,.slice la ln lc,.slice sa sn sc]] w fun e w'=>e=.returned (.bool true)/\∃P2 Y2,Lw w0 P2 w' yb Y2 N (M+1):=by
 have HO:=hid (a8y hg hr);have HN:Hid (∀U B Bk C cb cc,L0d w U->aV B U g Bk C cb cc->Calls prog 55 #[.agg #[.slice (zA cb) g.n cc],J cap] U fun e w'=>e=.returned (.tuple #[.pointer none,J x])/\L0d U w'):=hid fun U B Bk C cb cc hU hc=>a7a (aQ g Bk C cb cc) U (a1A hg.1 (fun i hi=>(hg.2.2 i hi).1) hc) (ht.held hU.size (hU.block 0 ht.1)) cap x hx
 have HR:Hid (∀U,L0d w U->Calls prog 56 #[.agg #[.slice g.a g.n g.c],J cap] U fun e w'=>e=.returned (.tuple #[.pointer none,J x])/\L0d U w'):=hid fun U hU=>a5T g U ((hg.below hU).mono hU.size) cap x hx
 have HL:=hid h;clear h hg hr ht hx;go_enter func33,ntmps33;go_wp2_with (first
  | (go_at_call 54;refine (HO.out.lent _ P8).mono ?_;rintro e w1 ⟨Bk,C,cb,cc,rfl,xl,xm,xk,xd⟩;have c2:w1.cell? ⟨w.heap.size,2,none⟩=some (J cap):=keep xd R6 R3;have c3:w1.cell? ⟨w.heap.size,3,none⟩=some (.slice g.a g.n g.c):=keep xd R6 R3;have hz:w.heap.size < w1.heap.size:=(by have:=xd.size;simp at this;omega);have xg:Hid (aV (w.heap.size+1) w1 g Bk C cb cc):=hid (rO R6 xl xm xk);have xa:Hid (L0d w w1):=hid ((L3a (L3b _ _) (L1c _) _:L0d w _).trans (xd.mono R6));clear xl xm xk xd)
  | (go_at_call 55;have xb:L0d w1 (w1.alloc (.cells #[.slice (zA cb) g.n cc] 41)):=L3a (L3b _ _) (L1c _) _;refine (HN.out _ _ Bk C cb cc (xa.out.trans (xb.mono xa.out.size)) (xg.out.below xb)).mono ?_;rintro e w2 ⟨rfl,xc⟩;have d2:w2.cell? ⟨w.heap.size,2,none⟩=some (J cap):=keep xc Q9 (keep xb hz c2);have d3:w2.cell? ⟨w.heap.size,3,none⟩=some (.slice g.a g.n g.c):=keep xc Q9 (keep xb hz c3);have d0:w2.cell? ⟨w1.heap.size,0,none⟩=some (.slice (zA cb) g.n cc):=keep xc R6 R3;have xh:Hid (L0d w1 w2):=hid (xb.trans (xc.mono xb.size));have xp:w1.heap.size < w2.heap.size:=(by have:=xc.size;simp at this;omega);have xf:w.heap.size < w2.heap.size:=R5;clear xc xb c2 c3)
  | (go_at_call 56;refine (HR.out _ (xa.out.trans (xh.out.mono xa.out.size))).mono ?_;rintro e w3 ⟨rfl,xe⟩;have e3:w3.cell? ⟨w.heap.size,3,none⟩=some (.slice g.a g.n g.c):=keep xe xf d3;have e0:w3.cell? ⟨w1.heap.size,0,none⟩=some (.slice (zA cb) g.n cc):=keep xe xp d0;have xi:Hid (L0d w1 w3):=hid (xh.out.trans (xe.mono xh.out.size));have xq:w1.heap.size < w3.heap.size:=(by have:=xe.size;omega);have xo:w.heap.size < w3.heap.size:=R5;clear xe d0 d2 d3)
  | (go_at_call 57;refine (HO.out.ret _ _ w1.heap.size Bk C cb cc (xa.out.trans (xi.out.mono xa.out.size)) R5 R5 (xg.out.below xi.out) R5 (a1B xg.out)).mono ?_;rintro e w4 ⟨rfl,xj⟩;have xn:Hid (L0d w w4):=hid (xj.from (xa.out.trans (xi.out.mono xa.out.size)) R5);clear xj e0 e3)
  | (go_at_call 19;refine (zZ x).mono ?_;rintro e w5 ⟨rfl,hw⟩;rw [hw];clear hw w5))
 go_ret;exact⟨rfl,P,Y,(HL.out.below xn.out).mono (L1c _) R5⟩
theorem a3c (h:Lw w0 P w yb Y N M) (hM:M<=900000000) (g:PgR) (hg:I9 w.heap.size w g) (hr:jT g) (ht:Tab w) (kd a:Int) (cap:Nat) (ha:ArI g) (hck:J9 g 0 0) (h1:1<=cap) (h40:cap<=40) (la sa:Option Addr) (ln lc sn sc:Nat) :
  Calls prog 33 #[zB yb,.agg #[J kd,J a,J (cap:Int),.slice g.a g.n g.c,.slice la ln lc,.slice sa sn sc]] w fun e w'=>e=.returned (.bool true)/\∃P2 Y2,Lw w0 P2 w' yb Y2 N (M+1):=by
 have HO:=hid (a8y hg hr);have HN:Hid (∀U B Bk C cb cc,L0d w U->aV B U g Bk C cb cc->Calls prog 55 #[.agg #[.slice (zA cb) g.n cc],J (cap:Int)] U fun e w'=>jQ (aQ g Bk C cb cc) cap U e w'):=hid fun U B Bk C cb cc hU hc=>a4t (aQ g Bk C cb cc) U (a1A hg.1 (fun i hi=>(hg.2.2 i hi).1) hc) (ht.held hU.size (hU.block 0 ht.1)) hck cap h1 h40
 have HR:Hid (∀U,L0d w U->Calls prog 56 #[.agg #[.slice g.a g.n g.c],J (cap:Int)] U fun e w'=>jS g cap U e w'):=hid fun U hU=>a5S g U ((hg.below hU).mono hU.size) (L0a ht.1 hU.size) hck cap h1 h40
 have HL:=hid h;have ye:=hid hck;have ya:=hid ha;have HM:=hid hM;clear h hg hr ht hck hM ha;go_enter func33,ntmps33;go_wp2_with (first
  | (go_at_call 54;refine (HO.out.lent _ P8).mono ?_;rintro e w1 ⟨Bk,C,cb,cc,rfl,xv,xx,xo,xg⟩;have c2:w1.cell? ⟨w.heap.size,2,none⟩=some (J (cap:Int)):=keep xg R6 R3;have c3:w1.cell? ⟨w.heap.size,3,none⟩=some (.slice g.a g.n g.c):=keep xg R6 R3;have hz:w.heap.size < w1.heap.size:=(by have:=xg.size;simp at this;omega);have xh:Hid (aV (w.heap.size+1) w1 g Bk C cb cc):=hid (rO R6 xv xx xo);have xb:Hid (L0d w w1):=hid ((L3a (L3b _ _) (L1c _) _:L0d w _).trans (xg.mono R6));clear xv xx xo xg)
  | (go_at_call 55;have xd:L0d w1 (w1.alloc (.cells #[.slice (zA cb) g.n cc] 41)):=L3a (L3b _ _) (L1c _) _;refine (HN.out _ _ Bk C cb cc (xb.out.trans (xd.mono xb.out.size)) (xh.out.below xd)).mono ?_;rintro e w2 ⟨own,mb,g1,R,rfl,hm,xs,xa,xc,xl,xw⟩;have d2:w2.cell? ⟨w.heap.size,2,none⟩=some (J (cap:Int)):=keep xc Q9 (keep xd hz c2);have d3:w2.cell? ⟨w.heap.size,3,none⟩=some (.slice g.a g.n g.c):=keep xc Q9 (keep xd hz c3);have d0:w2.cell? ⟨w1.heap.size,0,none⟩=some (.slice (zA cb) g.n cc):=keep xc R6 R3;have xk:Hid (L0d w1 w2):=hid (xd.trans (xc.mono xd.size));have yc:Hid (A4 w2 own mb g1 R/\uP (aQ g Bk C cb cc) cap R/\X6 (aQ g Bk C cb cc) g1/\Below (w1.alloc (.cells #[.slice (zA cb) g.n cc] 41)).heap.size (w1.alloc (.cells #[.slice (zA cb) g.n cc] 41)) w2/\(∀k t,own k=some t->(w1.alloc (.cells #[.slice (zA cb) g.n cc] 41)).heap.size<=k)/\∀k,g1.blk k->(w1.alloc (.cells #[.slice (zA cb) g.n cc] 41)).heap.size<=k):=hid ⟨hm,xs,xa,xc,xl,xw⟩;have xy:w1.heap.size < w2.heap.size:=(by have:=xc.size;simp at this;omega);have xj:w.heap.size < w2.heap.size:=R5;clear hm xs xa xc xl xw xd c2 c3)
  | (go_at_call 56;refine (HR.out _ (xb.out.trans (xk.out.mono xb.out.size))).mono ?_;rintro e w3 ⟨xf,rb,g2,cv,lv,rfl,hR,xu,xe,xp,xt⟩;have e3:w3.cell? ⟨w.heap.size,3,none⟩=some (.slice g.a g.n g.c):=keep xe xj d3;have e0:w3.cell? ⟨w1.heap.size,0,none⟩=some (.slice (zA cb) g.n cc):=keep xe xy d0;have xm:Hid (L0d w1 w3):=hid (xk.out.trans (xe.mono xk.out.size));have xz:Hid (A9 w3 xf rb g2 (jC cap cv lv (g.f 0).l.toNat)/\X6 g g2/\L0d w2 w3/\(∀k t,xf k=some t->w2.heap.size<=k)/\∀k,g2.blk k->w2.heap.size<=k):=hid ⟨hR,xu,xe,xp,xt⟩;have yg:w1.heap.size < w3.heap.size:=(by have:=xe.size;omega);have yd:w.heap.size < w3.heap.size:=R5;clear hR xu xe xp xt d0 d2 d3)
  | (go_at_call 57;refine (HO.out.ret _ _ w1.heap.size Bk C cb cc (xb.out.trans (xm.out.mono xb.out.size)) R5 R5 (xh.out.below xm.out) R5 (a1B xh.out)).mono ?_;rintro e w4 ⟨rfl,xn⟩;obtain ⟨n1,n2,n3,n4,n5,n6⟩:=yc.out;obtain ⟨r1,r2,r3,r4,r5⟩:=xz.out;obtain ⟨P2,xr,xq⟩:=HL.out.open (w1:=(w1.alloc (.cells #[.slice (zA cb) g.n cc] 41))) ya.out ye.out h1 h40 (L3a xb.out R5 _) (Nat.le_succ _) R6 n1 n2 n3 n4 n5 n6 r1 r2 r3 r4 r5 xn;have xi:=hid xr;have yf:=hid xq;clear n1 n2 n3 n4 n5 n6 r1 r2 r3 r4 r5 xr xq xn e0 e3)
  | (go_at_call 19;refine (zY xi.out.play (by have:=xi.out.nps;have:=HM.out;omega) 0).mono ?_;rintro e w5 ⟨rfl,pv,j1,j2,j3,j4,j5,j6,j7⟩;have HW:=hid (xi.out.join yf.out j1 j2 j3 j4 j5 j6 j7);clear j1 j2 j3 j4 j5 j6 j7))
 go_ret;obtain⟨P3,hW⟩:=HW.out;exact⟨rfl,P3,_,hW⟩
theorem a0s (h:Lw w0 P w yb Y N M) (hM:M<=900000000) (g:PgR) (hg:I9 w.heap.size w g) (hr:jT g) (ha:ArI g) (ht:Tab w) (kd a cap:Int) (la sa:Option Addr) (ln lc sn sc:Nat) :
  Calls prog 33 #[zB yb,.agg #[J kd,J a,J cap,.slice g.a g.n g.c,.slice la ln lc,.slice sa sn sc]] w fun e w'=>e=.returned (.bool true)/\∃P2 Y2,Lw w0 P2 w' yb Y2 N (M+1):=by
 obtain⟨x,b,hx⟩:=yQ g w hg;rcases a2W g cap hx with ⟨x,hx⟩ | ⟨xa,h1,xb⟩
 ·exact a0t h g hg hr ht kd a cap x hx la sa ln lc sn sc
 ·obtain ⟨n,rfl⟩:=L5c (show 0<=cap by omega)
  exact a3c h hM g hg hr ht kd a n ha xa R5 R5 la sa ln lc sn sc
end
end Go.Proofs.YtbkmgoffiigdbaaGreatDoor
