import Derived.Test.YtbkmgoffiigdbaaGreatDoorVAf
namespace Go.Proofs.YtbkmgoffiigdbaaGreatDoor
open Go.RowKit Go.Sort Go.Proofs.Tryz
set_option maxHeartbeats 8000000
set_option maxRecDepth 100000
section
variable {B pb:Nat} {bs:List Int} {v:Value} {w w1:World}
theorem zV:(prog.info? 5).map (fun i=>(i.zero,i.size,i.bytes))=some (some (zC 0),1,1):=by kernel_rfl
structure T9 (w:World) (B pb:Nat) (v:Value) (bs:List Int):Prop where
 lo:B<=pb
 lt:pb < w.heap.size
 c0:w.cell? ⟨pb,0,none⟩=some (.bool false)
 c1:w.cell? ⟨pb,1,none⟩=some v
 fz:∀j,w.frozen? ⟨pb,j,none⟩=false
 row:w.ownsRow B 5 1 v bs.length (B7 bs)
 ne:v.ownBlock≠some pb
structure Pw (pb:Nat) (v:Value) (w:World) (v':Value) (w':World):Prop where
 os:w'.os=w.os
 tape:w'.tape=w.tape
 output:w'.output=w.output
 size:w.heap.size<=w'.heap.size
 keep:∀k,k < w.heap.size->k≠pb->v.ownBlock≠some k->w'.heap[k]?=w.heap[k]?
 own:∀k,v'.ownBlock=some k->v.ownBlock=some k\/w.heap.size<=k
theorem Pw.refl (pb:Nat) (v:Value) (w:World):Pw pb v w v w:=⟨rfl,rfl,rfl,L1c _,fun _ _ _ _=>rfl,fun _ h=>L4a h⟩
theorem Pw.trans {v1 v2:Value} {w2:World} (h:Pw pb v w v1 w1) (k:Pw pb v1 w1 v2 w2):Pw pb v w v2 w2 :=
 ⟨k.os.trans h.os,k.tape.trans h.tape,k.output.trans h.output,L5a h.size k.size,fun b hb h1 h2=>(k.keep b (L0a hb h.size) h1 fun e=>by
  rcases h.own b e with e | e
  ·exact h2 e
  ·omega).trans (h.keep b hb h1 h2),fun b e=>by
  rcases k.own b e with e | e
  ·exact h.own b e
  ·exact L4b (L5a h.size e)⟩
def J1 (B pb:Nat) (v:Value) (bs:List Int) (w:World) (e:Ending) (w':World):Prop:=e=.returned (.tuple #[])/\∃v',T9 w' B pb v' bs/\Pw pb v w v' w'
theorem gW {v':Value} {xs:List Int} {o:Obj} (h:T9 w B pb v bs) (hown:w1.ownsRow B 5 1 v' (bs.length+xs.length) (B7 bs++B7 xs)) (hgrow:(w.alloc o).grownBy w1 v.ownBlock) (hat:∀g,v'.ownBlock=some g->v.ownBlock=some g\/g=w.heap.size+1) :
  w1.cell? ⟨pb,1,none⟩=some v/\w1.frozen? ⟨pb,1,none⟩=false/\pb < w1.heap.size/\T9 (w1.setCell ⟨pb,1,none⟩ v') B pb v' (bs++xs)/\Pw pb v w v' (w1.setCell ⟨pb,1,none⟩ v'):=by
 have hs:(w.alloc o).heap.size=w.heap.size+1:=by simp
 have xc:=h.lt;have hg:=hgrow.size;have xa:w1.heap[pb]?=w.heap[pb]?:=(hgrow.block pb R5 fun e=>h.ne e.symm).trans (Below.heap_alloc _ _ _ xc);have c0:w1.cell? ⟨pb,0,none⟩=some (.bool false):=(L0b (a:=⟨pb,0,none⟩) xa).trans h.c0;have c1:w1.cell? ⟨pb,1,none⟩=some v:=(L0b (a:=⟨pb,1,none⟩) xa).trans h.c1;have fz:∀j,w1.frozen? ⟨pb,j,none⟩=false:=fun j=>(L0c (a:=⟨pb,j,none⟩) xa).trans (h.fz j)
 have xb:v'.ownBlock≠some pb:=fun e=>by
  rcases hat pb e with e | e
  ·exact h.ne e
  ·omega
 refine⟨c1,fz 1,by omega,⟨h.lo,by simp;omega,(World.cell?_setCell_other _ _ _ _ R6).trans c0,World.cell?_setCell_same _ _ _ c1,fun j=>?_,?_,xb⟩,⟨hgrow.os,hgrow.tape,hgrow.output,by simp;omega,fun k hk h1 h2=>?_,fun k e=>?_⟩⟩
 ·have:=fz j
  go_simp
 ·rw [List.length_append,show B7 (bs++xs)=B7 bs++B7 xs by simp [B7]]
  exact ownsRow_setCell_other hown xb _
 ·rw [heap_setCell_other _ _ _ _ h1,hgrow.block k R5 (fun e=>h2 e.symm)]
  exact Below.heap_alloc _ _ _ hk
 ·rcases hat k e with e | e
  ·exact L4a e
  ·exact L4b R5
theorem mK {W:World} (h:T9 W B pb v bs) (hB:B<=W.heap.size) (n:Nat) (h64:n < 18446744073709551616) (hn:bs.length<=1000000) :
  Calls prog 126 #[zB pb,.int .u64 (n:Int)] W fun e w'=>J1 B pb v (bs++B5 n) W e w':=by
 obtain⟨i5,hi,hz,xi,xj⟩:=info_parts zV;have HI:=hid hi;have HZ:=hid hz;have xn:=hid xi;have xk:=hid xj;have xf:=B1 h64;have HH:=hid h;have xv:=h.lt;have q0:=h.c0;clear h hi hz xi xj;go_enter func126,ntmps126;go_wp2_with fail;go_loopw [1] (fun vn wr=>∃(k:Nat) (cs:List Int) (u:Value),vn=.int .u64 (k:Int)/\k<=n/\T9 wr B pb u (bs++cs)/\cs++B5 k=B5 n/\Pw pb v W u wr) (fun vn _=>(intOf vn).toNat)
 case atStart=>exact ⟨n,[],v,rfl,L1c _,by simpa using HH.out,rfl,Pw.refl _ _ _⟩
 case round =>
  obtain⟨k,cs,u,rfl,xu,xb,xe,xg⟩:=hrel;have xp:(bs++cs).length<=1000010:=by
   have:(cs++B5 k).length<=10:=by rw [xe];exact xf
   rw[List.length_append] at this;rw[List.length_append];omega
  have xa:=hid xb;have xm:=hid xg;have xo:=hid xe;have xt:=xb.lt;have c1:=xb.c1;have xh:Hid (B<=wr.heap.size):=hid (L5a hB xg.size);clear xb xg xe;by_cases hk:k < 128
  ·have xc:Hid (B5 k=[(k:Int)]):=by refine hid ?_;rw [B5,if_pos hk]
   have xl:(k:Int) % 256=(k:Int):=by omega
   have xq:¬(128:Int)<=(k:Int):=by omega
   have xr:(k:Int) < 128:=by omega
   go_wp2_with (at_builtin;go_must (refine A8 _ rfl (.tmp 49) (.tmp 52) 26 rfl B 5 i5 _ 1 1 underlying26 HI.out HZ.out xn.out xk.out rfl R4 u (bs++cs).length (B7 (bs++cs)) rfl (xa.out.row.alloc _) (zA wr.heap.size) 1 1 (B7 [(k:Int)]) rfl rfl (fun _=>⟨_,rfl,World.news_of_block (cs:=#[zC (k:Int)]) (t:=5) (fr:=(0,0)) (B0 R6)⟩) (by simp [B7,Value.oneCell']) Q7 R5 (by simp;have:=xh.out;omega) ?_))
   intro v1 w1 hown1 hgrow1 hat1;obtain⟨p1,p2,p3,p4,p5⟩:=gW xa.out (xs:=[(k:Int)]) (by rw [List.length_append];exact hown1) hgrow1 hat1;have HP:Hid (J1 B pb v (bs++B5 n) W (.returned (.tuple #[])) (w1.setCell ⟨pb,1,none⟩ v1)):=⟨rfl,v1,by rw [<- xo.out,xc.out,<- List.append_assoc];exact p4,xm.out.trans p5⟩;obtain⟨a1,n1,xd,_⟩:=C2 hown1;subst xd;clear hown1 hgrow1 hat1 p4 p5;go_wp2_with fail
   go_end0
   exact HP.out
  ·have xc:Hid (B5 k=((k:Int) % 128+128)::B5 (k / 128)):=by refine hid ?_;rw [B5,if_neg hk];congr 1
   have xq:(128:Int)<=(k:Int):=by omega
   have xr:¬(k:Int) < 128:=by omega
   go_wp2_with (at_builtin;go_must (refine A8 _ rfl (.tmp 34) (.tmp 39) 26 rfl B 5 i5 _ 1 1 underlying26 HI.out HZ.out xn.out xk.out rfl R4 u (bs++cs).length (B7 (bs++cs)) rfl (xa.out.row.alloc _) (zA wr.heap.size) 1 1 (B7 [((k % 128+128:Nat):Int)]) rfl rfl (fun _=>⟨_,rfl,World.news_of_block (cs:=#[zC ((k % 128+128:Nat):Int)]) (t:=5) (fr:=(0,0)) (B0 Q2)⟩) (by simp [B7,Value.oneCell']) Q7 R5 (by simp;have:=xh.out;omega) ?_))
   intro v1 w1 hown1 hgrow1 hat1;obtain⟨p1,p2,p3,p4,p5⟩:=gW xa.out (xs:=[(k:Int) % 128+128]) (by rw [List.length_append];exact hown1) hgrow1 hat1;have H1:=hid p4;have H2:=hid (xm.out.trans p5);obtain⟨a1,n1,xd,_⟩:=C2 hown1;subst xd;clear hown1 hgrow1 hat1 p4 p5;go_wp2_with fail;go_roundw
   case rel=>exact ⟨k / 128,cs++[(k:Int) % 128+128],_,by first | rfl | (congr 1;omega) | skip,by omega,by rw [<- List.append_assoc];exact H1.out,by rw [<- xo.out,xc.out,List.append_assoc];rfl,H2.out⟩
   case measure=>simp [intOf];omega
end
section
variable {B pb:Nat} {W:World} {bs:List Int} {v:Value}
theorem T5 (h:T9 W B pb v bs) (hB:B<=W.heap.size) (n:Nat) (h63:n < 9223372036854775808) (hn:bs.length<=1000000) :
  Calls prog 84 #[zB pb,J (n:Int)] W fun e w'=>J1 B pb v (bs++B5 n) W e w':=by
 have HN:=hid (mK h hB n R5 hn);clear h;go_enter func84,ntmps84;go_wp2_with fail;refine HN.out.mono ?_;rintro e w1 ⟨rfl,hp⟩;have HP:Hid (J1 B pb v (bs++B5 n) W (.returned (.tuple #[])) w1):=⟨rfl,hp⟩;clear hp;go_wp2_with fail;go_end0
 exact HP.out
theorem pF (h:T9 W B pb v bs) (hB:B<=W.heap.size) (z:Int) (hz:I64 z) (hn:bs.length<=1000000) :
  Calls prog 85 #[zB pb,J z] W fun e w'=>J1 B pb v (bs++Y0 z) W e w':=by
 have HN:=hid (mK h hB (lO z) (kH hz.1 hz.2) hn);obtain⟨xc,xf⟩:=hz;have xg:=h.lt;have q0:=h.c0;clear h;by_cases hneg:z < 0
 ·obtain ⟨m,hm⟩:∃m:Nat, -1 - z=(m:Int):=⟨(-1 - z).toNat,by omega⟩
  have xa:m < 9223372036854775808:=by omega
  have e1:(lO z:Int)=2*(m:Int)+1:=by unfold lO;rw [if_pos hneg,hm];omega
  obtain rfl:z = -1 - (m:Int):=by omega
  have xb:Hid (Calls prog 126 #[zB pb,.int .u64 (2*(m:Int)+1)] W fun e w'=>J1 B pb v (bs++Y0 (-1 - (m:Int))) W e w'):=by rw [<- e1];exact HN
  have xe:¬(0:Int) <= -1 - (m:Int):=by omega
  have xh:IntKind.i64.wrap (-1 - (m:Int)+1) = -(m:Int):=by rw [Go.IntWalk.i64_in _ R5];omega
  have xd:IntKind.i64.wrap (- -(m:Int))=(m:Int):=by rw [Go.IntWalk.i64_in _ R5];omega
  clear HN e1;go_enter func85,ntmps85;go_wp2_with fail;refine xb.out.mono ?_;rintro e w1 ⟨rfl,hp⟩;have HP:Hid (J1 B pb v (bs++Y0 (-1 - (m:Int))) W (.returned (.tuple #[])) w1):=⟨rfl,hp⟩;clear hp;go_wp2_with fail;go_end0
  exact HP.out
 ·obtain ⟨m,hm⟩:∃m:Nat,z=(m:Int):=⟨z.toNat,by omega⟩
  subst hm;have xa:m < 9223372036854775808:=by omega
  have e1:(lO (m:Int):Int)=2*(m:Int):=by unfold lO;rw [if_neg hneg];omega
  have xb:Hid (Calls prog 126 #[zB pb,.int .u64 (2*(m:Int))] W fun e w'=>J1 B pb v (bs++Y0 (m:Int)) W e w'):=by rw [<- e1];exact HN
  clear HN e1;go_enter func85,ntmps85;go_wp2_with fail;refine xb.out.mono ?_;rintro e w1 ⟨rfl,hp⟩;have HP:Hid (J1 B pb v (bs++Y0 (m:Int)) W (.returned (.tuple #[])) w1):=⟨rfl,hp⟩;clear hp;go_wp2_with fail;go_end0
  exact HP.out
end
section
variable {B pb:Nat} {bs:List Int} {v:Value}
theorem T9.below {w w':World} (h:T9 w B pb v bs) (hb:L0d w w'):T9 w' B pb v bs :=
 ⟨h.lo,L0a h.lt hb.size,keep hb h.lt h.c0,keep hb h.lt h.c1,fun j=>E3 hb h.lt (h.fz j),A6 h.row fun b e=>hb.block b (h.row.lt b e).2,h.ne⟩
theorem Pw.below (pb:Nat) (v:Value) {w w':World} (hb:L0d w w'):Pw pb v w v w':=⟨hb.os,hb.tape,hb.output,hb.size,fun k hk _ _=>hb.block k hk,fun _ e=>L4a e⟩
def pvB (ol:List Int) (x:Val):List Int:=if x.1=1 then 1::Y0 x.2 else if x.1=2/\0<=C4 ol 0 x.2 then 2::B5 (C4 ol 0 x.2).toNat else [0]
theorem a0D {W:World} (h:T9 W B pb v bs) (hB:B<=W.heap.size) (x:Val) (hx:I64 x.2) (oa:Option Addr) (oc:Nat) (ol:List Int) (hol:K1 W oa ol) (hon:ol.length<=1000000) (hpl:C4 ol 0 x.2 < 1000000) (hn:bs.length<=999000) :
  Calls prog 128 #[zB pb,.agg #[zC x.1,J x.2],.slice oa ol.length oc] W fun e w'=>J1 B pb v (bs++pvB ol x) W e w':=by
 obtain⟨i5,hi,hz,xh,xi⟩:=info_parts zV;have HI:=hid hi;have HZ:=hid hz;have xe:=hid xh;have xc:=hid xi;obtain⟨xk,xn⟩:=x;simp only at hx hpl;have xp:=h.lt;have xj:pb < W.heap.size+1:=by omega
 have xd:Hid (v.ownBlock≠some W.heap.size):=hid fun e=>by have:=(h.row.lt _ e).2;omega
 have xg:L0d W (W.alloc (Obj.cells #[zC xk,J xn] 92)):=L3a (L3b _ _) (L1c _) _;have HV:=hid (h.below xg);have HW:=hid (Pw.below pb v xg);have c1:=HV.out.c1;have HX:=hid hx;have xf:Hid (∀U,L0d W U->Calls prog 103 #[.slice oa ol.length oc,J xn] U fun e w'=>e=.returned (J (C4 ol 0 xn))/\w'=U):=hid fun U hU=>eH oa oc ol xn (hol.later hU) R5
 clear h hi hz xh xi hol hx xg;by_cases e1:xk=1
 ·subst e1
  go_enter func128,ntmps128;go_wp2_with (at_builtin;go_must (refine A8 _ rfl (.tmp 15) (.tmp 16) 26 rfl B 5 i5 _ 1 1 underlying26 HI.out HZ.out xe.out xc.out rfl R4 v bs.length (B7 bs) rfl (HV.out.row.alloc _) (some ⟨W.heap.size+1,0,none⟩) 1 1 (B7 [1]) rfl rfl (fun _=>⟨_,rfl,World.news_of_block (cs:=#[zC 1]) (t:=5) (fr:=(0,0)) (B0 R6)⟩) (by simp [B7,Value.oneCell']) Q7 R5 Q9 ?_))
  intro v1 w1 hown1 hgrow1 hat1;obtain⟨p1,p2,p3,p4,p5⟩:=gW HV.out (xs:=[1]) hown1 hgrow1 (fun g hg=>by simpa using hat1 g hg);have xa:=p5.keep W.heap.size R6 R5 xd.out;obtain⟨a1,n1,xb,_⟩:=C2 hown1;subst xb;have H4:=hid p4;have H5:=hid (HW.out.trans p5);clear hown1 hgrow1 hat1 p4 p5;have x1:(w1.setCell ⟨pb,1,none⟩ (.slice a1 (bs.length+1) n1)).cell? ⟨W.heap.size,1,none⟩=some (J xn):=(L0b (a:=⟨W.heap.size,1,none⟩) xa).trans R3
  have xo:W.heap.size < (w1.setCell ⟨pb,1,none⟩ (.slice a1 (bs.length+1) n1)).heap.size:=World.block_lt_of_cell? _ _ x1;clear xa;go_wp2_with fail;generalize w1.setCell ⟨pb,1,none⟩ (.slice a1 (bs.length+1) n1)=Y at *
  go_wp2_with fail;refine (pF H4.out (by have:=H5.out.size;omega) xn HX.out (by rw [List.length_append];simp;omega)).mono ?_;rintro e w2 ⟨rfl,v2,q1,q2⟩;have HP:Hid (J1 B pb v (bs++pvB ol (1,xn)) W (.returned (.tuple #[])) w2):=⟨rfl,v2,by rw [show bs++pvB ol (1,xn)=bs++[1]++Y0 xn by simp [pvB]];exact q1,H5.out.trans q2⟩;clear q1 q2;go_wp2_with fail;go_end0
  exact HP.out
 ·have b1:(xk == 1)=false:=L2c.2 e1
  by_cases e2:xk=2/\0<=C4 ol 0 xn
  ·obtain ⟨rfl,xl⟩:=e2
   obtain⟨k,hk⟩:=L5c xl;rw[hk] at xf hpl;go_enter func128,ntmps128;go_wp2_with (first | (go_at_call 103;refine (xf.out _ (L3a (L3b _ _) (L1c _) _)).mono ?_;rintro e w' ⟨rfl,hw⟩;rw [hw];clear hw w') | (at_builtin;go_must (refine A8 _ rfl (.tmp 36) (.tmp 37) 26 rfl B 5 i5 _ 1 1 underlying26 HI.out HZ.out xe.out xc.out rfl R4 v bs.length (B7 bs) rfl (HV.out.row.alloc _) (some ⟨W.heap.size+1,0,none⟩) 1 1 (B7 [2]) rfl rfl (fun _=>⟨_,rfl,World.news_of_block (cs:=#[zC 2]) (t:=5) (fr:=(0,0)) (B0 R6)⟩) (by simp [B7,Value.oneCell']) Q7 R5 Q9 ?_)))
   intro v1 w1 hown1 hgrow1 hat1;obtain⟨p1,p2,p3,p4,p5⟩:=gW HV.out (xs:=[2]) hown1 hgrow1 (fun g hg=>by simpa using hat1 g hg);have xa:=p5.keep W.heap.size R6 R5 xd.out;obtain⟨a1,n1,xb,_⟩:=C2 hown1;subst xb;have H4:=hid p4;have H5:=hid (HW.out.trans p5);clear hown1 hgrow1 hat1 p4 p5;clear xa;go_wp2_with fail;generalize w1.setCell ⟨pb,1,none⟩ (.slice a1 (bs.length+1) n1)=Y at *
   go_wp2_with fail;refine (T5 H4.out (by have:=H5.out.size;omega) k R5 (by rw [List.length_append];simp;omega)).mono ?_;rintro e w2 ⟨rfl,v2,q1,q2⟩;have HP:Hid (J1 B pb v (bs++pvB ol (2,xn)) W (.returned (.tuple #[])) w2):=⟨rfl,v2,by rw [show bs++pvB ol (2,xn)=bs++[2]++B5 k by simp [pvB,hk]];exact q1,H5.out.trans q2⟩;clear q1 q2;go_wp2_with fail;go_end0
   exact HP.out
  ·have HE:Hid (pvB ol (xk,xn)=[0]):=hid (by simp only [pvB];rw [if_neg e1,if_neg e2])
   by_cases e3:xk=2
   ·subst e3
    have xm:¬0<=C4 ol 0 xn:=fun q=>e2 ⟨rfl,q⟩
    generalize C4 ol 0 xn=k at *
    go_enter func128,ntmps128;go_wp2_with (first | (go_at_call 103;refine (xf.out _ (L3a (L3b _ _) (L1c _) _)).mono ?_;rintro e w' ⟨rfl,hw⟩;rw [hw];clear hw w') | (at_builtin;go_must (refine A8 _ rfl (.tmp 48) (.tmp 49) 26 rfl B 5 i5 _ 1 1 underlying26 HI.out HZ.out xe.out xc.out rfl R4 v bs.length (B7 bs) rfl (HV.out.row.alloc _) (some ⟨W.heap.size+1,0,none⟩) 1 1 (B7 [0]) rfl rfl (fun _=>⟨_,rfl,World.news_of_block (cs:=#[zC 0]) (t:=5) (fr:=(0,0)) (B0 R6)⟩) (by simp [B7,Value.oneCell']) Q7 R5 Q9 ?_)))
    intro v1 w1 hown1 hgrow1 hat1;obtain⟨p1,p2,p3,p4,p5⟩:=gW HV.out (xs:=[0]) hown1 hgrow1 (fun g hg=>by simpa using hat1 g hg);have xa:=p5.keep W.heap.size R6 R5 xd.out;obtain⟨a1,n1,xb,_⟩:=C2 hown1;subst xb;have H4:=hid p4;have H5:=hid (HW.out.trans p5);clear hown1 hgrow1 hat1 p4 p5;have HP:Hid (J1 B pb v (bs++pvB ol (2,xn)) W (.returned (.tuple #[])) (w1.setCell ⟨pb,1,none⟩ (.slice a1 (bs.length+1) n1))):=⟨rfl,_,by rw [HE.out];exact H4.out,H5.out⟩
    clear xa;go_wp2_with fail;go_end0
    exact HP.out
   ·have b2:(xk == 2)=false:=L2c.2 e3
    clear e2;go_enter func128,ntmps128;go_wp2_with (at_builtin;go_must (refine A8 _ rfl (.tmp 48) (.tmp 49) 26 rfl B 5 i5 _ 1 1 underlying26 HI.out HZ.out xe.out xc.out rfl R4 v bs.length (B7 bs) rfl (HV.out.row.alloc _) (some ⟨W.heap.size+1,0,none⟩) 1 1 (B7 [0]) rfl rfl (fun _=>⟨_,rfl,World.news_of_block (cs:=#[zC 0]) (t:=5) (fr:=(0,0)) (B0 R6)⟩) (by simp [B7,Value.oneCell']) Q7 R5 Q9 ?_))
    intro v1 w1 hown1 hgrow1 hat1;obtain⟨p1,p2,p3,p4,p5⟩:=gW HV.out (xs:=[0]) hown1 hgrow1 (fun g hg=>by simpa using hat1 g hg);have xa:=p5.keep W.heap.size R6 R5 xd.out;obtain⟨a1,n1,xb,_⟩:=C2 hown1;subst xb;have H4:=hid p4;have H5:=hid (HW.out.trans p5);clear hown1 hgrow1 hat1 p4 p5;have HP:Hid (J1 B pb v (bs++pvB ol (xk,xn)) W (.returned (.tuple #[])) (w1.setCell ⟨pb,1,none⟩ (.slice a1 (bs.length+1) n1))):=⟨rfl,_,by rw [HE.out];exact H4.out,H5.out⟩
    clear xa;go_wp2_with fail;go_end0
    exact HP.out
end
section
variable {U W:World} {l:List Val} {pb:Nat} {u v:Value}
theorem gX {ol:List Int} {x:Val} (hx:I64 x.2) (hp:C4 ol 0 x.2 < 1000000):(pvB ol x).length<=11:=by
 unfold pvB;split
 ·have:=B1 (kH hx.1 hx.2)
  unfold Y0;simp only[List.length_cons];omega
 ·split
  ·have:=B1 (n:=(C4 ol 0 x.2).toNat) R5
   simp only[List.length_cons];omega
  ·simp
def vB (W:World) (pb:Nat) (v:Value) (la:Option Addr) (l:List Val):Prop :=
 0 < l.length->∃b,la=some ⟨b,0,none⟩/\b < W.heap.size/\b≠pb/\v.ownBlock≠some b/\∀(i:Nat) (x:Val),l[i]?=some x->W.cell? ⟨b,i*2,none⟩=some (zC x.1)/\W.cell? ⟨b,i*2+1,none⟩=some (J x.2)
def mB (W:World) (pb:Nat) (v:Value) (a:Option Addr) (l:List Int):Prop:=K1 W a l/\∀b o,a=some ⟨b,o,none⟩->b < W.heap.size/\b≠pb/\v.ownBlock≠some b
theorem Pw.far (h:Pw pb v W u U) {b:Nat} (hb:b < W.heap.size) (h1:b≠pb) (h2:v.ownBlock≠some b):b < U.heap.size/\u.ownBlock≠some b/\U.heap[b]?=W.heap[b]? :=
 ⟨L0a hb h.size,fun e=>by
  rcases h.own b e with e | e
  ·exact h2 e
  ·omega,h.keep b hb h1 h2⟩
theorem vB.later {la:Option Addr} (h:vB W pb v la l) (hw:Pw pb v W u U):vB U pb u la l:=fun h0=>by
 obtain⟨b,e,hb,h1,h2,hc⟩:=h h0;obtain⟨q1,q2,q3⟩:=hw.far hb h1 h2;exact⟨b,e,q1,h1,q2,fun i x hx=>⟨(L0b (a:=⟨b,i*2,none⟩) q3).trans (hc i x hx).1,(L0b (a:=⟨b,i*2+1,none⟩) q3).trans (hc i x hx).2⟩⟩
theorem mB.later {a:Option Addr} {l:List Int} (h:mB W pb v a l) (hw:Pw pb v W u U):mB U pb u a l:=by
 refine⟨fun h0=>?_,fun b o e=>?_⟩
 ·obtain ⟨b,o,e,hb,hc⟩:=h.1 h0
  obtain⟨_,h1,h2⟩:=h.2 b o e;obtain⟨q1,_,q3⟩:=hw.far hb h1 h2;exact⟨b,o,e,q1,fun i x hx=>(L0b (a:=⟨b,o+i,none⟩) q3).trans (hc i x hx)⟩
 ·obtain ⟨hb,h1,h2⟩:=h.2 b o e
  obtain⟨q1,q2,_⟩:=hw.far hb h1 h2;exact⟨q1,h1,q2⟩
theorem a7n {f:Val->List Int} {k:Nat} (h:∀x,x∈l->(f x).length<=k):(l.flatMap f).length<=l.length*k:=by
 induction l with
 | nil=>simp
 | cons x l ih =>
  have h1:=h x R6;have h2:=ih fun y hy=>h y (by simp [hy])
  rw[List.flatMap_cons,List.length_append,List.length_cons,Nat.add_mul];omega
theorem mL {B:Nat} {bs:List Int} (h:T9 W B pb v bs) (hB:B<=W.heap.size) (l:List Val) (la:Option Addr) (lc:Nat) (hl:vB W pb v la l) (hI:∀x,x∈l->I64 x.2) (oa:Option Addr) (oc:Nat) (ol:List Int) (hol:mB W pb v oa ol) (hon:ol.length<=1000000) (hpl:∀x,x∈l->C4 ol 0 x.2 < 1000000) (hn:bs.length+l.length*11<=999000) :
  Calls prog 87 #[zB pb,.slice la l.length lc,.slice oa ol.length oc] W fun e w'=>J1 B pb v (bs++l.flatMap (pvB ol)) W e w':=by
 have HH:=hid h;have HL:=hid hl;have HO:=hid hol;have xa:=hid hI;have xb:=hid hpl;have xg:(l.length:Int)<=1000000:=by omega
 clear h hl hol hI hpl;go_enter func87,ntmps87;go_wp2_with fail;go_loopw [6] (fun vi wr=>∃(i:Nat) (u:Value),i<=l.length/\vi=J i/\T9 wr B pb u (bs++(l.take i).flatMap (pvB ol))/\Pw pb v W u wr) (fun vi _=>l.length - (intOf vi).toNat)
 case atStart=>exact ⟨0,v,L4c _,rfl,by simpa using HH.out,Pw.refl _ _ _⟩
 case round =>
  obtain⟨i,u,hi,rfl,hp,hw⟩:=hrel;have HP:=hid hp;have HW:=hid hw;clear hp hw;by_cases hlt:i < l.length
  ·obtain ⟨x,hx⟩:∃x,l[i]?=some x:=⟨_,L1b hlt⟩
   have xc:=L2a hx;obtain⟨b,rfl,hb,_,_,hc⟩:=HL.out.later HW.out R5;obtain⟨x0,x1⟩:=hc i x hx;have HC:Hid (Calls prog 128 #[zB pb,.agg #[zC x.1,J x.2],.slice oa ol.length oc] wr fun e w'=>J1 B pb u (bs++(l.take i).flatMap (pvB ol)++pvB ol x) wr e w'):=hid (a0D HP.out (L5a hB HW.out.size) x (xa.out x xc) oa oc ol (HO.out.later HW.out).1 hon (xb.out x xc) (by
    have:=a7n (l:=l.take i) (f:=pvB ol) (k:=11) fun y hy=>gX (xa.out y (List.mem_of_mem_take hy)) (xb.out y (List.mem_of_mem_take hy))
    rw[List.length_take,Nat.min_eq_left hi] at this;have h9:i*11<=l.length*11:=Nat.mul_le_mul_right _ hi;rw[List.length_append];omega))
   have xd:Hid (l.take (i+1)=l.take i++[x]):=hid (by rw [List.take_add_one,hx];rfl);have xe:(i:Int) < (l.length:Int):=by omega
   clear hc hx;go_wp2_with (go_at_call 128;refine HC.out.mono ?_;rintro e w1 ⟨rfl,u1,q1,q2⟩;have H1:=hid q1;have H2:=hid (HW.out.trans q2);clear q1 q2)
   go_roundw
   case rel=>exact ⟨i+1,u1,by omega,by go_num,by rw [xd.out,List.flatMap_append,<- List.append_assoc,List.flatMap_cons,List.flatMap_nil,List.append_nil];exact H1.out,H2.out⟩
   case measure=>simp [intOf];omega
  ·obtain rfl:i=l.length:=by omega
   have xf:¬(l.length:Int) < (l.length:Int):=by omega
   have HF:Hid (J1 B pb v (bs++l.flatMap (pvB ol)) W (.returned (.tuple #[])) wr):=hid ⟨rfl,u,by have:=HP.out;rwa [List.take_length] at this,HW.out⟩;go_wp2_with fail;go_end0
   exact HF.out
end
section
variable {U W:World} {pb:Nat} {u v:Value}
theorem Pw.cell (h:Pw pb v W u U) {b j:Nat} {x:Value} (hb:b < W.heap.size) (h1:b≠pb) (h2:v.ownBlock≠some b) (hc:W.cell? ⟨b,j,none⟩=some x):U.cell? ⟨b,j,none⟩=some x :=
 (L0b (a:=⟨b,j,none⟩) (h.far hb h1 h2).2.2).trans hc
structure PgP (W:World) (pb:Nat) (v:Value) (g:PgR):Prop where
 pg:I9 W.heap.size W g
 ne:∀k,g.blk k->k≠pb/\v.ownBlock≠some k
theorem PgP.later {g:PgR} (h:PgP W pb v g) (hw:Pw pb v W u U):PgP U pb u g :=
 ⟨h.pg.held hw.size fun k hk=>(hw.far (h.pg.blk_lt hk) (h.ne k hk).1 (h.ne k hk).2).2.2,fun k hk=>⟨(h.ne k hk).1,(hw.far (h.pg.blk_lt hk) (h.ne k hk).1 (h.ne k hk).2).2.1⟩⟩
theorem tN {B:Nat} {bs:List Int} (h:T9 W B pb v bs) (hB:B<=W.heap.size) (g:PgR) (hg:PgP W pb v g) (hs:aM g) (hn:bs.length<=10000) :
  Calls prog 83 #[zB pb,.agg #[.slice g.a g.n g.c]] W fun e w'=>J1 B pb v (bs++progB g) W e w':=by
 have zk:=hs.n;have zg:=h.lt;have ys:pb < W.heap.size+1:=by omega
 have xc:L0d W (W.alloc (.cells #[.slice g.a g.n g.c] 41)):=L3a (L3b _ _) (L1c _) _;have HC:=hid (T5 (h.below xc) Q9 g.n R5 R5);have xw:=hid (hg.later (Pw.below pb v xc));have xg:=hid (Pw.below pb v xc);have ya:Hid (v.ownBlock≠some W.heap.size):=hid fun e=>by have:=(h.row.lt _ e).2;omega
 have HS:=hid hs;have zc:=B1 (n:=g.n) R5;clear h hg hs xc;go_enter func83,ntmps83;go_wp2_with fail;refine HC.out.mono ?_;rintro e w0 ⟨rfl,v0,h1,h2⟩;have y0:w0.cell? ⟨W.heap.size,0,none⟩=some (.slice g.a g.n g.c):=h2.cell R6 R5 ya.out R3;have l0:W.heap.size < w0.heap.size:=by have:=h2.size;simp at this;omega
 have yc:Hid (v0.ownBlock≠some W.heap.size):=hid (h2.far R6 R5 ya.out).2.1;have HH:=hid h1;have yn:=hid (xg.out.trans h2);have HG:=hid (xw.out.later h2);have yp:=hid y0;have yg:Hid (B<=w0.heap.size):=hid R5;clear h1 h2 xw xg;generalize hds:bs++B5 g.n=ds at *
 have zb:ds.length<=bs.length+10:=by rw [<- hds,List.length_append];omega
 have yf:=hid hds;clear hds;go_wp2_with fail;go_loopw [4] (fun vi wr=>∃(i:Nat) (u:Value),i<=g.n/\vi=J i/\T9 wr B pb u (ds++fW g i)/\Pw pb v0 w0 u wr) (fun vi _=>g.n - (intOf vi).toNat)
 case atStart=>exact ⟨0,v0,L4c _,rfl,by simpa [fW] using HH.out,Pw.refl _ _ _⟩
 case round =>
  obtain⟨i,u,hi,rfl,xe,xb⟩:=hrel;have yw:=xb.cell l0 R5 yc.out yp.out;have lw:W.heap.size < wr.heap.size:=L0a l0 xb.size;clear y0;by_cases hlt2:i < g.n
  ·obtain ⟨xq,zf,xi⟩:=(HG.out.later xb).pg.2.1 R5
   obtain⟨k0,k1,k2⟩:=xi i hlt2;have xd:=HS.out.f i hlt2;have xo:=hid xd;have yi:(ds++fW g i).length<=20000:=by
    have:=kE HS.out i R5;rw[List.length_append];have:i*1230<=8*1230:=Nat.mul_le_mul_right _ R5;omega
   have yd:=hid (eC g i);obtain⟨p,hp⟩:=L5c xd.p.1;obtain⟨lo,xm⟩:=L5c xd.l.1;have zj:p<=8:=by have:=xd.p.2;omega
   have ze:lo<=8:=by have:=xd.l.2;omega
   have yh:=xd.n;have n1:=B1 (n:=p) R5;have n2:=B1 (n:=lo) R5;have n3:=B1 (n:=(g.f i).n) R5;rw[hp] at k0;rw[xm] at k1;have HE:Hid (∀cs:List Int,cs++B5 p++B5 lo++B5 (g.f i).n++Z7 (g.f i) (g.f i).n=cs++fnB (g.f i)):=fun cs=>by
    unfold fnB;rw[hp,xm];simp[List.append_assoc]
   have yu:=xe.lt;have yo:pb < wr.heap.size+1:=by omega
   have xc:L0d wr (wr.alloc (.cells #[J (p:Int),J (lo:Int),.slice (g.f i).a (g.f i).n (g.f i).c] 163)):=L3a (L3b _ _) (L1c _) _;have xn:Hid (u.ownBlock≠some wr.heap.size):=hid fun e=>by have:=(xe.row.lt _ e).2;omega
   have xt:=hid (xe.below xc);have xv:=hid (xb.trans (Pw.below pb u xc));have xj:Hid (B<=wr.heap.size):=hid (L5a yg.out xb.size);have yj:(i:Int) < (g.n:Int):=by omega
   rw[xq] at yw;clear xe xb xi xd xc hp xm xq;generalize xi:ds++fW g i=cs at *
   have za:=hid xi;clear xi;go_wp2_with fail;refine (T5 xt.out (by simp;have:=xj.out;omega) p R5 R5).mono ?_;rintro e w1 ⟨rfl,ua,h1,h2⟩;have y1:w1.cell? ⟨wr.heap.size,1,none⟩=some (J (lo:Int)):=h2.cell R6 R5 xn.out R3;have y2:w1.cell? ⟨wr.heap.size,2,none⟩=some (.slice (g.f i).a (g.f i).n (g.f i).c):=h2.cell R6 R5 xn.out R3
   have l1:wr.heap.size < w1.heap.size:=by have:=h2.size;simp at this;omega
   have xs:=hid (h2.far (b:=wr.heap.size) R6 R5 xn.out).2.1;have H1:=hid h1;have H2:=hid (xv.out.trans h2);clear h1 h2 k0 k1 k2 xt xv yw;go_wp2_with fail;refine (T5 H1.out (by have:=xj.out;omega) lo R5 (by rw [List.length_append];omega)).mono ?_;rintro e w2 ⟨rfl,ub,h1,h2⟩;have z2:=h2.cell l1 R5 xs.out y2;have l2:wr.heap.size < w2.heap.size:=L0a l1 h2.size
   have xr:=hid (h2.far l1 R5 xs.out).2.1;have H3:=hid h1;have H4:=hid (H2.out.trans h2);clear h1 h2 y1 y2 H1 H2;go_wp2_with fail;refine (T5 H3.out (by have:=xj.out;omega) (g.f i).n R5 (by rw [List.length_append,List.length_append];omega)).mono ?_;rintro e w3 ⟨rfl,uc,h1,h2⟩;have t2:=h2.cell l2 R5 xr.out z2;have l3:wr.heap.size < w3.heap.size:=L0a l2 h2.size
   have xz:=hid (h2.far l2 R5 xr.out).2.1;have H5:=hid h1;have H6:=hid (H4.out.trans h2);have yq:=hid t2;clear h1 h2 z2 H3 H4;generalize hes:cs++B5 p++B5 lo++B5 (g.f i).n=es at *
   have zi:es.length<=cs.length+30:=by rw [<- hes];simp only [List.length_append];omega
   have yt:=hid hes;clear hes;go_wp2_with fail;go_loopw [6] (fun vj wx=>∃(j:Nat) (u:Value),j<=(g.f i).n/\vj=J j/\T9 wx B pb u (es++Z7 (g.f i) j)/\Pw pb uc w3 u wx) (fun vj _=>(g.f i).n - (intOf vj).toNat)
   case atStart=>exact ⟨0,uc,L4c _,rfl,by simpa [Z7] using H5.out,Pw.refl _ _ _⟩
   case round =>
    clear yu;obtain⟨j,ud,hj,rfl,xk,xa⟩:=hrel;have tx:=xa.cell l3 R5 xz.out yq.out;have lx:_ < _:=L0a l3 xa.size;clear t2;by_cases hlj:j < (g.f i).n
    ·obtain ⟨xl,zh,xu⟩:=((HG.out.later (H6.out.trans xa)).pg.2.2 i hlt2).2 R5
     obtain⟨o0,o1⟩:=xu j hlj;obtain⟨q0,q1⟩:=xo.out.op j hlj;have yr:=hid (xo.out.ar j hlj);obtain⟨op,xy⟩:=L5c q0;have yb:op < 28:=by omega
     have n6:=B1 (n:=op) R5;rw[xy] at o0;have xx:(es++Z7 (g.f i) j).length<=30000:=by
      have:=gP xo.out j R5;rw[List.length_append];have:j*20<=60*20:=Nat.mul_le_mul_right _ R5;omega
     have yx:Hid (es++Z7 (g.f i) (j+1)=es++Z7 (g.f i) j++B5 op++Y0 ((g.f i).ar j)):=by
      refine hid ?_;rw[iT];unfold inB;rw[xy];simp[List.append_assoc]
     have HX:=hid xk;have xf:=hid xa;have ye:=hid (HG.out.later (H6.out.trans xa));have yy:(j:Int) < ((g.f i).n:Int):=by omega
     rw[xl] at tx;have ym:=hid tx;rw[xl];clear xk xa xu xl;go_wp2_with fail;refine (T5 HX.out (by have:=xj.out;have:=xf.out.size;omega) op R5 R5).mono ?_;rintro e w4 ⟨rfl,ue,h1,h2⟩;obtain⟨_,yv,xh⟩:=((ye.out.later h2).pg.2.2 i hlt2).2 R5;obtain⟨o2,o3⟩:=xh j hlj;have xp:=(xf.out.far l3 R5 xz.out).2.1;have yl:=h2.cell lx R5 xp ym.out;have zd:=L0a lx h2.size
     have H7:=hid h1;have H8:=hid (xf.out.trans h2);clear h1 h2 xh xp o0 o1 o2 tx;go_wp2_with fail;refine (pF H7.out (by have:=xj.out;have:=H8.out.size;omega) _ yr.out (by rw [List.length_append];omega)).mono ?_;rintro e w5 ⟨rfl,uf,h1,h2⟩;have H9:=hid h1;have yz:=hid (H8.out.trans h2);clear h1 h2 o3 yl;go_wp2_with fail;go_roundw
     case rel=>exact ⟨j+1,uf,by omega,by go_num,by rw [yx.out];exact H9.out,yz.out⟩
     case measure=>simp [intOf];omega
    ·obtain rfl:j=(g.f i).n:=by omega
     have yk:¬((g.f i).n:Int) < ((g.f i).n:Int):=by omega
     have HX:=hid xk;have xf:=hid xa;clear xk xa;go_wp2_with fail;go_roundw
     case rel=>exact ⟨i+1,ud,by omega,by go_num,by rw [yd.out,<- List.append_assoc,za.out,<- HE.out cs,yt.out];exact HX.out,H6.out.trans xf.out⟩
     case measure=>simp [intOf];omega
  ·obtain rfl:i=g.n:=by omega
   have yk:¬(g.n:Int) < (g.n:Int):=by omega
   have HF:Hid (J1 B pb v (bs++progB g) W (.returned (.tuple #[])) wr):=hid ⟨rfl,u,by unfold progB;rw [<- List.append_assoc,yf.out];exact xe,yn.out.trans xb⟩;clear xe xb;go_wp2_with fail;go_end0
   exact HF.out
end
theorem a9v (n:Nat):0<=IntKind.u32.wrap (n:Int)/\IntKind.u32.wrap (n:Int) < 4294967296:=by
 have e:IntKind.u32.wrap (n:Int)=(n:Int) % 4294967296:=by rfl
 rw[e];omega
theorem yO (op:BinOp) (x y:Int):0<=bits op .u32 x y/\bits op .u32 x y < 4294967296:=a9v _
theorem a7f (m:Nat) (h:m < 4294967296):bits .and .u32 (m:Int) 1=((m % 2:Nat):Int):=by
 have e:(BitVec.ofInt 32 (m:Int) &&& BitVec.ofInt 32 1).toNat=m % 2:=by
  rw[BitVec.toNat_and,BitVec.toNat_ofInt,BitVec.toNat_ofInt];have h1:((m:Int) % ((2 ^ 32:Nat):Int)).toNat=m:=by omega
  have h2:((1:Int) % ((2 ^ 32:Nat):Int)).toNat=1:=by decide
  rw[h1,h2];exact Nat.and_one_is_mod m
 show IntKind.u32.wrap (((BitVec.ofInt 32 (m:Int) &&& BitVec.ofInt 32 1).toNat:Nat):Int)=_;rw[e];show ((m % 2:Nat):Int) % 4294967296=_;omega
def a4o (r:Int):Prop:=0<=r/\r < 4294967296
theorem yN {r:Int} (h:a4o r):a4o (cV r):=by
 unfold cV;split
 ·exact yO _ _ _
 ·obtain ⟨h1,h2⟩:=h
  constructor <;> omega
theorem mC {r:Int} (h:a4o r):∀n,a4o (M9 n r)
 | 0=>h
 | n+1=>yN (mC h n)
theorem a6f {W:World} (a:Option Addr) (c:Nat) (l:List Int) (hl:M2 W a l) (hn:l.length<=1000000) :
  Calls prog 121 #[.slice a l.length c] W fun e w'=>e=.returned (.int .u32 (bits BinOp.xor IntKind.u32 IntKind.u32.max (W5 l)))/\w'=W:=by
 have HL:=hid hl;clear hl;go_enter func121,ntmps121;go_wp2_with fail;go_loopw [3,4] (fun vr vi wr=>∃i:Nat,i<=l.length/\vi=J i/\vr=.int .u32 (W5 (l.take i))/\W=wr) (fun _ vi _=>l.length - (intOf vi).toNat)
 case atStart=>exact ⟨0,L4c _,rfl,rfl,by first | rfl | trivial⟩
 case round =>
  obtain⟨i,hi,rfl,rfl,rfl⟩:=hrel;by_cases hlt:i < l.length
  ·obtain ⟨x,hx⟩:∃x,l[i]?=some x:=⟨_,L1b hlt⟩
   obtain⟨b,o,rfl,hb,xc⟩:=HL.out R5;have x0:=xc i x hx;have xd:=hid (pQ hx);have xe:(i:Int) < (l.length:Int):=by omega
   clear xc hx;generalize W5 (l.take i)=r at *
   go_wp2_with fail;go_loopw [3,5] (fun vr vi wr=>∃k:Nat,k<=8/\vi=J k/\vr=.int .u32 (M9 k (bits BinOp.xor IntKind.u32 r (x % 4294967296)))/\W=wr) (fun _ vi _=>8 - (intOf vi).toNat)
   case atStart=>exact ⟨0,L4c _,rfl,rfl,by first | rfl | trivial⟩
   case round =>
    obtain⟨k,hk,rfl,rfl,rfl⟩:=hrel;have HB:Hid (M9 (k+1) (bits BinOp.xor IntKind.u32 r (x % 4294967296))=cV (M9 k (bits BinOp.xor IntKind.u32 r (x % 4294967296)))):=hid rfl;have xb:Hid (k=8->M9 k (bits BinOp.xor IntKind.u32 r (x % 4294967296))=jY r x):=hid (by rintro rfl;rfl);have hq:a4o (M9 k (bits BinOp.xor IntKind.u32 r (x % 4294967296))):=mC (yO _ _ _) k
    generalize M9 k (bits BinOp.xor IntKind.u32 r (x % 4294967296))=q at *
    obtain⟨m,rfl⟩:=L5c hq.1;have hm:m < 4294967296:=by have:=hq.2;omega
    have HS:Hid (cV (m:Int)=if m % 2=1 then bits BinOp.xor IntKind.u32 ((m:Int) / 2) 3988292384 else (m:Int) / 2):=hid (by
     unfold cV;rw[a7f m hm];by_cases e:m % 2=1
     ·rw [if_pos e,if_pos (by rw [e];rfl)]
     ·rw [if_neg e,if_neg R5])
    clear hq;by_cases hk8:k < 8
    ·have xf:(k:Int) < 8:=by omega
     by_cases h1:m % 2=1
     ·have xa:(m:Int) % 2=1:=by omega
      go_wp2_with fail;go_roundw
      case rel=>exact ⟨k+1,by omega,by go_num,by rw [HB.out,HS.out,if_pos h1],by first | rfl | trivial⟩
      case measure=>simp [intOf];omega
     ·have xa:¬(m:Int) % 2=1:=by omega
      have xg:((m:Int) % 2 == 1)=false:=L2c.2 xa;go_wp2_with fail;go_roundw
      case rel=>exact ⟨k+1,by omega,by go_num,by rw [HB.out,HS.out,if_neg h1],by first | rfl | trivial⟩
      case measure=>simp [intOf];omega
    ·obtain rfl:k=8:=by omega
     have H8:=hid (xb.out rfl);clear HB xb;go_wp2_with fail;go_roundw
     case rel=>exact ⟨i+1,by omega,by go_num,by rw [xd.out,<- H8.out],by first | rfl | trivial⟩
     case measure=>simp [intOf];omega
  ·obtain rfl:i=l.length:=by omega
   have xh:¬(l.length:Int) < (l.length:Int):=by omega
   rw[List.take_length];go_wp2_with fail;go_ret;exact⟨rfl,rfl⟩
section
variable {W:World} {a:Option Addr} {l:List Int}
theorem M2.src (h:M2 W a l):0 < l.length->∃d,a=some d/\∀j u,(B7 l)[j]?=some u->W.cell? (d.add j)=some u:=fun h0=>by
 obtain⟨b,o,rfl,hb,hc⟩:=h h0;refine⟨_,rfl,fun j u hu=>?_⟩;unfold B7 at hu;rw[List.getElem?_map] at hu
 cases e:l[j]? with
 | none=>rw [e] at hu;cases hu
 | some x =>
  rw[e] at hu;obtain rfl:=L5b hu;rw[dZ];exact hc j x e
theorem M2.later {U:World} (h:M2 W a l) (hB:L0d W U):M2 U a l:=fun h0=>by
 obtain⟨b,o,e,hb,hc⟩:=h h0;exact⟨b,o,e,L0a hb hB.size,fun i x hx=>keep hB hb (hc i x hx)⟩
def jU (l:List Int) (W:World) (e:Ending) (w':World):Prop :=
 ∃v,e=.returned v/\w'.ownsRow W.heap.size 5 1 v (l++fD l).length (B7 (l++fD l))/\L0d W w'
theorem xN (a:Option Addr) (c:Nat) (l:List Int) (hl:M2 W a l) (hn:l.length<=1000000) :
  Calls prog 76 #[.slice a l.length c] W fun e w'=>jU l W e w':=by
 obtain⟨i5,hi,hz,xd,xf⟩:=info_parts zV;have HI:=hid hi;have HZ:=hid hz;have xh:=hid xd;have xg:=hid xf;have xb:=hid hl.src;have xc:=hid (a6f a c l hl hn);have xk:Hid (fD l=[bits BinOp.xor IntKind.u32 IntKind.u32.max (W5 l) % 256,bits BinOp.xor IntKind.u32 IntKind.u32.max (W5 l) / 256 % 256,bits BinOp.xor IntKind.u32 IntKind.u32.max (W5 l) / 65536 % 256,bits BinOp.xor IntKind.u32 IntKind.u32.max (W5 l) / 16777216 % 256]):=hid rfl
 have xa:=yO BinOp.xor IntKind.u32.max (W5 l);generalize bits BinOp.xor IntKind.u32 IntKind.u32.max (W5 l)=s at *
 obtain⟨m,rfl⟩:=L5c xa.1;have hm:m < 4294967296:=by have:=xa.2;omega
 clear hl hi hz xd xf xa;go_enter func76,ntmps76;go_wp2_with (first | (go_at_call 121;refine xc.out.mono ?_;rintro e w' ⟨rfl,hw⟩;rw [hw];clear hw w') | (at_builtin;go_must (refine A8 _ rfl (.tmp 7) (.tmp 8) 26 rfl W.heap.size 5 i5 _ 1 1 underlying26 HI.out HZ.out xh.out xg.out rfl R4 zD 0 [] rfl (World.ownsRow_nil _ _ _ _) a l.length c (B7 l) rfl (by simp [B7]) xb.out (by intro u hu;simp [B7] at hu;obtain ⟨n,_,rfl⟩:=hu;rfl) Q7 R5 (L1c _) ?_)))
 intro v1 w1 hown1 hgrow1 _
 try simp only [Nat.zero_add,List.nil_append] at hown1
 have xe:=hid hown1;have xm:Hid (L0d W w1):=hid ⟨hgrow1.os,hgrow1.tape,hgrow1.output,hgrow1.size,fun k hk=>hgrow1.block k hk (by simp [Value.ownBlock])⟩;have xj:=hgrow1.size;clear hown1 hgrow1;go_wp2_with (at_builtin;go_must (refine A8 _ rfl (.tmp 10) (.tmp 22) 26 rfl W.heap.size 5 i5 _ 1 1 underlying26 HI.out HZ.out xh.out xg.out rfl R4 v1 l.length (B7 l) rfl (xe.out.alloc _) (zA w1.heap.size) 4 4 (B7 [(m:Int) % 256,(m:Int) / 256 % 256,(m:Int) / 65536 % 256,(m:Int) / 16777216]) rfl rfl (fun _=>⟨_,rfl,World.news_of_block (cs:=#[zC ((m:Int) % 256),zC ((m:Int) / 256 % 256),zC ((m:Int) / 65536 % 256),zC ((m:Int) / 16777216)]) (t:=5) (fr:=(0,0)) (B0 Q2)⟩) (by simp [B7,Value.oneCell']) Q7 R5 Q9 ?_))
 intro v2 w2 hown2 hgrow2 _;have xi:Hid (w2.ownsRow W.heap.size 5 1 v2 (l++fD l).length (B7 (l++fD l))):=hid (by
  rw[xk.out,show (m:Int) / 16777216 % 256=(m:Int) / 16777216 by omega,List.length_append,show B7 (l++[(m:Int) % 256,(m:Int) / 256 % 256,(m:Int) / 65536 % 256,(m:Int) / 16777216])=B7 l++B7 [(m:Int) % 256,(m:Int) / 256 % 256,(m:Int) / 65536 % 256,(m:Int) / 16777216] by simp [B7]];exact hown2)
 have xl:=hid (M8 (L3a xm.out xj _) (xe.out.alloc _) hgrow2);clear hown2 hgrow2;go_wp2_with fail;go_ret;exact⟨v2,rfl,xi.out,xl.out⟩
end
section
variable {B pb:Nat} {U W:World} {bs:List Int} {v:Value}
theorem Pw.toBelow {u:Value} (h:Pw pb v W u U) (hB:B<=W.heap.size) (h1:B<=pb) (h2:∀k,v.ownBlock=some k->B<=k):Below B W U :=
 ⟨h.os,h.tape,h.output,h.size,fun b hb=>h.keep b R5 R5 fun e=>by have:=h2 b e;omega⟩
theorem T9.low (h:T9 W B pb v bs):∀k,v.ownBlock=some k->B<=k:=fun k e=>(h.row.lt k e).1
theorem N7.pen {la:Option Addr} {l:List Val} (h:N7 U W.heap.size la l) (hs:W.heap.size<=U.heap.size) (hp:T9 U W.heap.size pb v bs):vB U pb v la l:=fun h0=>by
 obtain⟨b,e,hb,hc⟩:=h h0;exact⟨b,e,by omega,by have:=hp.lo;omega,fun q=>by have:=hp.low b q;omega,hc⟩
def pfB (ol:List Int) (f:FrR):List Int:=B5 f.fn++B5 f.pc++f.loc.flatMap (pvB ol)++f.stk.flatMap (pvB ol)
def ptB (ol:List Int) (o:ThR):List Int:=B5 o.kind.toNat++(if o.kind=3 then [] else B5 o.fl.length)++o.fl.flatMap (pvB ol)
def bT (R:RfR):List Int:=(A0 R.abs).map fun n:Nat=>(n:Int)
def a5c (g:PgR) (R:RfR):List Int:=[83,76,77,2]++progB g++B5 R.st.toNat++B5 R.out.length++R.out.flatMap Y0
def wrB (g:PgR) (R:RfR):List Int:=a5c g R++B5 R.frs.length++R.frs.flatMap (pfB (bT R))++B5 (bT R).length++(A0 R.abs).flatMap fun j=>ptB (bT R) (R.ths.getD j ⟨0,zD,[],0⟩)
structure a8M (g:PgR) (R:RfR):Prop where
 pg:aM g
 st:0<=R.st/\R.st<=1000
 out:R.out.length<=1000/\∀z,z∈R.out->I64 z
 frs:R.frs.length<=20
 fr:∀f,f∈R.frs->f.fn<=1000/\f.pc<=1000/\f.loc.length<=1000/\f.stk.length<=1000/\(∀x,x∈f.loc->I64 x.2)/\∀x,x∈f.stk->I64 x.2
 th:∀j,j∈A0 R.abs->∀o,R.ths[j]?=some o->0<=o.kind/\o.kind<=3/\o.fl.length<=100/\∀x,x∈o.fl->I64 x.2
 al:(A0 R.abs).length<=100
 lt:∀j,j∈A0 R.abs->j < R.ths.length
theorem xF:∀(l:List Int) (n v:Int),0<=n->C4 l n v < n+(l.length:Int)+1
 | [],n,v,h=>by simp [C4];omega
 | x::l,n,v,h=>by
  simp only[C4,List.length_cons];split
  ·omega
  ·have:=xF l (n+1) v R5
   omega
theorem cQ {l:List Int} (h:l.length<=100) (v:Int):C4 l 0 v < 1000000:=by
 have:=xF l 0 v R5;omega
end
end Go.Proofs.YtbkmgoffiigdbaaGreatDoor
