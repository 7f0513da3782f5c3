import Derived.Deep.Strs
import Derived.Deep.SlicePairs
import Derived.Test.YtbkmgoffiigdbaaGreatDoorVBj
namespace Go.Proofs.YtbkmgoffiigdbaaGreatDoor
open Go.RowKit Go.Sort Go.Proofs.Tryz
set_option maxHeartbeats 8000000
set_option maxRecDepth 100000
section
variable {P:A5} {n nb:Nat} {nbf zf:Nat->Nat} {vs:List (Value × Nat)} {vsf:Nat->List (Value × Nat)} {w:World} {zv:Nat->Value}
theorem aK.lists4 (h:aK w 5 1 26 zv nb vs):yG w nb vs :=
 ⟨fun _ _ hp=>(h.get hp).1,(L2b.1 h.blk).1,h.has,fun p hp=>by
  obtain⟨xs,hx⟩:=h.has p hp;exact mD hx h.blk R4,fun p hp=>by
  obtain⟨k,hk⟩:=List.mem_iff_getElem?.1 hp;exact h.small hk⟩
theorem aK.reads4 {z:Nat} (h:aK w 5 1 26 (fun _=>zC (z:Int)) nb vs):a4u w nb vs z :=
 ⟨fun k p hp=>by
  obtain⟨h1,_,a,c,h2,h3⟩:=h.get hp;refine⟨h1,a,c,h2,fun h0=>?_⟩;obtain⟨b,q1,q2,q3⟩:=h3 h0;exact⟨b,q1,q2,fun off ho=>q3 off R5⟩,(L2b.1 h.blk).1,fun p hp=>by
  obtain⟨k,hk⟩:=List.mem_iff_getElem?.1 hp;exact h.small hk⟩
theorem Sep.wrote {w':World} {zv':Nat->Value} (h:Sep P w) (q:Nat × Nat) (hq:P q=iU 5 1 26 zv nb vs) (hl:vs.length=4) (hw:Wr w w' 5 1 zv' vs 4 0) :
  Sep (P.put q (iU 5 1 26 zv' nb vs)) w'/\Stp P w (P.put q (iU 5 1 26 zv' nb vs)) w':=by
 have hE:aK w 5 1 26 zv nb vs:=by have:=h.F q;rw [hq] at this;exact this
 have hB:∀b,(P q).B b↔a2z nb vs b:=fun b=>by rw [hq];exact Iff.rfl
 have hk:∀k,k < w.heap.size->¬(P q).B k->w'.heap[k]?=w.heap[k]?:=fun k _ hn=>hw.keep k fun p hp e=>hn ((hB k).2 (L4b ⟨p,hp,e⟩))
 have xa:aK w' 5 1 26 zv' nb vs:=⟨(hw.keep nb hE.lists4.ne).trans hE.blk,hw.has,fun p hp=>by
  obtain⟨k,hk⟩:=List.mem_iff_getElem?.1 hp;exact hw.zed k p hk (by have:=(L1a.1 hk).1;omega)⟩
 have hb:∀k,(iU 5 1 26 zv' nb vs).B k->(P q).B k\/w.heap.size<=k:=fun k hb=>L4a ((hB k).2 hb)
 have hs:w.heap.size<=w'.heap.size:=by rw [hw.size];exact L1c _
 exact⟨h.upd q _ hs hk xa hb,⟨hw.os,hw.tape,hw.output,hs,fun b hb hn=>hk b hb (hn q),fun j b hj=>by
  by_cases e:j=q
  ·rw [e,A5.put_same] at hj
   exact L4a ⟨q,(hB b).2 hj⟩
  ·rw [A5.put_ne _ e] at hj
   exact L4a ⟨j,hj⟩⟩⟩
def bV (P:A5) (n:Nat) (nbf:Nat->Nat) (vsf:Nat->List (Value × Nat)) (zf:Nat->Nat):A5:=fun q=>if q.1=4/\q.2 < n then iU 5 1 26 (fun _=>zC (zf q.2:Int)) (nbf q.2) (vsf q.2) else P q
theorem lF {zf:Nat->Nat} {i:Nat} (hi:i < n):bV P n nbf vsf zf (4,i)=iU 5 1 26 (fun _=>zC (zf i:Int)) (nbf i) (vsf i):=if_pos ⟨rfl,hi⟩
theorem vE : bV P n nbf vsf zf (0,0)=P (0,0):=if_neg fun e=>absurd e.1 R4
theorem yP {zf':Nat->Nat} {i:Nat} (hi:i < n) (h:∀k,k≠i->zf' k=zf k):(bV P n nbf vsf zf).put (4,i) (iU 5 1 26 (fun _=>zC (zf' i:Int)) (nbf i) (vsf i))=bV P n nbf vsf zf':=by
 funext q
 by_cases e:q=(4,i)
 ·rw [e,A5.put_same,lF hi]
 ·rw [A5.put_ne _ e]
  unfold bV;by_cases c:q.1=4/\q.2 < n
  ·rw [if_pos c,if_pos c,h q.2 fun e'=>e (Prod.ext c.1 e')]
  ·rw [if_neg c,if_neg c]
structure ByW (P:A5) (w:World) (n:Nat) (nbf:Nat->Nat) (vsf:Nat->List (Value × Nat)) (zf:Nat->Nat) (u:World):Prop where
 sep:Sep (bV P n nbf vsf zf) u
 os:u.os=w.os
 tape:u.tape=w.tape
 output:u.output=w.output
 size:w.heap.size<=u.heap.size
 out:∀b,b < w.heap.size->(∀i,¬(P i).B b)->u.heap[b]?=w.heap[b]?
section
variable {P:A5} {w:World} {yb n:Nat} {Y:PlR} {nbf:Nat->Nat} {vsf:Nat->List (Value × Nat)} {zf zf':Nat->Nat} {u u':World}
theorem ByW.below (h:ByW P w n nbf vsf zf u) (hB:L0d u u'):ByW P w n nbf vsf zf u' :=
 ⟨h.sep.below hB,hB.os.trans h.os,hB.tape.trans h.tape,hB.output.trans h.output,L5a h.size hB.size,fun b hb hn=>(hB.block b (L0a hb h.size)).trans (h.out b hb hn)⟩
theorem ByW.ent (h:ByW P w n nbf vsf zf u) {i:Nat} (hi:i < n):aK u 5 1 26 (fun _=>zC (zf i:Int)) (nbf i) (vsf i):=by
 have:=h.sep.F (4,i);rw[lF hi] at this;exact this
theorem ByW.wrote (h:ByW P w n nbf vsf zf u) (hPb:∀i b,i < n->a2z (nbf i) (vsf i) b->(P (4,i)).B b) (hv:∀i,i < n->(vsf i).length=4) {i:Nat} (hi:i < n) (hz:∀k,k≠i->zf' k=zf k) (hw:Wr u u' 5 1 (fun _=>zC (zf' i:Int)) (vsf i) 4 0):ByW P w n nbf vsf zf' u':=by
 obtain⟨h1,h2⟩:=h.sep.wrote (4,i) (lF hi) (hv i hi) hw;rw[yP hi hz] at h1;refine⟨h1,h2.os.trans h.os,h2.tape.trans h.tape,h2.output.trans h.output,L5a h.size h2.size,fun b hb hn=>(hw.keep b fun p hp e=>hn (4,i) (hPb i b hi (L4b ⟨p,hp,e⟩))).trans (h.out b hb hn)⟩
theorem ByW.list (h:ByW P w n nbf vsf zf u) (hp:P (0,0)=aS yb Y) (hn:n=(Y.l 2).length) (hnb:∀i,i < n->(Y.l 2)[i]?=some (nbf i)):yb < u.heap.size/\∃a c,u.cell? ⟨yb,2,none⟩=some (.slice a n c)/\∀i,i < n->∃ab,a=some ⟨ab,0,none⟩/\ab < u.heap.size/\u.cell? ⟨ab,i,none⟩=some (.slice (some ⟨nbf i,0,none⟩) 4 4):=by
 have xa:I5 u yb Y:=by
  have:=h.sep.F (0,0);rw[vE,hp] at this;exact this
 obtain⟨a,c,h1,h2⟩:=xa.list (j:=2) R4 R4;subst hn;exact⟨xa.me,a,c,h1,fun i hi=>h2 i _ (hnb i hi)⟩
end
end
section
variable {P:A5} {n:Nat} {nbf:Nat->Nat} {vsf:Nat->List (Value × Nat)} {w:World}
def dz (d:Nat):Nat:=if d=4 then 0 else d
theorem a2g (h:Sep P w) (hv:∀i,i < n->P (4,i)=iU 5 1 26 (fun _=>zC ((i % 251:Nat):Int)) (nbf i) (vsf i)):bV P n nbf vsf (fun i=>aI i 0)=P/\ByW P w n nbf vsf (fun i=>aI i 0) w:=by
 have e:bV P n nbf vsf (fun i=>aI i 0)=P:=by
  funext q
  unfold bV;by_cases c:q.1=4/\q.2 < n
  ·rw [if_pos c]
   have h4:q=(4,q.2):=Prod.ext c.1 rfl;have h5:=hv q.2 c.2;rw[<- h4,<- digN_z] at h5;exact h5.symm
  ·rw [if_neg c]
 exact⟨e,⟨by rw [e];exact h,rfl,rfl,rfl,L1c _,fun _ _ _=>rfl⟩⟩
 where
 digN_z (i:Nat):aI i 0=i % 251:=by unfold aI;rw [Nat.pow_zero,Nat.div_one]
theorem a2f {u:World} {zf zf':Nat->Nat} (hz:∀k,k < n->zf k=zf' k) (h:ByW P w n nbf vsf zf u):ByW P w n nbf vsf zf' u:=by
 have e:bV P n nbf vsf zf=bV P n nbf vsf zf':=by
  funext q
  unfold bV;by_cases c:q.1=4/\q.2 < n
  ·rw [if_pos c,if_pos c,hz q.2 c.2]
  ·rw [if_neg c,if_neg c]
 exact⟨by rw [<- e];exact h.sep,h.os,h.tape,h.output,h.size,h.out⟩
theorem mY {yb:Nat} {Y:PlR} (h:Sep P w) (hp:P (0,0)=aS yb Y) (hL:jN P Y) (hle:(Y.l 2).length<=1000000000) :
  Calls prog 37 #[.pointer (some ⟨yb,1,none⟩)] w fun e w'=>e=.returned (.bool true)/\Sep P w'/\Stp P w P w':=by
 obtain⟨n,hn⟩:∃n,n=(Y.l 2).length:=⟨_,rfl⟩
 obtain⟨xa,xf⟩:∃xa:Nat->Nat,xa=fun i=>(Y.l 2).getD i 0:=⟨_,rfl⟩
 have xj:∀i,i < n->(Y.l 2)[i]?=some (xa i):=fun i hi=>by
  rw[xf];simp only;rw[List.getD_eq_getElem?_getD,L1b R5];rfl
 obtain⟨xb,xe⟩:=Go.Deep.choose_lt (α:=List (Value × Nat)) (n:=n) (p:=fun i vs=>vs.length=4/\P (4,i)=iU 5 1 26 (fun _=>zC ((i % 251:Nat):Int)) (xa i) vs) (fun i hi=>(hL.2 2 i _ R4 R4 (xj i hi)).b rfl);obtain⟨ye,xo⟩:=a2g h fun i hi=>(xe i hi).2
 have xr:∀i b,i < n->a2z (xa i) (xb i) b->(P (4,i)).B b:=fun i b hi hb=>by rw [(xe i hi).2];exact hb
 have xz:Hid (∀U (i d:Nat),i < n/\d<=3->Calls prog 71 #[J (i:Int),J (d:Int)] U fun e w'=>e=.returned (zC ((aI i d:Nat):Int))/\w'=U):=hid fun U i d hd=>lI i d R5 hd.2
 have xm:Hid (∀U (i:Nat),i < n->Calls prog 71 #[J (i:Int),J 0] U fun e w'=>e=.returned (zC ((aI i 0:Nat):Int))/\w'=U):=hid fun U i hi=>lI i 0 R5 R4
 have xs:Hid (∀U (zf:Nat->Nat) (i:Nat),ByW P w n xa xb zf U->i < n->Calls prog 70 #[.slice (some ⟨xa i,0,none⟩) 4 4,zC ((zf i:Nat):Int)] U fun e w'=>e=.returned (.bool true)/\w'=U):=hid fun U zf i hU hi=>a3x (hU.ent hi).reads4 (xe i hi).1
 have yi:Hid (∀U (zf zf':Nat->Nat) (i:Nat),ByW P w n xa xb zf U->i < n->(∀k,k≠i->zf' k=zf k)->Calls prog 72 #[.slice (some ⟨xa i,0,none⟩) 4 4,zC ((zf' i:Nat):Int)] U fun e w'=>e=.returned (.tuple #[])/\ByW P w n xa xb zf' w'):=hid fun U zf zf' i hU hi hz=>(rY (hU.ent hi).lists4 (xe i hi).1 (zf' i)).mono fun e w' q=>⟨q.1,hU.wrote xr (fun i hi=>(xe i hi).1) hi hz q.2⟩
 obtain⟨la,lc,xu⟩:∃la lc,∀(zf:Nat->Nat) U,ByW P w n xa xb zf U->yb < U.heap.size/\U.cell? ⟨yb,2,none⟩=some (.slice la n lc)/\∀i,i < n->∃ab,la=some ⟨ab,0,none⟩/\ab < U.heap.size/\U.cell? ⟨ab,i,none⟩=some (.slice (some ⟨xa i,0,none⟩) 4 4):=by
  obtain⟨_,a,c,h1,h2⟩:=xo.list hp hn xj;have xk:I5 w yb Y:=by have:=h.F (0,0);rw [hp] at this;exact this
  refine⟨a,c,fun zf U hU=>?_⟩;obtain⟨q1,a',c',q2,q3⟩:=hU.list hp hn xj;have yh:I5 U yb Y:=by have:=hU.sep.F (0,0);rw [vE,hp] at this;exact this
  have e1:=yh.c 2 R4 R4;have e0:=xk.c 2 R4 R4;rw[h1] at e0;rw[q2,<- e0] at e1;simp only[Option.some.injEq,Value.slice.injEq] at e1;obtain⟨rfl,_,rfl⟩:=e1;exact⟨q1,q2,q3⟩
 have xi:=hid xu;have yj:=hid xo;have xl:Hid (∀u,ByW P w n xa xb (fun i=>aI i 0) u->Sep P u/\Stp P w P u):=hid fun u hu=>⟨by have:=hu.sep;rw [ye] at this;exact this,⟨hu.os,hu.tape,hu.output,hu.size,hu.out,fun i b hb=>L4a ⟨i,hb⟩⟩⟩
 have yp:n<=1000000000:=by omega
 clear h hp hL hle hn xf xj xe ye xo xr xu;go_enter func37,ntmps37;go_wp2_with fail;go_loopw [3] (fun vi wr=>∃i:Nat,i<=n/\vi=J i/\ByW P w n xa xb (fun i=>aI i 0) wr) (fun vi _=>n - (intOf vi).toNat)
 case atStart=>exact ⟨0,L4c _,rfl,yj.out⟩
 case round =>
  obtain⟨i,hi,rfl,hb⟩:=hrel;have HB:=hid hb;obtain⟨xh,c2,xd⟩:=xi.out _ _ hb;clear hb;by_cases hlt:i < n
  ·obtain ⟨ab,xc,yd,c3⟩:=xd i hlt
   subst xc;have xg:(i:Int) < (n:Int):=by omega
   clear xd;go_wp2_with fail;go_region_held3 (fun u=>u.cell? ⟨yb,2,none⟩=some (.slice (zA ab) n lc)/\u.cell? ⟨ab,i,none⟩=some (.slice (some ⟨xa i,0,none⟩) 4 4)) (first | go_keep | exact ⟨s0,s1⟩ | exact ⟨c2,c3⟩) (first | (go_at_call 71;refine (xm.out _ i hlt).mono ?_;rintro e w1 ⟨rfl,hw⟩;rw [hw];clear hw w1) | (go_at_call 70;refine (xs.out _ _ i (HB.out.below Q0) hlt).mono ?_;rintro e w2 ⟨rfl,hw⟩;rw [hw];clear hw w2))
   all_goals go_wp2_with fail
   all_goals go_roundw
   case rel=>exact ⟨i+1,by omega,by go_num,HB.out.below Q0⟩
   case measure=>simp [intOf];omega
  ·obtain rfl:n=i:=by omega
   have xw:¬(n:Int) < (n:Int):=by omega
   clear xd;go_wp2_with fail;clear c2 xh;go_loopw [5] (fun vi wr=>∃d:Nat,d<=4/\vi=J ((d:Int) - 1)/\ByW P w n xa xb (fun k=>aI k (dz d)) wr) (fun vi _=>(intOf vi+1).toNat)
   case atStart=>exact ⟨4,by omega,rfl,HB.out⟩
   case round =>
    obtain⟨d,hd,rfl,hb⟩:=hrel;have xn:=hid hb;clear hb HB;by_cases h0:d=0
    ·subst h0
     have HE:=hid (xl.out _ xn.out);go_wp2_with fail;go_ret;exact⟨rfl,HE.out⟩
    ·obtain ⟨c,rfl⟩:∃c,d=c+1:=⟨d - 1,by omega⟩
     have xq:c<=3:=by omega
     have yn:(((c+1:Nat):Int) - 1)=(c:Int):=by omega
     rw[yn];have yq:(0:Int)<=(c:Int):=by omega
     go_wp2_with fail;have ya:Hid (ByW P w n xa xb (fun k=>if k < 0 then aI k c else aI k (dz (c+1))) wr):=hid (by simpa using xn.out);clear xn;go_loopw [6] (fun vi wr=>∃i:Nat,i<=n/\vi=J i/\ByW P w n xa xb (fun k=>if k < i then aI k c else aI k (dz (c+1))) wr) (fun vi _=>n - (intOf vi).toNat)
     case atStart=>exact ⟨0,L4c _,rfl,ya.out⟩
     case round =>
      obtain⟨i,hi,rfl,hb⟩:=hrel;have HB:=hid hb;obtain⟨xh,c2,xd⟩:=xi.out _ _ hb;clear hb ya;by_cases hlt:i < n
      ·obtain ⟨ab,xc,yd,c3⟩:=xd i hlt
       subst xc;have xg:(i:Int) < (n:Int):=by omega
       have yk:Hid (∀U,ByW P w n xa xb (fun k=>if k < i then aI k c else aI k (dz (c+1))) U->Calls prog 72 #[.slice (some ⟨xa i,0,none⟩) 4 4,zC ((aI i c:Nat):Int)] U fun e w'=>e=.returned (.tuple #[])/\ByW P w n xa xb (fun k=>if k < i+1 then aI k c else aI k (dz (c+1))) w'):=hid fun U hU=>by
        have:=yi.out U _ (fun k=>if k < i+1 then aI k c else aI k (dz (c+1))) i hU hlt (fun k hk=>by
         by_cases e:k < i
         ·rw [if_pos e,if_pos R5]
         ·rw [if_neg e,if_neg R5])
        simp only[if_pos (Nat.lt_succ_self i)] at this;exact this
       have ym:Hid (∀U,ByW P w n xa xb (fun k=>if k < i+1 then aI k c else aI k (dz (c+1))) U->U.cell? ⟨yb,2,none⟩=some (.slice (zA ab) n lc)/\U.cell? ⟨ab,i,none⟩=some (.slice (some ⟨xa i,0,none⟩) 4 4)):=hid fun U hU=>by
        obtain⟨_,q2,q3⟩:=xi.out _ _ hU;obtain⟨yo,e,_,q4⟩:=q3 i hlt
        cases e;exact⟨q2,q4⟩
       clear xd;go_wp2_with fail;go_region_held3 (fun u=>u.cell? ⟨yb,2,none⟩=some (.slice (zA ab) n lc)/\u.cell? ⟨ab,i,none⟩=some (.slice (some ⟨xa i,0,none⟩) 4 4)) (first | exact ⟨s0,s1⟩ | go_keep | exact ⟨c2,c3⟩) (first | (go_at_call 71;refine (xz.out _ i c ⟨hlt,xq⟩).mono ?_;rintro e w1 ⟨rfl,hw⟩;rw [hw];clear hw w1) | (go_at_call 72;refine (yk.out _ (HB.out.below Q0)).mono ?_;rintro e w2 ⟨rfl,xp⟩;have yl:=hid xp;obtain ⟨s0,s1⟩:=ym.out w2 xp;clear xp))
       all_goals go_wp2_with fail
       all_goals go_roundw
       case rel=>exact ⟨i+1,by omega,by go_num,yl.out⟩
       case measure=>simp [intOf];omega
      ·obtain rfl:n=i:=by omega
       have xw:¬(n:Int) < (n:Int):=by omega
       clear xd;go_wp2_with fail;clear c2 xh;have yc:Hid (∃zf:Nat->Nat,(∀k,k < n->zf k=aI k c)/\ByW P w n xa xb zf wr):=hid ⟨_,fun k hk=>if_pos hk,HB.out⟩;obtain⟨zf,xt,xv⟩:=yc.out;have xx:=hid xt;have xy:=hid xv;clear xt xv yc HB;go_loopw [7] (fun vi wr=>∃i:Nat,i<=n/\vi=J i/\ByW P w n xa xb zf wr) (fun vi _=>n - (intOf vi).toNat)
       case atStart=>exact ⟨0,L4c _,rfl,xy.out⟩
       case round =>
        obtain⟨i,hi,rfl,hb⟩:=hrel;have HB:=hid hb;obtain⟨xh,c2,xd⟩:=xi.out _ _ hb;clear hb xy;by_cases hlt:i < n
        ·obtain ⟨ab,xc,yd,c3⟩:=xd i hlt
         subst xc;have xg:(i:Int) < (n:Int):=by omega
         have yg:Hid (∀U,ByW P w n xa xb zf U->Calls prog 70 #[.slice (some ⟨xa i,0,none⟩) 4 4,zC ((aI i c:Nat):Int)] U fun e w'=>e=.returned (.bool true)/\w'=U):=hid fun U hU=>by
          have:=xs.out U zf i hU hlt;rw[xx.out i hlt] at this;exact this
         clear xd;go_wp2_with fail;go_region_held3 (fun u=>u.cell? ⟨yb,2,none⟩=some (.slice (zA ab) n lc)/\u.cell? ⟨ab,i,none⟩=some (.slice (some ⟨xa i,0,none⟩) 4 4)) (first | go_keep | exact ⟨c2,c3⟩) (first | (go_at_call 71;refine (xz.out _ i c ⟨hlt,xq⟩).mono ?_;rintro e w1 ⟨rfl,hw⟩;rw [hw];clear hw w1) | (go_at_call 70;refine (yg.out _ (HB.out.below Q0)).mono ?_;rintro e w2 ⟨rfl,hw⟩;rw [hw];clear hw w2))
         all_goals go_wp2_with fail
         all_goals go_roundw
         case rel=>exact ⟨i+1,by omega,by go_num,HB.out.below Q0⟩
         case measure=>simp [intOf];omega
        ·obtain rfl:n=i:=by omega
         have xw:¬(n:Int) < (n:Int):=by omega
         have yf:Hid (ByW P w n xa xb (fun k=>aI k (dz c)) wr):=hid (by
          have e:dz c=c:=if_neg R5;rw[e];exact a2f xx.out HB.out)
         clear xd;go_wp2_with fail;go_roundw
         case rel=>exact ⟨c,by omega,by go_num,yf.out⟩
         case measure=>first | (simp [intOf];done) | (simp [intOf];omega)
end
theorem a1p {P:A5} {w:World} {yb:Nat} {Y:PlR} (h:Sep P w) (hp:P (0,0)=aS yb Y) (hL:jN P Y) (hle:∀j,(Y.l j).length<=1000000000) :
  Calls prog 12 #[.pointer (some ⟨yb,1,none⟩)] w fun e w'=>e=.returned (.bool true)/\Sep P w'/\Stp P w P w':=by
 have xa:∀U,Sep P U->I5 U yb Y:=fun U hU=>by have:=hU.F (0,0);rw [hp] at this;exact this
 obtain⟨⟨h1,h3,h4,h5⟩,_⟩:=id hL;obtain⟨a4,b4,c4⟩:=(xa w h).nil0 (j:=4) R4 R4 h4;obtain⟨a5,b5,c5⟩:=(xa w h).nil0 (j:=5) R4 R4 h5;have xh:=(xa w h).me;have xe:Hid (Calls prog 37 #[.pointer (some ⟨yb,1,none⟩)] w fun e w'=>e=.returned (.bool true)/\Sep P w'/\Stp P w P w'):=hid (mY h hp hL (hle 2));have xf:Hid (∀U,Sep P U->Calls prog 38 #[.pointer (some ⟨yb,1,none⟩)] U fun e w'=>e=.returned (.bool true)/\w'=U):=hid fun U hU=>mZ (xa U hU) h1 h3
 clear xa hL h hle hp h1 h3 h4 h5;go_enter func12,ntmps12;go_wp2_with fail;go_loopw [3] (fun vi wr=>vi=J 0/\wr=w) (fun _ _=>0)
 case atStart=>exact ⟨rfl,rfl⟩
 case round =>
  obtain⟨rfl,hw⟩:=hrel;rw[hw];clear hw;go_wp2_with fail;go_loopw [7] (fun vi wr=>vi=J 0/\wr=w) (fun _ _=>0)
  case atStart=>exact ⟨rfl,rfl⟩
  case round =>
   obtain⟨rfl,hw⟩:=hrel;rw[hw];clear hw;go_wp2_with (first | (go_at_call 37;refine xe.out.mono ?_;rintro e w2 ⟨rfl,xd,xb⟩;have xc:=hid xd;have xg:=hid xb;clear xd xb) | (go_at_call 38;refine (xf.out _ xc.out).mono ?_;rintro e w3 ⟨rfl,hw⟩;rw [hw];clear hw w3))
   go_ret;exact⟨rfl,xc.out,xg.out⟩
section
variable {M N yb:Nat} {P:A5} {Y:PlR} {w:World} {w0:X4}
theorem a3V (h:Lw w0 P w yb Y N M) (hM:M<=900000000) (g:PgR) (hg:I9 w.heap.size w g) (hr:jT g) (har:ArI g) (ht:Tab w) (a b:Int) (la sa:Option Addr) (ln lc sn sc:Nat) :
  Calls prog 11 #[zB yb,.agg #[J 1,J a,J b,.slice g.a g.n g.c,.slice la ln lc,.slice sa sn sc]] w fun e w'=>e=.returned (.bool true)/\∃P2 Y2,Lw w0 P2 w' yb Y2 N (M+1):=by
 have HO:Hid (∀U,L0d w U->Calls prog 33 #[zB yb,.agg #[J 1,J a,J b,.slice g.a g.n g.c,.slice la ln lc,.slice sa sn sc]] U fun e w'=>e=.returned (.bool true)/\∃P2 Y2,Lw w0 P2 w' yb Y2 N (M+1)):=hid fun U hU=>a0s (h.below hU) hM g ((hg.below hU).mono hU.size) hr har (ht.held hU.size (hU.block 0 ht.1)) 1 a b la sa ln lc sn sc
 clear h hM hg hr ht har;go_enter func11,ntmps11;go_wp2_with (go_at_call 33;refine (HO.out _ P8).mono ?_;rintro e w1 ⟨rfl,P2,Y2,hW⟩;have HW:=hid hW;clear hW)
 go_ret;exact⟨rfl,P2,Y2,HW.out⟩
structure StR where
 k:Int
 a:Int
 b:Int
 g:PgR
 la:Option Addr
 ln:Nat
 lc:Nat
 sa:Option Addr
 sn:Nat
 sc:Nat
def StR.cells (s:StR):List Value:=[J s.k,J s.a,J s.b,.slice s.g.a s.g.n s.g.c,.slice s.la s.ln s.lc,.slice s.sa s.sn s.sc]
structure a4w (w:World) (s:StR):Prop where
 a : -9223372036854775808<=s.a/\s.a<=9223372036854775807
 pg:I9 w.heap.size w s.g
 re:jT s.g
 ar:ArI s.g
theorem a6D (h:Lw w0 P w yb Y N M) (hM:M<=1000000000) :
  Calls prog 12 #[.pointer (some ⟨yb,1,none⟩)] w fun e w'=>e=.returned (.bool true)/\Lw w0 P w' yb Y N M:=by
 refine (a1p h.sep h.p0 h.law fun j=>L5a (h.len j) hM).mono ?_;rintro e w' ⟨rfl,hS,hT⟩;obtain⟨hb,xa⟩:=bM h.bel h.lo hT;exact⟨rfl,⟨hS,h.p0,h.law,h.pair,h.len,h.nps,hb,xa⟩⟩
end
def a3k:PlR:=⟨[],zD,fun _=>zD,fun _=>[]⟩
theorem a5q {w V:World} (hB:L0d w V) (hlt:w.heap.size < V.heap.size) (h0:0 < w.heap.size) (hc:∀j,j<=5->V.cell? ⟨w.heap.size,j,none⟩=some zD) (hz:∀j,V.frozen? ⟨w.heap.size,j,none⟩=false) :
  Lw ⟨w,fun _=>True⟩ (fun i=>if i=(0,0) then aS w.heap.size a3k else I0.none) V w.heap.size a3k 0 0:=by
 have hP:I5 V w.heap.size a3k:=⟨hlt,hz,hc 0 R5,World.ownsRow_nil _ _ _ _,(fun e=>by cases e),fun j _ h5=>hc j h5,fun j _ _=>World.ownsRow_nil _ _ _ _,fun j _ _ e=>by cases e⟩;have hb:∀k,aE w.heap.size a3k k->k=w.heap.size:=fun k hk=>by
  rcases hk with hk | hk | ⟨j,_,_,hk⟩
  ·exact hk
  ·cases hk
  ·cases hk
 refine⟨⟨by omega,fun i=>?_,fun i j k hi hj=>?_,fun i hi=>?_⟩,if_pos rfl,⟨⟨rfl,rfl,rfl,rfl⟩,fun j i nb _ _ hq=>?_⟩,fun i p hp=>?_,fun j=>L1c _,L1c _,⟨hB.os,hB.tape,hB.output,hB.size,fun b hb _=>hB.block b hb⟩,fun i b hi e=>?_⟩
 ·by_cases e:i=(0,0)
  ·rw [if_pos e];exact hP
  ·rw [if_neg e];trivial
 ·by_cases e:i=(0,0)
  ·by_cases e':j=(0,0)
   ·rw [e,e']
   ·rw [if_neg e'] at hj;exact hj.elim
  ·rw [if_neg e] at hi;exact hi.elim
 ·by_cases e:i=(0,0)
  ·rw [if_pos e] at hi
   have:=hb 0 hi;omega
  ·rw [if_neg e] at hi;exact hi.elim
 ·have:([]:List Nat)[i]?=some nb:=hq
  simp at this
 ·have:([]:List (Nat × Nat))[i]?=some p:=hp
  simp at this
 ·by_cases e':i=(0,0)
  ·rw [if_pos e'] at hi
   have:=hb b hi;have e1:b < w.heap.size:=e.1;omega
  ·rw [if_neg e'] at hi;exact hi.elim
def a2a (w:World) (a:Option Addr) (l:List StR):Prop:=0 < l.length->∃b o,a=some ⟨b,o,none⟩/\b < w.heap.size/\∀(i:Nat) (s:StR),l[i]?=some s->∀j u,s.cells[j]?=some u->w.cell? ⟨b,o+i*6+j,none⟩=some u
theorem Lw.kept {w w':World} {P:A5} {yb N M:Nat} {Y:PlR} (h:Lw ⟨w,fun _=>True⟩ P w' yb Y N M):L0d w w' :=
 ⟨h.bel.os,h.bel.tape,h.bel.output,h.bel.size,fun b hb=>h.bel.block b hb trivial⟩
section
variable {U w:World}
theorem a2a.later {a:Option Addr} {l:List StR} (h:a2a w a l) (hB:L0d w U):a2a U a l:=fun h0=>by
 obtain⟨b,o,e,hb,hc⟩:=h h0;exact⟨b,o,e,L0a hb hB.size,fun i s hs j u hu=>keep hB hb (hc i s hs j u hu)⟩
theorem a4w.later {s:StR} (h:a4w w s) (hB:L0d w U):a4w U s:=⟨h.a,(h.pg.below hB).mono hB.size,h.re,h.ar⟩
end
end Go.Proofs.YtbkmgoffiigdbaaGreatDoor
