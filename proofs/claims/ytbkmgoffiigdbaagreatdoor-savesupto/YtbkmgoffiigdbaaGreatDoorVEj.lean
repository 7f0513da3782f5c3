import Derived.Test.YtbkmgoffiigdbaaGreatDoorVEh
namespace Go.Proofs.YtbkmgoffiigdbaaGreatDoor
open Go.RowKit Go.Sort Go.Proofs.Tryz
set_option maxHeartbeats 8000000
set_option maxRecDepth 100000
theorem uN {W:World} {wb ab:Nat} {bs:List Int} (h:O3 W wb ab bs) (g:PgR) (hg:PIn W wb ab g) (hs:aM g) (hn:bs.length+9850+100 < 20000) :
  Calls prog 191 #[zB wb,.agg #[.slice g.a g.n g.c]] W fun e w'=>G1 wb ab (bs++progB g) W e w':=by
 have yr:=hs.n;have xb:L0d W (W.alloc (.cells #[.slice g.a g.n g.c] 41)):=L3a (L3b _ _) (L1c _) _;have yj:=h.wlt;have ye:=h.alt;have HC:=hid (K0 (h.later xb) g.n R5 R5);have xt:=hid (hg.later (E2.of_below xb));have xf:=hid (E2.of_below (wb:=wb) (ab:=ab) xb);have HS:=hid hs;have ym:=B1 (n:=g.n) R5;clear h hg hs xb
 go_enter func191,ntmps191;go_wp2_with fail;refine HC.out.mono ?_;rintro e w0 ⟨rfl,h1,h2⟩;have y0:w0.cell? ⟨W.heap.size,0,none⟩=some (.slice g.a g.n g.c):=h2.cell R6 R5 R5 R3;have l0:W.heap.size < w0.heap.size:=by have:=h2.size;simp at this;omega
 have HH:=hid h1;have yc:=hid (xf.out.trans h2);have HG:=hid (xt.out.later h2);clear h1 h2 xt xf;generalize hds:bs++B5 g.n=ds at *
 have yl:ds.length<=bs.length+10:=by rw [<- hds,List.length_append];omega
 have xz:=hid hds;clear hds;go_wp2_with fail;go_loopw [16] (fun vi wr=>∃i:Nat,i<=g.n/\vi=J i/\O3 wr wb ab (ds++fW g i)/\E2 wb ab w0 wr) (fun vi _=>g.n - (intOf vi).toNat)
 case atStart=>exact ⟨0,L4c _,rfl,by simpa [fW] using HH.out,E2.refl _ _ _⟩
 case round =>
  obtain⟨i,hi,rfl,xd,xi⟩:=hrel;by_cases hlt:i < g.n
  ·obtain ⟨xo,yd,xh⟩:=(HG.out.later xi).pg.2.1 R5
   obtain⟨k0,k1,k2⟩:=xh i hlt;have xc:=HS.out.f i hlt;have xk:=hid xc;have yb:(ds++fW g i).length+1260 < 20000:=by
    have:=kE HS.out i R5;rw[List.length_append];have:i*1230+1230<=8*1230:=by
     have:(i+1)*1230<=8*1230:=Nat.mul_le_mul_right _ R5;omega
    omega
   have xy:=hid (eC g i);obtain⟨p,hp⟩:=L5c xc.p.1;obtain⟨lo,xj⟩:=L5c xc.l.1;have yq:p<=8:=by have:=xc.p.2;omega
   have yn:lo<=8:=by have:=xc.l.2;omega
   have ya:=xc.n;have n1:=B1 (n:=p) R5;have n2:=B1 (n:=lo) R5;have n3:=B1 (n:=(g.f i).n) R5;rw[hp] at k0;rw[xj] at k1;have HE:Hid (∀cs:List Int,cs++B5 p++B5 lo++B5 (g.f i).n++Z7 (g.f i) (g.f i).n=cs++fnB (g.f i)):=fun cs=>by
    unfold fnB;rw[hp,xj];simp[List.append_assoc]
   have xw:=xd.wlt;have xp:=xd.alt;have xb:L0d wr (wr.alloc (.cells #[J (p:Int),J (lo:Int),.slice (g.f i).a (g.f i).n (g.f i).c] 163)):=L3a (L3b _ _) (L1c _) _;have xq:=hid (xd.later xb);have xs:=hid (xi.trans (E2.of_below xb));have yh:=yd;rw[xo];clear xd xi xh xc xb hp xj xo;generalize xh:ds++fW g i=cs at *
   have yk:=hid xh;clear xh;go_wp2_with fail;refine (K0 xq.out p R5 R5).mono ?_;rintro e w1 ⟨rfl,h1,h2⟩;have y1:w1.cell? ⟨wr.heap.size,1,none⟩=some (J (lo:Int)):=h2.cell R6 R5 R5 R3;have y2:w1.cell? ⟨wr.heap.size,2,none⟩=some (.slice (g.f i).a (g.f i).n (g.f i).c):=h2.cell R6 R5 R5 R3;have l1:wr.heap.size < w1.heap.size:=by have:=h2.size;simp at this;omega
   have H1:=hid h1;have H2:=hid (xs.out.trans h2);clear h1 h2 k0 k1 k2 xq xs;go_wp2_with fail;refine (K0 H1.out lo R5 (by rw [List.length_append];omega)).mono ?_;rintro e w2 ⟨rfl,h1,h2⟩;have z2:=h2.cell l1 R5 R5 y2;have l2:wr.heap.size < w2.heap.size:=L0a l1 h2.size;have H3:=hid h1;have H4:=hid (H2.out.trans h2);clear h1 h2 y1 y2 H1 H2;go_wp2_with fail
   refine (K0 H3.out (g.f i).n R5 (by rw [List.length_append,List.length_append];omega)).mono ?_;rintro e w3 ⟨rfl,h1,h2⟩;have t2:=h2.cell l2 R5 R5 z2;have l3:wr.heap.size < w3.heap.size:=L0a l2 h2.size;have H5:=hid h1;have H6:=hid (H4.out.trans h2);clear h1 h2 z2 H3 H4;generalize hes:cs++B5 p++B5 lo++B5 (g.f i).n=es at *
   have yp:es.length<=cs.length+30:=by rw [<- hes];simp only [List.length_append];omega
   have yg:=hid hes;clear hes;go_wp2_with fail;go_loopw [36] (fun vj wx=>∃j:Nat,j<=(g.f i).n/\vj=J j/\O3 wx wb ab (es++Z7 (g.f i) j)/\E2 wb ab w0 wx) (fun vj _=>(g.f i).n - (intOf vj).toNat)
   case atStart=>exact ⟨0,L4c _,rfl,by simpa [Z7] using H5.out,H6.out⟩
   case round =>
    clear xw xp;obtain⟨j,hj,rfl,xe,xa⟩:=hrel;by_cases hlj:j < (g.f i).n
    ·obtain ⟨xn,yo,xr⟩:=((HG.out.later xa).pg.2.2 i hlt).2 R5
     obtain⟨o0,o1⟩:=xr j hlj;obtain⟨q0,q1⟩:=xk.out.op j hlj;have yf:=hid (xk.out.ar j hlj);obtain⟨op,xl⟩:=L5c q0;have xx:op < 28:=by omega
     have n6:=B1 (n:=op) R5;rw[xl] at o0;have xu:(es++Z7 (g.f i) j).length+30 < 20000:=by
      have:=gP xk.out j R5;rw[List.length_append];have:j*20<=60*20:=Nat.mul_le_mul_right _ R5;omega
     have yi:Hid (es++Z7 (g.f i) (j+1)=es++Z7 (g.f i) j++B5 op++Y0 ((g.f i).ar j)):=by
      refine hid ?_;rw[iT];unfold inB;rw[xl];simp[List.append_assoc]
     have xw:=xe.wlt;have xp:=xe.alt;have xm:L0d wr (wr.alloc (.cells #[J (op:Int),J ((g.f i).ar j)] 165)):=L3a (L3b _ _) (L1c _) _;have xv:=hid (xe.later xm);have xg:=hid (xa.trans (E2.of_below xm));rw[xn];clear xe xa xr xm xl xn q0 q1;generalize es++Z7 (g.f i) j=us at *
     go_wp2_with fail;refine (K0 xv.out op R5 R5).mono ?_;rintro e w4 ⟨rfl,h1,h2⟩;have x1:w4.cell? ⟨wr.heap.size,1,none⟩=some (J ((g.f i).ar j)):=h2.cell R6 R5 R5 R3;have l4:wr.heap.size < w4.heap.size:=by have:=h2.size;simp at this;omega
     have H7:=hid h1;have H8:=hid (xg.out.trans h2);clear h1 h2 o0 o1 xv xg;go_wp2_with fail;refine (jI H7.out _ yf.out (by rw [List.length_append];omega)).mono ?_;rintro e w5 ⟨rfl,h1,h2⟩;have H9:=hid h1;have HA:=hid (H8.out.trans h2);clear h1 h2 x1 H7 H8;go_wp2_with fail;go_roundw
     case rel=>exact ⟨j+1,by omega,by go_num,by rw [yi.out];exact H9.out,HA.out⟩
     case measure=>simp [intOf];omega
    ·obtain rfl:j=(g.f i).n:=by omega
     have HX:Hid (O3 wr wb ab (ds++fW g (i+1))):=by
      rw[xy.out,<- List.append_assoc,yk.out,<- HE.out cs,yg.out];exact hid xe
     have HY:=hid xa;clear xe xa;go_wp2_with fail;go_roundw
     case rel=>exact ⟨i+1,by omega,by go_num,HX.out,HY.out⟩
     case measure=>simp [intOf];omega
  ·obtain rfl:i=g.n:=by omega
   have HP:Hid (G1 wb ab (bs++progB g) W (.returned (.tuple #[])) wr):=⟨rfl,by unfold progB;rw [<- List.append_assoc,xz.out];exact xd,yc.out.trans xi⟩;clear xd xi;go_wp2_with fail;go_end0
   exact HP.out
def machB (g:PgR) (s:McA):List Int:=progB g++B5 s.st.toNat++wY s.out++cW s.frs++cO s.obs
structure eN (s:McA):Prop where
 st:0<=s.st/\s.st<=7
 out:s.out.length<=40/\∀z,z∈s.out->I64 z
 frs:s.frs.length<=12/\∀f,f∈s.frs->nA f
 obs:s.obs.length<=40/\∀o,o∈s.obs->nC o
structure a8K (W:World) (wb ab pb:Nat) (g:PgR) (s:McA):Prop where
 parts:∃oa oc fa fc ba bc,W.cell? ⟨pb,0,none⟩=some (.slice g.a g.n g.c)/\W.cell? ⟨pb,1,none⟩=some (J s.st)/\W.cell? ⟨pb,2,none⟩=some (.slice oa s.out.length oc)/\W.cell? ⟨pb,3,none⟩=some (.slice fa s.frs.length fc)/\W.cell? ⟨pb,4,none⟩=some (.slice ba s.obs.length bc) /\
  NIn W wb ab oa s.out/\FIn W wb ab fa s.frs/\OIn W wb ab ba s.obs
 pg:PIn W wb ab g
 lt:pb < W.heap.size
 ne:pb≠wb/\pb≠ab
theorem mI {s:McA} (h:eN s):(cW s.frs).length<=2626:=by
 have h1:=wD h.frs.2;have h2:=B1 (n:=s.frs.length) (by have:=h.frs.1;omega);have h3:=h.frs.1;unfold cW;rw[List.length_append];have:s.frs.length*218<=12*218:=Nat.mul_le_mul_right _ h3;omega
theorem wZ {s:McA} (h:eN s):(wY s.out).length<=410:=by
 have h1:=rM h.out.2;have h2:=B1 (n:=s.out.length) (by have:=h.out.1;omega);have h3:=h.out.1;unfold wY;rw[List.length_append];have:s.out.length*10<=40*10:=Nat.mul_le_mul_right _ h3;omega
theorem lS {g:PgR} (h:aM g):(progB g).length<=9850:=by
 have h1:=kE h g.n (L1c _);have h2:=B1 (n:=g.n) (by have:=h.n;omega);have h3:=h.n;unfold progB;rw[List.length_append];have:g.n*1230<=8*1230:=Nat.mul_le_mul_right _ h3;omega
theorem uL {W:World} {wb ab pb:Nat} {bs:List Int} (h:O3 W wb ab bs) (g:PgR) (s:McA) (hk:a8K W wb ab pb g s) (hg:aM g) (hs:eN s) (hn:bs.length<=20) :
  Calls prog 144 #[zB wb,zB pb] W fun e w'=>G1 wb ab (bs++machB g s) W e w':=by
 obtain⟨oa,oc,fa,fc,ba,bc,c0,c1,c2,c3,c4,ho,hf,hb⟩:=hk.parts;have xc:=hk.lt;obtain⟨xb,xa⟩:=hk.ne;obtain⟨st,xd⟩:=L5c hs.st.1;have xj:st<=7:=by have:=hs.st.2;omega
 rw[xd] at c1;have xk:Hid (s.st.toNat=st):=by refine hid ?_;rw [xd];rfl
 have HS:=hid hs;have n0:=lS hg;have n1:=B1 (n:=st) R5;have n2:=wZ hs;have n3:=mI hs;have m1:=hs.out.1;have m2:=hs.frs.1;have m3:=hs.obs.1;have HP:=hid (uN h g hk.pg hg R5);have HO:=hid ho;have HF:=hid hf;have HB:=hid hb;clear h hk ho hf hb hs xd;go_enter func144,ntmps144;go_wp2_with fail;refine HP.out.mono ?_;rintro e w1 ⟨rfl,h1,h2⟩;have d1:=h2.cell xc xb xa c1
 have d2:=h2.cell xc xb xa c2;have d3:=h2.cell xc xb xa c3;have d4:=h2.cell xc xb xa c4;have l1:=L0a xc h2.size;have H1:=hid h1;have xh:=hid h2;clear h1 h2 c0 c1 c2 c3 c4;go_wp2_with fail;refine (K0 H1.out st R5 (by rw [List.length_append];omega)).mono ?_;rintro e w2 ⟨rfl,h1,h2⟩;have e2:=h2.cell l1 xb xa d2;have e3:=h2.cell l1 xb xa d3;have e4:=h2.cell l1 xb xa d4
 have l2:=L0a l1 h2.size;have H2:=hid h1;have xg:=hid (xh.out.trans h2);clear h1 h2 d1 d2 d3 d4 H1 xh;go_wp2_with fail;refine (yA H2.out oa oc s.out (HO.out.later xg.out) HS.out.out.2 (by rw [List.length_append,List.length_append];omega)).mono ?_;rintro e w3 ⟨rfl,h1,h2⟩;have f3:=h2.cell l2 xb xa e3;have f4:=h2.cell l2 xb xa e4;have l3:=L0a l2 h2.size
 have H3:=hid h1;have xf:=hid (xg.out.trans h2);clear h1 h2 e2 e3 e4 H2 xg;go_wp2_with fail;refine (xZ H3.out fa fc s.frs (HF.out.later xf.out) HS.out.frs.2 (by rw [List.length_append,List.length_append,List.length_append];omega)).mono ?_;rintro e w4 ⟨rfl,h1,h2⟩;have g4:=h2.cell l3 xb xa f4;have l4:=L0a l3 h2.size;have H4:=hid h1;have xe:=hid (xf.out.trans h2);clear h1 h2 f3 f4 H3 xf
 go_wp2_with fail;refine (uM H4.out ba bc s.obs (HB.out.later xe.out) HS.out.obs.2 (by rw [List.length_append,List.length_append,List.length_append,List.length_append];omega)).mono ?_;rintro e w5 ⟨rfl,h1,h2⟩;have xi:Hid (G1 wb ab (bs++machB g s) W (.returned (.tuple #[])) w5):=⟨rfl,by
  have e:bs++machB g s=bs++progB g++B5 st++wY s.out++cW s.frs++cO s.obs:=by
   unfold machB;rw[xk.out];simp[List.append_assoc]
  rw[e];exact h1,xe.out.trans h2⟩
 clear h1 h2 g4 H4 xe;go_wp2_with fail;go_end0
 exact xi.out
def cV (r:Int):Int:=if bits BinOp.and IntKind.u32 r 1=1 then bits BinOp.xor IntKind.u32 (r / 2) 3988292384 else r / 2
def M9:Nat->Int->Int
 | 0,r=>r
 | n+1,r=>cV (M9 n r)
def jY (r b:Int):Int:=M9 8 (bits BinOp.xor IntKind.u32 r (b % 4294967296))
def W5 (l:List Int):Int:=l.foldl jY 4294967295
theorem pQ {l:List Int} {i:Nat} {x:Int} (h:l[i]?=some x):W5 (l.take (i+1))=jY (W5 (l.take i)) x:=by
 have e:l.take (i+1)=l.take i++[x]:=by rw [List.take_add_one,h];rfl
 rw[e];simp[W5,List.foldl_append]
def M2 (W:World) (a:Option Addr) (l:List Int):Prop:=0 < l.length->∃b o,a=some ⟨b,o,none⟩/\b < W.heap.size/\∀(i:Nat) (x:Int),l[i]?=some x->W.cell? ⟨b,o+i,none⟩=some (zC x)
def fD (l:List Int):List Int :=
 [bits BinOp.xor IntKind.u32 IntKind.u32.max (W5 l) % 256,bits BinOp.xor IntKind.u32 IntKind.u32.max (W5 l) / 256 % 256,bits BinOp.xor IntKind.u32 IntKind.u32.max (W5 l) / 65536 % 256,bits BinOp.xor IntKind.u32 IntKind.u32.max (W5 l) / 16777216 % 256]
theorem a3Z {W:World} (a:Option Addr) (c:Nat) (l:List Int) (hl:M2 W a l) (hn:l.length<=20000) :
  Calls prog 108 #[.slice a l.length c] W fun e w'=>e=.returned (.slice (zA W.heap.size) 4 4)/\w'=W.alloc (.cells (B7 (fD l)).toArray 5):=by
 have HL:=hid hl;clear hl;go_enter func108,ntmps108;go_wp2_with fail;go_loopw [3,10] (fun vr vi wr=>∃i:Nat,i<=l.length/\vi=J i/\vr=.int .u32 (W5 (l.take i))/\W=wr) (fun _ vi _=>l.length - (intOf vi).toNat)
 case atStart=>exact ⟨0,L4c _,rfl,rfl,by first | rfl | trivial⟩
 case round =>
  obtain⟨i,hi,rfl,rfl,rfl⟩:=hrel;by_cases hlt:i < l.length
  ·obtain ⟨x,hx⟩:∃x,l[i]?=some x:=⟨_,L1b hlt⟩
   obtain⟨b,o,rfl,hb,xb⟩:=HL.out R5;have x0:=xb i x hx;have xc:=hid (pQ hx);clear xb hx;generalize W5 (l.take i)=r at *
   go_wp2_with fail;go_loopw [3,18] (fun vr vi wr=>∃k:Nat,k<=8/\vi=J k/\vr=.int .u32 (M9 k (bits BinOp.xor IntKind.u32 r (x % 4294967296)))/\W=wr) (fun _ vi _=>8 - (intOf vi).toNat)
   case atStart=>exact ⟨0,L4c _,rfl,rfl,by first | rfl | trivial⟩
   case round =>
    obtain⟨k,hk,rfl,rfl,rfl⟩:=hrel;have HB:Hid (M9 (k+1) (bits BinOp.xor IntKind.u32 r (x % 4294967296))=cV (M9 k (bits BinOp.xor IntKind.u32 r (x % 4294967296)))):=hid rfl;have xa:Hid (k=8->M9 k (bits BinOp.xor IntKind.u32 r (x % 4294967296))=jY r x):=hid (by rintro rfl;rfl);generalize M9 k (bits BinOp.xor IntKind.u32 r (x % 4294967296))=q at *
    by_cases hk8:k < 8
    ·have xe:(k:Int) < 8:=by omega
     have HS:Hid (cV q=if bits BinOp.and IntKind.u32 q 1=1 then bits BinOp.xor IntKind.u32 (q / 2) 3988292384 else q / 2):=hid rfl;generalize hlow:bits BinOp.and IntKind.u32 q 1=low at *
     have xd:=hid hlow;by_cases h1:low=1
     ·subst h1
      go_wp2_with fail;go_roundw
      case rel=>exact ⟨k+1,by omega,by go_num,by rw [HB.out,HS.out,if_pos rfl],by first | rfl | trivial⟩
      case measure=>simp [intOf];omega
     ·have xf:(low == 1)=false:=by simpa using h1
      go_wp2_with fail;go_roundw
      case rel=>exact ⟨k+1,by omega,by go_num,by rw [HB.out,HS.out,if_neg h1],by first | rfl | trivial⟩
      case measure=>simp [intOf];omega
    ·obtain rfl:k=8:=by omega
     have H8:=hid (xa.out rfl);clear HB xa;go_wp2_with fail;go_roundw
     case rel=>exact ⟨i+1,by omega,by go_num,by rw [xc.out,<- H8.out],by first | rfl | trivial⟩
     case measure=>simp [intOf];omega
  ·obtain rfl:i=l.length:=by omega
   rw[List.take_length];have HS:Hid (fD l=[bits BinOp.xor IntKind.u32 IntKind.u32.max (W5 l) % 256,bits BinOp.xor IntKind.u32 IntKind.u32.max (W5 l) / 256 % 256,bits BinOp.xor IntKind.u32 IntKind.u32.max (W5 l) / 65536 % 256,bits BinOp.xor IntKind.u32 IntKind.u32.max (W5 l) / 16777216 % 256]):=hid rfl;generalize W5 l=r at *
   go_wp2_with fail;go_ret;refine⟨rfl,?_⟩;rw[HS.out];rfl
theorem pA {W:World} {wb ab:Nat} {bs:List Int} (h:O3 W wb ab bs) (hn:bs.length<=20000) :
  Calls prog 146 #[zB wb] W fun e w'=>e=.returned (.slice (zA ab) bs.length 20000)/\a4r W w':=by
 have c0:=h.c0;have c1:=h.c1;have hw:=h.wlt;have HH:=hid h;generalize bs.length=n at *
 have xa:(n:Int)<=20000:=by omega
 clear h;go_enter func146,ntmps146;go_wp2_with fail;go_region
 all_goals go_wp2_with fail
 all_goals go_ret
 all_goals exact ⟨rfl,⟨rfl,rfl,rfl,rfl⟩⟩
theorem a5h:(prog.info? 5).map (fun i=>(i.zero,i.size,i.bytes))=some (some (zC 0),1,1):=by kernel_rfl
theorem qN (w:World):Calls prog 142 #[] w fun e w'=>∃wb ab,e=.returned (zB wb)/\O3 w' wb ab []/\w.heap.size<=wb/\w.heap.size<=ab/\L0d w w':=by
 obtain⟨i5,hi,hz,xb,xa⟩:=info_parts a5h;obtain⟨X,hX,xc⟩:∃X:Array Value,X.size=20000/\Hid (∀W:World,(Instr.makeSlice 26 (J 20000) (J 20000)).run prog W=.ok (.slice (some ⟨W.heap.size,0,none⟩) 20000 20000) (W.alloc (.cells X 5))):=by
  refine⟨madeCells #[zC 0] 20000,by rw [size_madeCells],hid fun W=>?_⟩;have hr:=run_make (P:=prog) W 26 5 i5 _ underlying26 hi hz .i64 .i64 20000 20000 R5 (Int.le_refl _) (by rw [xa];omega) R5;simpa [xb,Value.cells] using hr
 have xd:=xc.out;clear hi hz xb xa xc;go_enter func142,ntmps142;go_wp2_with fail;go_ret;refine⟨w.heap.size+1,w.heap.size,rfl,⟨by go_simp,by go_simp,by go_simp,by go_simp,⟨X.toList,?_⟩,by simp,by omega⟩,by omega,L1c _,L3a (L3a (L3b _ _) (L1c _) _) R6 _⟩;have h1:=World.ownsRow_lit (base:=0) (e:=5) (size:=1) w X 20000 (L4c _) Q7 (by rw [hX])
 simpa [B7] using h1.alloc (Obj.cells #[.slice (zA w.heap.size) 20000 20000,J 0,.bool false] 206)
theorem yW (b o n c:Nat) (xs:List Value) (w:World) (hn:0 < n) (hm:n<=100000) (hl:xs.length=n*1) (hx:∀j u,xs[j]?=some u->w.cell? ⟨b,o+j,none⟩=some u) (h1:∀u∈xs,u.oneCell'=true) (hb:b < w.heap.size) :
  Calls prog 147 #[.slice (some ⟨b,o,none⟩) n c] w fun e w'=>dW 5 1 n xs w e w':=by
 have HX:=hid hx;have HL:=hid hl;have H1:=hid h1;clear hx hl h1;go_enter func147,ntmps147;have xe:∀W:World,(binOp .eql 26 (.slice (some ⟨b,o,none⟩) n c) zD).run prog W=.ok (.bool false) W:=fun W=>Go.Lib.run_eql_slice_nil W 26 5 _ n c 0 0 underlying26
 obtain⟨i,hi,hz,xb,xa⟩:=info_parts a5h;have HI:=hid hi;have HZ:=hid hz;have xc:=hid xb;have xd:=hid xa;clear hi hz xb xa;go_wp2_with (at_builtin;go_must (refine wpList_append_lies _ rfl (.tmp 5) (.tmp 6) 26 rfl w.heap.size 5 i _ 1 1 underlying26 HI.out HZ.out xc.out xd.out rfl R4 (.slice (zA w.heap.size) 0 0) 0 [] rfl (World.ownsRow_made w #[] 0 (L1c _) (L4c _) rfl) ⟨b,o,none⟩ n c xs rfl HL.out (fun j u hj=>by rw [dZ];have:=HX.out j u hj;go_simp) H1.out hn Q7 R5 R6 _ rfl ?_))
 intro g cap w5 hown hgrow hat hlt;have HB:Hid (L0d w w5):=aA (v:=.slice (zA w.heap.size) 0 0) (L3a (L3b _ _) (L1c _) _) rfl (L1c _) hgrow;have ho:w5.ownsRow w.heap.size 5 1 (.slice (zA g) n cap) n xs:=by simpa using hown
 have HO:=hid ho;clear hown hgrow hat hlt ho;go_wp2_with fail;go_ret;exact⟨g,cap,rfl,HO.out,HB.out⟩
end Go.Proofs.YtbkmgoffiigdbaaGreatDoor
