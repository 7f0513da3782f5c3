import Derived.Test.YtbkmgoffiigdbaaGreatDoorVFd
import Derived.Lib.SlBytesConst
import Derived.Test.YtbkmgoffiigdbaaGreatDoorVCf
import Derived.Test.YtbkmgoffiigdbaaGreatDoorVBi
namespace Go.Proofs.YtbkmgoffiigdbaaGreatDoor
open Go.RowKit Go.Sort Go.Proofs.Tryz
set_option maxHeartbeats 8000000
set_option maxRecDepth 100000
section
variable {P:A5} {Y:PlR} {k:Nat × Nat} {n yb:Nat} {v:Value} {w:World}
theorem a2e (h:Sep P w) (hp:P (0,0)=aS yb Y) (hk:P k=a5X 5 1 v n) (hk0:k≠(0,0)) (hn:n<=1000000) (hna:(Y.l 2).length<=1000000000) (m:Nat × Nat) :
  Calls Tryz.prog 69 #[.pointer (some ⟨yb,1,none⟩),v] w fun e w'=>e=.returned (.tuple #[])/\∃nb vs av',vs.length=4/\Sep (((P.put (0,0) (aS yb (Y.upd 2 av' nb))).put k I0.none).put m (iU 5 1 26 (fun _=>zC (((Y.l 2).length % 251:Nat):Int)) nb vs)) w'/\Stp P w (((P.put (0,0) (aS yb (Y.upd 2 av' nb))).put k I0.none).put m (iU 5 1 26 (fun _=>zC (((Y.l 2).length % 251:Nat):Int)) nb vs)) w':=by
 have xa:I5 w yb Y:=by have:=h.F (0,0);rw [hp] at this;exact this
 have xb:Has w 0 5 1 v n:=by have:=h.F k;rw [hk] at this;exact this
 obtain⟨xs,hx⟩:=xb;have xc:v.ownBlock≠some yb:=fun e=>hk0 (h.dis k (0,0) yb (by rw [hk];exact e) (by rw [hp];exact L4a rfl))
 refine (a2c xa.me (xa.c 2 R4 R4) (xa.fz 2) (xa.row 2 R4 R4) hx hna hn (xa.ne 2 R4 R4) xc).mono ?_;rintro e w' ⟨rfl,hb⟩;exact⟨rfl,h.book hp hk hk0 R4 R4 R4 R4 hb m⟩
theorem a2d (h:Sep P w) (hp:P (0,0)=aS yb Y) (hL:jN P Y) (hk:P k=a5X 5 1 v n) (hk8:8<=k.1) (hn:n<=1000000) (hna:(Y.l 2).length<=1000000000) :
  Calls Tryz.prog 69 #[.pointer (some ⟨yb,1,none⟩),v] w fun e w'=>a9C P yb Y (fun q=>q=k) 2 1 w e w':=by
 refine (a2e h hp hk (fun e=>by rw [e] at hk8;simp only at hk8;omega) hn hna (2+2,(Y.l 2).length)).mono ?_;rintro e w' ⟨rfl,nb,vs,xa,hl,hS,hs⟩;exact⟨rfl,_,Y.upd 2 xa nb,hS,a9L P hk8,hL.upd R4 R4 rfl hk8 ⟨fun _=>⟨vs,hl,rfl⟩⟩,a5o R4 R4,fun q hq=>by rw [hq];exact a9M P hk8 R4,a4h _ _ _ _,hs⟩
end
theorem pY {W:World} {a b:Option Addr} {ca cb:Nat} {l:List Int} (ha:M2 W a l) (hb:M2 W b l) (hn:l.length<=1000000) :
  Calls prog 67 #[.slice a l.length ca,.slice b l.length cb] W fun e w'=>e=.returned (.bool true)/\L0d W w':=by
 have HA:=hid ha;have HB:=hid hb;clear ha hb;go_enter func67,ntmps67;go_wp2_with fail;go_loopw [5] (fun vi wr=>∃i:Nat,i<=l.length/\vi=J i/\L0d W wr) (fun vi _=>l.length - (intOf vi).toNat)
 case atStart=>exact ⟨0,L4c _,rfl,L3b _ _⟩
 case round =>
  obtain⟨i,hi,rfl,xa⟩:=hrel;have xb:=hid xa;by_cases hlt:i < l.length
  ·obtain ⟨x,hx⟩:∃x,l[i]?=some x:=⟨_,L1b hlt⟩
   obtain⟨b1,o1,rfl,xf,xc⟩:=HA.out R5;obtain⟨b2,o2,rfl,xg,xd⟩:=HB.out R5;have x1:=keep xa xf (xc i x hx);have x2:=keep xa xg (xd i x hx);have xe:(i:Int) < (l.length:Int):=by omega
   clear xc xd xa;go_wp2_with fail;go_region
   all_goals go_wp2_with fail
   all_goals go_roundw
   case rel=>exact ⟨i+1,by omega,by go_num,by repeat (first | exact xb.out | refine L3c ?_)⟩
   case measure=>simp [intOf];omega
  ·obtain rfl:i=l.length:=by omega
   have xh:¬(l.length:Int) < (l.length:Int):=by omega
   clear xa;go_wp2_with fail;go_ret;exact⟨rfl,xb.out⟩
theorem a0w {own:Own} {mb:Nat} {g:PgR} {R:McR} {w:World} (h:A4 w own mb g R) (hp:N3 g) (hi:C8 g R.abs) :
  Calls prog 145 #[zB mb] w fun e w'=>fN own g R w e w':=by
 have ho:=hi.heapOk hp;have c0:=h.c0;have c1:=h.c1;have c2:=h.c2;obtain⟨oa,oc,yl⟩:=E0 h.out;rw[yl] at c2;have yi:mb < w.heap.size:=h.lt mb _ h.me;have xu:=ho.pos;have hn:=ho.n;obtain⟨al,ya⟩:∃al,al=A0 R.abs:=⟨_,rfl⟩
 have zl:al.length<=1000:=by rw [ya];exact hi.alive_len
 have zp:Hid (∀j,j∈al->j < R.obs.length):=fun j hj=>by
  rw[ya] at hj;have:=hi.alive.lt j hj;simpa [McR.abs] using this
 have HA:Hid (∀W,L0d w W->Calls prog 141 #[zB mb] W fun e w'=>cE al W e w'):=fun W hW=>by
  rw[ya];exact lE (h.same hW.size fun k hk=>hW.block k hk) ho
 have HS:Hid (∀W,L0d w W->Calls prog 51 #[.pointer (some ⟨mb,4,none⟩)] W fun e w'=>dY R.obs W e w'):=fun W hW=>qH (h.same hW.size fun k hk=>hW.block k hk) ho.n ho.pos fun o ho'=>(ho.refs o ho').2
 have HF:Hid (∀W,L0d w W->Calls prog 47 #[.pointer (some ⟨mb,3,none⟩)] W fun e w'=>eM R.frs W e w'):=fun W hW=>oB (h.same hW.size fun k hk=>hW.block k hk) ho.frn ho.fr
 have xn:Hid (∀kb S E (W1 U4 w4 V wr:World) (av sv cv hv:Value) (ol:List ObR),Pk1 w R al kb av sv ol S E W1->L0d W1 U4->eM R.frs U4 (.returned cv) w4->L0d w4 V->Pk3 (V.alloc (.cells #[.slice g.a g.n g.c,J R.st,.slice oa R.out.length oc,cv,zD,zD] 107)) V.heap.size hv (M3 ol al) wr ->
   Calls prog 119 #[zB V.heap.size,.func (.func 196) #[] #[zB kb]] wr fun e w'=>e=.returned (.tuple #[])/\fN own g R w (.returned (zB V.heap.size)) w') :=
  fun kb S E W1 U4 w4 V wr av sv cv hv ol p1 hU hf hV p3=>a3g h hp hi ya p1 hU hf hV (by rw [yl];exact p3)
 obtain⟨zc,xz,yc,xt,yf⟩:=info_parts a7u;have HI:=hid xz;have HZ:=hid yc;have zd:=hid xt;have zn:=hid yf;clear h hp hi ho yl ya xz yc xt yf;generalize R.st=st at *
 go_enter func145,ntmps145;go_wp2_with fail;go_region_with (first | (go_at_call 141;refine (HA.out _ ?_).mono ?_;exact P5;rintro e w2 ⟨v2,rfl,yr,xx⟩;obtain ⟨aa,ac,rfl⟩:=U8 yr;have yh:=hid yr;have yk:=hid xx;have xj:Hid (L0d w w2):=A3 xx P5;have zj:=xj.out.size;have xb:=xx.size;(try simp at xb);(try rw [Nat.add_one_le_iff] at xb);obtain ⟨xv,yq⟩:=Z5 xx;clear yr xx) | (go_at_call 51;refine (HS.out _ ?_).mono ?_;exact (by repeat (first | exact xj.out | refine L3c ?_ | refine Below.drewQ ?_ _ | refine L3a ?_ Q1 _));rintro e w3 ⟨v3,ol,rfl,r1,r2,r3,r4,xh⟩;obtain ⟨sb,sc,rfl,_,_⟩:=r1.form xu;have ye:=hid (show dY R.obs _ (.returned (.slice (zA sb) R.obs.length sc)) w3 from ⟨_,ol,rfl,r1,r2,r3,r4,xh⟩);have xo:=xh.size;(try simp at xo);(try rw [Nat.add_one_le_iff] at xo);have yd:=L0a xb xo;obtain ⟨xk,xw⟩:=Z5 xh;clear r1 r2 r3 r4 xh) | (go_at_call 51;refine (HS.out _ ?_).mono ?_;exact (by repeat (first | exact xj.out | refine L3c ?_ | refine Below.drewQ ?_ _ | refine L3a ?_ Q1 _));rintro e w3 ⟨v3,ol,rfl,r1,r2,r3,r4,xh⟩;obtain ⟨sb,sc,rfl,_,_⟩:=r1.form xu;have ye:=hid (show dY R.obs _ (.returned (.slice (zA sb) R.obs.length sc)) w3 from ⟨_,ol,rfl,r1,r2,r3,r4,xh⟩);have xo:=xh.size;(try simp at xo);(try rw [Nat.add_one_le_iff] at xo);obtain ⟨xk,xw⟩:=Z5 xh;clear r1 r2 r3 r4 xh))
 all_goals first | (
  obtain⟨S,E,xa,xe⟩:∃S E xa,Pk1 w R al w3.heap.size (.slice aa al.length ac) (.slice (some ⟨sb,0,none⟩) R.obs.length sc) xa S E (w3.alloc (Obj.cells #[.slice aa al.length ac] 24)):=⟨_,_,a0y (L3c (L3b _ _)) yh.out yk.out (L3b _ _) ye.out rfl rfl rfl R6 (fun b hb _=>(L3a (L3b _ _) (L1c _) _).block b hb) R5 R6 (L4b (L4b (L1c _))) R3⟩
  obtain⟨kb,xl⟩:∃kb,kb=w3.heap.size:=⟨_,rfl⟩
  rw[<- xl] at xe ⊢;generalize (w3.alloc (Obj.cells #[.slice aa al.length ac] 24))=W1 at *
  have xg:=hid xe;clear xe xl) | (
  obtain⟨S,E,xa,xe⟩:∃S E xa,Pk1 w R al w2.heap.size (.slice aa al.length ac) (.slice (some ⟨sb,0,none⟩) R.obs.length sc) xa S E (w3.setCell ⟨w2.heap.size,0,none⟩ (Value.slice aa al.length ac)):=⟨_,_,a0y (L3c (L3b _ _)) yh.out yk.out (L3a (L3b _ _) (L1c _) _) ye.out rfl rfl rfl R6 (fun b hb hne=>heap_setCell_other _ _ _ _ hne) R5 (by simpa using xo) (L4b (L4a ⟨L1c _,by simp⟩)) (World.cell?_setCell_same (u:=zD) _ _ _ ((xk w2.heap.size 0 R6).trans R3))⟩
  obtain⟨kb,xl⟩:∃kb,kb=w2.heap.size:=⟨_,rfl⟩
  rw[<- xl] at xe ⊢;generalize (w3.setCell ⟨kb,0,none⟩ (Value.slice aa al.length ac))=W1 at *
  have xg:=hid xe;clear xe xl) | (
  obtain⟨S,E,xa,xe⟩:∃S E xa,Pk1 w R al w.heap.size (.slice aa al.length ac) (.slice (some ⟨sb,0,none⟩) R.obs.length sc) xa S E (w3.setCell ⟨w.heap.size,0,none⟩ (Value.slice aa al.length ac)):=⟨_,_,a0y P5 yh.out yk.out (L3b _ _) ye.out rfl rfl rfl R6 (fun b hb hne=>heap_setCell_other _ _ _ _ hne) (L1c _) (by simpa using yd) (L4a R6) (World.cell?_setCell_same (u:=zD) _ _ _ ((xk w.heap.size 0 xb).trans ((xv w.heap.size 0 R6).trans R3)))⟩
  obtain⟨kb,xl⟩:∃kb,kb=w.heap.size:=⟨_,rfl⟩
  have yb:=xe;rw[<- xl] at yb ⊢;have xg:Hid (Pk1 w R al kb (.slice aa al.length ac) (.slice (zA sb) R.obs.length sc) xa S E (w3.setCell ⟨kb,0,none⟩ (Value.slice aa al.length ac))):=by rw [xl];exact xe
  generalize (w3.setCell ⟨kb,0,none⟩ (Value.slice aa al.length ac))=W1 at *
  clear xe yb xl)
 all_goals
  clear yh yk xj zj xb ye xo xv yq xk xw HA HS
  (try clear yd)
  have d0:=(xg.out.bel.cell (p:=⟨mb,0,none⟩) yi).trans c0;have d1:=(xg.out.bel.cell (p:=⟨mb,1,none⟩) yi).trans c1;have d2:=(xg.out.bel.cell (p:=⟨mb,2,none⟩) yi).trans c2;have xd:mb < W1.heap.size:=L0a yi xg.out.bel.size;have yt:Hid (∀U,L0d W1 U->Calls prog 47 #[.pointer (some ⟨mb,3,none⟩)] U fun e w'=>eM R.frs U e w'):=fun U hU=>HF.out U (A3 hU xg.out.bel)
  clear c0 c1 c2 HF;go_wp2_with fail;go_region_held3 (fun u=>u.cell? ⟨mb,0,none⟩=some (.slice g.a g.n g.c)/\u.cell? ⟨mb,1,none⟩=some (J st)/\u.cell? ⟨mb,2,none⟩=some (.slice oa R.out.length oc)) (first | go_keep | exact ⟨s0,s1,s2⟩) (first | (go_at_call 47;refine (yt.out _ ?_).mono ?_;exact (by repeat (first | exact L3b _ _ | refine L3c ?_));rintro e w4 ⟨cv,fl,rfl,r1,r2,r3,r4,xp⟩;obtain ⟨ca,cc,rfl⟩:=U8 r1;have yv:=hid (show eM R.frs _ (.returned (.slice ca R.frs.length cc)) w4 from ⟨_,fl,rfl,r1,r2,r3,r4,xp⟩);have s0:=(xp.cell (p:=⟨mb,0,none⟩) xd).trans d0;have s1:=(xp.cell (p:=⟨mb,1,none⟩) xd).trans d1;have s2:=(xp.cell (p:=⟨mb,2,none⟩) xd).trans d2;have yn:=xp.size;have yp:mb < w4.heap.size:=L0a xd xp.size;have yw:Hid (L0d W1 w4):=A3 xp (by repeat (first | exact L3b _ _ | refine L3c ?_));clear r1 r2 r3 r4 xp))
  rename_i hh
  clear hh s0 s1 s2 d0 d1 d2 xd yp yn yt;have yj:=hid (xg.out.later yw.out);obtain⟨W2,xr⟩:∃W2,W2=w4.alloc (Obj.cells #[.slice g.a g.n g.c,J st,.slice oa R.out.length oc,.slice ca R.frs.length cc,zD,zD] 107):=⟨_,rfl⟩
  obtain⟨pb,xi⟩:∃pb,pb=w4.heap.size:=⟨_,rfl⟩
  have yg:L0d w4 W2:=by rw [xr];exact L3a (L3b _ _) (L1c _) _
  have xm:=hid (yj.out.later yg);have zo:Hid (∀(wr:World) (hv:Value),Pk3 W2 pb hv (M3 xa al) wr->Calls prog 119 #[zB pb,.func (.func 196) #[] #[zB kb]] wr fun e w'=>e=.returned (.tuple #[])/\fN own g R w (.returned (zB pb)) w'):=fun wr hv p3=>by
   rw[xi];refine xn.out kb S E W1 W1.drew w4 w4 wr _ _ _ hv xa xg.out (L3c (L3b _ _)) yv.out (L3b _ _) ?_;rw[<- xr,<- xi];exact p3
  have zf:pb < W2.heap.size:=by rw [xr,xi];simp
  have xy:Hid (Pk3 W2 pb zD [] W2):=⟨rfl,rfl,rfl,L1c _,by rw [xr,xi];go_simp,fun _ _=>rfl,fun _=>rfl,World.ownsRow_nil _ _ _ _,fun _ _ _=>rfl⟩;have yu:W2.frozen? ⟨pb,4,none⟩=false:=by rw [xr,xi];go_simp
  have za:E<=pb:=by rw [xi];exact yj.out.sE.2.2
  have zi:sb < pb:=by rw [xi];exact (yj.out.srow.lt sb rfl).2
  rw[<- xr,<- xi];have k0:=xm.out.k0;have zs:=xm.out.klt;clear xr xi yg yj xg yv yw xn;go_wp2_with fail;go_loopw [35] (fun vi wr=>∃(i:Nat) (ha:Option Addr) (hc:Nat),i<=al.length/\vi=J i/\Pk3 W2 pb (.slice ha i hc) (M3 xa (al.take i)) wr) (fun vi _=>al.length - (intOf vi).toNat)
  case atStart=>exact ⟨0,none,0,L4c _,rfl,xy.out⟩
  case round =>
   obtain⟨i,ha,hc,hi,rfl,xc⟩:=hrel;clear xy k0;by_cases hlt:i < al.length
   ·obtain ⟨j,hj⟩:∃j,al[i]?=some j:=⟨_,L1b hlt⟩
    obtain⟨nb,nc,e,_,zm⟩:=xm.out.arow.form R5
    cases e;have zt:nb < pb:=by have:=(xm.out.ab nb rfl).1;have:=xm.out.sE;omega
    have x0:wr.cell? ⟨nb,i,none⟩=some (J (j:Int)):=by
     rw[L0b (w:=W2) (a:=⟨nb,i,none⟩) (xc.blk nb zm R5),xm.out.arow.cellAt i R5];unfold cY;rw[List.getElem?_map,hj];rfl
    have zb:=zp.out j (L2a hj);obtain⟨o,ho⟩:∃o,R.obs[j]?=some o:=⟨_,L1b zb⟩
    obtain⟨fv,ym,yx,_⟩:=xm.out.new j o ho;obtain⟨fa,fc,rfl⟩:=U8 yx;have zh:=(xm.out.srow.lt sb rfl).2;have xf:∀t,t < 2->wr.cell? ⟨sb,j*2+t,none⟩=({ o with fv:=.slice fa o.fl.length fc } : ObR).cells[t]?:=fun t ht=>by
     rw[L0b (w:=W2) (a:=⟨sb,j*2+t,none⟩) (xc.blk sb zh R5),xm.out.srow.cellAt _ R5];exact D3 ObR.cells_len ym ht
    have y0:wr.cell? ⟨sb,j*2,none⟩=some (zC o.kind):=xf 0 R5;have y1:wr.cell? ⟨sb,j*2+1,none⟩=some (.slice fa o.fl.length fc):=xf 1 R5;have c4:=xc.c4;have zk:wr.frozen? ⟨pb,4,none⟩=false:=(xc.fz 4).trans yu;have zq:=xc.size;have zv:pb < wr.heap.size:=by omega
    have zu:nb < wr.heap.size:=by omega
    have zr:sb < wr.heap.size:=by omega
    have xq:(M3 xa (al.take i)).length=i:=by unfold M3;rw [List.length_map,List.length_take];omega
    have xs:=xc.row;rw[xq] at xs;have yz:Hid (M3 xa (al.take (i+1))=M3 xa (al.take i)++[{ o with fv:=.slice fa o.fl.length fc }]):=by
     refine hid ?_;rw[a0o hj,eS ym]
    have yo:=hid xs;have zg:=hid xc;have ys:=hid xq;clear xs xc xf yx ym ho hj xq;generalize M3 xa (al.take i)=l0 at *
    go_wp2_with fail;go_region_law (first | (refine J0 rfl (.tmp 44) (.tmp 49) 74 rfl W2.heap.size 90 zc _ 2 32 underlying74 HI.out HZ.out zd.out zn.out rfl R4 (.slice ha i hc) i (l0.flatMap ObR.cells) (by first | rfl | simp [Act.eval,Act.put]) (by repeat (first | exact yo.out | refine World.ownsRow.drew ?_ | refine World.ownsRow.alloc ?_ _)) (zA wr.heap.size) 1 1 [zC o.kind,.slice fa o.fl.length fc] (by first | rfl | simp [Act.eval,Act.put]) rfl (fun _=>⟨_,rfl,World.news_of_block (cs:=#[zC o.kind,.slice fa o.fl.length fc]) (t:=90) (fr:=(0,0)) (B0 R6)⟩) (by intro u hu;simp at hu;rcases hu with rfl | rfl <;> rfl) Q7 R5 Q4 ?_;intro v5 w5 hown5 hgrow5 _;obtain ⟨a5,c5,rfl⟩:=U8 hown5;obtain ⟨u0,u1,u2,yy⟩:=zg.out.step (o:={ o with fv:=.slice fa o.fl.length fc }) zf yu P5 hgrow5 (by rw [ys.out];exact hown5);have ze:=hid yy;clear hown5 hgrow5 yy))
    all_goals
     clear u0 u1 u2 x0 y0 y1 c4 zk;go_wp2_with fail;go_roundw
     case rel=>exact ⟨i+1,a5,c5,by omega,by go_num,by rw [yz.out];exact ze.out⟩
     case measure=>simp [intOf];omega
   ·obtain rfl:i=al.length:=by omega
    rw[List.take_length] at xc;have HC:=hid (zo.out _ _ xc);clear xc;go_wp2_with fail;refine HC.out.mono ?_;rintro e w9 ⟨rfl,h9⟩;have H9:=hid h9;clear h9;go_wp2_with fail;go_ret;exact H9.out
section
variable {R:McR} {W w:World} {ab mb n wb:Nat} {bs:List Int} {g:PgR} {own:Own} {s:McA}
def a8v:List Int:=[83,76,77,2]
def mF (g:PgR) (s:McA):List Int:=a8v++machB g s
def qL (g:PgR) (s:McA):List Int:=mF g s++fD (mF g s)
theorem xS (l:List Int):(fD l).length=4:=rfl
theorem a2Q (hg:aM g) (hs:eN s):(machB g s).length<=18990:=by
 have h1:=lS hg;have h2:=B1 (n:=s.st.toNat) (by have:=hs.st;omega);have h3:=wZ hs;have h4:=mI hs;have h5:=wW hs.obs.2;have h6:=B1 (n:=s.obs.length) (by have:=hs.obs.1;omega);have h7:s.obs.length*152<=40*152:=Nat.mul_le_mul_right _ hs.obs.1;unfold machB cO;simp only[List.length_append];omega
theorem rG (hg:aM g) (hs:eN s):(mF g s).length<=18994:=by
 have:=a2Q hg hs;unfold mF a8v;rw[List.length_append];simp only[List.length_cons,List.length_nil];omega
theorem a7r (hg:aM g) (hs:eN s):(qL g s).length<=18998:=by
 have:=rG hg hs;unfold qL;rw[List.length_append,xS];omega
theorem dF {W':World} (hB:L0d w W) (hw:E2 wb ab W W') (h1:w.heap.size<=wb) (h2:w.heap.size<=ab):L0d w W' :=
 ⟨hw.os.trans hB.os,hw.tape.trans hB.tape,hw.output.trans hB.output,L5a hB.size hw.size,fun k hk=>(hw.block k (L0a hk hB.size) R5 R5).trans (hB.block k hk)⟩
theorem O3.bytes (h:O3 W wb ab bs) (hn:bs.length<=20000):M2 W (zA ab) bs:=fun _=>by
 obtain⟨xa,hr⟩:=h.row;refine⟨ab,0,rfl,h.alt,fun i x hx=>?_⟩;have hi:=(L1a.1 hx).1;rw[Nat.zero_add,hr.cellAt i R5,List.getElem?_append_left (by rw [V9];exact hi)];unfold B7;rw[List.getElem?_map,hx];rfl
theorem a7J {B C e sz:Nat} {v:Value} {xs:List Value} (h:w.ownsRow B e sz v n xs) (hc:C<=B):w.ownsRow C e sz v n xs:=by
 refine⟨h.1,?_⟩;rcases h.2 with h2 | ⟨g,cap,cur,q1,q2,q3⟩
 ·exact L4a h2
 ·exact L4b ⟨g,cap,cur,q1,L5a hc q2,q3⟩
def nP (bs:List Int) (w:World) (e:Ending) (w':World):Prop:=∃gb cap,e=.returned (.slice (zA gb) bs.length cap)/\M2 w' (zA gb) bs/\L0d w w'/\w'.ownsRow w.heap.size 5 1 (.slice (zA gb) bs.length cap) bs.length (B7 bs)
theorem a0B {k:Nat} (h:O3 W wb ab bs) (hk:W.heap.size=k) (l:List Int) (hl:l.length=n) (cs:Array Value) (hcs:cs.toList=B7 l) (hn:bs.length+n < 20000) (c:Nat) (fr:Nat × Nat) :
  Calls prog 143 #[zB wb,.slice (zA k) n c] (W.alloc (.cells cs 5 fr)) fun e w'=>G1 wb ab (bs++l) W e w':=by
 subst hk hl;have hB:L0d W (W.alloc (.cells cs 5 fr)):=L3a (L3b _ _) (L1c _) _;refine (a1O (h.later hB) _ c l (fun _=>⟨W.heap.size,0,rfl,by simp,?_,?_,fun i x hx=>?_⟩) hn).mono ?_
 ·have:=h.wlt;omega
 ·have:=h.alt;omega
 ·have hb:(W.alloc (.cells cs 5 fr)).heap[W.heap.size]?=some (.cells cs 5 fr):=B0 rfl
  have:=World.news_of_block hb i (zC x) (by rw [hcs];unfold B7;rw [List.getElem?_map,hx];rfl);rw[Go.WideShapes.add_plain] at this;exact this
 ·rintro e w' ⟨rfl,h4,h5⟩
  exact⟨rfl,h4,(E2.of_below hB).trans h5⟩
theorem a6i (h:A4 w own mb g R) (hp:N3 g) (hi:C8 g R.abs) (hints:J3 R.abs) (ha:ArI g) :
  Calls prog 104 #[zB mb] w fun e w'=>nP (qL g (N8 R.abs)) w e w':=by
 have hs:=jF hp hi hints;have hg:=pC hp ha;have ym:=rG hg hs;have HW:=hid (qN w);have yh:Hid (∀W,L0d w W->Calls prog 145 #[zB mb] W fun e w'=>fN own g R W e w'):=fun W hW=>a0w (h.same hW.size fun k hk=>hW.block k hk) hp hi
 have xf:Hid (∀k,w.heap.size<=k->own k=none):=fun k hk=>h.new hk
 have xh:Hid (∀k,w.heap.size<=k->¬g.blk k):=fun k hk hb=>by have:=h.pg.blk_lt hb;omega
 have HS:=hid hs;have HG:=hid hg;have xb:Hid (mF g (N8 R.abs)=[83,76,77,2]++machB g (N8 R.abs)):=hid rfl;have xg:Hid (qL g (N8 R.abs)=mF g (N8 R.abs)++fD (mF g (N8 R.abs))):=hid rfl;generalize mF g (N8 R.abs)=core at *
 generalize qL g (N8 R.abs)=img at *
 obtain⟨s,xq⟩:∃s,N8 R.abs=s:=⟨_,rfl⟩
 rw[xq] at HS xb;have yg:=hid xq;clear h hp hi hints ha hs hg xq;have kc:=fun (w:World) (C:Array Value) (n c:Nat)=>Go.Lib.run_convert_bytes_const (P:=prog) w 26 5 C n c underlying26 underlying5
 go_enter func104,ntmps104;go_wp2_with fail;refine HW.out.mono ?_;rintro e w1 ⟨wb,ab,rfl,xi,xc,xd,xr⟩;have H1:=hid xi;have xw:=hid xr;have l1:=xi.wlt;have s1:=xr.size;clear xi xr HW;go_wp2_with fail;refine (a0B H1.out rfl [83,76,77] rfl _ rfl R6 _ _).mono ?_;rintro e w2 ⟨rfl,h2,ye⟩;have H2:=hid h2;have yc:=hid (dF xw.out ye xc xd);have l2:=h2.wlt;clear h2 ye H1 xw
 go_wp2_with fail;refine (a0B H2.out rfl [2] rfl _ rfl R6 _ _).mono ?_;rintro e w3 ⟨rfl,h3,xu⟩;have H3:=hid h3;have xl:=hid (dF yc.out xu xc xd);have l3:=h3.wlt;have a3:=h3.alt;clear h3 xu H2 yc;go_wp2_with fail;refine (yh.out _ xl.out).mono ?_;rintro e w4 ⟨pb,rfl,xm,yf⟩;have xk:=yf wb ab l3 a3 (xf.out _ xc) (xf.out _ xd) (xh.out _ xc) (xh.out _ xd);rw[yg.out] at xk
 have xt:=hid xk;clear xk;have H4:=hid (H3.out.later xm);have ya:=hid (A3 xm xl.out);clear xm yf H3 xl l3 a3;go_wp2_with fail;refine (uL H4.out g s xt.out HG.out HS.out R6).mono ?_;rintro e w5 ⟨rfl,h5,xy⟩;have xn:O3 w5 wb ab core:=by rw [xb.out];exact h5
 have H5:=hid xn;have xs:=hid (dF ya.out xy xc xd);have l5:=xn.wlt;clear h5 xn xy H4 ya xt;go_wp2_with fail;refine (pA H5.out R5).mono ?_;rintro e w6 ⟨rfl,xp⟩;have H6:=hid (H5.out.later xp.below);have xx:=hid (A3 xp.below xs.out);clear xp H5 xs;go_wp2_with fail;refine (a3Z (zA ab) 20000 core (H6.out.bytes R5) R5).mono ?_
 rintro e w7 ⟨rfl,rfl⟩;go_wp2_with fail;refine (a0B H6.out rfl (fD core) rfl _ R6 (by rw [xS];omega) 4 _).mono ?_;rintro e w8 ⟨rfl,h8,yb⟩;have xj:O3 w8 wb ab img:=by rw [xg.out];exact h8
 have yl:img.length=core.length+4:=by rw [xg.out,List.length_append];rfl
 have yi:img.length<=18998:=by omega
 have yk:0 < img.length:=by omega
 have H8:=hid xj;clear yl;have xz:=hid (dF xx.out yb xc xd);have l8:=xj.wlt;clear h8 xj yb H6 xx;go_wp2_with fail;refine (pA H8.out R5).mono ?_;rintro e w9 ⟨rfl,xo⟩;have H9:=hid (H8.out.later xo.below);have yd:=hid (A3 xo.below xz.out);have a9:=H9.out.alt;clear xo H8 xz;go_wp2_with fail;refine (yW ab 0 img.length 20000 (B7 img) _ R5 R5 (by rw [V9];omega) (fun j u hu=>?_) (fun u hu=>?_) a9).mono ?_
 ·have hj:=(L1a.1 hu).1
  rw[V9] at hj;obtain⟨b,o,e,_,hc⟩:=H9.out.bytes R5 R5
  cases e;unfold B7 at hu;rw[List.getElem?_map] at hu;obtain⟨x,hx,rfl⟩:=Option.map_eq_some_iff.1 hu;exact hc j x hx
 ·obtain ⟨x,_,rfl⟩:=List.mem_map.1 hu
  rfl
 rintro e yj ⟨gb,xv,rfl,xa,xe⟩;have HP:Hid (nP img w (.returned (.slice (zA gb) img.length xv)) yj):=⟨gb,xv,rfl,fun _=>⟨gb,0,rfl,(xa.lt gb rfl).2,fun i x hx=>by
  have hi:=(L1a.1 hx).1;rw[Nat.zero_add,xa.cellAt i R5];unfold B7;rw[List.getElem?_map,hx];rfl⟩,A3 xe yd.out,a7J xa yd.out.size⟩
 clear xa xe;go_wp2_with fail;go_ret;exact HP.out
theorem a4v (h:A4 w own mb g R) (hp:N3 g) (hi:C8 g R.abs) (hints:J3 R.abs) (ha:ArI g) :
  Calls prog 66 #[zB mb] w fun e w'=>nP (qL g (N8 R.abs)) w e w':=by
 have H:=hid (a6i h hp hi hints ha);clear h hp hi hints ha;go_enter func66,ntmps66;go_wp2_with (go_at_call 104;refine H.out.mono ?_;rintro e w2 ⟨gb,xc,rfl,xd,xb,xa⟩)
 go_ret;exact⟨gb,xc,rfl,xd,xb,xa⟩
end
section
variable {R:RfR} {W:World} {g:PgR} {mb:Nat} {own:Own}
theorem yB (h:A9 W own mb g R) (hb:iA R) (hr:dX R) (hk:a8M g R) :
  Calls prog 42 #[zB mb,.bool false] W fun e w'=>jU (wrB g R) W e w':=by
 obtain⟨oa,ca,ta,oc,cc,tc,xb⟩:=vC.of h;obtain⟨st,xd⟩:=L5c hk.st.1;have xa:R.st=(st:Int):=xd;have xc:(progB g).length<=10000:=by have:=lS hk.pg;omega
 have:=uO (pB:=progB g) (al:=A0 R.abs) (ol:=bT R) (fun U hU=>(xb U hU).letters xa) (fun pb U hU=>hU.program g h.pg hk.pg R6) (fun U hU=>cG (h.same hU) hb hr) rfl hk.al xc (by have:=hk.st.2;omega) hk.out.1 hk.out.2 hk.frs hk.fr (fun j hj=>⟨_,L1b (hk.lt j hj),hk.th j hj _ (L1b (hk.lt j hj))⟩) (fun j=>ptB (bT R) (R.ths.getD j ⟨0,zD,[],0⟩)) fun _=>rfl
 have e:[83,76,77,2]++progB g++B5 st++B5 R.out.length++R.out.flatMap Y0++B5 R.frs.length++R.frs.flatMap (pfB (bT R))++B5 (bT R).length++((A0 R.abs).flatMap fun j=>ptB (bT R) (R.ths.getD j ⟨0,zD,[],0⟩))=wrB g R:=by
  unfold wrB a5c;rw[xa,Int.toNat_natCast]
 rw[e] at this;exact this
theorem a3H (h:A9 W own mb g R) (hb:iA R) (hr:dX R) (hk:a8M g R) :
  Calls prog 68 #[zB mb] W fun e w'=>∃a c,e=.returned (.slice a (wrB g R++fD (wrB g R)).length c)/\M2 w' a (wrB g R++fD (wrB g R))/\L0d W w':=by
 have H:Hid (Calls prog 42 #[zB mb,.bool false] W fun e w'=>∃a c,e=.returned (.slice a (wrB g R++fD (wrB g R)).length c)/\M2 w' a (wrB g R++fD (wrB g R))/\L0d W w'):=hid ((yB h hb hr hk).mono fun e w' q=>by
  obtain⟨v,rfl,hv,hB⟩:=q;obtain⟨a,c,rfl,xb⟩:=bytes_own hv;exact⟨a,c,rfl,xb,hB⟩)
 generalize wrB g R++fD (wrB g R)=bs at *
 clear h hb hr hk;go_enter func68,ntmps68;go_wp2_with (go_at_call 42;refine H.out.mono ?_;rintro e w2 ⟨a,c,rfl,xc,xa⟩)
 go_ret;exact⟨a,c,rfl,xc,xa⟩
 where
 bytes_own {W:World} {B:Nat} {v:Value} {l:List Int} (h:W.ownsRow B 5 1 v l.length (B7 l)):∃a c,v=.slice a l.length c/\M2 W a l:=by
  rcases id h.2 with ⟨rfl,h0⟩ | ⟨g,xd,xe,rfl,_,hg,h3,h4,h5,h6⟩
  ·exact ⟨none,0,by rw [h0],fun hp=>by omega⟩
  ·refine ⟨_,xd,rfl,fun _=>⟨g,0,rfl,(L2b.1 hg).1,fun i x hx=>?_⟩⟩
   have xf:=(L1a.1 hx).1;rw[Nat.zero_add,h.cellAt i R5];unfold B7;rw[List.getElem?_map,hx];rfl
end
section
variable {al:List Nat} {obs:List Ob} {v:Val}
theorem xE:∀(al:List Nat) (n x:Nat),C4 (al.map fun k:Nat=>(k:Int)) (n:Int) (x:Int)=match ixA al x with | some i=>((i+n:Nat):Int) | none => -1
 | [],_,_=>rfl
 | a::al,n,x=>by
  rw[List.map_cons,C4,ixA];by_cases e:a=x
  ·rw [if_pos R5,if_pos e]
   simp
  ·rw [if_neg R5,if_neg e]
   have:=xE al (n+1) x;rw[show ((n:Int)+1)=((n+1:Nat):Int) by omega,this]
   cases ixA al x with
   | none=>rfl
   | some i=>show ((i+(n+1):Nat):Int)=((i+1+n:Nat):Int);congr 1;omega
theorem a5L (h:v.1=0\/v.1=1\/(v.1=2/\0<=v.2)):pvB (al.map fun k:Nat=>(k:Int)) v=iB (J8 al v):=by
 obtain⟨k,n⟩:=v;simp only at h;rcases h with rfl | rfl | ⟨rfl,h0⟩
 ·rfl
 ·rfl
 ·obtain ⟨m,rfl⟩:=L5c h0
  have hp:=xE al 0 m;unfold pvB J8;rw[if_neg (by show ¬(2:Int)=1;decide),if_pos rfl];simp only[Int.natCast_zero] at hp;simp only[Int.toNat_natCast];rw[hp]
  cases ixA al m with
  | none=>rw [if_neg R6];rfl
  | some i =>
   rw[if_pos R6];simp[iB]
theorem oH {α β:Type} {l:List α} {f g:α->List β} (h:∀x,x∈l->f x=g x):l.flatMap f=l.flatMap g:=by
 induction l with
 | nil=>rfl
 | cons x l ih=>rw [List.flatMap_cons,List.flatMap_cons,h x R6,ih fun y hy=>h y (by simp [hy])]
theorem mA {l:List Val} (h:∀v,v∈l->v.1=0\/v.1=1\/(v.1=2/\0<=v.2)):l.flatMap (pvB (al.map fun k:Nat=>(k:Int)))=X3 (l.map (J8 al)):=by
 unfold X3
 induction l with
 | nil=>rfl
 | cons v l ih=>rw [List.flatMap_cons,List.map_cons,List.flatMap_cons,a5L (h v R6),ih fun x hx=>h x (by simp [hx])]
theorem VOk.kinds (h:VOk obs v):v.1=0\/v.1=1\/v.1=2:=by
 rcases h with rfl | h | h
 ·exact L4a rfl
 ·exact L4b (L4a h)
 ·exact L4b (L4b h.1)
theorem OOk.kinds {o:Ob} (h:OOk obs o):∀v,v∈o.2->v.1=0\/v.1=1\/v.1=2:=fun v hv=>by
 rcases h with ⟨_,h⟩ | ⟨_,_,h⟩ | ⟨_,_,h⟩ | ⟨_,u,h,h',_⟩
 ·rw [h] at hv;cases hv
 ·exact (h v hv).kinds
 ·exact (h v hv).kinds
 ·rw [h,List.mem_singleton] at hv;subst hv;exact h'.kinds
section
variable {g:PgR} {R:RfR} {t:McA}
theorem RV.fkind (h:RV g R t) {f:FrR} (hf:f∈R.frs):∀v,v∈f.loc++f.stk->v.1=0\/v.1=1\/(v.1=2/\0<=v.2):=fun v hv=>by
 have hm:G5 (sig (R.ths.map ThR.slot)) f.abs∈t.frs:=by rw [h.v.frs];exact List.mem_map.2 ⟨_,List.mem_map.2 ⟨f,hf,rfl⟩,rfl⟩
 have hk:=(h.i.vals _ hm (ren (sig (R.ths.map ThR.slot)) v) (by
  show ren _ v∈f.loc.map _++f.stk.map _;rw[<- List.map_append];exact List.mem_map.2 ⟨v,hv,rfl⟩)).kinds
 rw[G3] at hk;rcases hk with hk | hk | hk
 ·exact L4a hk
 ·exact L4b (L4a hk)
 ·exact L4b (L4b ⟨hk,(h.refIn hf hv hk).1⟩)
theorem RV.thing (h:RV g R t) {j:Nat} (hj:j∈A0 R.abs):∃o,R.ths[j]?=some o/\t.obs[sig (R.ths.map ThR.slot) j]?=some (o.kind,o.fl.map (ren (sig (R.ths.map ThR.slot)))):=by
 obtain⟨o,ho,hq⟩:=h.v.get (h.v.slotted j hj);have xa:(R.ths.map ThR.abs)[j]?=some o:=ho;rw[List.getElem?_map] at xa;obtain⟨o',h1,rfl⟩:=Option.map_eq_some_iff.1 xa;exact⟨o',h1,hq⟩
theorem RV.okind (h:RV g R t) {j:Nat} (hj:j∈A0 R.abs) {o:ThR} (ho:R.ths[j]?=some o):∀v,v∈o.fl->v.1=0\/v.1=1\/(v.1=2/\0<=v.2):=fun v hv=>by
 obtain⟨o',h1,h2⟩:=h.thing hj;rw[ho] at h1;obtain rfl:=L5b h1;have hk:=(h.i.obs _ (L2a h2)).kinds (ren (sig (R.ths.map ThR.slot)) v) (List.mem_map.2 ⟨v,hv,rfl⟩);rw[G3] at hk;rcases hk with hk | hk | hk
 ·exact L4a hk
 ·exact L4b (L4a hk)
 ·exact L4b (L4b ⟨hk,(h.th o.abs (List.mem_map.2 ⟨o,L2a ho,rfl⟩)).2.2.2 v hv hk⟩)
theorem RV.image (h:RV g R t) {g':PgR} (hs:X6 g' g):wrB g R=[83,76,77,2]++machB g' (N8 t):=by
 rw[<- hs.machB,h.v.pack];have e1:R.frs.flatMap (pfB (bT R))=lM (R.abs.frs.map (oY (A0 R.abs))):=by
  show R.frs.flatMap _=((R.frs.map FrR.abs).map _).flatMap frB;rw[List.map_map,List.flatMap_map];refine oH fun f hf=>?_
  have hk:=h.fkind hf;show B5 f.fn++B5 f.pc++f.loc.flatMap _++f.stk.flatMap _=B5 f.fn++B5 f.pc++X3 (f.loc.map _)++X3 (f.stk.map _);rw[<- mA fun v hv=>hk v (by simp [hv]),<- mA fun v hv=>hk v (by simp [hv])];rfl
 have e2:((A0 R.abs).flatMap fun j=>ptB (bT R) (R.ths.getD j ⟨0,zD,[],0⟩))=kO ((A0 R.abs).map (cZ R.abs)):=by
  unfold kO;rw[List.flatMap_map];refine oH fun j hj=>?_
  obtain⟨o,ho,_⟩:=h.thing hj;have hp:cZ R.abs j=(o.kind,o.fl.map (J8 (A0 R.abs))):=by
   unfold cZ;have:R.abs.obs[j]?=some o.abs:=by show (R.ths.map ThR.abs)[j]?=_;rw [List.getElem?_map,ho];rfl
   rw[this];rfl
  rw[hp,List.getD_eq_getElem?_getD,ho];show ptB _ o=_;unfold ptB obB;rw[<- mA (h.okind hj ho),List.length_map];rfl
 unfold wrB a5c machB wY cW cO;rw[e1,e2];have l1:(N8 R.abs).frs.length=R.frs.length:=by show ((R.frs.map FrR.abs).map _).length=_;rw [List.length_map,List.length_map]
 have l2:(N8 R.abs).obs.length=(bT R).length:=by show ((A0 R.abs).map _).length=((A0 R.abs).map _).length;rw [List.length_map,List.length_map]
 rw[l1,l2];show _=[83,76,77,2]++(progB g++B5 R.st.toNat++(B5 R.out.length++eD R.out)++(B5 R.frs.length++lM (R.abs.frs.map (oY (A0 R.abs))))++(B5 (bT R).length++kO ((A0 R.abs).map (cZ R.abs))));unfold eD;simp only[List.append_assoc]
theorem RV.wrOk (h:RV g R t) (hp:N3 g) (ha:ArI g) (hi:J3 t) (hn:R.ths.length<=10000000000):a8M g R:=by
 have xb:=jF hp h.i hi;have xe:(A0 R.abs).length<=40:=by
  have:=xb.obs.1;have e:(N8 t).obs.length=(A0 t).length:=by show ((A0 t).map _).length=_;rw [List.length_map]
  rw[e,h.v.alive,List.length_map] at this;exact this
 have xa:∀v:Val,v.1=2->0<=v.2->v.2.toNat < R.ths.length->I64 v.2:=fun v _ h0 hl=>by unfold I64;omega
 refine⟨pC hp ha,?_,⟨?_,fun z hz=>hi.out z (by rw [h.v.out];exact hz)⟩,by have:=h.frs_len;omega,fun f hf=>?_,fun j hj o ho=>?_,by omega,fun j hj=>?_⟩
 ·have:=hi.st
  rw[h.v.st] at this;have e:R.abs.st=R.st:=rfl;rw[e] at this;omega
 ·have:=h.i.out
  rw[h.v.out] at this;have e:R.abs.out=R.out:=rfl;rw[e] at this;omega
 ·have xd:=h.frame hp hf
  have xc:=xb.frs.2 (oY (A0 R.abs) f.abs) (by rw [h.v.pack];exact List.mem_map.2 ⟨f.abs,List.mem_map.2 ⟨f,hf,rfl⟩,rfl⟩);have xf:f.fn < 1000:=xc.fn;have hv:∀x,x∈f.loc++f.stk->I64 x.2:=fun x hx=>by
   by_cases h2:x.1=2
   ·have:=h.refIn hf hx h2
    exact xa x h2 this.1 this.2
   ·have hm:G5 (sig (R.ths.map ThR.slot)) f.abs∈t.frs:=by rw [h.v.frs];exact List.mem_map.2 ⟨_,List.mem_map.2 ⟨f,hf,rfl⟩,rfl⟩
    refine hi.frs _ hm x ?_;show x∈f.loc.map _++f.stk.map _;rw[<- List.map_append];exact List.mem_map.2 ⟨x,hx,I8 h2⟩
  exact⟨by omega,by omega,by omega,by omega,fun x hx=>hv x (by simp [hx]),fun x hx=>hv x (by simp [hx])⟩
 ·have hk:=h.kind o (L2a ho)
  have hl:=h.fl ho;refine⟨by omega,by omega,by omega,fun x hx=>?_⟩;by_cases h2:x.1=2
  ·have:=h.rin.2 o (L2a ho) x hx h2
   exact xa x h2 this.1 this.2
  ·obtain ⟨o',h1,h3⟩:=h.thing hj
   rw[ho] at h1;obtain rfl:=L5b h1;exact hi.obs _ (L2a h3) x (List.mem_map.2 ⟨x,hx,I8 h2⟩)
 ·have:=(h.v.slotted j hj).lt
  rwa [List.length_map] at this
end
end
section
variable {M N cb i xb yb:Nat} {P:A5} {Y:PlR} {w:World} {w0:X4}
theorem a3j (h:Lw w0 P w yb Y N M) (hi:Y.ps[i]?=some (xb,cb)) (hN:N<=10000000000) :
  ∃l:List Int,l.length<=1000000/\(∀U,L0d w U->Calls prog 68 #[zB cb] U fun e w1=>∃a c,e=.returned (.slice a l.length c)/\M2 w1 a l/\L0d U w1) /\
   ∀U,L0d w U->Calls prog 66 #[zB xb] U fun e w1=>∃oa oc,e=.returned (.slice oa l.length oc)/\L0d U w1/\M2 w1 oa l/\∃P1,Lw w0 P1 w1 yb Y N M/\P1 (8,0)=a5X 5 1 (.slice oa l.length oc) l.length:=by
 obtain⟨ox,gx,RX,oc,gc,RC,t,h1,h2,h3,h4,h5,h6,h7,h8,h9,xc⟩:=(h.pair i (xb,cb) hi).ex;have hR:A9 w oc cb gc RC:=by have:=h.sep.F (2,i);rw [h2] at this;exact this
 have xe:=h6.pgOk h5;have hk:=h7.wrOk xe (h6.arI xc) h9 R5;have xd:RX.abs=t:=h3.abs;have xa:wrB gc RC++fD (wrB gc RC)=qL gx (N8 t):=by
  rw[h7.image h6];rfl
 have xi:=a7r (pC h5 xc) (jF h5 h4 h9);refine⟨qL gx (N8 t),by omega,fun U hU=>?_,fun U hU=>?_⟩
 ·have:=a3H (hR.same hU) (h7.bd xe R5) h7.rin hk
  rw[xa] at this;exact this
 ·have xg:=h.below hU
  have hM:A4 U ox xb gx RX:=by have:=xg.sep.F (1,i);rw [h1] at this;exact this
  refine (a4v hM h5 (by rw [xd];exact h4) (by rw [xd];exact h9) xc).mono ?_;rintro e w1 ⟨gb,xh,rfl,xf,hb,hv⟩;rw[xd] at xf hv ⊢;refine⟨_,_,rfl,hb,xf,loose P (fun i=>if i=(8,0) then a5X 5 1 (.slice (zA gb) (qL gx (N8 t)).length xh) (qL gx (N8 t)).length else I0.none),?_,?_⟩
  ·refine xg.loose hb (fun i _=>?_) (fun i b _ hB=>?_) (fun i j b _ _ hB hB'=>?_)
   ·split
    ·exact ⟨_,E1 hv (L4c _)⟩
    ·trivial
   ·split at hB
    ·exact (hv.lt b hB).1
    ·exact hB.elim
   ·split at hB
    ·split at hB'
     ·rename_i a b;rw [a,b]
     ·exact hB'.elim
    ·exact hB.elim
  ·rw [cL P _ R4]
   exact if_pos rfl
theorem a7C (h:Lw w0 P w yb Y N M) (hi:Y.ps[i]?=some (xb,cb)) (hN:N<=9999990000) (hM:M<=900000000) (a b:Int) (fa la sa:Option Addr) (fn fc ln lc sn sc:Nat) :
  Calls prog 35 #[zB yb,.agg #[zB xb,zB cb],.agg #[J 9,J a,J b,.slice fa fn fc,.slice la ln lc,.slice sa sn sc]] w fun e w'=>e=.returned (.bool true)/\∃P2 Y2,Lw w0 P2 w' yb Y2 N (M+100)/\(Y2.ps=Y.ps/\Y2.psv=Y.psv):=by
 obtain⟨l,hl,hr,hs⟩:=a3j h hi R5;have HS:=hid hs;have HR:=hid hr;have HL:Hid (l.length<=1000000):=hid hl;have HM:=hid hM;clear hs hr h hi hl hM;go_enter func35,ntmps35;go_wp2_with (first | (go_at_call 66;refine (HS.out _ P8).mono ?_;rintro e w1 ⟨oa,oc,rfl,xd,xi,P1,xg,xl⟩;have xa:=hid xg;have xt:=hid xl;have xs:=hid xi;have xw:Hid (L0d w w1):=hid ((by repeat (first | exact L3b _ _ | refine L3a ?_ Q2 _):L0d w _).trans (xd.mono Q9));have c1:w1.cell? ⟨w.heap.size,1,none⟩=some (zB cb):=keep xd Q9 R3;have xx:w.heap.size < w1.heap.size:=(by have:=xd.size;simp at this;omega);clear xg xl xi xd) | (go_at_call 68;refine (HR.out _ xw.out).mono ?_;rintro e w2 ⟨ra,rc,rfl,xh,xe⟩;have xv:=hid xh;have xj:=hid xe;have xf:=hid (xs.out.later xe);have xy:=xe.size;clear xh xe) | (go_at_call 67;refine (pY xf.out xv.out HL.out).mono ?_;rintro e w3 ⟨rfl,xk⟩;have xp:Hid (L0d w1 w3):=hid (xj.out.trans (xk.mono xj.out.size));clear xk) | (go_at_call 69;refine (a2d (xa.out.below xp.out).sep xa.out.p0 xa.out.law xt.out R4 HL.out (by have:=xa.out.len 2;have:=HM.out;omega)).mono ?_;rintro e w4 ⟨rfl,P2,Y2,xq,xo,xr,xm,xu,xc,xn⟩;have HW:Hid (Lw w0 P2 w4 yb Y2 N (M+100)/\(Y2.ps=Y.ps/\Y2.psv=Y.psv)):=hid ⟨(xa.out.below xp.out).book xq xo xr xm (fun q hq=>by rw [hq];decide) xc.ps (fun j=>by by_cases e:j=2;(rw [e,xc.lj];have:=xa.out.len 2;omega);(rw [xc.l j e];have:=xa.out.len j;omega)) R5 xn,xc.ps,xc.psv⟩;clear xq xo xr xm xu xc xn))
 go_ret;exact⟨rfl,P2,Y2,HW.out⟩
end
end Go.Proofs.YtbkmgoffiigdbaaGreatDoor
