import Derived.Test.YtbkmgoffiigdbaaGreatDoorVBa
namespace Go.Proofs.YtbkmgoffiigdbaaGreatDoor
open Go.RowKit Go.Sort Go.Proofs.Tryz
set_option maxHeartbeats 4000000
set_option maxRecDepth 100000
abbrev a6x : Oper := ⟨some 32,.load 66 (.tmp 31),66,"machine.go:33",#[⟨3,.data⟩],none⟩
abbrev a6T : Oper := ⟨some 38,.makeSlice 84 (.tmp 37) (.tmp 37),84,"machine.go:33",#[⟨9,.data⟩,⟨9,.data⟩],none⟩
abbrev a6U : Oper := ⟨some 39,.build 86 #[(2,.tmp 38)],86,"machine.go:33",#[⟨10,.data⟩],none⟩
abbrev a6y : Oper := ⟨some 40,.buildSlice 66 1 #[(0,.tmp 39)],66,"machine.go:33",#[⟨11,.data⟩],none⟩
abbrev a6z : Oper := ⟨some 41,.call ⟨.builtin .append,#[.tmp 32,.tmp 40],#[66,66]⟩,66,"machine.go:33",#[⟨4,.data⟩,⟨12,.data⟩],none⟩
abbrev a6A : Oper := ⟨some 42,.nilCheck (.tmp 28),0,"machine.go:33",#[⟨0,.data⟩,⟨0,.phase⟩,⟨1,.phase⟩,⟨2,.phase⟩,⟨3,.phase⟩,⟨4,.phase⟩,⟨5,.phase⟩,⟨6,.phase⟩,⟨7,.phase⟩,⟨8,.phase⟩,⟨9,.phase⟩,⟨10,.phase⟩,⟨11,.phase⟩,⟨12,.phase⟩,⟨13,.phase⟩],none⟩
abbrev a6B : Oper := ⟨some 43,.fieldAddr 69 (.tmp 42) 4,0,"machine.go:33",#[⟨14,.data⟩,⟨0,.phase⟩,⟨1,.phase⟩,⟨2,.phase⟩,⟨3,.phase⟩,⟨4,.phase⟩,⟨5,.phase⟩,⟨6,.phase⟩,⟨7,.phase⟩,⟨8,.phase⟩,⟨9,.phase⟩,⟨10,.phase⟩,⟨11,.phase⟩,⟨12,.phase⟩,⟨13,.phase⟩],none⟩
abbrev a6C : Oper := ⟨none,.store 66 (.tmp 43) (.tmp 41),0,"machine.go:33",#[⟨15,.data⟩,⟨13,.data⟩,⟨13,.chain⟩,⟨0,.phase⟩,⟨1,.phase⟩,⟨2,.phase⟩,⟨3,.phase⟩,⟨4,.phase⟩,⟨5,.phase⟩,⟨6,.phase⟩,⟨7,.phase⟩,⟨8,.phase⟩,⟨9,.phase⟩,⟨10,.phase⟩,⟨11,.phase⟩,⟨12,.phase⟩,⟨13,.phase⟩],none⟩
def gE (cap:Nat) (cv lv:Value) (l:Nat):RfR:=⟨cap,0,.slice none 0 0,[],cv,[⟨0,0,lv,.slice none 0 0,List.replicate l (0,0),[]⟩],.slice none 0 0,[],none,0,[]⟩
def cF (mb:Nat) (cv lv:Value):Own:=fun k=>if k=mb then some .mach else if cv.ownBlock=some k then some .called else if lv.ownBlock=some k then some (.loc 0) else none
theorem a4H {F:World} {mb cap l:Nat} {g:PgR} {cv lv:Value} (hmb:mb < F.heap.size) (hmb0:mb≠0)
  (c0:F.cell? ⟨mb,0,none⟩=some (.slice g.a g.n g.c)) (c1:F.cell? ⟨mb,1,none⟩=some (.int .i64 (cap:Int))) (c2:F.cell? ⟨mb,2,none⟩=some (.int .i64 0)) (c3:F.cell? ⟨mb,3,none⟩=some (.slice none 0 0)) (c4:F.cell? ⟨mb,4,none⟩=some cv) (c5:F.cell? ⟨mb,5,none⟩=some (.slice none 0 0)) (c6:F.cell? ⟨mb,6,none⟩=some (.slice none 0 0))
  (fz:∀j,F.frozen? ⟨mb,j,none⟩=false) (hcv:F.ownsRow 0 86 4 cv 1 [.int .i64 0,.int .i64 0,lv,.slice none 0 0]) (hlv:F.ownsRow 0 92 2 lv l (A5 (List.replicate l (0,0)))) (hpg:I7 F.heap.size F g)
  (hc:∀b,cv.ownBlock=some b->b≠mb/\b≠0/\¬g.blk b) (hl:∀b,lv.ownBlock=some b->b≠mb/\b≠0/\¬g.blk b/\cv.ownBlock≠some b) (hg:¬g.blk mb):A8 F (cF mb cv lv) mb g (gE cap cv lv l):=by
 have oc:∀b,cv.ownBlock=some b->cF mb cv lv b=some .called:=fun b hb=>by unfold cF;rw [if_neg (hc b hb).1,if_pos hb]
 have ol:∀b,lv.ownBlock=some b->cF mb cv lv b=some (.loc 0):=fun b hb=>by unfold cF;rw [if_neg (hl b hb).1,if_neg (hl b hb).2.2.2,if_pos hb]
 have no:∀k,k≠mb->cv.ownBlock≠some k->lv.ownBlock≠some k->cF mb cv lv k=none:=fun k h1 h2 h3=>by unfold cF;rw [if_neg h1,if_neg h2,if_neg h3]
 refine⟨fun k t e=>?_,if_pos rfl,c0,c1,c2,c3,c4,c5,c6,fz,⟨World.ownsRow_nil _ _ _ _,fun b hb=>by cases hb⟩,⟨hcv,oc⟩,⟨World.ownsRow_nil _ _ _ _,fun b hb=>by cases hb⟩,fun i f hf=>?_,fun i f hf=>?_,fun j o ho=>by simp [gE] at ho,hpg,fun k hk=>?_,?_,L1c _,fun h0=>by simp [gE] at h0,fun b o e=>by cases e⟩
 ·unfold cF at e
  split at e
  ·rename_i h;rw [h];exact hmb
  ·split at e
   ·rename_i h;exact (hcv.lt k h).2
   ·split at e
    ·rename_i h;exact (hlv.lt k h).2
    ·cases e
 ·have hi:i=0:=by
   have:=(L1a.1 hf).1;simp[gE] at this;exact this
  subst hi;have:f=⟨0,0,lv,.slice none 0 0,List.replicate l (0,0),[]⟩:=by simpa [gE] using hf.symm
  subst this;refine⟨?_,ol⟩;show F.ownsRow 0 92 2 lv (List.replicate l ((0,0):Val)).length _;rw[List.length_replicate];exact hlv
 ·have hi:i=0:=by
   have:=(L1a.1 hf).1;simp[gE] at this;exact this
  subst hi;have:f=⟨0,0,lv,.slice none 0 0,List.replicate l (0,0),[]⟩:=by simpa [gE] using hf.symm
  subst this;exact⟨World.ownsRow_nil _ _ _ _,fun b hb=>by cases hb⟩
 ·exact no k (fun e=>hg (e▸hk)) (fun e=>(hc k e).2.2 hk) (fun e=>(hl k e).2.2.1 hk)
 ·exact no 0 (fun e=>hmb0 e.symm) (fun e=>(hc 0 e).2.1 rfl) (fun e=>(hl 0 e).2.1 rfl)
def gU (g:PgR) (cap:Nat) (w:World) (e:Ending) (w':World):Prop :=
 ∃own mb g' cv lv,e=.returned (.tuple #[.pointer (some ⟨mb,0,none⟩),.int .i64 0])/\A8 w' own mb g' (gE cap cv lv (g.f 0).l.toNat)/\Y6 g g'/\Below w.heap.size w w'/\(∀k t,own k=some t->w.heap.size<=k)/\∀k,g'.blk k->w.heap.size<=k
theorem a3k {g g':PgR} {w w2 w3 V w4:World} {mb cap l:Nat} {va:Option Addr} {vc:Nat} (hmb:w3.heap.size=mb) (hVs:V.heap.size=mb+1) (h0:0 < w.heap.size) (hs3:w.heap.size < mb) (_hs23:w2.heap.size<=mb) (hs2w:w.heap.size<=w2.heap.size) (hl':l<=8) (hl:(g.f 0).l=(l:Int)) (hpg:I7 w3.heap.size w3 g') (hblk:∀k,g'.blk k->w2.heap.size<=k) (hsame:g'.n=g.n/\∀j,j < g.n->(g'.f j).p=(g.f j).p/\(g'.f j).l=(g.f j).l/\(g'.f j).n=(g.f j).n/\(g'.f j).op=(g.f j).op/\(g'.f j).ar=(g.f j).ar) (hB3:Below w.heap.size w w3) (hBV:Below w3.heap.size w3 V)
  (hM:∀u,Below V.heap.size V u->(u.cell? ⟨mb,0,none⟩=some (.slice g'.a g'.n g'.c)/\u.cell? ⟨mb,1,none⟩=some (.int .i64 (cap:Int))/\u.cell? ⟨mb,2,none⟩=some (.int .i64 0)/\u.cell? ⟨mb,3,none⟩=some (.slice none 0 0)/\u.cell? ⟨mb,4,none⟩=some (.slice none 0 0)/\u.cell? ⟨mb,5,none⟩=some (.slice none 0 0)/\u.cell? ⟨mb,6,none⟩=some (.slice none 0 0))/\∀j,u.frozen? ⟨mb,j,none⟩=false)
  (hB4:Below ((V.alloc (.cells (madeCells #[.int .u8 0,.int .i64 0] (l*2)) 92)).alloc (.cells #[.int .i64 0,.int .i64 0,.slice (some ⟨V.heap.size,0,none⟩) l l,.slice none 0 0] 86)).drew.heap.size ((V.alloc (.cells (madeCells #[.int .u8 0,.int .i64 0] (l*2)) 92)).alloc (.cells #[.int .i64 0,.int .i64 0,.slice (some ⟨V.heap.size,0,none⟩) l l,.slice none 0 0] 86)).drew w4) (o4:w4.ownsRow V.heap.size 86 4 (.slice va 1 vc) 1 [.int .i64 0,.int .i64 0,.slice (some ⟨V.heap.size,0,none⟩) l l,.slice none 0 0]) (a4:∀b,(Value.slice va 1 vc).ownBlock=some b->b=V.heap.size+2) :
  gU g cap w (.returned (.tuple #[.pointer (some ⟨mb,0,none⟩),.int .i64 0])) (w4.setCell ⟨mb,4,none⟩ (.slice va 1 vc)):=by
  have xb:Below V.heap.size V w4:=(Below.drew (Below.alloc (Below.alloc (Below.refl _ _) (L1c _) _) R5 _)).trans (hB4.mono Q8);obtain⟨⟨c0,c1,c2,c3,c4,c5,c6⟩,fz⟩:=hM _ xb;have xe:mb < w4.heap.size:=L0a R4 xb.size;have xi:w.heap.size<=w2.heap.size:=hs2w;have xc:w4.ownsRow 0 92 2 (.slice (some ⟨V.heap.size,0,none⟩) l l) l (A5 (List.replicate l (0,0))):=by
   have e9:(madeCells #[.int .u8 0,.int .i64 0] (l*2))=(A5 (List.replicate l ((0,0):Val))).toArray:=by rw [<- W7 l,Array.toArray_toList]
   have h9:=World.ownsRow_lit (base:=0) (e:=92) (size:=2) V (A5 (List.replicate l ((0,0):Val))).toArray l (Nat.zero_le _) Q5 (by simp only [List.size_toArray];rw [D3,List.length_replicate]);rw[<- e9] at h9;have h8:=H6 h9 ((Below.drew (Below.alloc (Below.refl _ _) (L1c _) (.cells #[.int .i64 0,.int .i64 0,.slice (some ⟨V.heap.size,0,none⟩) l l,.slice none 0 0] 86))).trans (hB4.mono R5))
   rw[e9] at h8;simpa using h8
  have xh:Below w.heap.size w (w4.setCell ⟨mb,4,none⟩ (.slice va 1 vc)):=((hB3.trans (hBV.mono R4)).trans (xb.mono R4)).setCell (p:=⟨mb,4,none⟩) (by show w.heap.size<=mb;omega) _;have xa:∀k,g'.blk k->w2.heap.size<=k/\k < mb:=fun k hk=>⟨hblk k hk,by have:=hpg.blk_lt hk;omega⟩
  have xd:∀b,(Value.slice (some ⟨V.heap.size,0,none⟩) l l).ownBlock=some b->b=V.heap.size:=fun b hb=>by
   have:V.heap.size=b:=by simpa [Value.ownBlock] using hb
   exact this.symm
  refine⟨cF mb (.slice va 1 vc) (.slice (some ⟨V.heap.size,0,none⟩) l l),mb,g',.slice va 1 vc,.slice (some ⟨V.heap.size,0,none⟩) l l,rfl,?_,⟨hsame.1,hsame.2⟩,xh,fun k t e=>?_,fun k hk=>by have:=xa k hk;omega⟩
  ·rw [hl,Int.toNat_natCast]
   have o1:=ownsRow_setCell_below (o4) (a:=⟨mb,4,none⟩) (by show mb < V.heap.size;omega) (.slice va 1 vc);have o2:=ownsRow_setCell_other xc (a:=⟨mb,4,none⟩) (by intro e;have h9:mb=V.heap.size:=xd _ e;omega) (.slice va 1 vc);have xg:(w4.setCell ⟨mb,4,none⟩ (.slice va 1 vc)).heap.size=w4.heap.size:=by simp
   refine a4H (by rw [xg];exact xe) R4 ((B8 _ R3).trans c0) ((B8 _ R3).trans c1) ((B8 _ R3).trans c2) ((B8 _ R3).trans c3) (World.cell?_setCell_same _ _ _ c4) ((B8 _ R3).trans c5) ((B8 _ R3).trans c6) (fun j=>by first | (go_simp;done) | (go_simp;exact fz j)) (E2 o1 (Nat.zero_le _)) o2 ?_ (fun b hb=>?_) (fun b hb=>?_) (fun hk=>by have:=xa _ hk;omega)
   ·have xf:I7 w4.heap.size w4 g':=hpg.held (by have:=xb.size;omega) fun k hk=>by
     have h8:=xa k hk;rw[xb.block k R4,hBV.block k R4]
    exact xf.held R5 fun k hk=>Below.heap_setCell _ _ _ _ (by show k≠mb;have:=xa k hk;omega)
   ·have:=a4 b hb
    exact⟨by omega,by omega,fun hk=>by have:=xa b hk;omega⟩
   ·have h7:=xd b hb
    exact⟨by omega,by omega,fun hk=>by have:=xa b hk;omega,fun e=>by have:=a4 b e;omega⟩
  ·unfold cF at e
   split at e
   ·omega
   ·split at e
    ·rename_i h;have:=a4 k h;omega
    ·split at e
     ·rename_i h;have:=xd k h;omega
     ·cases e
theorem a3i (g:PgR) (w:World) (hg:I7 w.heap.size w g) (h0:0 < w.heap.size) (hck:I8 g 0 0) (cap:Nat) (h1:1<=cap) (h40:cap<=40) :
  Calls prog 56 #[.agg #[.slice g.a g.n g.c],.int .i64 (cap:Int)] w fun e w'=>gU g cap w e w':=by
 obtain⟨yu,zb,yd⟩:T9 g:=by
  rcases hck with ⟨_,h⟩ | ⟨h,_⟩
  ·cases h
  ·exact h.all.1
 have xk:∀j,j < g.n->1<=(g.f j).n/\(g.f j).n<=1000:=fun j hj=>by have:=eM (yd j hj);omega
 have ys:=eM (yd 0 R4);obtain⟨l,hl⟩:=Int.eq_ofNat_of_zero_le (show 0<=(g.f 0).l by omega);have yv:l<=8:=by omega
 have yy:Hid (∀W,Below w.heap.size w W->Calls prog 59 #[.agg #[.slice g.a g.n g.c]] W fun e w'=>e=.returned (.tuple #[.int .i64 0,.int .i64 0])/\Below W.heap.size W w'):=by
  intro W hW;refine (dF g W (hg.held hW.size fun k hk=>hW.block k (hg.blk_lt hk))).mono ?_;rintro e w' ⟨x,a,rfl,hx,hb⟩;obtain⟨rfl,rfl⟩:=hx.unique hck;exact⟨rfl,hb⟩
 have yx:Hid (∀W,Below w.heap.size w W->Calls prog 93 #[.agg #[.slice g.a g.n g.c]] W fun e w'=>bB g W e w'):=by
  intro W hW;exact a1d g W (hg.held hW.size fun k hk=>hW.block k (hg.blk_lt hk)) yu R4 xk
 obtain⟨ga,gb,gc⟩:=hg.2.1 R4;have x1:=(gc 0 R4).2.1;rw[hl] at x1;have yw:=hid ga;have HL:=hid hl;obtain⟨xw,hi,hz,xh,yk⟩:=info_parts I5;have ye:Hid (∀W:World,(Instr.makeSlice 84 (.int .i64 (l:Int)) (.int .i64 (l:Int))).run prog W=.ok (.slice (some ⟨W.heap.size,0,none⟩) l l) (W.alloc (.cells (madeCells #[.int .u8 0,.int .i64 0] (l*2)) 92))):=by
  intro W;have hr:=run_make (P:=prog) W 84 92 xw _ underlying84 hi hz .i64 .i64 l l R4 (Int.le_refl _) (by rw [yk];omega) R4;simpa [xh,Value.cells] using hr
 have zf:=ye.out;obtain⟨xx,yf,yn,xm,xj⟩:=info_parts eH;have HI:=hid yf;have HZ:=hid yn;have yc:=hid xm;have ya:=hid xj;have ze:¬(cap:Int) < 1:=by omega
 have zd:¬(40:Int) < (cap:Int):=by omega
 have zc:(0:Int) < (g.n:Int):=by omega
 have yz:0 < g.n:=by omega
 clear hg hck yd xk ys ga gc hl hi hz xh yk yf yn xm xj ye;go_enter func56,ntmps56;go_wp2_with (first | (go_at_call 59;refine (yy.out _ ?_).mono ?_;exact P8;rintro e w2 ⟨rfl,xv⟩;have xq:Below w.heap.size w w2:=(Below.alloc (Below.refl _ _) (L1c _) _).trans (xv.mono R5);have p2:w2.cell? ⟨w.heap.size,0,none⟩=some (.slice g.a g.n g.c):=keep xv R5 Q9;have yb:w.heap.size < w2.heap.size:=by have:=xv.size;simp at this;omega) | (go_at_call 93;refine (yx.out _ xq).mono ?_;rintro e w3 ⟨g',rfl,yg,xo,xl,yh,xf⟩;have xs:Below w.heap.size w w3:=xq.trans (xl.mono xq.size);have p3:=keep xl yb p2;have yj:w.heap.size < w3.heap.size:=L0a yb xl.size;have y1:=keep xs gb x1;have xy:g.b < w3.heap.size:=L0a gb xs.size;have za:=hid xq;have yr:=hid xs;have yi:=hid yg;have xn:=hid xo;have xg:=hid (And.intro yh xf);have xz:=xl.size;rw [yw.out] at p3;clear xq xs yg xo yh xf xv xl p2))
 simp only[Nat.zero_mul,Nat.add_zero] at y1;generalize hqV:(w3.alloc (Obj.cells #[.slice g'.a g'.n g'.c,.int .i64 (cap:Int),.int .i64 0,.slice none 0 0,.slice none 0 0,.slice none 0 0,.slice none 0 0] 69))=V at *
 have v0:V.cell? ⟨w3.heap.size,0,none⟩=some (.slice g'.a g'.n g'.c):=by subst hqV;go_simp
 have v1:V.cell? ⟨w3.heap.size,1,none⟩=some (.int .i64 (cap:Int)):=by subst hqV;go_simp
 have v2:V.cell? ⟨w3.heap.size,2,none⟩=some (.int .i64 0):=by subst hqV;go_simp
 have v3:V.cell? ⟨w3.heap.size,3,none⟩=some (.slice none 0 0):=by subst hqV;go_simp
 have v4:V.cell? ⟨w3.heap.size,4,none⟩=some (.slice none 0 0):=by subst hqV;go_simp
 have v5:V.cell? ⟨w3.heap.size,5,none⟩=some (.slice none 0 0):=by subst hqV;go_simp
 have v6:V.cell? ⟨w3.heap.size,6,none⟩=some (.slice none 0 0):=by subst hqV;go_simp
 have vz:∀j,V.frozen? ⟨w3.heap.size,j,none⟩=false:=by subst hqV;exact fun j=>by go_simp
 have xt:Below w3.heap.size w3 V:=by subst hqV;exact Below.alloc (Below.refl _ _) (L1c _) _
 have t1:=keep xt yj p3;have t2:=keep xt xy y1;have yo:V.heap.size=w3.heap.size+1:=by subst hqV;simp
 have yl:=hid xt;clear xt p3 y1;clear hqV;generalize hmb:w3.heap.size=mb at *
 have yq:=hid yo;have xi:Hid (I7 w3.heap.size w3 g'):=hid (by rw [hmb];exact yi.out);have xr:Hid (Below w3.heap.size w3 V):=hid (by rw [hmb];exact yl.out);have xd:mb < V.heap.size:=by omega
 have yt:w.heap.size < V.heap.size:=by omega
 have yp:g.b < V.heap.size:=by omega
 clear yo;have HC:Hid (∀u,Below V.heap.size V u->u.cell? ⟨w.heap.size,0,none⟩=some (.slice (some ⟨g.b,g.o,none⟩) g.n g.c)/\u.cell? ⟨g.b,g.o+1,none⟩=some (.int .i64 (l:Int))):=hid fun u hu=>⟨keep hu yt t1,keep hu yp t2⟩
 have HV:Hid (Below V.heap.size V V.drew):=Below.drew (Below.refl _ _);have HM:Hid (∀u,Below V.heap.size V u->(u.cell? ⟨mb,0,none⟩=some (.slice g'.a g'.n g'.c)/\u.cell? ⟨mb,1,none⟩=some (.int .i64 (cap:Int))/\u.cell? ⟨mb,2,none⟩=some (.int .i64 0)/\u.cell? ⟨mb,3,none⟩=some (.slice none 0 0)/\u.cell? ⟨mb,4,none⟩=some (.slice none 0 0)/\u.cell? ⟨mb,5,none⟩=some (.slice none 0 0)/\u.cell? ⟨mb,6,none⟩=some (.slice none 0 0))/\∀j,u.frozen? ⟨mb,j,none⟩=false):=hid fun u hu=>⟨⟨keep hu xd v0,keep hu xd v1,keep hu xd v2,keep hu xd v3,keep hu xd v4,keep hu xd v5,keep hu xd v6⟩,fun j=>C2 hu xd (vz j)⟩
 clear v0 v1 v2 v3 v4 v5 v6 vz t1 t2;refine wp_region_held_drew (S:=fun u=>u.cell? ⟨w.heap.size,0,none⟩=some (.slice (some ⟨g.b,g.o,none⟩) g.n g.c)/\u.cell? ⟨g.b,g.o+1,none⟩=some (.int .i64 (l:Int))) Q7 (HC.out _ HV.out) (fun hHeld=>?_)
 refine TW 0 ⟨some 28,.move (.tmp 8),46,"machine.go:33",#[],none⟩ ?_
 refine TW 1 ⟨some 29,.move (.tmp 8),46,"machine.go:33",#[],none⟩ ?_
 refine TW 2 ⟨some 30,.nilCheck (.tmp 29),0,"machine.go:33",#[⟨1,.data⟩],none⟩ ?_
 refine TW 3 ⟨some 31,.fieldAddr 69 (.tmp 30) 4,0,"machine.go:33",#[⟨2,.data⟩],none⟩ ?_
 refine TW 5 ⟨some 33,.fieldAddr 41 (.tmp 2) 0,0,"machine.go:33",#[],none⟩ ?_
 refine TW 6 ⟨some 34,.load 39 (.tmp 33),39,"machine.go:33",#[⟨5,.data⟩],none⟩ ?_
 refine TW 7 ⟨some 35,.indexAddr 39 (.tmp 34) (.const (.int .i64 0)),0,"machine.go:33",#[⟨6,.data⟩],none⟩ ?_
 refine TW 8 ⟨some 36,.fieldAddr 163 (.tmp 35) 1,0,"machine.go:33",#[⟨7,.data⟩],none⟩ ?_
 refine TW 9 ⟨some 37,.load 3 (.tmp 36),3,"machine.go:33",#[⟨8,.data⟩],none⟩ ?_
 clear hHeld;have xu:Hid (Below V.heap.size V (V.alloc (.cells (madeCells #[.int .u8 0,.int .i64 0] (l*2)) 92)).drew):=hid (Below.drew (Below.alloc (Below.refl _ _) (L1c _) _));have xc:Hid (Below V.heap.size V ((V.alloc (.cells (madeCells #[.int .u8 0,.int .i64 0] (l*2)) 92)).alloc (.cells #[.int .i64 0,.int .i64 0,.slice (some ⟨V.heap.size,0,none⟩) l l,.slice none 0 0] 86)).drew):=hid (Below.drew (Below.alloc (Below.alloc (Below.refl _ _) (L1c _) _) R5 _))
 have xb:Hid (∀va vc w4,Below ((V.alloc (.cells (madeCells #[.int .u8 0,.int .i64 0] (l*2)) 92)).alloc (.cells #[.int .i64 0,.int .i64 0,.slice (some ⟨V.heap.size,0,none⟩) l l,.slice none 0 0] 86)).drew.heap.size ((V.alloc (.cells (madeCells #[.int .u8 0,.int .i64 0] (l*2)) 92)).alloc (.cells #[.int .i64 0,.int .i64 0,.slice (some ⟨V.heap.size,0,none⟩) l l,.slice none 0 0] 86)).drew w4->w4.ownsRow V.heap.size 86 4 (.slice va 1 vc) 1 [.int .i64 0,.int .i64 0,.slice (some ⟨V.heap.size,0,none⟩) l l,.slice none 0 0]->(∀b,(Value.slice va 1 vc).ownBlock=some b->b=V.heap.size+2)->gU g cap w (.returned (.tuple #[.pointer (some ⟨mb,0,none⟩),.int .i64 0])) (w4.setCell ⟨mb,4,none⟩ (.slice va 1 vc))):=hid fun va vc w4 b4 o4 a4=>a3k hmb yq.out h0 yj xz (Nat.le_of_lt yb) yv HL.out xi.out xn.out xg.out yr.out xr.out (fun u hu=>HM.out u hu) b4 o4 a4
 clear yi xi xn xg yl xr;refine wpAnyH_ready (rs:=[4,10]) Q7 R5 ?_;refine AllReadyH.cons (o:=a6x) rfl (fun K hK=>?_) ?_
 ·have c4:=(HM.out _ HV.out).1.2.2.2.2.1
  go_simp
  refine TG hK (HC.out _ HV.out) fun hHeld=>?_
  clear hK K;clear hHeld c4;refine TO 10 a6T fun K hK=>?_
  go_simp
  refine TG hK (HC.out _ xu.out) fun hHeld=>?_
  clear hK K;refine TW 11 a6U ?_;clear hHeld;refine TO 12 a6y fun K hK=>?_
  go_simp
  refine TG hK (HC.out _ xc.out) fun hHeld=>?_
  clear hK K;clear hHeld;refine TO 13 a6z fun K hK=>?_
  refine K8 rfl (.tmp 32) (.tmp 40) 66 rfl V.heap.size 86 xx _ 4 64 underlying66 HI.out HZ.out yc.out ya.out rfl R3 (.slice none 0 0) 0 [] Q3 (World.ownsRow_nil _ _ _ _) (some ⟨V.heap.size+1,0,none⟩) 1 1 [.int .i64 0,.int .i64 0,.slice (some ⟨V.heap.size,0,none⟩) l l,.slice none 0 0] Q3 rfl (fun _=>⟨_,rfl,World.news_of_block (cs:=#[.int .i64 0,.int .i64 0,.slice (some ⟨V.heap.size,0,none⟩) l l,.slice none 0 0]) (t:=86) (fr:=(0,0)) (B1 R5)⟩) (by intro u hu;simp at hu;rcases hu with rfl | rfl | rfl <;> rfl) Q5 R4 Q1 ?_
  intro v4 w4 hown4 hgrow4 hat4;obtain⟨va,vc,xp,_⟩:=B4 hown4;subst xp;have xe:Below ((V.alloc (.cells (madeCells #[.int .u8 0,.int .i64 0] (l*2)) 92)).alloc (.cells #[.int .i64 0,.int .i64 0,.slice (some ⟨V.heap.size,0,none⟩) l l,.slice none 0 0] 86)).drew.heap.size ((V.alloc (.cells (madeCells #[.int .u8 0,.int .i64 0] (l*2)) 92)).alloc (.cells #[.int .i64 0,.int .i64 0,.slice (some ⟨V.heap.size,0,none⟩) l l,.slice none 0 0] 86)).drew w4:=⟨hgrow4.os,hgrow4.tape,hgrow4.output,hgrow4.size,fun k hk=>hgrow4.block k hk (by simp [Value.ownBlock])⟩
  have xa:Hid (Below V.heap.size V w4):=hid (xc.out.trans (xe.mono xc.out.size));have HS:=hid (xb.out va vc w4 xe hown4 (fun b hb=>by
   rcases hat4 b hb with e | e
   ·cases e
   ·rw [e];simp))
  clear hown4 hgrow4 hat4 xe
  dsimp only
  refine TG hK (HC.out _ xa.out) fun hHeld=>?_
  clear hK K;refine TW 14 a6A ?_;refine TW 15 a6B ?_;clear hHeld;have c4:=(HM.out _ xa.out).1.2.2.2.2.1;have z4:=(HM.out _ xa.out).2 4;obtain⟨s1,s2⟩:=HC.out _ xa.out;have ym:mb < w4.heap.size:=L0a xd xa.out.size;refine TO 16 a6C fun K hK=>?_
  go_simp
  have hS:(w4.setCell ⟨mb,4,none⟩ (.slice va 1 vc)).cell? ⟨w.heap.size,0,none⟩=some (.slice (some ⟨g.b,g.o,none⟩) g.n g.c)/\(w4.setCell ⟨mb,4,none⟩ (.slice va 1 vc)).cell? ⟨g.b,g.o+1,none⟩=some (.int .i64 (l:Int)):=⟨(L0b (a:=⟨w.heap.size,0,none⟩) (Below.heap_setCell _ _ _ _ (by show w.heap.size≠mb;omega))).trans s1,(L0b (a:=⟨g.b,g.o+1,none⟩) (Below.heap_setCell _ _ _ _ (by show g.b≠mb;omega))).trans s2⟩
  refine hK.out _ _ hS (fun hHeld=>?_);clear hK K hHeld hS;refine wpAnyH_done Q7 ?_ _;generalize (w4.setCell ⟨mb,4,none⟩ (.slice va 1 vc))=Y at *
  clear c4 s1 s2 z4 HC HM xb;go_wp2_with fail;go_ret2;exact HS.out
 refine AllReadyH.cons (o:=a6T) rfl (fun K hK=>?_) ?_
 ·go_simp
  refine TG hK (HC.out _ xu.out) fun hHeld=>?_
  clear hK K;refine TW 11 a6U ?_;clear hHeld;refine wpAnyH_ready (rs:=[4,12]) Q7 R5 ?_;refine AllReadyH.cons (o:=a6x) rfl (fun K hK=>?_) ?_
  ·have c4:=(HM.out _ xu.out).1.2.2.2.2.1
   go_simp
   refine TG hK (HC.out _ xu.out) fun hHeld=>?_
   clear hK K;clear hHeld c4;refine TO 12 a6y fun K hK=>?_
   go_simp
   refine TG hK (HC.out _ xc.out) fun hHeld=>?_
   clear hK K;clear hHeld;refine TO 13 a6z fun K hK=>?_
   refine K8 rfl (.tmp 32) (.tmp 40) 66 rfl V.heap.size 86 xx _ 4 64 underlying66 HI.out HZ.out yc.out ya.out rfl R3 (.slice none 0 0) 0 [] Q3 (World.ownsRow_nil _ _ _ _) (some ⟨V.heap.size+1,0,none⟩) 1 1 [.int .i64 0,.int .i64 0,.slice (some ⟨V.heap.size,0,none⟩) l l,.slice none 0 0] Q3 rfl (fun _=>⟨_,rfl,World.news_of_block (cs:=#[.int .i64 0,.int .i64 0,.slice (some ⟨V.heap.size,0,none⟩) l l,.slice none 0 0]) (t:=86) (fr:=(0,0)) (B1 R5)⟩) (by intro u hu;simp at hu;rcases hu with rfl | rfl | rfl <;> rfl) Q5 R4 Q1 ?_
   intro v4 w4 hown4 hgrow4 hat4;obtain⟨va,vc,xp,_⟩:=B4 hown4;subst xp;have xe:Below ((V.alloc (.cells (madeCells #[.int .u8 0,.int .i64 0] (l*2)) 92)).alloc (.cells #[.int .i64 0,.int .i64 0,.slice (some ⟨V.heap.size,0,none⟩) l l,.slice none 0 0] 86)).drew.heap.size ((V.alloc (.cells (madeCells #[.int .u8 0,.int .i64 0] (l*2)) 92)).alloc (.cells #[.int .i64 0,.int .i64 0,.slice (some ⟨V.heap.size,0,none⟩) l l,.slice none 0 0] 86)).drew w4:=⟨hgrow4.os,hgrow4.tape,hgrow4.output,hgrow4.size,fun k hk=>hgrow4.block k hk (by simp [Value.ownBlock])⟩
   have xa:Hid (Below V.heap.size V w4):=hid (xc.out.trans (xe.mono xc.out.size));have HS:=hid (xb.out va vc w4 xe hown4 (fun b hb=>by
    rcases hat4 b hb with e | e
    ·cases e
    ·rw [e];simp))
   clear hown4 hgrow4 hat4 xe
   dsimp only
   refine TG hK (HC.out _ xa.out) fun hHeld=>?_
   clear hK K;refine TW 14 a6A ?_;refine TW 15 a6B ?_;clear hHeld;have c4:=(HM.out _ xa.out).1.2.2.2.2.1;have z4:=(HM.out _ xa.out).2 4;obtain⟨s1,s2⟩:=HC.out _ xa.out;have ym:mb < w4.heap.size:=L0a xd xa.out.size;refine TO 16 a6C fun K hK=>?_
   go_simp
   have hS:(w4.setCell ⟨mb,4,none⟩ (.slice va 1 vc)).cell? ⟨w.heap.size,0,none⟩=some (.slice (some ⟨g.b,g.o,none⟩) g.n g.c)/\(w4.setCell ⟨mb,4,none⟩ (.slice va 1 vc)).cell? ⟨g.b,g.o+1,none⟩=some (.int .i64 (l:Int)):=⟨(L0b (a:=⟨w.heap.size,0,none⟩) (Below.heap_setCell _ _ _ _ (by show w.heap.size≠mb;omega))).trans s1,(L0b (a:=⟨g.b,g.o+1,none⟩) (Below.heap_setCell _ _ _ _ (by show g.b≠mb;omega))).trans s2⟩
   refine hK.out _ _ hS (fun hHeld=>?_);clear hK K hHeld hS;refine wpAnyH_done Q7 ?_ _;generalize (w4.setCell ⟨mb,4,none⟩ (.slice va 1 vc))=Y at *
   clear c4 s1 s2 z4 HC HM xb;go_wp2_with fail;go_ret2;exact HS.out
  refine AllReadyH.cons (o:=a6y) rfl (fun K hK=>?_) ?_
  ·go_simp
   refine TG hK (HC.out _ xc.out) fun hHeld=>?_
   clear hK K;clear hHeld;refine TO 4 a6x fun K hK=>?_
   have c4:=(HM.out _ xc.out).1.2.2.2.2.1;go_simp
   refine TG hK (HC.out _ xc.out) fun hHeld=>?_
   clear hK K;clear hHeld c4;refine TO 13 a6z fun K hK=>?_
   refine K8 rfl (.tmp 32) (.tmp 40) 66 rfl V.heap.size 86 xx _ 4 64 underlying66 HI.out HZ.out yc.out ya.out rfl R3 (.slice none 0 0) 0 [] Q3 (World.ownsRow_nil _ _ _ _) (some ⟨V.heap.size+1,0,none⟩) 1 1 [.int .i64 0,.int .i64 0,.slice (some ⟨V.heap.size,0,none⟩) l l,.slice none 0 0] Q3 rfl (fun _=>⟨_,rfl,World.news_of_block (cs:=#[.int .i64 0,.int .i64 0,.slice (some ⟨V.heap.size,0,none⟩) l l,.slice none 0 0]) (t:=86) (fr:=(0,0)) (B1 R5)⟩) (by intro u hu;simp at hu;rcases hu with rfl | rfl | rfl <;> rfl) Q5 R4 Q1 ?_
   intro v4 w4 hown4 hgrow4 hat4;obtain⟨va,vc,xp,_⟩:=B4 hown4;subst xp;have xe:Below ((V.alloc (.cells (madeCells #[.int .u8 0,.int .i64 0] (l*2)) 92)).alloc (.cells #[.int .i64 0,.int .i64 0,.slice (some ⟨V.heap.size,0,none⟩) l l,.slice none 0 0] 86)).drew.heap.size ((V.alloc (.cells (madeCells #[.int .u8 0,.int .i64 0] (l*2)) 92)).alloc (.cells #[.int .i64 0,.int .i64 0,.slice (some ⟨V.heap.size,0,none⟩) l l,.slice none 0 0] 86)).drew w4:=⟨hgrow4.os,hgrow4.tape,hgrow4.output,hgrow4.size,fun k hk=>hgrow4.block k hk (by simp [Value.ownBlock])⟩
   have xa:Hid (Below V.heap.size V w4):=hid (xc.out.trans (xe.mono xc.out.size));have HS:=hid (xb.out va vc w4 xe hown4 (fun b hb=>by
    rcases hat4 b hb with e | e
    ·cases e
    ·rw [e];simp))
   clear hown4 hgrow4 hat4 xe
   dsimp only
   refine TG hK (HC.out _ xa.out) fun hHeld=>?_
   clear hK K;refine TW 14 a6A ?_;refine TW 15 a6B ?_;clear hHeld;have c4:=(HM.out _ xa.out).1.2.2.2.2.1;have z4:=(HM.out _ xa.out).2 4;obtain⟨s1,s2⟩:=HC.out _ xa.out;have ym:mb < w4.heap.size:=L0a xd xa.out.size;refine TO 16 a6C fun K hK=>?_
   go_simp
   have hS:(w4.setCell ⟨mb,4,none⟩ (.slice va 1 vc)).cell? ⟨w.heap.size,0,none⟩=some (.slice (some ⟨g.b,g.o,none⟩) g.n g.c)/\(w4.setCell ⟨mb,4,none⟩ (.slice va 1 vc)).cell? ⟨g.b,g.o+1,none⟩=some (.int .i64 (l:Int)):=⟨(L0b (a:=⟨w.heap.size,0,none⟩) (Below.heap_setCell _ _ _ _ (by show w.heap.size≠mb;omega))).trans s1,(L0b (a:=⟨g.b,g.o+1,none⟩) (Below.heap_setCell _ _ _ _ (by show g.b≠mb;omega))).trans s2⟩
   refine hK.out _ _ hS (fun hHeld=>?_);clear hK K hHeld hS;refine wpAnyH_done Q7 ?_ _;generalize (w4.setCell ⟨mb,4,none⟩ (.slice va 1 vc))=Y at *
   clear c4 s1 s2 z4 HC HM xb;go_wp2_with fail;go_ret2;exact HS.out
  exact AllReadyH.nil
 exact AllReadyH.nil
def gR (g:PgR) (cap:Nat) (w:World) (e:Ending) (w':World):Prop :=
 ∃own mb g' R,e=.returned (.tuple #[.pointer (some ⟨mb,0,none⟩),.int .i64 0])/\A4 w' own mb g' R/\rM g cap R/\Y6 g g'/\Below w.heap.size w w'/\(∀k t,own k=some t->w.heap.size<=k)/\∀k,g'.blk k->w.heap.size<=k
theorem uW (g:PgR) (w:World) (hg:I7 w.heap.size w g) (ht:Tab w) (hck:I8 g 0 0) (cap:Nat) (h1:1<=cap) (h40:cap<=40) :
  Calls prog 92 #[.agg #[.slice g.a g.n g.c],.int .i64 (cap:Int)] w fun e w'=>gR g cap w e w':=by
 have yy:A9 (cap:Int) 1 40=true:=I6 R4 R4;have yx:Hid (∀W,Below w.heap.size w W->Calls prog 95 #[.agg #[.slice g.a g.n g.c]] W fun e w'=>e=.returned (.tuple #[.int .i64 0,.int .i64 0])/\Below W.heap.size W w'):=by
  intro W hW;refine (oJ g W (hg.held hW.size fun k hk=>hW.block k (hg.blk_lt hk)) (ht.held hW.size (hW.block 0 ht.1))).mono ?_;rintro e w' ⟨x,a,rfl,hx,hb⟩;obtain⟨rfl,rfl⟩:=hx.unique hck;exact⟨rfl,hb⟩
 have HG:=hid hg;have HT:=hid ht;have HC:=hid hck;clear hg ht hck;go_enter func92,ntmps92;go_wp2_with (first | (go_at_call 95;refine (yx.out _ ?_).mono ?_;exact P8;rintro e w2 ⟨rfl,xv⟩;obtain ⟨yv,ys⟩:=X9 xv) | (go_at_call 116;refine (B3 _ _ _ _).mono ?_;rintro e w' ⟨rfl,hw⟩;rw [hw];clear hw w'))
 have xg:Below w.heap.size w w2:=A6 xv (Below.alloc (Below.refl _ _) (L1c _) _);have yc:I7 w2.heap.size w2 g:=HG.out.held xg.size fun k hk=>xg.block k (HG.out.blk_lt hk)
 have ye:Tab w2:=HT.out.held xg.size (xg.block 0 HT.out.1);obtain⟨yw,yu,xz⟩:T9 g:=by
  rcases HC.out with ⟨_,h⟩ | ⟨h,_⟩
  ·cases h
  ·exact h.all.1
 have xe:∀j,j < g.n->1<=(g.f j).n/\(g.f j).n<=60:=fun j hj=>by have:=eM (xz j hj);omega
 have xt:=eM (xz 0 R4);have za:=hid xe;have yh:=hid xt;refine (kM g w2 yc yw yu xe).mono ?_;clear yv ys xv yc xz xe xt;rintro e w3 ⟨g',rfl,yg,xn,yk,yj,xc⟩;have xk:=hid yg;have xm:=hid xn;have xs:=hid yk;have xp:=hid yj;have xd:=hid xc;have xl:=hid xg;have xw:=hid ye;clear yg xn yk yj xc xg ye;go_wp2_with fail;refine (tG cap w3 h40).mono ?_
 rintro e w4 ⟨hb,rfl,xj,yi⟩;have xf:=hid xj;have xr:=hid yi;clear xj yi;have xb:Below w2.heap.size w2 w4:=xs.out.trans (xr.out.mono xs.out.size);have xq:I7 w4.heap.size w4 g':=xk.out.held xr.out.size fun k hk=>xr.out.block k (xk.out.blk_lt hk)
 have ya:Tab w4:=xw.out.held xb.size (xb.block 0 xw.out.1);have xu:w3.heap.size<=hb:=by
  rcases xf.out.2 with ⟨h0,_⟩ | ⟨_,_,_,hv,h1,_⟩
  ·cases h0
  ·cases hv;exact h1
 have xa:=qI xq ya xf.out (fun k hk=>by have:=xk.out.blk_lt hk;omega) (by have:=xk.out.blk_lt (k:=g'.b) (Or.inl ⟨by rw [xp.out];omega,rfl⟩);omega);have yb:Below w.heap.size w (w4.alloc (Obj.cells #[.slice g'.a g'.n g'.c,.int .i64 0,.slice none 0 0,.slice none 0 0,.slice (some ⟨hb,0,none⟩) cap cap,.slice none 0 0] 107)):=Below.alloc (xl.out.trans (xb.mono xl.out.size)) (Nat.le_trans xl.out.size xb.size) _
 have xi:∀k t,O6 w4.heap.size hb k=some t->w.heap.size<=k:=fun k t hk=>by
  have:=xl.out.size;have:=xs.out.size;have:=xr.out.size;unfold O6 at hk;split at hk
  ·omega
  ·split at hk
   ·omega
   ·cases hk
 have yf:=xd.out 0 R4;obtain⟨ga,yz,xo⟩:=xa.pg.2.1 (by rw [xp.out];omega);obtain⟨q0,q1,q2⟩:=xo 0 (by rw [xp.out];omega);have m0:=xa.c0.trans (show _=some (Value.slice (some ⟨g'.b,g'.o,none⟩) g'.n g'.c) by rw [ga]);simp only[Nat.zero_mul,Nat.add_zero] at q0 q1 q2;have yr:w4.heap.size < (w4.alloc (Obj.cells #[.slice g'.a g'.n g'.c,.int .i64 0,.slice none 0 0,.slice none 0 0,.slice (some ⟨hb,0,none⟩) cap cap,.slice none 0 0] 107)).heap.size:=by simp
 have HM:=hid xa;have xy:=hid yb;have xh:=hid xi;have HS:=hid yf;have yn:0 < g'.n:=by rw [xp.out];omega
 have yo:Hid (∀k,g'.blk k->w.heap.size<=k):=fun k hk=>Nat.le_trans xl.out.size (xm.out k hk)
 clear xb xq ya xu xa yb xi yf ga xo xr xf xk xs xm xw;go_wp2_with fail;generalize (w4.alloc (Obj.cells #[.slice g'.a g'.n g'.c,.int .i64 0,.slice none 0 0,.slice none 0 0,.slice (some ⟨hb,0,none⟩) cap cap,.slice none 0 0] 107))=V at *
 obtain⟨l,hl⟩:=Int.eq_ofNat_of_zero_le (show 0<=(g'.f 0).l by have:=yh.out;rw [HS.out.2.1];omega);rw[hl] at q1;have xt:l<=8:=by have:=yh.out;have:=HS.out.2.1;omega
 have HL:=hid hl;clear hl;generalize w4.heap.size=mb at *
 have yp:Hid (∀U,A4 U (O6 mb hb) mb g' ⟨0,.slice none 0 0,[],.slice none 0 0,[],.slice (some ⟨hb,0,none⟩) cap cap,List.replicate cap K5,.slice none 0 0,[]⟩->Calls prog 130 #[.pointer (some ⟨mb,3,none⟩),.int .i64 0,.agg #[.int .i64 (g'.f 0).p,.int .i64 (l:Int),.slice (g'.f 0).a (g'.f 0).n (g'.f 0).c],.slice none 0 0] U fun e w'=>yQ (O6 mb hb) mb g' ⟨0,.slice none 0 0,[],.slice none 0 0,[],.slice (some ⟨hb,0,none⟩) cap cap,List.replicate cap K5,.slice none 0 0,[]⟩ 0 (List.replicate l (0,0)) U e w') :=
  fun U hU=>a0u hU 0 l (g'.f 0).p (g'.f 0).a (g'.f 0).n (g'.f 0).c xt R5
 go_region_with (first | (go_at_call 130;refine (yp.out _ ?_).mono ?_;exact HM.out.same (L1c _) fun _ _=>rfl;rintro e w6 ⟨xx,cv,lv,rfl,yd,ym⟩;have yt:=hid yd;have yl:=hid ym;clear yd ym))
 all_goals
  go_wp2_with fail;go_ret2;have yq:Below w.heap.size w w6:=(Below.drew xy.out).trans (yl.out.below xy.out.size fun k hk=>by
   cases e:O6 mb hb k with
   | none=>rfl
   | some t=>have:=xh.out k t e;omega)
  exact⟨xx,mb,g',_,rfl,yt.out,⟨rfl,rfl,⟨lv,by rw [<- HS.out.2.1,HL.out];rfl⟩,rfl,rfl,rfl⟩,⟨xp.out,xd.out⟩,yq,fun k t hk=>by
   rcases Nat.lt_or_ge k V.heap.size with hl | hl
   ·rw [yl.out.old k hl] at hk;exact xh.out k t hk
   ·exact Nat.le_trans xy.out.size hl,yo.out⟩
theorem a1V (g:PgR) (w:World) (hg:I7 w.heap.size w g) (ht:Tab w) (hck:I8 g 0 0) (cap:Nat) (h1:1<=cap) (h40:cap<=40) :
  Calls prog 55 #[.agg #[.slice g.a g.n g.c],.int .i64 (cap:Int)] w fun e w'=>gR g cap w e w':=by
 have HB:Hid (∀W,Below w.heap.size w W->Calls prog 92 #[.agg #[.slice g.a g.n g.c],.int .i64 (cap:Int)] W fun e w'=>gR g cap W e w'):=by
  intro W hW;exact uW g W (hg.held hW.size fun k hk=>hW.block k (hg.blk_lt hk)) (ht.held hW.size (hW.block 0 ht.1)) hck cap h1 h40
 clear hg ht hck;go_enter func55,ntmps55;go_wp2_with (go_at_call 92;refine (HB.out _ ?_).mono ?_;exact P8;rintro e w2 ⟨own,mb,g',R,rfl,hm,xd,xa,hb,xb,xc⟩)
 go_ret2;have hW:Below w.heap.size w (w.alloc (Obj.cells #[.slice g.a g.n g.c] 41)):=Below.alloc (Below.refl _ _) (L1c _) _;exact⟨own,mb,g',R,rfl,hm,xd,xa,A6 hb hW,fun k t hk=>Nat.le_trans hW.size (xb k t hk),fun k hk=>Nat.le_trans hW.size (xc k hk)⟩
def kZ (g:PgR) (cap:Int) (x:Int):Prop:=(∃a,I8 g x a/\x≠0)\/((I8 g 0 0)/\¬(1<=cap/\cap<=40)/\x=4)
theorem a0L (g:PgR) (cap:Int) {x a:Int} (h:I8 g x a):(∃x,kZ g cap x)\/(I8 g 0 0/\1<=cap/\cap<=40):=by
 by_cases h0:x=0
 ·have xa:I8 g 0 0:=by
   subst h0;rcases h with ⟨_,h⟩ | ⟨h1,⟨_,h⟩ | ⟨h2,⟨_,h⟩ | ⟨h3,h4,h5⟩⟩⟩
   ·cases h
   ·cases h
   ·cases h
   ·exact Or.inr ⟨h1,Or.inr ⟨h2,Or.inr ⟨h3,rfl,rfl⟩⟩⟩
  by_cases hc:1<=cap/\cap<=40
  ·exact Or.inr ⟨xa,hc⟩
  ·exact Or.inl ⟨4,Or.inr ⟨xa,hc,rfl⟩⟩
 ·exact Or.inl ⟨x,Or.inl ⟨a,h,h0⟩⟩
theorem a0c (g:PgR) (w:World) (hg:I7 w.heap.size w g) (ht:Tab w) (cap x:Int) (hx:kZ g cap x) :
  Calls prog 92 #[.agg #[.slice g.a g.n g.c],.int .i64 cap] w fun e w'=>e=.returned (.tuple #[.pointer none,.int .i64 x])/\Below w.heap.size w w':=by
 have xe:Hid (∀W,Below w.heap.size w W->Calls prog 95 #[.agg #[.slice g.a g.n g.c]] W fun e w'=>eO g W e w'):=by
  intro W hW;exact oJ g W (hg.held hW.size fun k hk=>hW.block k (hg.blk_lt hk)) (ht.held hW.size (hW.block 0 ht.1))
 clear hg ht;rcases hx with ⟨a,xb,h0⟩ | ⟨xb,hc,rfl⟩
 ·have HC:=hid xb
  have xg:(x == 0)=false:=L2c.2 h0;clear xb;go_enter func92,ntmps92;go_wp2_with (go_at_call 95;refine (xe.out _ ?_).mono ?_;exact P8;rintro e w2 ⟨x',a',rfl,xc,xa⟩;obtain ⟨rfl,rfl⟩:=xc.unique HC.out;have xd:=hid xa;clear xc xa)
  go_ret2;exact⟨rfl,A6 xd.out (Below.alloc (Below.refl _ _) (L1c _) _)⟩
 ·have HC:=hid xb
  have xf:A9 cap 1 40=false:=Z1 hc;clear xb hc;go_enter func92,ntmps92;go_wp2_with (first | (go_at_call 95;refine (xe.out _ ?_).mono ?_;exact P8;rintro e w2 ⟨x',a',rfl,xc,xa⟩;obtain ⟨rfl,rfl⟩:=xc.unique HC.out;have xd:=hid xa;clear xc xa) | (go_at_call 116;refine (B3 _ _ _ _).mono ?_;rintro e w' ⟨rfl,hw⟩;rw [hw,xf];clear hw w'))
  go_ret2;exact⟨rfl,A6 xd.out (Below.alloc (Below.refl _ _) (L1c _) _)⟩
theorem a4n (g:PgR) (w:World) (hg:I7 w.heap.size w g) (ht:Tab w) (cap x:Int) (hx:kZ g cap x) :
  Calls prog 55 #[.agg #[.slice g.a g.n g.c],.int .i64 cap] w fun e w'=>e=.returned (.tuple #[.pointer none,.int .i64 x])/\Below w.heap.size w w':=by
 have HB:Hid (∀W,Below w.heap.size w W->Calls prog 92 #[.agg #[.slice g.a g.n g.c],.int .i64 cap] W fun e w'=>e=.returned (.tuple #[.pointer none,.int .i64 x])/\Below W.heap.size W w'):=by
  intro W hW;exact a0c g W (hg.held hW.size fun k hk=>hW.block k (hg.blk_lt hk)) (ht.held hW.size (hW.block 0 ht.1)) cap x hx
 clear hg ht hx;go_enter func55,ntmps55;go_wp2_with (go_at_call 92;refine (HB.out _ ?_).mono ?_;exact P8;rintro e w2 ⟨rfl,xa⟩;have xb:=hid xa;clear xa)
 go_ret2;exact⟨rfl,A6 xb.out (Below.alloc (Below.refl _ _) (L1c _) _)⟩
theorem a3j (g:PgR) (w:World) (hg:I7 w.heap.size w g) (cap x:Int) (hx:kZ g cap x) :
  Calls prog 56 #[.agg #[.slice g.a g.n g.c],.int .i64 cap] w fun e w'=>e=.returned (.tuple #[.pointer none,.int .i64 x])/\Below w.heap.size w w':=by
 have xe:Hid (∀W,Below w.heap.size w W->Calls prog 59 #[.agg #[.slice g.a g.n g.c]] W fun e w'=>∃x a,e=.returned (.tuple #[.int .i64 x,.int .i64 a])/\I8 g x a/\Below W.heap.size W w'):=by
  intro W hW;exact dF g W (hg.held hW.size fun k hk=>hW.block k (hg.blk_lt hk))
 clear hg;rcases hx with ⟨a,xc,h0⟩ | ⟨xc,hc,rfl⟩
 ·have HC:=hid xc
  have xg:(x == 0)=false:=L2c.2 h0;clear xc;go_enter func56,ntmps56;go_wp2_with (go_at_call 59;refine (xe.out _ ?_).mono ?_;exact P8;rintro e w2 ⟨x',a',rfl,xb,xa⟩;obtain ⟨rfl,rfl⟩:=xb.unique HC.out;have xd:=hid xa;clear xb xa)
  go_ret2;exact⟨rfl,A6 xd.out (Below.alloc (Below.refl _ _) (L1c _) _)⟩
 ·have HC:=hid xc
  clear xc;by_cases hlo:cap < 1
  ·clear hc
   go_enter func56,ntmps56;go_wp2_with (go_at_call 59;refine (xe.out _ ?_).mono ?_;exact P8;rintro e w2 ⟨x',a',rfl,xb,xa⟩;obtain ⟨rfl,rfl⟩:=xb.unique HC.out;have xd:=hid xa;clear xb xa)
   go_ret2;exact⟨rfl,A6 xd.out (Below.alloc (Below.refl _ _) (L1c _) _)⟩
  ·have xf:40 < cap:=by omega
   clear hc;go_enter func56,ntmps56;go_wp2_with (go_at_call 59;refine (xe.out _ ?_).mono ?_;exact P8;rintro e w2 ⟨x',a',rfl,xb,xa⟩;obtain ⟨rfl,rfl⟩:=xb.unique HC.out;have xd:=hid xa;clear xb xa)
   go_ret2;exact⟨rfl,A6 xd.out (Below.alloc (Below.refl _ _) (L1c _) _)⟩
end Go.Proofs.YtbkmgoffiigdbaaGreatDoor
