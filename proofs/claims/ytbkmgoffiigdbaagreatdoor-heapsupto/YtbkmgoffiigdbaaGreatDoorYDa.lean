import Derived.Test.YtbkmgoffiigdbaaGreatDoorYDc
import Derived.Test.YtbkmgoffiigdbaaGreatDoorWCj
namespace Go.Proofs.YtbkmgoffiigdbaaGreatDoor
open Go.RowKit Go.Sort Go.Proofs.Tryz
set_option maxHeartbeats 4000000
set_option maxRecDepth 100000
abbrev a6B : Oper := ⟨some 32,.load 66 (.tmp 31),66,"machine.go:33",#[⟨3,.data⟩],none⟩
abbrev a6W : Oper := ⟨some 38,.makeSlice 84 (.tmp 37) (.tmp 37),84,"machine.go:33",#[⟨9,.data⟩,⟨9,.data⟩],none⟩
abbrev a6X : Oper := ⟨some 39,.build 86 #[(2,.tmp 38)],86,"machine.go:33",#[⟨10,.data⟩],none⟩
abbrev a6C : Oper := ⟨some 40,.buildSlice 66 1 #[(0,.tmp 39)],66,"machine.go:33",#[⟨11,.data⟩],none⟩
abbrev a6D : Oper := ⟨some 41,.call ⟨.builtin .append,#[.tmp 32,.tmp 40],#[66,66]⟩,66,"machine.go:33",#[⟨4,.data⟩,⟨12,.data⟩],none⟩
abbrev a6E : Oper := ⟨some 42,.nilCheck (.tmp 28),0,"machine.go:33",#[⟨0,.data⟩,⟨0,.phase⟩,⟨1,.phase⟩,⟨2,.phase⟩,⟨3,.phase⟩,⟨4,.phase⟩,⟨5,.phase⟩,⟨6,.phase⟩,⟨7,.phase⟩,⟨8,.phase⟩,⟨9,.phase⟩,⟨10,.phase⟩,⟨11,.phase⟩,⟨12,.phase⟩,⟨13,.phase⟩],none⟩
abbrev a6F : Oper := ⟨some 43,.fieldAddr 69 (.tmp 42) 4,0,"machine.go:33",#[⟨14,.data⟩,⟨0,.phase⟩,⟨1,.phase⟩,⟨2,.phase⟩,⟨3,.phase⟩,⟨4,.phase⟩,⟨5,.phase⟩,⟨6,.phase⟩,⟨7,.phase⟩,⟨8,.phase⟩,⟨9,.phase⟩,⟨10,.phase⟩,⟨11,.phase⟩,⟨12,.phase⟩,⟨13,.phase⟩],none⟩
abbrev a6G : Oper := ⟨none,.store 66 (.tmp 43) (.tmp 41),0,"machine.go:33",#[⟨15,.data⟩,⟨13,.data⟩,⟨13,.chain⟩,⟨0,.phase⟩,⟨1,.phase⟩,⟨2,.phase⟩,⟨3,.phase⟩,⟨4,.phase⟩,⟨5,.phase⟩,⟨6,.phase⟩,⟨7,.phase⟩,⟨8,.phase⟩,⟨9,.phase⟩,⟨10,.phase⟩,⟨11,.phase⟩,⟨12,.phase⟩,⟨13,.phase⟩],none⟩
def gE (cap:Nat) (cv lv:Value) (l:Nat):RfR:=⟨cap,0,.slice none 0 0,[],cv,[⟨0,0,lv,.slice none 0 0,List.replicate l (0,0),[]⟩],.slice none 0 0,[],none,0,[]⟩
def bU (mb:Nat) (cv lv:Value):Own:=fun k=>if k=mb then some .mach else if cv.ownBlock=some k then some .called else if lv.ownBlock=some k then some (.loc 0) else none
theorem a4K {F:World} {mb cap l:Nat} {g:PgR} {cv lv:Value} (hmb:mb < F.heap.size) (hmb0:mb≠0)
  (c0:F.cell? ⟨mb,0,none⟩=some (.slice g.a g.n g.c)) (c1:F.cell? ⟨mb,1,none⟩=some (.int .i64 (cap:Int))) (c2:F.cell? ⟨mb,2,none⟩=some (.int .i64 0)) (c3:F.cell? ⟨mb,3,none⟩=some (.slice none 0 0)) (c4:F.cell? ⟨mb,4,none⟩=some cv) (c5:F.cell? ⟨mb,5,none⟩=some (.slice none 0 0)) (c6:F.cell? ⟨mb,6,none⟩=some (.slice none 0 0))
  (fz:∀j,F.frozen? ⟨mb,j,none⟩=false) (hcv:F.ownsRow 0 86 4 cv 1 [.int .i64 0,.int .i64 0,lv,.slice none 0 0]) (hlv:F.ownsRow 0 92 2 lv l (A5 (List.replicate l (0,0)))) (hpg:I5 F.heap.size F g)
  (hc:∀b,cv.ownBlock=some b->b≠mb/\b≠0/\¬g.blk b) (hl:∀b,lv.ownBlock=some b->b≠mb/\b≠0/\¬g.blk b/\cv.ownBlock≠some b) (hg:¬g.blk mb):A8 F (bU mb cv lv) mb g (gE cap cv lv l):=by
 have oc:∀b,cv.ownBlock=some b->bU mb cv lv b=some .called:=fun b hb=>by unfold bU;rw [if_neg (hc b hb).1,if_pos hb]
 have ol:∀b,lv.ownBlock=some b->bU mb cv lv b=some (.loc 0):=fun b hb=>by unfold bU;rw [if_neg (hl b hb).1,if_neg (hl b hb).2.2.2,if_pos hb]
 have no:∀k,k≠mb->cv.ownBlock≠some k->lv.ownBlock≠some k->bU mb cv lv k=none:=fun k h1 h2 h3=>by unfold bU;rw [if_neg h1,if_neg h2,if_neg h3]
 refine⟨fun k t e=>?_,if_pos rfl,c0,c1,c2,c3,c4,c5,c6,fz,⟨World.ownsRow_nil _ _ _ _,fun b hb=>by cases hb⟩,⟨hcv,oc⟩,⟨World.ownsRow_nil _ _ _ _,fun b hb=>by cases hb⟩,fun i f hf=>?_,fun i f hf=>?_,fun j o ho=>by simp [gE] at ho,hpg,fun k hk=>?_,?_,L1c _,fun h0=>by simp [gE] at h0,fun b o e=>by cases e⟩
 ·unfold bU at e
  split at e
  ·rename_i h;rw [h];exact hmb
  ·split at e
   ·rename_i h;exact (hcv.lt k h).2
   ·split at e
    ·rename_i h;exact (hlv.lt k h).2
    ·cases e
 ·have hi:i=0:=by
   have:=(L1a.1 hf).1;simp[gE] at this;exact this
  subst hi;have:f=⟨0,0,lv,.slice none 0 0,List.replicate l (0,0),[]⟩:=by simpa [gE] using hf.symm
  subst this;refine⟨?_,ol⟩;show F.ownsRow 0 92 2 lv (List.replicate l ((0,0):Val)).length _;rw[List.length_replicate];exact hlv
 ·have hi:i=0:=by
   have:=(L1a.1 hf).1;simp[gE] at this;exact this
  subst hi;have:f=⟨0,0,lv,.slice none 0 0,List.replicate l (0,0),[]⟩:=by simpa [gE] using hf.symm
  subst this;exact⟨World.ownsRow_nil _ _ _ _,fun b hb=>by cases hb⟩
 ·exact no k (fun e=>hg (e▸hk)) (fun e=>(hc k e).2.2 hk) (fun e=>(hl k e).2.2.1 hk)
 ·exact no 0 (fun e=>hmb0 e.symm) (fun e=>(hc 0 e).2.1 rfl) (fun e=>(hl 0 e).2.1 rfl)
def gT (g:PgR) (cap:Nat) (w:World) (e:Ending) (w':World):Prop :=
 ∃own mb g' cv lv,e=.returned (.tuple #[.pointer (some ⟨mb,0,none⟩),.int .i64 0])/\A8 w' own mb g' (gE cap cv lv (g.f 0).l.toNat)/\Z9 g g'/\L0d w w'/\(∀k t,own k=some t->w.heap.size<=k)/\∀k,g'.blk k->w.heap.size<=k
theorem a3n {g g':PgR} {w w2 w3 V w4:World} {mb cap l:Nat} {va:Option Addr} {vc:Nat} (hmb:w3.heap.size=mb) (hVs:V.heap.size=mb+1) (h0:0 < w.heap.size) (hs3:w.heap.size < mb) (_hs23:w2.heap.size<=mb) (hs2w:w.heap.size<=w2.heap.size) (hl':l<=8) (hl:(g.f 0).l=(l:Int)) (hpg:I5 w3.heap.size w3 g') (hblk:∀k,g'.blk k->w2.heap.size<=k) (hsame:g'.n=g.n/\∀j,j < g.n->(g'.f j).p=(g.f j).p/\(g'.f j).l=(g.f j).l/\(g'.f j).n=(g.f j).n/\(g'.f j).op=(g.f j).op/\(g'.f j).ar=(g.f j).ar) (hB3:L0d w w3) (hBV:L0d w3 V)
  (hM:∀u,L0d V u->(u.cell? ⟨mb,0,none⟩=some (.slice g'.a g'.n g'.c)/\u.cell? ⟨mb,1,none⟩=some (.int .i64 (cap:Int))/\u.cell? ⟨mb,2,none⟩=some (.int .i64 0)/\u.cell? ⟨mb,3,none⟩=some (.slice none 0 0)/\u.cell? ⟨mb,4,none⟩=some (.slice none 0 0)/\u.cell? ⟨mb,5,none⟩=some (.slice none 0 0)/\u.cell? ⟨mb,6,none⟩=some (.slice none 0 0))/\∀j,u.frozen? ⟨mb,j,none⟩=false)
  (hB4:Below ((V.alloc (.cells (madeCells #[.int .u8 0,.int .i64 0] (l*2)) 92)).alloc (.cells #[.int .i64 0,.int .i64 0,.slice (some ⟨V.heap.size,0,none⟩) l l,.slice none 0 0] 86)).drew.heap.size ((V.alloc (.cells (madeCells #[.int .u8 0,.int .i64 0] (l*2)) 92)).alloc (.cells #[.int .i64 0,.int .i64 0,.slice (some ⟨V.heap.size,0,none⟩) l l,.slice none 0 0] 86)).drew w4) (o4:w4.ownsRow V.heap.size 86 4 (.slice va 1 vc) 1 [.int .i64 0,.int .i64 0,.slice (some ⟨V.heap.size,0,none⟩) l l,.slice none 0 0]) (a4:∀b,(Value.slice va 1 vc).ownBlock=some b->b=V.heap.size+2) :
  gT g cap w (.returned (.tuple #[.pointer (some ⟨mb,0,none⟩),.int .i64 0])) (w4.setCell ⟨mb,4,none⟩ (.slice va 1 vc)):=by
  have xb:L0d V w4:=(L3c (L3a (L3a (L3b _ _) (L1c _) _) R5 _)).trans (hB4.mono Q8);obtain⟨⟨c0,c1,c2,c3,c4,c5,c6⟩,fz⟩:=hM _ xb;have xh:mb < w4.heap.size:=L0a R4 xb.size;have xi:w.heap.size<=w2.heap.size:=hs2w;have xd:w4.ownsRow 0 92 2 (.slice (some ⟨V.heap.size,0,none⟩) l l) l (A5 (List.replicate l (0,0))):=by
   have e9:(madeCells #[.int .u8 0,.int .i64 0] (l*2))=(A5 (List.replicate l ((0,0):Val))).toArray:=by rw [<- V7 l,Array.toArray_toList]
   have h9:=World.ownsRow_lit (base:=0) (e:=92) (size:=2) V (A5 (List.replicate l ((0,0):Val))).toArray l (L4c _) Q5 (by simp only [List.size_toArray];rw [D3,List.length_replicate]);rw[<- e9] at h9;have h8:=G9 h9 ((L3c (L3a (L3b _ _) (L1c _) (.cells #[.int .i64 0,.int .i64 0,.slice (some ⟨V.heap.size,0,none⟩) l l,.slice none 0 0] 86))).trans (hB4.mono R5))
   rw[e9] at h8;simpa using h8
  have xe:L0d w (w4.setCell ⟨mb,4,none⟩ (.slice va 1 vc)):=((hB3.trans (hBV.mono R4)).trans (xb.mono R4)).setCell (p:=⟨mb,4,none⟩) (by show w.heap.size<=mb;omega) _;have xa:∀k,g'.blk k->w2.heap.size<=k/\k < mb:=fun k hk=>⟨hblk k hk,by have:=hpg.blk_lt hk;omega⟩
  have xc:∀b,(Value.slice (some ⟨V.heap.size,0,none⟩) l l).ownBlock=some b->b=V.heap.size:=fun b hb=>by
   have:V.heap.size=b:=by simpa [Value.ownBlock] using hb
   exact this.symm
  refine⟨bU mb (.slice va 1 vc) (.slice (some ⟨V.heap.size,0,none⟩) l l),mb,g',.slice va 1 vc,.slice (some ⟨V.heap.size,0,none⟩) l l,rfl,?_,⟨hsame.1,hsame.2⟩,xe,fun k t e=>?_,fun k hk=>by have:=xa k hk;omega⟩
  ·rw [hl,Int.toNat_natCast]
   have o1:=ownsRow_setCell_below (o4) (a:=⟨mb,4,none⟩) (by show mb < V.heap.size;omega) (.slice va 1 vc);have o2:=ownsRow_setCell_other xd (a:=⟨mb,4,none⟩) (by intro e;have h9:mb=V.heap.size:=xc _ e;omega) (.slice va 1 vc);have xf:(w4.setCell ⟨mb,4,none⟩ (.slice va 1 vc)).heap.size=w4.heap.size:=by simp
   refine a4K (by rw [xf];exact xh) R4 ((B7 _ R3).trans c0) ((B7 _ R3).trans c1) ((B7 _ R3).trans c2) ((B7 _ R3).trans c3) (World.cell?_setCell_same _ _ _ c4) ((B7 _ R3).trans c5) ((B7 _ R3).trans c6) (fun j=>by first | (go_simp;done) | (go_simp;exact fz j)) (D6 o1 (L4c _)) o2 ?_ (fun b hb=>?_) (fun b hb=>?_) (fun hk=>by have:=xa _ hk;omega)
   ·have xg:I5 w4.heap.size w4 g':=hpg.held (by have:=xb.size;omega) fun k hk=>by
     have h8:=xa k hk;rw[xb.block k R4,hBV.block k R4]
    exact xg.held R5 fun k hk=>Below.heap_setCell _ _ _ _ (by show k≠mb;have:=xa k hk;omega)
   ·have:=a4 b hb
    exact⟨by omega,by omega,fun hk=>by have:=xa b hk;omega⟩
   ·have h7:=xc b hb
    exact⟨by omega,by omega,fun hk=>by have:=xa b hk;omega,fun e=>by have:=a4 b e;omega⟩
  ·unfold bU at e
   split at e
   ·omega
   ·split at e
    ·rename_i h;have:=a4 k h;omega
    ·split at e
     ·rename_i h;have:=xc k h;omega
     ·cases e
theorem a3l (g:PgR) (w:World) (hg:I5 w.heap.size w g) (h0:0 < w.heap.size) (hck:I9 g 0 0) (cap:Nat) (h1:1<=cap) (h40:cap<=40) :
  Calls prog 56 #[.agg #[.slice g.a g.n g.c],.int .i64 (cap:Int)] w fun e w'=>gT g cap w e w':=by
 obtain⟨yq,zd,yc⟩:T7 g:=by
  rcases hck with ⟨_,h⟩ | ⟨h,_⟩
  ·cases h
  ·exact h.all.1
 have xj:∀j,j < g.n->1<=(g.f j).n/\(g.f j).n<=1000:=fun j hj=>by have:=eF (yc j hj);omega
 have yv:=eF (yc 0 R4);obtain⟨l,hl⟩:=L5c (show 0<=(g.f 0).l by omega);have yr:l<=8:=by omega
 have ys:Hid (∀W,L0d w W->Calls prog 59 #[.agg #[.slice g.a g.n g.c]] W fun e w'=>e=.returned (.tuple #[.int .i64 0,.int .i64 0])/\L0d W w'):=by
  intro W hW;refine (cQ g W (hg.held hW.size fun k hk=>hW.block k (hg.blk_lt hk))).mono ?_;rintro e w' ⟨x,a,rfl,hx,hb⟩;obtain⟨rfl,rfl⟩:=hx.unique hck;exact⟨rfl,hb⟩
 have yw:Hid (∀W,L0d w W->Calls prog 93 #[.agg #[.slice g.a g.n g.c]] W fun e w'=>aW g W e w'):=by
  intro W hW;exact a1f g W (hg.held hW.size fun k hk=>hW.block k (hg.blk_lt hk)) yq R4 xj
 obtain⟨ga,gb,gc⟩:=hg.2.1 R4;have x1:=(gc 0 R4).2.1;rw[hl] at x1;have yx:=hid ga;have HL:=hid hl;obtain⟨xy,hi,hz,xq,yh⟩:=info_parts I2;have yg:Hid (∀W:World,(Instr.makeSlice 84 (.int .i64 (l:Int)) (.int .i64 (l:Int))).run prog W=.ok (.slice (some ⟨W.heap.size,0,none⟩) l l) (W.alloc (.cells (madeCells #[.int .u8 0,.int .i64 0] (l*2)) 92))):=by
  intro W;have hr:=run_make (P:=prog) W 84 92 xy _ underlying84 hi hz .i64 .i64 l l R4 (Int.le_refl _) (by rw [yh];omega) R4;simpa [xq,Value.cells] using hr
 have yz:=yg.out;obtain⟨yb,ym,yk,xr,xn⟩:=info_parts dX;have HI:=hid ym;have HZ:=hid yk;have xx:=hid xr;have xz:=hid xn;have zf:¬(cap:Int) < 1:=by omega
 have za:¬(40:Int) < (cap:Int):=by omega
 have zc:(0:Int) < (g.n:Int):=by omega
 have zb:0 < g.n:=by omega
 clear hg hck yc xj yv ga gc hl hi hz xq yh ym yk xr xn yg;go_enter func56,ntmps56;go_wp2_with (first | (go_at_call 59;refine (ys.out _ ?_).mono ?_;exact P8;rintro e w2 ⟨rfl,xt⟩;have xm:L0d w w2:=(L3a (L3b _ _) (L1c _) _).trans (xt.mono R5);have p2:w2.cell? ⟨w.heap.size,0,none⟩=some (.slice g.a g.n g.c):=keep xt R5 Q9;have xw:w.heap.size < w2.heap.size:=by have:=xt.size;simp at this;omega) | (go_at_call 93;refine (yw.out _ xm).mono ?_;rintro e w3 ⟨g',rfl,yi,xh,xp,ye,xg⟩;have xu:L0d w w3:=xm.trans (xp.mono xm.size);have p3:=keep xp xw p2;have yl:w.heap.size < w3.heap.size:=L0a xw xp.size;have y1:=keep xu gb x1;have ya:g.b < w3.heap.size:=L0a gb xu.size;have ze:=hid xm;have yp:=hid xu;have yj:=hid yi;have xo:=hid xh;have xf:=hid (And.intro ye xg);have yd:=xp.size;rw [yx.out] at p3;clear xm xu yi xh ye xg xt xp p2))
 simp only[Nat.zero_mul,Nat.add_zero] at y1;generalize hqV:(w3.alloc (Obj.cells #[.slice g'.a g'.n g'.c,.int .i64 (cap:Int),.int .i64 0,.slice none 0 0,.slice none 0 0,.slice none 0 0,.slice none 0 0] 69))=V at *
 have v0:V.cell? ⟨w3.heap.size,0,none⟩=some (.slice g'.a g'.n g'.c):=by subst hqV;go_simp
 have v1:V.cell? ⟨w3.heap.size,1,none⟩=some (.int .i64 (cap:Int)):=by subst hqV;go_simp
 have v2:V.cell? ⟨w3.heap.size,2,none⟩=some (.int .i64 0):=by subst hqV;go_simp
 have v3:V.cell? ⟨w3.heap.size,3,none⟩=some (.slice none 0 0):=by subst hqV;go_simp
 have v4:V.cell? ⟨w3.heap.size,4,none⟩=some (.slice none 0 0):=by subst hqV;go_simp
 have v5:V.cell? ⟨w3.heap.size,5,none⟩=some (.slice none 0 0):=by subst hqV;go_simp
 have v6:V.cell? ⟨w3.heap.size,6,none⟩=some (.slice none 0 0):=by subst hqV;go_simp
 have vz:∀j,V.frozen? ⟨w3.heap.size,j,none⟩=false:=by subst hqV;exact fun j=>by go_simp
 have xv:L0d w3 V:=by subst hqV;exact L3a (L3b _ _) (L1c _) _
 have t1:=keep xv yl p3;have t2:=keep xv ya y1;have yf:V.heap.size=w3.heap.size+1:=by subst hqV;simp
 have yn:=hid xv;clear xv p3 y1;clear hqV;generalize hmb:w3.heap.size=mb at *
 have yu:=hid yf;have xi:Hid (I5 w3.heap.size w3 g'):=hid (by rw [hmb];exact yj.out);have xl:Hid (L0d w3 V):=hid yn.out;have xc:mb < V.heap.size:=by omega
 have yt:w.heap.size < V.heap.size:=by omega
 have yy:g.b < V.heap.size:=by omega
 clear yf;have HC:Hid (∀u,L0d V u->u.cell? ⟨w.heap.size,0,none⟩=some (.slice (some ⟨g.b,g.o,none⟩) g.n g.c)/\u.cell? ⟨g.b,g.o+1,none⟩=some (.int .i64 (l:Int))):=hid fun u hu=>⟨keep hu yt t1,keep hu yy t2⟩
 have HV:Hid (L0d V V.drew):=L3c (L3b _ _);have HM:Hid (∀u,L0d V u->(u.cell? ⟨mb,0,none⟩=some (.slice g'.a g'.n g'.c)/\u.cell? ⟨mb,1,none⟩=some (.int .i64 (cap:Int))/\u.cell? ⟨mb,2,none⟩=some (.int .i64 0)/\u.cell? ⟨mb,3,none⟩=some (.slice none 0 0)/\u.cell? ⟨mb,4,none⟩=some (.slice none 0 0)/\u.cell? ⟨mb,5,none⟩=some (.slice none 0 0)/\u.cell? ⟨mb,6,none⟩=some (.slice none 0 0))/\∀j,u.frozen? ⟨mb,j,none⟩=false):=hid fun u hu=>⟨⟨keep hu xc v0,keep hu xc v1,keep hu xc v2,keep hu xc v3,keep hu xc v4,keep hu xc v5,keep hu xc v6⟩,fun j=>B9 hu xc (vz j)⟩
 clear v0 v1 v2 v3 v4 v5 v6 vz t1 t2;refine wp_region_held_drew (S:=fun u=>u.cell? ⟨w.heap.size,0,none⟩=some (.slice (some ⟨g.b,g.o,none⟩) g.n g.c)/\u.cell? ⟨g.b,g.o+1,none⟩=some (.int .i64 (l:Int))) Q7 (HC.out _ HV.out) (fun hHeld=>?_)
 refine TW 0 ⟨some 28,.move (.tmp 8),46,"machine.go:33",#[],none⟩ ?_
 refine TW 1 ⟨some 29,.move (.tmp 8),46,"machine.go:33",#[],none⟩ ?_
 refine TW 2 ⟨some 30,.nilCheck (.tmp 29),0,"machine.go:33",#[⟨1,.data⟩],none⟩ ?_
 refine TW 3 ⟨some 31,.fieldAddr 69 (.tmp 30) 4,0,"machine.go:33",#[⟨2,.data⟩],none⟩ ?_
 refine TW 5 ⟨some 33,.fieldAddr 41 (.tmp 2) 0,0,"machine.go:33",#[],none⟩ ?_
 refine TW 6 ⟨some 34,.load 39 (.tmp 33),39,"machine.go:33",#[⟨5,.data⟩],none⟩ ?_
 refine TW 7 ⟨some 35,.indexAddr 39 (.tmp 34) (.const (.int .i64 0)),0,"machine.go:33",#[⟨6,.data⟩],none⟩ ?_
 refine TW 8 ⟨some 36,.fieldAddr 163 (.tmp 35) 1,0,"machine.go:33",#[⟨7,.data⟩],none⟩ ?_
 refine TW 9 ⟨some 37,.load 3 (.tmp 36),3,"machine.go:33",#[⟨8,.data⟩],none⟩ ?_
 clear hHeld;have xs:Hid (L0d V (V.alloc (.cells (madeCells #[.int .u8 0,.int .i64 0] (l*2)) 92)).drew):=hid (L3c (L3a (L3b _ _) (L1c _) _));have xe:Hid (L0d V ((V.alloc (.cells (madeCells #[.int .u8 0,.int .i64 0] (l*2)) 92)).alloc (.cells #[.int .i64 0,.int .i64 0,.slice (some ⟨V.heap.size,0,none⟩) l l,.slice none 0 0] 86)).drew):=hid (L3c (L3a (L3a (L3b _ _) (L1c _) _) R5 _))
 have xb:Hid (∀va vc w4,Below ((V.alloc (.cells (madeCells #[.int .u8 0,.int .i64 0] (l*2)) 92)).alloc (.cells #[.int .i64 0,.int .i64 0,.slice (some ⟨V.heap.size,0,none⟩) l l,.slice none 0 0] 86)).drew.heap.size ((V.alloc (.cells (madeCells #[.int .u8 0,.int .i64 0] (l*2)) 92)).alloc (.cells #[.int .i64 0,.int .i64 0,.slice (some ⟨V.heap.size,0,none⟩) l l,.slice none 0 0] 86)).drew w4->w4.ownsRow V.heap.size 86 4 (.slice va 1 vc) 1 [.int .i64 0,.int .i64 0,.slice (some ⟨V.heap.size,0,none⟩) l l,.slice none 0 0]->(∀b,(Value.slice va 1 vc).ownBlock=some b->b=V.heap.size+2)->gT g cap w (.returned (.tuple #[.pointer (some ⟨mb,0,none⟩),.int .i64 0])) (w4.setCell ⟨mb,4,none⟩ (.slice va 1 vc))):=hid fun va vc w4 b4 o4 a4=>a3n hmb yu.out h0 yl yd (Nat.le_of_lt xw) yr HL.out xi.out xo.out xf.out yp.out xl.out (fun u hu=>HM.out u hu) b4 o4 a4
 clear yj xi xo xf yn xl;refine wpAnyH_ready (rs:=[4,10]) Q7 R5 ?_;refine AllReadyH.cons (o:=a6B) rfl (fun K hK=>?_) ?_
 ·have c4:=(HM.out _ HV.out).1.2.2.2.2.1
  go_simp
  refine TG hK (HC.out _ HV.out) fun hHeld=>?_
  clear hK K;clear hHeld c4;refine TO 10 a6W fun K hK=>?_
  go_simp
  refine TG hK (HC.out _ xs.out) fun hHeld=>?_
  clear hK K;refine TW 11 a6X ?_;clear hHeld;refine TO 12 a6C fun K hK=>?_
  go_simp
  refine TG hK (HC.out _ xe.out) fun hHeld=>?_
  clear hK K;clear hHeld;refine TO 13 a6D fun K hK=>?_
  refine L2 rfl (.tmp 32) (.tmp 40) 66 rfl V.heap.size 86 yb _ 4 64 underlying66 HI.out HZ.out xx.out xz.out rfl R3 (.slice none 0 0) 0 [] Q3 (World.ownsRow_nil _ _ _ _) (some ⟨V.heap.size+1,0,none⟩) 1 1 [.int .i64 0,.int .i64 0,.slice (some ⟨V.heap.size,0,none⟩) l l,.slice none 0 0] Q3 rfl (fun _=>⟨_,rfl,World.news_of_block (cs:=#[.int .i64 0,.int .i64 0,.slice (some ⟨V.heap.size,0,none⟩) l l,.slice none 0 0]) (t:=86) (fr:=(0,0)) (B1 R5)⟩) (by intro u hu;simp at hu;rcases hu with rfl | rfl | rfl <;> rfl) Q5 R4 Q1 ?_
  intro v4 w4 hown4 hgrow4 hat4;obtain⟨va,vc,xk,_⟩:=B4 hown4;subst xk;have xd:Below ((V.alloc (.cells (madeCells #[.int .u8 0,.int .i64 0] (l*2)) 92)).alloc (.cells #[.int .i64 0,.int .i64 0,.slice (some ⟨V.heap.size,0,none⟩) l l,.slice none 0 0] 86)).drew.heap.size ((V.alloc (.cells (madeCells #[.int .u8 0,.int .i64 0] (l*2)) 92)).alloc (.cells #[.int .i64 0,.int .i64 0,.slice (some ⟨V.heap.size,0,none⟩) l l,.slice none 0 0] 86)).drew w4:=⟨hgrow4.os,hgrow4.tape,hgrow4.output,hgrow4.size,fun k hk=>hgrow4.block k hk (by simp [Value.ownBlock])⟩
  have xa:Hid (L0d V w4):=hid (xe.out.trans (xd.mono xe.out.size));have HS:=hid (xb.out va vc w4 xd hown4 (fun b hb=>by
   rcases hat4 b hb with e | e
   ·cases e
   ·rw [e];simp))
  clear hown4 hgrow4 hat4 xd
  dsimp only
  refine TG hK (HC.out _ xa.out) fun hHeld=>?_
  clear hK K;refine TW 14 a6E ?_;refine TW 15 a6F ?_;clear hHeld;have c4:=(HM.out _ xa.out).1.2.2.2.2.1;have z4:=(HM.out _ xa.out).2 4;obtain⟨s1,s2⟩:=HC.out _ xa.out;have yo:mb < w4.heap.size:=L0a xc xa.out.size;refine TO 16 a6G fun K hK=>?_
  go_simp
  have hS:(w4.setCell ⟨mb,4,none⟩ (.slice va 1 vc)).cell? ⟨w.heap.size,0,none⟩=some (.slice (some ⟨g.b,g.o,none⟩) g.n g.c)/\(w4.setCell ⟨mb,4,none⟩ (.slice va 1 vc)).cell? ⟨g.b,g.o+1,none⟩=some (.int .i64 (l:Int)):=⟨(L0b (a:=⟨w.heap.size,0,none⟩) (Below.heap_setCell _ _ _ _ (by show w.heap.size≠mb;omega))).trans s1,(L0b (a:=⟨g.b,g.o+1,none⟩) (Below.heap_setCell _ _ _ _ (by show g.b≠mb;omega))).trans s2⟩
  refine hK.out _ _ hS (fun hHeld=>?_);clear hK K hHeld hS;refine wpAnyH_done Q7 ?_ _;generalize (w4.setCell ⟨mb,4,none⟩ (.slice va 1 vc))=Y at *
  clear c4 s1 s2 z4 HC HM xb;go_wp2_with fail;go_ret2;exact HS.out
 refine AllReadyH.cons (o:=a6W) rfl (fun K hK=>?_) ?_
 ·go_simp
  refine TG hK (HC.out _ xs.out) fun hHeld=>?_
  clear hK K;refine TW 11 a6X ?_;clear hHeld;refine wpAnyH_ready (rs:=[4,12]) Q7 R5 ?_;refine AllReadyH.cons (o:=a6B) rfl (fun K hK=>?_) ?_
  ·have c4:=(HM.out _ xs.out).1.2.2.2.2.1
   go_simp
   refine TG hK (HC.out _ xs.out) fun hHeld=>?_
   clear hK K;clear hHeld c4;refine TO 12 a6C fun K hK=>?_
   go_simp
   refine TG hK (HC.out _ xe.out) fun hHeld=>?_
   clear hK K;clear hHeld;refine TO 13 a6D fun K hK=>?_
   refine L2 rfl (.tmp 32) (.tmp 40) 66 rfl V.heap.size 86 yb _ 4 64 underlying66 HI.out HZ.out xx.out xz.out rfl R3 (.slice none 0 0) 0 [] Q3 (World.ownsRow_nil _ _ _ _) (some ⟨V.heap.size+1,0,none⟩) 1 1 [.int .i64 0,.int .i64 0,.slice (some ⟨V.heap.size,0,none⟩) l l,.slice none 0 0] Q3 rfl (fun _=>⟨_,rfl,World.news_of_block (cs:=#[.int .i64 0,.int .i64 0,.slice (some ⟨V.heap.size,0,none⟩) l l,.slice none 0 0]) (t:=86) (fr:=(0,0)) (B1 R5)⟩) (by intro u hu;simp at hu;rcases hu with rfl | rfl | rfl <;> rfl) Q5 R4 Q1 ?_
   intro v4 w4 hown4 hgrow4 hat4;obtain⟨va,vc,xk,_⟩:=B4 hown4;subst xk;have xd:Below ((V.alloc (.cells (madeCells #[.int .u8 0,.int .i64 0] (l*2)) 92)).alloc (.cells #[.int .i64 0,.int .i64 0,.slice (some ⟨V.heap.size,0,none⟩) l l,.slice none 0 0] 86)).drew.heap.size ((V.alloc (.cells (madeCells #[.int .u8 0,.int .i64 0] (l*2)) 92)).alloc (.cells #[.int .i64 0,.int .i64 0,.slice (some ⟨V.heap.size,0,none⟩) l l,.slice none 0 0] 86)).drew w4:=⟨hgrow4.os,hgrow4.tape,hgrow4.output,hgrow4.size,fun k hk=>hgrow4.block k hk (by simp [Value.ownBlock])⟩
   have xa:Hid (L0d V w4):=hid (xe.out.trans (xd.mono xe.out.size));have HS:=hid (xb.out va vc w4 xd hown4 (fun b hb=>by
    rcases hat4 b hb with e | e
    ·cases e
    ·rw [e];simp))
   clear hown4 hgrow4 hat4 xd
   dsimp only
   refine TG hK (HC.out _ xa.out) fun hHeld=>?_
   clear hK K;refine TW 14 a6E ?_;refine TW 15 a6F ?_;clear hHeld;have c4:=(HM.out _ xa.out).1.2.2.2.2.1;have z4:=(HM.out _ xa.out).2 4;obtain⟨s1,s2⟩:=HC.out _ xa.out;have yo:mb < w4.heap.size:=L0a xc xa.out.size;refine TO 16 a6G fun K hK=>?_
   go_simp
   have hS:(w4.setCell ⟨mb,4,none⟩ (.slice va 1 vc)).cell? ⟨w.heap.size,0,none⟩=some (.slice (some ⟨g.b,g.o,none⟩) g.n g.c)/\(w4.setCell ⟨mb,4,none⟩ (.slice va 1 vc)).cell? ⟨g.b,g.o+1,none⟩=some (.int .i64 (l:Int)):=⟨(L0b (a:=⟨w.heap.size,0,none⟩) (Below.heap_setCell _ _ _ _ (by show w.heap.size≠mb;omega))).trans s1,(L0b (a:=⟨g.b,g.o+1,none⟩) (Below.heap_setCell _ _ _ _ (by show g.b≠mb;omega))).trans s2⟩
   refine hK.out _ _ hS (fun hHeld=>?_);clear hK K hHeld hS;refine wpAnyH_done Q7 ?_ _;generalize (w4.setCell ⟨mb,4,none⟩ (.slice va 1 vc))=Y at *
   clear c4 s1 s2 z4 HC HM xb;go_wp2_with fail;go_ret2;exact HS.out
  refine AllReadyH.cons (o:=a6C) rfl (fun K hK=>?_) ?_
  ·go_simp
   refine TG hK (HC.out _ xe.out) fun hHeld=>?_
   clear hK K;clear hHeld;refine TO 4 a6B fun K hK=>?_
   have c4:=(HM.out _ xe.out).1.2.2.2.2.1;go_simp
   refine TG hK (HC.out _ xe.out) fun hHeld=>?_
   clear hK K;clear hHeld c4;refine TO 13 a6D fun K hK=>?_
   refine L2 rfl (.tmp 32) (.tmp 40) 66 rfl V.heap.size 86 yb _ 4 64 underlying66 HI.out HZ.out xx.out xz.out rfl R3 (.slice none 0 0) 0 [] Q3 (World.ownsRow_nil _ _ _ _) (some ⟨V.heap.size+1,0,none⟩) 1 1 [.int .i64 0,.int .i64 0,.slice (some ⟨V.heap.size,0,none⟩) l l,.slice none 0 0] Q3 rfl (fun _=>⟨_,rfl,World.news_of_block (cs:=#[.int .i64 0,.int .i64 0,.slice (some ⟨V.heap.size,0,none⟩) l l,.slice none 0 0]) (t:=86) (fr:=(0,0)) (B1 R5)⟩) (by intro u hu;simp at hu;rcases hu with rfl | rfl | rfl <;> rfl) Q5 R4 Q1 ?_
   intro v4 w4 hown4 hgrow4 hat4;obtain⟨va,vc,xk,_⟩:=B4 hown4;subst xk;have xd:Below ((V.alloc (.cells (madeCells #[.int .u8 0,.int .i64 0] (l*2)) 92)).alloc (.cells #[.int .i64 0,.int .i64 0,.slice (some ⟨V.heap.size,0,none⟩) l l,.slice none 0 0] 86)).drew.heap.size ((V.alloc (.cells (madeCells #[.int .u8 0,.int .i64 0] (l*2)) 92)).alloc (.cells #[.int .i64 0,.int .i64 0,.slice (some ⟨V.heap.size,0,none⟩) l l,.slice none 0 0] 86)).drew w4:=⟨hgrow4.os,hgrow4.tape,hgrow4.output,hgrow4.size,fun k hk=>hgrow4.block k hk (by simp [Value.ownBlock])⟩
   have xa:Hid (L0d V w4):=hid (xe.out.trans (xd.mono xe.out.size));have HS:=hid (xb.out va vc w4 xd hown4 (fun b hb=>by
    rcases hat4 b hb with e | e
    ·cases e
    ·rw [e];simp))
   clear hown4 hgrow4 hat4 xd
   dsimp only
   refine TG hK (HC.out _ xa.out) fun hHeld=>?_
   clear hK K;refine TW 14 a6E ?_;refine TW 15 a6F ?_;clear hHeld;have c4:=(HM.out _ xa.out).1.2.2.2.2.1;have z4:=(HM.out _ xa.out).2 4;obtain⟨s1,s2⟩:=HC.out _ xa.out;have yo:mb < w4.heap.size:=L0a xc xa.out.size;refine TO 16 a6G fun K hK=>?_
   go_simp
   have hS:(w4.setCell ⟨mb,4,none⟩ (.slice va 1 vc)).cell? ⟨w.heap.size,0,none⟩=some (.slice (some ⟨g.b,g.o,none⟩) g.n g.c)/\(w4.setCell ⟨mb,4,none⟩ (.slice va 1 vc)).cell? ⟨g.b,g.o+1,none⟩=some (.int .i64 (l:Int)):=⟨(L0b (a:=⟨w.heap.size,0,none⟩) (Below.heap_setCell _ _ _ _ (by show w.heap.size≠mb;omega))).trans s1,(L0b (a:=⟨g.b,g.o+1,none⟩) (Below.heap_setCell _ _ _ _ (by show g.b≠mb;omega))).trans s2⟩
   refine hK.out _ _ hS (fun hHeld=>?_);clear hK K hHeld hS;refine wpAnyH_done Q7 ?_ _;generalize (w4.setCell ⟨mb,4,none⟩ (.slice va 1 vc))=Y at *
   clear c4 s1 s2 z4 HC HM xb;go_wp2_with fail;go_ret2;exact HS.out
  exact AllReadyH.nil
 exact AllReadyH.nil
def gQ (g:PgR) (cap:Nat) (w:World) (e:Ending) (w':World):Prop :=
 ∃own mb g' R,e=.returned (.tuple #[.pointer (some ⟨mb,0,none⟩),.int .i64 0])/\A4 w' own mb g' R/\rG g cap R/\Z9 g g'/\L0d w w'/\(∀k t,own k=some t->w.heap.size<=k)/\∀k,g'.blk k->w.heap.size<=k
theorem uT (g:PgR) (w:World) (hg:I5 w.heap.size w g) (ht:Tab w) (hck:I9 g 0 0) (cap:Nat) (h1:1<=cap) (h40:cap<=40) :
  Calls prog 92 #[.agg #[.slice g.a g.n g.c],.int .i64 (cap:Int)] w fun e w'=>gQ g cap w e w':=by
 have za:B0 (cap:Int) 1 40=true:=I4 R4 R4;have yq:Hid (∀W,L0d w W->Calls prog 95 #[.agg #[.slice g.a g.n g.c]] W fun e w'=>e=.returned (.tuple #[.int .i64 0,.int .i64 0])/\L0d W w'):=by
  intro W hW;refine (oC g W (hg.held hW.size fun k hk=>hW.block k (hg.blk_lt hk)) (ht.held hW.size (hW.block 0 ht.1))).mono ?_;rintro e w' ⟨x,a,rfl,hx,hb⟩;obtain⟨rfl,rfl⟩:=hx.unique hck;exact⟨rfl,hb⟩
 have HG:=hid hg;have HT:=hid ht;have HC:=hid hck;clear hg ht hck;go_enter func92,ntmps92;go_wp2_with (first | (go_at_call 95;refine (yq.out _ ?_).mono ?_;exact P8;rintro e w2 ⟨rfl,xw⟩;obtain ⟨yw,yp⟩:=X4 xw) | (go_at_call 116;refine (B3 _ _ _ _).mono ?_;rintro e w' ⟨rfl,hw⟩;rw [hw];clear hw w'))
 have xg:L0d w w2:=A7 xw (L3a (L3b _ _) (L1c _) _);have yg:I5 w2.heap.size w2 g:=HG.out.held xg.size fun k hk=>xg.block k (HG.out.blk_lt hk)
 have yd:Tab w2:=HT.out.held xg.size (xg.block 0 HT.out.1);obtain⟨yo,ys,xx⟩:T7 g:=by
  rcases HC.out with ⟨_,h⟩ | ⟨h,_⟩
  ·cases h
  ·exact h.all.1
 have xe:∀j,j < g.n->1<=(g.f j).n/\(g.f j).n<=60:=fun j hj=>by have:=eF (xx j hj);omega
 have xt:=eF (xx 0 R4);have yy:=hid xe;have yh:=hid xt;refine (kH g w2 yg yo ys xe).mono ?_;clear yw yp xw yg xx xe xt;rintro e w3 ⟨g',rfl,yf,xh,yl,yc,xd⟩;have xl:=hid yf;have xn:=hid xh;have xs:=hid yl;have xj:=hid yc;have xc:=hid xd;have xo:=hid xg;have xv:=hid yd;clear yf xh yl yc xd xg yd;go_wp2_with fail;refine (tF cap w3 h40).mono ?_
 rintro e w4 ⟨hb,rfl,xq,ye⟩;have xf:=hid xq;have xk:=hid ye;clear xq ye;have xb:L0d w2 w4:=xs.out.trans (xk.out.mono xs.out.size);have xp:I5 w4.heap.size w4 g':=xl.out.held xk.out.size fun k hk=>xk.out.block k (xl.out.blk_lt hk)
 have ya:Tab w4:=xv.out.held xb.size (xb.block 0 xv.out.1);have xu:w3.heap.size<=hb:=by
  rcases xf.out.2 with ⟨h0,_⟩ | ⟨_,_,_,hv,h1,_⟩
  ·cases h0
  ·cases hv;exact h1
 have xa:=qB xp ya xf.out (fun k hk=>by have:=xl.out.blk_lt hk;omega) (by have:=xl.out.blk_lt (k:=g'.b) (L4a ⟨by rw [xj.out];omega,rfl⟩);omega);have ym:L0d w (w4.alloc (Obj.cells #[.slice g'.a g'.n g'.c,.int .i64 0,.slice none 0 0,.slice none 0 0,.slice (some ⟨hb,0,none⟩) cap cap,.slice none 0 0] 107)):=L3a (xo.out.trans (xb.mono xo.out.size)) (L5a xo.out.size xb.size) _
 have xr:∀k t,O9 w4.heap.size hb k=some t->w.heap.size<=k:=fun k t hk=>by
  have:=xo.out.size;have:=xs.out.size;have:=xk.out.size;unfold O9 at hk;split at hk
  ·omega
  ·split at hk
   ·omega
   ·cases hk
 have yk:=xc.out 0 R4;obtain⟨ga,yz,xm⟩:=xa.pg.2.1 (by rw [xj.out];omega);obtain⟨q0,q1,q2⟩:=xm 0 (by rw [xj.out];omega);have m0:=xa.c0.trans (show _=some (Value.slice (some ⟨g'.b,g'.o,none⟩) g'.n g'.c) by rw [ga]);simp only[Nat.zero_mul,Nat.add_zero] at q0 q1 q2;have yv:w4.heap.size < (w4.alloc (Obj.cells #[.slice g'.a g'.n g'.c,.int .i64 0,.slice none 0 0,.slice none 0 0,.slice (some ⟨hb,0,none⟩) cap cap,.slice none 0 0] 107)).heap.size:=by simp
 have HM:=hid xa;have xz:=hid ym;have xi:=hid xr;have HS:=hid yk;have yu:0 < g'.n:=by rw [xj.out];omega
 have yt:Hid (∀k,g'.blk k->w.heap.size<=k):=fun k hk=>L5a xo.out.size (xn.out k hk)
 clear xb xp ya xu xa ym xr yk ga xm xk xf xl xs xn xv;go_wp2_with fail;generalize (w4.alloc (Obj.cells #[.slice g'.a g'.n g'.c,.int .i64 0,.slice none 0 0,.slice none 0 0,.slice (some ⟨hb,0,none⟩) cap cap,.slice none 0 0] 107))=V at *
 obtain⟨l,hl⟩:=L5c (show 0<=(g'.f 0).l by have:=yh.out;rw [HS.out.2.1];omega);rw[hl] at q1;have xt:l<=8:=by have:=yh.out;have:=HS.out.2.1;omega
 have HL:=hid hl;clear hl;generalize w4.heap.size=mb at *
 have yn:Hid (∀U,A4 U (O9 mb hb) mb g' ⟨0,.slice none 0 0,[],.slice none 0 0,[],.slice (some ⟨hb,0,none⟩) cap cap,List.replicate cap K9,.slice none 0 0,[]⟩->Calls prog 130 #[.pointer (some ⟨mb,3,none⟩),.int .i64 0,.agg #[.int .i64 (g'.f 0).p,.int .i64 (l:Int),.slice (g'.f 0).a (g'.f 0).n (g'.f 0).c],.slice none 0 0] U fun e w'=>yP (O9 mb hb) mb g' ⟨0,.slice none 0 0,[],.slice none 0 0,[],.slice (some ⟨hb,0,none⟩) cap cap,List.replicate cap K9,.slice none 0 0,[]⟩ 0 (List.replicate l (0,0)) U e w') :=
  fun U hU=>a0s hU 0 l (g'.f 0).p (g'.f 0).a (g'.f 0).n (g'.f 0).c xt R5
 go_region_with (first | (go_at_call 130;refine (yn.out _ ?_).mono ?_;exact HM.out.same (L1c _) fun _ _=>rfl;rintro e w6 ⟨xy,cv,lv,rfl,yj,yb⟩;have yx:=hid yj;have yi:=hid yb;clear yj yb))
 all_goals
  go_wp2_with fail;go_ret2;have yr:L0d w w6:=(L3c xz.out).trans (yi.out.below xz.out.size fun k hk=>by
   cases e:O9 mb hb k with
   | none=>rfl
   | some t=>have:=xi.out k t e;omega)
  exact⟨xy,mb,g',_,rfl,yx.out,⟨rfl,rfl,⟨lv,by rw [<- HS.out.2.1,HL.out];rfl⟩,rfl,rfl,rfl⟩,⟨xj.out,xc.out⟩,yr,fun k t hk=>by
   rcases Nat.lt_or_ge k V.heap.size with hl | hl
   ·rw [yi.out.old k hl] at hk;exact xi.out k t hk
   ·exact L5a xz.out.size hl,yt.out⟩
theorem a1Z (g:PgR) (w:World) (hg:I5 w.heap.size w g) (ht:Tab w) (hck:I9 g 0 0) (cap:Nat) (h1:1<=cap) (h40:cap<=40) :
  Calls prog 55 #[.agg #[.slice g.a g.n g.c],.int .i64 (cap:Int)] w fun e w'=>gQ g cap w e w':=by
 have HB:Hid (∀W,L0d w W->Calls prog 92 #[.agg #[.slice g.a g.n g.c],.int .i64 (cap:Int)] W fun e w'=>gQ g cap W e w'):=by
  intro W hW;exact uT g W (hg.held hW.size fun k hk=>hW.block k (hg.blk_lt hk)) (ht.held hW.size (hW.block 0 ht.1)) hck cap h1 h40
 clear hg ht hck;go_enter func55,ntmps55;go_wp2_with (go_at_call 92;refine (HB.out _ ?_).mono ?_;exact P8;rintro e w2 ⟨own,mb,g',R,rfl,hm,xd,xa,hb,xb,xc⟩)
 go_ret2;have hW:L0d w (w.alloc (Obj.cells #[.slice g.a g.n g.c] 41)):=L3a (L3b _ _) (L1c _) _;exact⟨own,mb,g',R,rfl,hm,xd,xa,A7 hb hW,fun k t hk=>L5a hW.size (xb k t hk),fun k hk=>L5a hW.size (xc k hk)⟩
def kV (g:PgR) (cap:Int) (x:Int):Prop:=(∃a,I9 g x a/\x≠0)\/((I9 g 0 0)/\¬(1<=cap/\cap<=40)/\x=4)
theorem a0L (g:PgR) (cap:Int) {x a:Int} (h:I9 g x a):(∃x,kV g cap x)\/(I9 g 0 0/\1<=cap/\cap<=40):=by
 by_cases h0:x=0
 ·have xa:I9 g 0 0:=by
   subst h0;rcases h with ⟨_,h⟩ | ⟨h1,⟨_,h⟩ | ⟨h2,⟨_,h⟩ | ⟨h3,h4,h5⟩⟩⟩
   ·cases h
   ·cases h
   ·cases h
   ·exact L4b ⟨h1,L4b ⟨h2,L4b ⟨h3,rfl,rfl⟩⟩⟩
  by_cases hc:1<=cap/\cap<=40
  ·exact L4b ⟨xa,hc⟩
  ·exact L4a ⟨4,L4b ⟨xa,hc,rfl⟩⟩
 ·exact L4a ⟨x,L4a ⟨a,h,h0⟩⟩
theorem a0a (g:PgR) (w:World) (hg:I5 w.heap.size w g) (ht:Tab w) (cap x:Int) (hx:kV g cap x) :
  Calls prog 92 #[.agg #[.slice g.a g.n g.c],.int .i64 cap] w fun e w'=>e=.returned (.tuple #[.pointer none,.int .i64 x])/\L0d w w':=by
 have xe:Hid (∀W,L0d w W->Calls prog 95 #[.agg #[.slice g.a g.n g.c]] W fun e w'=>eH g W e w'):=by
  intro W hW;exact oC g W (hg.held hW.size fun k hk=>hW.block k (hg.blk_lt hk)) (ht.held hW.size (hW.block 0 ht.1))
 clear hg ht;rcases hx with ⟨a,xa,h0⟩ | ⟨xa,hc,rfl⟩
 ·have HC:=hid xa
  have xg:(x == 0)=false:=L2c.2 h0;clear xa;go_enter func92,ntmps92;go_wp2_with (go_at_call 95;refine (xe.out _ ?_).mono ?_;exact P8;rintro e w2 ⟨x',a',rfl,xb,xc⟩;obtain ⟨rfl,rfl⟩:=xb.unique HC.out;have xd:=hid xc;clear xb xc)
  go_ret2;exact⟨rfl,A7 xd.out (L3a (L3b _ _) (L1c _) _)⟩
 ·have HC:=hid xa
  have xf:B0 cap 1 40=false:=Y5 hc;clear xa hc;go_enter func92,ntmps92;go_wp2_with (first | (go_at_call 95;refine (xe.out _ ?_).mono ?_;exact P8;rintro e w2 ⟨x',a',rfl,xb,xc⟩;obtain ⟨rfl,rfl⟩:=xb.unique HC.out;have xd:=hid xc;clear xb xc) | (go_at_call 116;refine (B3 _ _ _ _).mono ?_;rintro e w' ⟨rfl,hw⟩;rw [hw,xf];clear hw w'))
  go_ret2;exact⟨rfl,A7 xd.out (L3a (L3b _ _) (L1c _) _)⟩
theorem a4q (g:PgR) (w:World) (hg:I5 w.heap.size w g) (ht:Tab w) (cap x:Int) (hx:kV g cap x) :
  Calls prog 55 #[.agg #[.slice g.a g.n g.c],.int .i64 cap] w fun e w'=>e=.returned (.tuple #[.pointer none,.int .i64 x])/\L0d w w':=by
 have HB:Hid (∀W,L0d w W->Calls prog 92 #[.agg #[.slice g.a g.n g.c],.int .i64 cap] W fun e w'=>e=.returned (.tuple #[.pointer none,.int .i64 x])/\L0d W w'):=by
  intro W hW;exact a0a g W (hg.held hW.size fun k hk=>hW.block k (hg.blk_lt hk)) (ht.held hW.size (hW.block 0 ht.1)) cap x hx
 clear hg ht hx;go_enter func55,ntmps55;go_wp2_with (go_at_call 92;refine (HB.out _ ?_).mono ?_;exact P8;rintro e w2 ⟨rfl,xa⟩;have xb:=hid xa;clear xa)
 go_ret2;exact⟨rfl,A7 xb.out (L3a (L3b _ _) (L1c _) _)⟩
theorem a3m (g:PgR) (w:World) (hg:I5 w.heap.size w g) (cap x:Int) (hx:kV g cap x) :
  Calls prog 56 #[.agg #[.slice g.a g.n g.c],.int .i64 cap] w fun e w'=>e=.returned (.tuple #[.pointer none,.int .i64 x])/\L0d w w':=by
 have xe:Hid (∀W,L0d w W->Calls prog 59 #[.agg #[.slice g.a g.n g.c]] W fun e w'=>∃x a,e=.returned (.tuple #[.int .i64 x,.int .i64 a])/\I9 g x a/\L0d W w'):=by
  intro W hW;exact cQ g W (hg.held hW.size fun k hk=>hW.block k (hg.blk_lt hk))
 clear hg;rcases hx with ⟨a,xc,h0⟩ | ⟨xc,hc,rfl⟩
 ·have HC:=hid xc
  have xg:(x == 0)=false:=L2c.2 h0;clear xc;go_enter func56,ntmps56;go_wp2_with (go_at_call 59;refine (xe.out _ ?_).mono ?_;exact P8;rintro e w2 ⟨x',a',rfl,xa,xb⟩;obtain ⟨rfl,rfl⟩:=xa.unique HC.out;have xd:=hid xb;clear xa xb)
  go_ret2;exact⟨rfl,A7 xd.out (L3a (L3b _ _) (L1c _) _)⟩
 ·have HC:=hid xc
  clear xc;by_cases hlo:cap < 1
  ·clear hc
   go_enter func56,ntmps56;go_wp2_with (go_at_call 59;refine (xe.out _ ?_).mono ?_;exact P8;rintro e w2 ⟨x',a',rfl,xa,xb⟩;obtain ⟨rfl,rfl⟩:=xa.unique HC.out;have xd:=hid xb;clear xa xb)
   go_ret2;exact⟨rfl,A7 xd.out (L3a (L3b _ _) (L1c _) _)⟩
  ·have xf:40 < cap:=by omega
   clear hc;go_enter func56,ntmps56;go_wp2_with (go_at_call 59;refine (xe.out _ ?_).mono ?_;exact P8;rintro e w2 ⟨x',a',rfl,xa,xb⟩;obtain ⟨rfl,rfl⟩:=xa.unique HC.out;have xd:=hid xb;clear xa xb)
   go_ret2;exact⟨rfl,A7 xd.out (L3a (L3b _ _) (L1c _) _)⟩
section
variable {B cb cc:Nat} {Bk C:Nat->Nat} {g:PgR} {w:World}
def X9 (g:PgR) (Bk C:Nat->Nat) (cb cc:Nat):PgR :=
 { a:=some ⟨cb,0,none⟩,n:=g.n,c:=cc,b:=cb,o:=0,f:=fun i=>{ p:=(g.f i).p,l:=(g.f i).l,a:=some ⟨Bk i,0,none⟩,n:=(g.f i).n,c:=C i,b:=Bk i,o:=0,op:=(g.f i).op,ar:=(g.f i).ar } }
theorem yX (hn:g.n<=1152921504606846976) (hf:∀i,i < g.n->(g.f i).n<=1152921504606846976) (h:X6 B w g Bk C cb cc):I5 w.heap.size w (X9 g Bk C cb cc):=by
 obtain⟨F,xb,xg,hF,_⟩:=zC h;refine⟨hn,fun _=>⟨rfl,xb.lt,fun i hi=>?_⟩,fun i hi=>⟨hf i hi,fun _=>?_⟩⟩
 ·have xf:i < g.n:=hi
  obtain⟨h1,h2,h3⟩:=hF i xf;show w.cell? ⟨cb,0+i*3,none⟩=some (.int .i64 (g.f i).p)/\w.cell? ⟨cb,0+i*3+1,none⟩=some (.int .i64 (g.f i).l)/\w.cell? ⟨cb,0+i*3+2,none⟩=some (.slice (some ⟨Bk i,0,none⟩) (g.f i).n (C i));rw[Nat.zero_add,xb.cell R4,xb.cell R4,xb.cell R4,h1,h2,h3];exact⟨rfl,rfl,rfl⟩
 ·obtain ⟨F',xa,xc,xe⟩:=sD (h.2.1 i hi)
  refine⟨rfl,xa.lt,fun j hj=>?_⟩;have xd:j < (g.f i).n:=hj;obtain⟨h1,h2⟩:=xe j R4;show w.cell? ⟨Bk i,0+j*2,none⟩=some (.int .i64 ((g.f i).op j))/\w.cell? ⟨Bk i,0+j*2+1,none⟩=some (.int .i64 ((g.f i).ar j));rw[Nat.zero_add,xa.cell R4,xa.cell R4,h1,h2];unfold bQ bP;rw[if_pos xd,if_pos xd];exact⟨rfl,rfl⟩
theorem X6.below {w':World} (h:X6 B w g Bk C cb cc) (hb:L0d w w'):X6 B w' g Bk C cb cc :=
 ⟨J3 h.1 (hb.block _ (I6 h.1).2.1),fun j hj=>J3 (h.2.1 j hj) (hb.block _ (I6 (h.2.1 j hj)).2.1),h.2.2⟩
end
section
variable {Bk C:Nat->Nat} {M N cap cb cc yb:Nat} {P:A3} {R:McR} {Y:PlR} {cv lv:Value} {g g1 g2:PgR} {w:World} {w0:L7}
theorem uV (g:PgR) (w:World) (hg:I5 w.heap.size w g):∃x a,I9 g x a:=by
 obtain⟨e,w',fr,⟨x,a,_,hx,_⟩,_⟩:=(cQ g w hg) [];exact⟨x,a,hx⟩
theorem a3x (h1:Z9 (X9 g Bk C cb cc) g1) (h2:Z9 g g2):Z9 g1 g2:=by
 have n1:g1.n=g.n:=h1.1;refine⟨h2.1.trans n1.symm,fun j hj=>?_⟩;rw[n1] at hj;obtain⟨a1,a2,a3,a4,a5⟩:=h1.2 j hj;obtain⟨b1,b2,b3,b4,b5⟩:=h2.2 j hj;exact⟨b1.trans a1.symm,b2.trans a2.symm,b3.trans a3.symm,b4.trans a4.symm,b5.trans a5.symm⟩
theorem wX (hck:I9 g 0 0) (h1:1<=cap) (h40:cap<=40) (hs1:Z9 (X9 g Bk C cb cc) g1) (hs2:Z9 g g2) (hb:rG (X9 g Bk C cb cc) cap R) :
  ∃t,Is g1 t R/\D4 g1 t/\S5 g1/\Z9 g1 g2/\RV g2 (gE cap cv lv (g.f 0).l.toNat) t:=by
 have xa:S5 (X9 g Bk C cb cc):=a4U (show I9 (X9 g Bk C cb cc) 0 0 from hck);have xc:=hs1.pgOk xa;have xb:=a3x hs1 hs2;obtain⟨e,hn⟩:=a2e hb;have hi:D4 g1 ⟨0,[],[⟨0,0,List.replicate (g.f 0).l.toNat (0,0),[]⟩],List.replicate cap (0,[]),[]⟩:=hs1.inv xa (a0B xa h1 h40);refine⟨⟨0,[],[⟨0,0,List.replicate (g.f 0).l.toNat (0,0),[]⟩],List.replicate cap (0,[]),[]⟩,⟨e,hn⟩,hi,xc,xb,⟨C8.begin 0 _ cap,xb.inv xc hi,L6.nil,by show cap=(List.replicate cap ((0,[]):Ob)).length;rw [List.length_replicate]⟩⟩
theorem Lw.open {w1 w2 w3 w4:World} {mb rb B B2:Nat} {own own':Own} (h:Lw w0 P w yb Y N M)
  (hck:I9 g 0 0) (h1:1<=cap) (h40:cap<=40) (hb1:L0d w w1) (hB:w.heap.size<=B) (hB2:B2<=w1.heap.size)
  (hM:A4 w2 own mb g1 R) (hbg:rG (X9 g Bk C cb cc) cap R) (hs1:Z9 (X9 g Bk C cb cc) g1) (hb2:L0d w1 w2) (ho1:∀k t,own k=some t->w1.heap.size<=k) (hg1:∀k,g1.blk k->w1.heap.size<=k)
  (hR:A8 w3 own' rb g2 (gE cap cv lv (g.f 0).l.toNat)) (hs2:Z9 g g2) (hb3:L0d w2 w3) (ho2:∀k t,own' k=some t->w2.heap.size<=k) (hg2:∀k,g2.blk k->w2.heap.size<=k)
  (hb4:But (fun k=>B<=k/\k < B2) w3 w4) :
  ∃P2,Lw w0 P2 w4 yb Y N M/\kW P2 Y.ps.length mb rb N:=by
 have s1:=hb1.size;have s2:=hb2.size;have s3:=hb3.size;have s4:=hb4.size;have xe:=h.sep.pos;have xb:L0d w w3:=(hb1.trans (hb2.mono s1)).trans (hb3.mono (L5a s1 s2));have xa:L0d w w4:=⟨hb4.os.trans xb.os,hb4.tape.trans xb.tape,hb4.output.trans xb.output,L5a xb.size s4,fun b hb=>(hb4.block b R4 R4).trans (xb.block b hb)⟩;have xg:A4 w4 own mb g1 R:=hM.beside R4 fun k hk hq=>by
  refine (hb4.block k R4 ?_).trans (hb3.block k hk);rcases hq with hq | hq | hq
  ·cases e:own k with
   | none=>exact (hq e).elim
   | some t=>have:=ho1 k t e;omega
  ·have:=hg1 k hq;omega
  ·omega
 have xh:A8 w4 own' rb g2 (gE cap cv lv (g.f 0).l.toNat):=hR.aside s4 (fun k t e=>hb4.block k (hR.lt k t e) (by have:=ho2 k t e;omega)) (fun k _ hq=>by
  rcases hq with hq | hq | ⟨o,hq⟩
  ·exact hb4.block k (hR.pg.blk_lt hq) (by have:=hg2 k hq;omega)
  ·exact hb4.block k R4 R4
  ·cases hq)
 have bm:∀k,(U0 own mb g1 R).B k->w1.heap.size<=k/\k < w2.heap.size:=fun k hk=>⟨by
  rcases hk with hk | hk
  ·cases e:own k with
   | none=>exact (hk e).elim
   | some t=>exact ho1 k t e
  ·exact hg1 k hk,(U0 own mb g1 R).lt w2 hM k hk⟩
 have br:∀k,(cR own' rb g2 (gE cap cv lv (g.f 0).l.toNat)).B k->w2.heap.size<=k:=fun k hk=>by
  rcases hk with hk | hk | ⟨o,hk⟩
  ·cases e:own' k with
   | none=>exact (hk e).elim
   | some t=>exact ho2 k t e
  ·exact hg2 k hk
  ·cases hk
 have xc:Sep (P.put (1,Y.ps.length) (U0 own mb g1 R)) w4:=h.sep.upd _ _ xa.size (fun k hk _=>xa.block k hk) xg fun k hk=>L4b (by have:=(bm k hk).1;omega)
 have xf:Sep ((P.put (1,Y.ps.length) (U0 own mb g1 R)).put (2,Y.ps.length) (cR own' rb g2 (gE cap cv lv (g.f 0).l.toNat))) w4:=by
  refine xc.fresh _ _ xh (fun e=>by have:=br 0 e;omega) fun k hk j hj hq=>?_
  have:=br k hk;by_cases e:j=(1,Y.ps.length)
  ·rw [e,A3.put_same] at hq
   have:=(bm k hq).2;omega
  ·rw [A3.put_ne _ e] at hq
   have:=(P j).lt w (h.sep.F j) k hq;omega
 have hT:Stp P w ((P.put (1,Y.ps.length) (U0 own mb g1 R)).put (2,Y.ps.length) (cR own' rb g2 (gE cap cv lv (g.f 0).l.toNat))) w4:=⟨xa.os,xa.tape,xa.output,xa.size,fun b hb _=>xa.block b hb,fun j b hb=>by
  by_cases e:j=(2,Y.ps.length)
  ·rw [e,A3.put_same] at hb
   exact L4b (by have:=br b hb;omega)
  ·rw [A3.put_ne _ e] at hb
   by_cases e':j=(1,Y.ps.length)
   ·rw [e',A3.put_same] at hb
    exact L4b (by have:=(bm b hb).1;omega)
   ·rw [A3.put_ne _ e'] at hb
    exact L4a ⟨j,hb⟩⟩
 obtain⟨hb,xd⟩:=aX h.bel h.lo hT;obtain⟨t,t1,t2,t3,t4,t5⟩:=wX (cv:=cv) (lv:=lv) hck h1 h40 hs1 hs2 hbg;refine⟨_,⟨xf,?_,⟨h.law.1,fun j i nb j1 j5 hq=>?_⟩,fun i p hp=>?_,h.len,h.nps,hb,xd⟩,⟨own,g1,R,own',g2,_,t,?_,A3.put_same _ _ _,t1,t2,t3,t4,t5,L4c _⟩⟩
 ·rw [A3.put_ne _ (H5 R3 _ _),A3.put_ne _ (H5 R3 _ _)];exact h.p0
 ·rw [A3.put_ne _ (H5 R4 _ _),A3.put_ne _ (H5 R4 _ _)]
  exact h.law.2 j i nb j1 j5 hq
 ·have xi:=(L1a.1 hp).1
  obtain⟨ox,gx,RX,oc,gc,RC,t,q1,q2,q3⟩:=(h.pair i p hp).ex;have n1:((1,i):Nat × Nat)≠(1,Y.ps.length):=fun e'=>by simp only [Prod.mk.injEq] at e';omega
  have n2:((2,i):Nat × Nat)≠(2,Y.ps.length):=fun e'=>by simp only [Prod.mk.injEq] at e';omega
  refine⟨ox,gx,RX,oc,gc,RC,t,?_,?_,q3⟩
  ·rw [A3.put_ne _ (H5 R3 _ _),A3.put_ne _ n1];exact q1
  ·rw [A3.put_ne _ n2,A3.put_ne _ (H5 R3 _ _)];exact q2
 ·rw [A3.put_ne _ (H5 R3 _ _),A3.put_same]
theorem Lw.join {w':World} {xb:Nat} {pv:Value} (h:Lw w0 P w yb Y N M) (hp:kW P Y.ps.length xb cb N) (hP:H7 w' yb (Y.join (xb,cb) pv)) (hk:∀k,k < w.heap.size->¬R7 yb Y k->w'.heap[k]?=w.heap[k]?) (hB:∀k,R7 yb (Y.join (xb,cb) pv) k->R7 yb Y k\/w.heap.size<=k) (hs:w.heap.size<=w'.heap.size) (e1:w'.os=w.os) (e2:w'.tape=w.tape) (e3:w'.output=w.output) :
  ∃P2,Lw w0 P2 w' yb (Y.join (xb,cb) pv) N (M+1):=by
 have xd:∀b,(P (0,0)).B b↔R7 yb Y b:=fun b=>by rw [h.p0];exact Iff.rfl
 have k1:∀k,k < w.heap.size->¬(P (0,0)).B k->w'.heap[k]?=w.heap[k]?:=fun k hk' hn=>hk k hk' (by rw [<- xd];exact hn)
 have k2:∀k,(H9 yb (Y.join (xb,cb) pv)).B k->(P (0,0)).B k\/w.heap.size<=k:=fun k hk'=>by rw [xd];exact hB k hk'
 have hS:=h.sep.upd (0,0) (H9 yb (Y.join (xb,cb) pv)) hs k1 hP k2;have hT:=Stp.one (P:=P) (0,0) (H9 yb (Y.join (xb,cb) pv)) e1 e2 e3 hs k1 k2;obtain⟨hb,xf⟩:=aX h.bel h.lo hT;refine⟨_,⟨hS,A3.put_same _ _ _,⟨h.law.1,fun j i nb j1 j5 hq=>?_⟩,fun i p hq=>?_,fun j=>Nat.le_succ_of_le (h.len j),?_,hb,xf⟩⟩
 ·rw [A3.put_ne _ (H5 R4 _ _)]
  exact h.law.2 j i nb j1 j5 hq
 ·have xa:(Y.ps++[(xb,cb)])[i]?=some p:=hq
  have xe:kW P i p.1 p.2 N:=by
   by_cases e:i < Y.ps.length
   ·rw [List.getElem?_append_left e] at xa
    exact h.pair i p xa
   ·have xc:=(L1a.1 xa).1
    rw[List.length_append] at xc;have e2:i=Y.ps.length:=by simp at xc;omega
    subst e2;rw[List.getElem?_append_right (L1c _)] at xa;simp at xa;rw[<- xa];exact hp
  obtain⟨ox,gx,RX,oc,gc,RC,t,q1,q2,q3⟩:=xe.ex;exact⟨ox,gx,RX,oc,gc,RC,t,by rw [A3.put_ne _ (H5 R3 _ _)];exact q1,by rw [A3.put_ne _ (H5 R3 _ _)];exact q2,q3⟩
 ·show (Y.ps++[(xb,cb)]).length<=M+1
  rw[List.length_append];exact Nat.succ_le_succ h.nps
end
section
variable {B M N cb cc yb:Nat} {Bk C:Nat->Nat} {P:A3} {U w:World} {Y:PlR} {g:PgR} {w0:L7}
structure a6I (g:PgR) (w:World):Prop where
 lent:∀U,L0d w U->Calls prog 54 #[.agg #[.slice g.a g.n g.c]] U fun e w'=>rO g U e w'
 ret:∀U B B2 Bk C cb cc,L0d w U->w.heap.size<=B->B<=U.heap.size->X6 B U g Bk C cb cc->B2<=U.heap.size->(cb < B2/\∀j,j < g.n->Bk j < B2)->Calls prog 57 #[.agg #[.slice (some ⟨cb,0,none⟩) g.n cc],.agg #[.slice g.a g.n g.c]] U fun e w'=>e=.returned (.bool true)/\But (fun k=>B<=k/\k < B2) U w'
theorem a5E (hg:I5 w.heap.size w g) (hr:gU g):a6I g w :=
 ⟨fun U hU=>a2Q g U ((hg.below hU).mono hU.size) hr,fun U B B2 Bk C cb cc hU hB hBU hc hB2 hc2=>nN B B2 g Bk C cb cc U hBU ((hg.below hU).mono hB) hr hc hB2 hc2⟩
theorem oK {w1:World} {q:Nat} (hq:U.heap.size=q) (h1:w1.ownsRow U.heap.size 163 3 (.slice (some ⟨cb,0,none⟩) (g.n+1) cc) (g.n+1) (E1 g Bk C g.n++[.int .i64 (-7070),.int .i64 0,.slice none 0 0])) (h2:∀j,j < g.n->U5 U.heap.size w1 (g.f j) (Bk j) (C j)) (h3:∀i j,i < g.n->j < g.n->Bk i=Bk j->i=j):X6 q w1 g Bk C cb cc:=by
 subst hq;exact⟨h1,h2,h3⟩
theorem yY (h:X6 B w g Bk C cb cc):cb < w.heap.size/\∀j,j < g.n->Bk j < w.heap.size :=
 ⟨(I6 h.1).2.1,fun j hj=>(I6 (h.2.1 j hj)).2.1⟩
theorem But.from {w':World} {B2:Nat} (h:But (fun k=>B<=k/\k < B2) U w') (hU:L0d w U) (hB:w.heap.size<=B):L0d w w' :=
 ⟨h.os.trans hU.os,h.tape.trans hU.tape,h.output.trans hU.output,L5a hU.size h.size,fun b hb=>(h.block b (L0a hb hU.size) R4).trans (hU.block b hb)⟩
theorem wV (h:Lw w0 P w yb Y N M) (g:PgR) (hg:I5 w.heap.size w g) (hr:gU g) (ht:Tab w) (kd a cap x:Int) (hx:kV g cap x) (la sa:Option Addr) (ln lc sn sc:Nat) :
  Calls prog 33 #[.pointer (some ⟨yb,0,none⟩),.agg #[.int .i64 kd,.int .i64 a,.int .i64 cap,.slice g.a g.n g.c,.slice la ln lc,.slice sa sn sc]] w fun e w'=>e=.returned (.bool true)/\∃P2 Y2,Lw w0 P2 w' yb Y2 N (M+1):=by
 have HO:=hid (a5E hg hr);have HN:Hid (∀U B Bk C cb cc,L0d w U->X6 B U g Bk C cb cc->Calls prog 55 #[.agg #[.slice (some ⟨cb,0,none⟩) g.n cc],.int .i64 cap] U fun e w'=>e=.returned (.tuple #[.pointer none,.int .i64 x])/\L0d U w'):=hid fun U B Bk C cb cc hU hc=>a4q (X9 g Bk C cb cc) U (yX hg.1 (fun i hi=>(hg.2.2 i hi).1) hc) (ht.held hU.size (hU.block 0 ht.1)) cap x hx
 have HR:Hid (∀U,L0d w U->Calls prog 56 #[.agg #[.slice g.a g.n g.c],.int .i64 cap] U fun e w'=>e=.returned (.tuple #[.pointer none,.int .i64 x])/\L0d U w'):=hid fun U hU=>a3m g U ((hg.below hU).mono hU.size) cap x hx
 have HL:=hid h;clear h hg hr ht hx;go_enter func33,ntmps33;go_wp2_with (first
  | (go_at_call 54;refine (HO.out.lent _ P8).mono ?_;rintro e w1 ⟨Bk,C,cb,cc,rfl,xm,xl,xk,xd⟩;have c2:w1.cell? ⟨w.heap.size,2,none⟩=some (.int .i64 cap):=keep xd R5 Q9;have c3:w1.cell? ⟨w.heap.size,3,none⟩=some (.slice g.a g.n g.c):=keep xd R5 Q9;have hz:w.heap.size < w1.heap.size:=(by have:=xd.size;simp at this;omega);have xh:Hid (X6 (w.heap.size+1) w1 g Bk C cb cc):=hid (oK R5 xm xl xk);have xa:Hid (L0d w w1):=hid ((L3a (L3b _ _) (L1c _) _:L0d w _).trans (xd.mono R5));clear xm xl xk xd)
  | (go_at_call 55;have xb:L0d w1 (w1.alloc (.cells #[.slice (some ⟨cb,0,none⟩) g.n cc] 41)):=L3a (L3b _ _) (L1c _) _;refine (HN.out _ _ Bk C cb cc (xa.out.trans (xb.mono xa.out.size)) (xh.out.below xb)).mono ?_;rintro e w2 ⟨rfl,xc⟩;have d2:w2.cell? ⟨w.heap.size,2,none⟩=some (.int .i64 cap):=keep xc Q8 (keep xb hz c2);have d3:w2.cell? ⟨w.heap.size,3,none⟩=some (.slice g.a g.n g.c):=keep xc Q8 (keep xb hz c3);have d0:w2.cell? ⟨w1.heap.size,0,none⟩=some (.slice (some ⟨cb,0,none⟩) g.n cc):=keep xc R5 Q9;have xi:Hid (L0d w1 w2):=hid (xb.trans (xc.mono xb.size));have xo:w1.heap.size < w2.heap.size:=(by have:=xc.size;simp at this;omega);have xg:w.heap.size < w2.heap.size:=R4;clear xc xb c2 c3)
  | (go_at_call 56;refine (HR.out _ (xa.out.trans (xi.out.mono xa.out.size))).mono ?_;rintro e w3 ⟨rfl,xe⟩;have e3:w3.cell? ⟨w.heap.size,3,none⟩=some (.slice g.a g.n g.c):=keep xe xg d3;have e0:w3.cell? ⟨w1.heap.size,0,none⟩=some (.slice (some ⟨cb,0,none⟩) g.n cc):=keep xe xo d0;have xf:Hid (L0d w1 w3):=hid (xi.out.trans (xe.mono xi.out.size));have xq:w1.heap.size < w3.heap.size:=(by have:=xe.size;omega);have xn:w.heap.size < w3.heap.size:=R4;clear xe d0 d2 d3)
  | (go_at_call 57;refine (HO.out.ret _ _ w1.heap.size Bk C cb cc (xa.out.trans (xf.out.mono xa.out.size)) R4 R4 (xh.out.below xf.out) R4 (yY xh.out)).mono ?_;rintro e w4 ⟨rfl,xj⟩;have xp:Hid (L0d w w4):=hid (xj.from (xa.out.trans (xf.out.mono xa.out.size)) R4);clear xj e0 e3)
  | (go_at_call 19;refine (vZ x).mono ?_;rintro e w5 ⟨rfl,hw⟩;rw [hw];clear hw w5))
 go_ret;exact⟨rfl,P,Y,(HL.out.below xp.out).mono (L1c _) R4⟩
theorem a0R (h:Lw w0 P w yb Y N M) (hM:M<=900000000) (g:PgR) (hg:I5 w.heap.size w g) (hr:gU g) (ht:Tab w) (kd a:Int) (cap:Nat) (hck:I9 g 0 0) (h1:1<=cap) (h40:cap<=40) (la sa:Option Addr) (ln lc sn sc:Nat) :
  Calls prog 33 #[.pointer (some ⟨yb,0,none⟩),.agg #[.int .i64 kd,.int .i64 a,.int .i64 (cap:Int),.slice g.a g.n g.c,.slice la ln lc,.slice sa sn sc]] w fun e w'=>e=.returned (.bool true)/\∃P2 Y2,Lw w0 P2 w' yb Y2 N (M+1):=by
 have HO:=hid (a5E hg hr);have HN:Hid (∀U B Bk C cb cc,L0d w U->X6 B U g Bk C cb cc->Calls prog 55 #[.agg #[.slice (some ⟨cb,0,none⟩) g.n cc],.int .i64 (cap:Int)] U fun e w'=>gQ (X9 g Bk C cb cc) cap U e w'):=hid fun U B Bk C cb cc hU hc=>a1Z (X9 g Bk C cb cc) U (yX hg.1 (fun i hi=>(hg.2.2 i hi).1) hc) (ht.held hU.size (hU.block 0 ht.1)) hck cap h1 h40
 have HR:Hid (∀U,L0d w U->Calls prog 56 #[.agg #[.slice g.a g.n g.c],.int .i64 (cap:Int)] U fun e w'=>gT g cap U e w'):=hid fun U hU=>a3l g U ((hg.below hU).mono hU.size) (L0a ht.1 hU.size) hck cap h1 h40
 have HL:=hid h;have xz:=hid hck;have HM:=hid hM;clear h hg hr ht hck hM;go_enter func33,ntmps33;go_wp2_with (first
  | (go_at_call 54;refine (HO.out.lent _ P8).mono ?_;rintro e w1 ⟨Bk,C,cb,cc,rfl,xv,xu,xs,xf⟩;have c2:w1.cell? ⟨w.heap.size,2,none⟩=some (.int .i64 (cap:Int)):=keep xf R5 Q9;have c3:w1.cell? ⟨w.heap.size,3,none⟩=some (.slice g.a g.n g.c):=keep xf R5 Q9;have hz:w.heap.size < w1.heap.size:=(by have:=xf.size;simp at this;omega);have xi:Hid (X6 (w.heap.size+1) w1 g Bk C cb cc):=hid (oK R5 xv xu xs);have xb:Hid (L0d w w1):=hid ((L3a (L3b _ _) (L1c _) _:L0d w _).trans (xf.mono R5));clear xv xu xs xf)
  | (go_at_call 55;have xd:L0d w1 (w1.alloc (.cells #[.slice (some ⟨cb,0,none⟩) g.n cc] 41)):=L3a (L3b _ _) (L1c _) _;refine (HN.out _ _ Bk C cb cc (xb.out.trans (xd.mono xb.out.size)) (xi.out.below xd)).mono ?_;rintro e w2 ⟨own,mb,g1,R,rfl,hm,xq,xa,xc,xx,xt⟩;have d2:w2.cell? ⟨w.heap.size,2,none⟩=some (.int .i64 (cap:Int)):=keep xc Q8 (keep xd hz c2);have d3:w2.cell? ⟨w.heap.size,3,none⟩=some (.slice g.a g.n g.c):=keep xc Q8 (keep xd hz c3);have d0:w2.cell? ⟨w1.heap.size,0,none⟩=some (.slice (some ⟨cb,0,none⟩) g.n cc):=keep xc R5 Q9;have xj:Hid (L0d w1 w2):=hid (xd.trans (xc.mono xd.size));have ye:Hid (A4 w2 own mb g1 R/\rG (X9 g Bk C cb cc) cap R/\Z9 (X9 g Bk C cb cc) g1/\Below (w1.alloc (.cells #[.slice (some ⟨cb,0,none⟩) g.n cc] 41)).heap.size (w1.alloc (.cells #[.slice (some ⟨cb,0,none⟩) g.n cc] 41)) w2/\(∀k t,own k=some t->(w1.alloc (.cells #[.slice (some ⟨cb,0,none⟩) g.n cc] 41)).heap.size<=k)/\∀k,g1.blk k->(w1.alloc (.cells #[.slice (some ⟨cb,0,none⟩) g.n cc] 41)).heap.size<=k):=hid ⟨hm,xq,xa,xc,xx,xt⟩;have yc:w1.heap.size < w2.heap.size:=(by have:=xc.size;simp at this;omega);have xh:w.heap.size < w2.heap.size:=R4;clear hm xq xa xc xx xt xd c2 c3)
  | (go_at_call 56;refine (HR.out _ (xb.out.trans (xj.out.mono xb.out.size))).mono ?_;rintro e w3 ⟨xg,rb,g2,cv,lv,rfl,hR,xm,xe,xw,xr⟩;have e3:w3.cell? ⟨w.heap.size,3,none⟩=some (.slice g.a g.n g.c):=keep xe xh d3;have e0:w3.cell? ⟨w1.heap.size,0,none⟩=some (.slice (some ⟨cb,0,none⟩) g.n cc):=keep xe yc d0;have xl:Hid (L0d w1 w3):=hid (xj.out.trans (xe.mono xj.out.size));have yd:Hid (A8 w3 xg rb g2 (gE cap cv lv (g.f 0).l.toNat)/\Z9 g g2/\L0d w2 w3/\(∀k t,xg k=some t->w2.heap.size<=k)/\∀k,g2.blk k->w2.heap.size<=k):=hid ⟨hR,xm,xe,xw,xr⟩;have yf:w1.heap.size < w3.heap.size:=(by have:=xe.size;omega);have xy:w.heap.size < w3.heap.size:=R4;clear hR xm xe xw xr d0 d2 d3)
  | (go_at_call 57;refine (HO.out.ret _ _ w1.heap.size Bk C cb cc (xb.out.trans (xl.out.mono xb.out.size)) R4 R4 (xi.out.below xl.out) R4 (yY xi.out)).mono ?_;rintro e w4 ⟨rfl,xp⟩;obtain ⟨n1,n2,n3,n4,n5,n6⟩:=ye.out;obtain ⟨r1,r2,r3,r4,r5⟩:=yd.out;obtain ⟨P2,xn,xo⟩:=HL.out.open (w1:=(w1.alloc (.cells #[.slice (some ⟨cb,0,none⟩) g.n cc] 41))) xz.out h1 h40 (L3a xb.out R4 _) (Nat.le_succ _) R5 n1 n2 n3 n4 n5 n6 r1 r2 r3 r4 r5 xp;have xk:=hid xn;have ya:=hid xo;clear n1 n2 n3 n4 n5 n6 r1 r2 r3 r4 r5 xn xo xp e0 e3)
  | (go_at_call 19;refine (vY xk.out.play (by have:=xk.out.nps;have:=HM.out;omega) 0).mono ?_;rintro e w5 ⟨rfl,pv,j1,j2,j3,j4,j5,j6,j7⟩;have HW:=hid (xk.out.join ya.out j1 j2 j3 j4 j5 j6 j7);clear j1 j2 j3 j4 j5 j6 j7))
 go_ret;obtain⟨P3,hW⟩:=HW.out;exact⟨rfl,P3,_,hW⟩
theorem wU (h:Lw w0 P w yb Y N M) (hM:M<=900000000) (g:PgR) (hg:I5 w.heap.size w g) (hr:gU g) (ht:Tab w) (kd a cap:Int) (la sa:Option Addr) (ln lc sn sc:Nat) :
  Calls prog 33 #[.pointer (some ⟨yb,0,none⟩),.agg #[.int .i64 kd,.int .i64 a,.int .i64 cap,.slice g.a g.n g.c,.slice la ln lc,.slice sa sn sc]] w fun e w'=>e=.returned (.bool true)/\∃P2 Y2,Lw w0 P2 w' yb Y2 N (M+1):=by
 obtain⟨x,b,hx⟩:=uV g w hg;rcases a0L g cap hx with ⟨x,hx⟩ | ⟨xa,h1,xb⟩
 ·exact wV h g hg hr ht kd a cap x hx la sa ln lc sn sc
 ·obtain ⟨n,rfl⟩:=L5c (show 0<=cap by omega)
  exact a0R h hM g hg hr ht kd a n xa R4 R4 la sa ln lc sn sc
end
end Go.Proofs.YtbkmgoffiigdbaaGreatDoor
