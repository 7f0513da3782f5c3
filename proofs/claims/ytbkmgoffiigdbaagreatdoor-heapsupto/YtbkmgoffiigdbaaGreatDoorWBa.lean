import Derived.Deep.RegionHeld
import Derived.Test.YtbkmgoffiigdbaaGreatDoorWCa
import Derived.Test.YtbkmgoffiigdbaaGreatDoorWFc
namespace Go.Proofs.YtbkmgoffiigdbaaGreatDoor
set_option maxHeartbeats 4000000
set_option maxRecDepth 100000
section
variable {α:Type}
theorem T1 (l:List α) (i:Nat) (a:α):l.toArray.setIfInBounds i a=(l.set i a).toArray:=List.setIfInBounds_toArray ..
theorem T2 (x:α) (xs:List α) (a:α):(x::xs).set 0 a=a::xs:=rfl
theorem T3 (x:α) (xs:List α) (i:Nat) (a:α):(x::xs).set (i+1) a=x::xs.set i a:=rfl
section
variable {P:Program} {ops:Array Oper} {Q:Exit->Act->World->Prop} {md:Region.Mode} {S:World->Prop} {fuel:Nat} {listed:Array Bool} {a:Act} {w:World}
theorem TK (i:Nat) (oi:Oper) (v:Value) (hy:∀w,S w->(execOp a.eval oi).run P w=.ok (.value v) w) (h:wpAnyH P md ops Q S fuel (listed.setIfInBounds i true) (a.put oi.dst v) w) (hi:ops[i]?=some oi:=by rfl) (hs:Region.noSelect ops=true:=by kernel_rfl) (hf:Region.free md ops listed i=true:=by kernel_rfl) (hr:(Region.ready md ops listed).contains i=true:=by kernel_rfl) (hQ:∀c a w,Q (.panic c) (a.put oi.dst v) w->Q (.panic c) a w:=by exact fun _ _ _ h=>h) (hg:Region.wanted oi (yielded ops a.tmps)=true:=by rfl) (hS:S w:=by assumption):wpAnyH P md ops Q S (fuel+1) listed a w :=
 wpAnyH_take hi hs hf hr hQ (Or.inl ⟨hg,hy⟩) hS h
theorem TW (i:Nat) (oi:Oper) {v:Value} {a':Act} (h:wpAnyH P md ops Q S fuel (listed.setIfInBounds i true) a' w) (hy:∀w,S w->(execOp a.eval oi).run P w=.ok (.value v) w:=by intro wq hSw;(try dsimp only at hSw);go_simp;try with_reducible rfl) (hp:a.put oi.dst v=a':=by (try simp only [Act.put,T1,T2,T3]);exact rfl) (hi:ops[i]?=some oi:=by rfl) (hs:Region.noSelect ops=true:=by kernel_rfl) (hf:Region.free md ops listed i=true:=by kernel_rfl) (hr:(Region.ready md ops listed).contains i=true:=by kernel_rfl) (hQ:∀c a w,Q (.panic c) (a.put oi.dst v) w->Q (.panic c) a w:=by exact fun _ _ _ h=>h) (hg:Region.wanted oi (yielded ops a.tmps)=true:=by rfl) (hS:S w:=by assumption):wpAnyH P md ops Q S (fuel+1) listed a w :=
 wpAnyH_take hi hs hf hr hQ (Or.inl ⟨hg,hy⟩) hS (hp▸h)
theorem TS (i:Nat) (oi:Oper) (h:wpAnyH P md ops Q S fuel (listed.setIfInBounds i true) (a.put oi.dst undef) w) (hi:ops[i]?=some oi:=by rfl) (hs:Region.noSelect ops=true:=by kernel_rfl) (hf:Region.free md ops listed i=true:=by kernel_rfl) (hr:(Region.ready md ops listed).contains i=true:=by kernel_rfl) (hQ:∀c a w,Q (.panic c) (a.put oi.dst undef) w->Q (.panic c) a w:=by exact fun _ _ _ h=>h) (hg:Region.wanted oi (yielded ops a.tmps)=false:=by rfl) (hS:S w:=by assumption):wpAnyH P md ops Q S (fuel+1) listed a w :=
 wpAnyH_take hi hs hf hr hQ (Or.inr ⟨hg,rfl⟩) hS h
theorem TO (i:Nat) (o:Oper) (h:∀K':Act->World->Prop,Shut (∀a w,S w->(S w->wpAnyH P md ops Q S fuel (listed.setIfInBounds i true) a w)->K' a w)->if Region.wanted o (yielded ops a.tmps)=true then Oper.wp P o a w K' Q else K' (a.put o.dst undef) w) (ho:ops[i]?=some o:=by rfl) (hr:Region.ready md ops listed=[i]:=by kernel_rfl):wpAnyH P md ops Q S (fuel+1) listed a w :=
 wpAnyH_ready hr (by simp) (AllReadyH.cons ho h AllReadyH.nil)
end
theorem TG {K Z:Act->World->Prop} {a a':Act} {w:World} {S:World->Prop} (hK:Shut (∀a w,S w->(S w->Z a w)->K a w)) (hS:S w) (h:S w->Z a' w) (hp:a=a':=by (try simp only [Act.put,T1,T2,T3]);exact rfl):K a w:=hK.out _ _ hS (fun s=>hp▸h s)
end
end Go.Proofs.YtbkmgoffiigdbaaGreatDoor
namespace Go.Proofs.YtbkmgoffiigdbaaGreatDoor
open Go.RowKit Go.Sort Go.Proofs.Tryz
set_option maxHeartbeats 4000000
set_option maxRecDepth 100000
section
variable {B B' e e' n n' sz sz':Nat} {W w:World} {v v':Value} {xs xs':List Value}
theorem G8 (h:w.ownsRow B e sz v n xs) (h':w.ownsRow B' e' sz' v' n' xs') (hne:e≠e'):∀b,v.ownBlock=some b->v'.ownBlock≠some b:=fun b hb hb'=>by
 rcases h.2 with ⟨h0,_⟩ | ⟨g1,c1,xe,xb,_,xd,_⟩
 ·rw [h0] at hb;cases hb
 ·rcases h'.2 with ⟨h0,_⟩ | ⟨g2,c2,xc,xf,_,xa,_⟩
  ·rw [h0] at hb';cases hb'
  ·rw [xb] at hb
   rw[xf] at hb';obtain rfl:g1=b:=by simpa [Value.ownBlock] using hb
   obtain rfl:g2=g1:=by simpa [Value.ownBlock] using hb'
   rw[xd] at xa;have:=L5b xa;simp at this;exact hne this.2
theorem wW {w':World} (h:w.ownsRow B e sz v n xs) (h':w.ownsRow B' e' sz' v' n' xs') (hne:e≠e') (hg:w.grownBy w' v'.ownBlock):w'.ownsRow B e sz v n xs :=
 A6 h fun b hb=>hg.block b (h.lt b hb).2 fun e=>G8 h h' hne b hb e.symm
def pA (W wr:World) (sl:List Int) (frs:List FrR) (i:Nat) (vl:Value):Prop :=
 ∃L:List FrR,L.length=i/\wr.ownsRow W.heap.size 86 4 vl i (L.flatMap FrR.cells)/\(∀k f,k < i->frs[k]?=some f->∃q,L[k]?=some q/\q.fn=f.fn/\q.pc=f.pc/\wr.ownsRow W.heap.size 92 2 q.lv f.loc.length (A5 (f.loc.map (J1 sl)))/\wr.ownsRow W.heap.size 92 2 q.sv f.stk.length (A5 (f.stk.map (J1 sl))))/\L0d W wr
theorem a1x {wr w2 w4:World} {sl:List Int} {frs L:List FrR} {i:Nat} {f:FrR} {vl:Value} {a1 a2 va:Option Addr} {c1 c2 vc:Nat} {o:Obj} (hf:frs[i]?=some f) (hL:L.length=i) (hrow:w2.ownsRow W.heap.size 86 4 vl i (L.flatMap FrR.cells))
  (hdone:∀k f,k < i->frs[k]?=some f->∃q,L[k]?=some q/\q.fn=f.fn/\q.pc=f.pc/\wr.ownsRow W.heap.size 92 2 q.lv f.loc.length (A5 (f.loc.map (J1 sl)))/\wr.ownsRow W.heap.size 92 2 q.sv f.stk.length (A5 (f.stk.map (J1 sl)))) (hbel:L0d W wr) (hwr:L0d wr w2)
  (h1:w2.ownsRow W.heap.size 92 2 (.slice a1 f.loc.length c1) f.loc.length (A5 (f.loc.map (J1 sl)))) (h2:w2.ownsRow W.heap.size 92 2 (.slice a2 f.stk.length c2) f.stk.length (A5 (f.stk.map (J1 sl))))
  (hg:(w2.alloc o).grownBy w4 vl.ownBlock) (ho:w4.ownsRow W.heap.size 86 4 (.slice va (i+1) vc) (i+1) (L.flatMap FrR.cells++[.int .i64 (f.fn:Int),.int .i64 (f.pc:Int),.slice a1 f.loc.length c1,.slice a2 f.stk.length c2])):pA W w4 sl frs (i+1) (.slice va (i+1) vc):=by
 refine⟨L++[⟨f.fn,f.pc,.slice a1 f.loc.length c1,.slice a2 f.stk.length c2,[],[]⟩],by simp [hL],by simpa [FrR.cells] using ho,fun k p hk hp=>?_,?_⟩
 ·have xa:∀{n:Nat} {v:Value} {xs:List Value},w2.ownsRow W.heap.size 92 2 v n xs->w4.ownsRow W.heap.size 92 2 v n xs:=fun h=>wW (h.alloc o) (hrow.alloc o) R3 hg
  by_cases e:k=i
  ·subst e
   rw[hf] at hp;obtain rfl:=L5b hp;exact⟨⟨f.fn,f.pc,.slice a1 f.loc.length c1,.slice a2 f.stk.length c2,[],[]⟩,by rw [<- hL];simp,rfl,rfl,xa h1,xa h2⟩
  ·obtain ⟨q,hq,e1,e2,r1,r2⟩:=hdone k p R4 hp
   refine⟨q,by rw [List.getElem?_append_left R4];exact hq,e1,e2,xa (G9 r1 hwr),xa (G9 r2 hwr)⟩
 ·have hs:=hbel.size
  have xb:=hwr.size;exact ((hbel.trans (hwr.mono hs)).alloc R4 o).grown hg Q8 fun k hk=>(hrow.lt k hk).1
theorem a1b {own:Own} {mb:Nat} {g:PgR} {R:RfR} (h:A8 W own mb g R) (hb:fD R) (hr:bX R) :
  Calls prog 27 #[.pointer (some ⟨mb,0,none⟩)] W fun e w'=>∃vl,e=.returned vl/\pA W w' (R.ths.map ThR.slot) R.frs R.frs.length vl:=by
 obtain⟨yx,yk,yg,xs,xp⟩:=info_parts dX;have HI:=hid yk;have HZ:=hid yg;have yo:=hid xs;have yr:=hid xp;have yf:=h.lt _ _ h.me;obtain⟨ca,cc,yi,zi,xg⟩:=Row.cells FrR.cells_len h.called;have m4:=h.c4;rw[yi] at m4;have zd:=hb.frs;have HH:=hid h;have yv:=hid xg;have HB:=hid hb;have HR:=hid hr;have M4:=hid m4;clear h xg hb hr yi m4 yk yg xs xp;go_enter func27,ntmps27
 go_wp2_with fail;go_loopw [3,4] (fun vl vi wr=>∃i:Nat,i<=R.frs.length/\vi=.int .i64 i/\pA W wr (R.ths.map ThR.slot) R.frs i vl) (fun _ vi _=>R.frs.length - (intOf vi).toNat)
 case atStart=>exact ⟨0,L4c _,rfl,[],rfl,World.ownsRow_nil _ _ _ _,fun k f hk=>by omega,L3b _ _⟩
 case round =>
  obtain⟨i,hi,rfl,L,hL,xe,xb,xa⟩:=hrel;obtain⟨ra,rc,ys,_⟩:=B4 xe;subst ys;have xk:=hid xe;have xf:=hid xb;have xj:=hid xa;have HL:=hid hL;have xu:W.heap.size<=wr.heap.size:=xa.size;have zg:mb < wr.heap.size:=L0a yf xu;have m4:=keep xa yf M4.out;by_cases hlt:i < R.frs.length
  ·obtain ⟨f,hf⟩:∃f,R.frs[i]?=some f:=⟨_,L1b hlt⟩
   have yu:=HH.out.same xa;obtain⟨cb,rfl,xn,zb,yp,xg⟩:=yv.out R4;have k0:=keep xa xn (xg i 0 f _ hf R3 rfl);have k1:=keep xa xn (xg i 1 f _ hf R3 rfl);have k2:=keep xa xn (xg i 2 f _ hf R3 rfl);have k3:=keep xa xn (xg i 3 f _ hf R3 rfl);obtain⟨la,lc,yj,_,ya⟩:=(HH.out.loc i f hf).vals;obtain⟨sa,sc,yl,_,yh⟩:=(HH.out.stk i f hf).vals
   rw[yj] at k2;rw[yl] at k3;rw[Nat.add_zero] at k0;have zc:cb < wr.heap.size:=L0a xn xu;have yq:(i:Int) < (R.frs.length:Int):=by omega
   clear xe xb xa yu yp xg hL;go_wp2_with fail;generalize hqV:(wr.alloc (Obj.cells #[.int .i64 (f.fn:Int),.int .i64 (f.pc:Int),.slice la f.loc.length lc,.slice sa f.stk.length sc] 86))=V at *
   have q0:V.cell? ⟨wr.heap.size,0,none⟩=some (.int .i64 (f.fn:Int)):=by subst hqV;go_simp
   have q1:V.cell? ⟨wr.heap.size,1,none⟩=some (.int .i64 (f.pc:Int)):=by subst hqV;go_simp
   have q2:V.cell? ⟨wr.heap.size,2,none⟩=some (.slice la f.loc.length lc):=by subst hqV;go_simp
   have q3:V.cell? ⟨wr.heap.size,3,none⟩=some (.slice sa f.stk.length sc):=by subst hqV;go_simp
   have ym:L0d wr V:=by subst hqV;exact L3a (L3b _ _) (L1c _) _
   have xm:wr.heap.size < V.heap.size:=by subst hqV;simp
   have xz:=hid ym;have xt:=HB.out.loc f (L2a hf);have xi:Hid (∀u,u∈f.loc++f.stk->u.1=2->0<=u.2/\u.2.toNat < (R.ths.map ThR.slot).length):=hid fun u hu h2=>by
    rw[List.length_map];exact HR.out.vals u (F9.2 ⟨f.abs,List.mem_map.2 ⟨f,L2a hf,rfl⟩,hu⟩) h2
   have yc:Hid (∀U,L0d W U->Calls prog 49 #[.pointer (some ⟨mb,0,none⟩),.slice la f.loc.length lc] U fun e w'=>∃v,e=.returned v/\w'.ownsRow U.heap.size 92 2 v f.loc.length (A5 (f.loc.map (J1 (R.ths.map ThR.slot))))/\L0d U w'):=hid fun U hU=>jO (HH.out.slotsIn.later hU) ((ya.later hU).mono hU.size) (fun u hu=>xi.out u (by simp [hu])) xt.1 (by have:=HB.out.ths;simpa using this)
   have yd:Hid (∀U,L0d W U->Calls prog 49 #[.pointer (some ⟨mb,0,none⟩),.slice sa f.stk.length sc] U fun e w'=>∃v,e=.returned v/\w'.ownsRow U.heap.size 92 2 v f.stk.length (A5 (f.stk.map (J1 (R.ths.map ThR.slot))))/\L0d U w'):=hid fun U hU=>jO (HH.out.slotsIn.later hU) ((yh.later hU).mono hU.size) (fun u hu=>xi.out u (by simp [hu])) xt.2 (by have:=HB.out.ths;simpa using this)
   clear ym k0 k1 k2 k3 m4 ya yh yj yl;clear hqV;have HC:Hid (∀u,L0d V u->u.cell? ⟨wr.heap.size,0,none⟩=some (.int .i64 (f.fn:Int))/\u.cell? ⟨wr.heap.size,1,none⟩=some (.int .i64 (f.pc:Int))/\u.cell? ⟨wr.heap.size,2,none⟩=some (.slice la f.loc.length lc)/\u.cell? ⟨wr.heap.size,3,none⟩=some (.slice sa f.stk.length sc)):=hid fun u hu=>⟨keep hu xm q0,keep hu xm q1,keep hu xm q2,keep hu xm q3⟩
   have HV:Hid (L0d V V.drew):=L3c (L3b _ _);have xl:Hid (L0d W V):=hid (xj.out.trans (xz.out.mono xu));clear q0 q1 q2 q3;refine wp_region_held_drew (S:=fun u=>u.cell? ⟨wr.heap.size,0,none⟩=some (.int .i64 (f.fn:Int))/\u.cell? ⟨wr.heap.size,1,none⟩=some (.int .i64 (f.pc:Int))/\u.cell? ⟨wr.heap.size,2,none⟩=some (.slice la f.loc.length lc)/\u.cell? ⟨wr.heap.size,3,none⟩=some (.slice sa f.stk.length sc)) Q7 (HC.out _ HV.out) (fun hHeld=>?_)
   refine TW 0 ⟨some 22,.move (.tmp 3),66,"machine.go:478",#[],none⟩ ?_
   refine TW 1 ⟨some 23,.fieldAddr 86 (.tmp 5) 0,0,"machine.go:478",#[],none⟩ ?_
   refine TW 2 ⟨some 24,.load 3 (.tmp 23),3,"machine.go:478",#[⟨1,.data⟩],none⟩ ?_
   refine TW 3 ⟨some 25,.fieldAddr 86 (.tmp 5) 1,0,"machine.go:478",#[],none⟩ ?_
   refine TW 4 ⟨some 26,.load 3 (.tmp 25),3,"machine.go:478",#[⟨3,.data⟩],none⟩ ?_
   refine TW 5 ⟨some 27,.move (.tmp 0),46,"machine.go:478",#[],none⟩ ?_
   refine TW 6 ⟨some 28,.fieldAddr 86 (.tmp 5) 2,0,"machine.go:478",#[],none⟩ ?_
   refine TW 7 ⟨some 29,.load 84 (.tmp 28),84,"machine.go:478",#[⟨6,.data⟩],none⟩ ?_
   refine TW 9 ⟨some 31,.move (.tmp 0),46,"machine.go:478",#[],none⟩ ?_
   refine TW 10 ⟨some 32,.fieldAddr 86 (.tmp 5) 3,0,"machine.go:478",#[],none⟩ ?_
   refine TW 11 ⟨some 33,.load 84 (.tmp 32),84,"machine.go:478",#[⟨10,.data⟩],none⟩ ?_
   clear hHeld
   refine TO 8 ⟨some 30,.call ⟨.value (.func 49),#[.tmp 27,.tmp 29],#[46,84]⟩,84,"machine.go:478",#[⟨5,.data⟩,⟨7,.data⟩],none⟩ fun K hK => ?_
   go_simp
   go_at_call 49
   refine (yc.out _ (xl.out.trans (HV.out.mono xl.out.size))).mono ?_;rintro e w1 ⟨v1,rfl,xx,ye⟩;obtain⟨a1,c1,yy,_⟩:=B4 xx;subst yy;have xo:Hid (L0d V w1):=hid (HV.out.trans (ye.mono HV.out.size));have yt:Hid (w1.ownsRow W.heap.size 92 2 (.slice a1 f.loc.length c1) f.loc.length (A5 (f.loc.map (J1 (R.ths.map ThR.slot))))):=hid (D6 xx (by have:=xl.out.size;simpa using this))
   clear xx ye
   dsimp only
   refine TG hK (HC.out _ xo.out) fun hHeld=>?_
   clear hK K;clear hHeld
   refine TO 12 ⟨some 34,.call ⟨.value (.func 49),#[.tmp 31,.tmp 33],#[46,84]⟩,84,"machine.go:478",#[⟨9,.data⟩,⟨11,.data⟩,⟨8,.chain⟩],none⟩ fun K hK => ?_
   go_simp
   go_at_call 49
   refine (yd.out _ (xl.out.trans (xo.out.mono xl.out.size))).mono ?_;rintro e w2 ⟨v2,rfl,xw,xv⟩;obtain⟨a2,c2,yz,_⟩:=B4 xw;subst yz;have xr:Hid (L0d V w2):=hid (xo.out.trans (xv.mono xo.out.size));have za:Hid (w2.ownsRow W.heap.size 92 2 (.slice a2 f.stk.length c2) f.stk.length (A5 (f.stk.map (J1 (R.ths.map ThR.slot))))):=hid (D6 xw (L5a xl.out.size xo.out.size))
   have xy:Hid (w2.ownsRow W.heap.size 92 2 (.slice a1 f.loc.length c1) f.loc.length (A5 (f.loc.map (J1 (R.ths.map ThR.slot))))):=hid (G9 yt.out xv);clear xw xv
   dsimp only
   refine TG hK (HC.out _ xr.out) fun hHeld=>?_
   clear hK K
   refine TW 13 ⟨some 35,.build 86 #[(0,.tmp 24),(1,.tmp 26),(2,.tmp 30),(3,.tmp 34)],86,"machine.go:478",#[⟨2,.data⟩,⟨4,.data⟩,⟨8,.data⟩,⟨12,.data⟩],none⟩ ?_
   clear hHeld
   refine TO 14 ⟨some 36,.buildSlice 66 1 #[(0,.tmp 35)],66,"machine.go:478",#[⟨13,.data⟩],none⟩ fun K hK => ?_
   go_simp
   have yb:Hid (L0d V (w2.alloc (.cells #[.int .i64 (f.fn:Int),.int .i64 (f.pc:Int),.slice a1 f.loc.length c1,.slice a2 f.stk.length c2] 86))):=hid (L3a xr.out xr.out.size _);have xd:L0d wr w2:=xz.out.trans (xr.out.mono xz.out.size);have xh:Hid (w2.ownsRow W.heap.size 86 4 (.slice ra i rc) i (L.flatMap FrR.cells)):=hid (G9 xk.out xd);have xq:=hid xd
   have ze:W.heap.size<=w2.heap.size:=L5a xu xd.size;clear xd;refine TG hK (HC.out _ yb.out) fun hHeld=>?_
   clear hK K;clear hHeld
   refine TO 15 ⟨some 37,.call ⟨.builtin .append,#[.tmp 22,.tmp 36],#[66,66]⟩,66,"machine.go:478",#[⟨0,.data⟩,⟨14,.data⟩,⟨12,.chain⟩],none⟩ fun K hK => ?_
   refine L2 rfl (.tmp 22) (.tmp 36) 66 rfl W.heap.size 86 yx _ 4 64 underlying66 HI.out HZ.out yo.out yr.out rfl R3 (.slice ra i rc) i (L.flatMap FrR.cells) Q3 (xh.out.alloc _) (some ⟨w2.heap.size,0,none⟩) 1 1 [.int .i64 (f.fn:Int),.int .i64 (f.pc:Int),.slice a1 f.loc.length c1,.slice a2 f.stk.length c2] Q3 rfl (fun _=>⟨_,rfl,World.news_of_block (cs:=#[.int .i64 (f.fn:Int),.int .i64 (f.pc:Int),.slice a1 f.loc.length c1,.slice a2 f.stk.length c2]) (t:=86) (fr:=(0,0)) (B1 R5)⟩) (by intro u hu;simp at hu;rcases hu with rfl | rfl | rfl | rfl <;> rfl) Q5 R4 Q1 ?_
   intro v4 w4 hown4 hgrow4 hat4;obtain⟨va,vc,yn,_⟩:=B4 hown4;subst yn;have HN:Hid (pA W w4 (R.ths.map ThR.slot) R.frs (i+1) (.slice va (i+1) vc)):=hid (a1x hf HL.out xh.out xf.out xj.out xq.out xy.out za.out hgrow4 hown4);have yw:Hid (w4.cell? ⟨wr.heap.size,0,none⟩=some (.int .i64 (f.fn:Int))/\w4.cell? ⟨wr.heap.size,1,none⟩=some (.int .i64 (f.pc:Int))/\w4.cell? ⟨wr.heap.size,2,none⟩=some (.slice la f.loc.length lc)/\w4.cell? ⟨wr.heap.size,3,none⟩=some (.slice sa f.stk.length sc)):=hid (by
    have hh:=xq.out.size;have zh:wr.heap.size < w2.heap.size:=L0a xm xr.out.size;have xc:w4.heap[wr.heap.size]?=(w2.alloc (.cells #[.int .i64 (f.fn:Int),.int .i64 (f.pc:Int),.slice a1 f.loc.length c1,.slice a2 f.stk.length c2] 86)).heap[wr.heap.size]?:=hgrow4.block _ Q8 (fun e=>by have:=(xk.out.lt _ e.symm).2;omega);obtain⟨g0,g1,g2,g3⟩:=HC.out _ yb.out;exact⟨(L0b (a:=⟨wr.heap.size,0,none⟩) xc).trans g0,(L0b (a:=⟨wr.heap.size,1,none⟩) xc).trans g1,(L0b (a:=⟨wr.heap.size,2,none⟩) xc).trans g2,(L0b (a:=⟨wr.heap.size,3,none⟩) xc).trans g3⟩)
   clear hown4 hgrow4 hat4
   dsimp only
   refine TG hK yw.out fun hHeld=>?_
   clear hK K
   refine TW 16 ⟨some 3,.assign (.tmp 37),66,"machine.go:478",#[⟨15,.data⟩,⟨15,.chain⟩,⟨0,.phase⟩,⟨1,.phase⟩,⟨2,.phase⟩,⟨3,.phase⟩,⟨4,.phase⟩,⟨5,.phase⟩,⟨6,.phase⟩,⟨7,.phase⟩,⟨8,.phase⟩,⟨9,.phase⟩,⟨10,.phase⟩,⟨11,.phase⟩,⟨12,.phase⟩,⟨13,.phase⟩,⟨14,.phase⟩,⟨15,.phase⟩],none⟩ ?_
   clear hHeld;refine wpAnyH_done Q7 ?_ _;clear HC yc yd xi;go_wp2_with fail;go_roundw
   case rel=>exact ⟨i+1,by omega,by go_num,HN.out⟩
   case measure=>simp [intOf];omega
  ·obtain rfl:i=R.frs.length:=by omega
   have zf:¬(R.frs.length:Int) < (R.frs.length:Int):=by omega
   clear xe xb xa hL;go_wp2_with fail;go_ret;exact⟨_,rfl,L,HL.out,xk.out,xf.out,xj.out⟩
end
section
variable {W:World} {la:Option Addr} {lc m mb nl sb sc:Nat}
abbrev a5G : Oper := ⟨some 84,.move (.tmp 2),3,"machine.go:325",#[],none⟩
abbrev a5H : Oper := ⟨some 85,.move (.tmp 9),84,"machine.go:325",#[],none⟩
abbrev a5I : Oper := ⟨some 86,.move (.tmp 10),3,"machine.go:325",#[],none⟩
abbrev a5J : Oper := ⟨some 87,.binOp .sub 3 (.tmp 86) (.const (.int .i64 1)) 3,3,"machine.go:325",#[⟨2,.data⟩],none⟩
abbrev a5K : Oper := ⟨some 88,.indexAddr 84 (.tmp 85) (.tmp 87),0,"machine.go:325",#[⟨1,.data⟩,⟨3,.data⟩],none⟩
abbrev a5L : Oper := ⟨some 89,.fieldAddr 92 (.tmp 88) 0,0,"machine.go:325",#[⟨4,.data⟩],none⟩
abbrev a5M : Oper := ⟨some 90,.load 5 (.tmp 89),5,"machine.go:325",#[⟨5,.data⟩],none⟩
abbrev a5N : Oper := ⟨some 91,.move (.tmp 9),84,"machine.go:325",#[],none⟩
abbrev a5O : Oper := ⟨some 92,.move (.tmp 10),3,"machine.go:325",#[],none⟩
abbrev a5P : Oper := ⟨some 93,.binOp .sub 3 (.tmp 92) (.const (.int .i64 2)) 3,3,"machine.go:325",#[⟨8,.data⟩],none⟩
abbrev a3U : Oper := ⟨some 94,.indexAddr 84 (.tmp 91) (.tmp 93),0,"machine.go:325",#[⟨7,.data⟩,⟨9,.data⟩],none⟩
abbrev a3V : Oper := ⟨some 95,.fieldAddr 92 (.tmp 94) 0,0,"machine.go:325",#[⟨10,.data⟩],none⟩
abbrev a3W : Oper := ⟨some 96,.load 5 (.tmp 95),5,"machine.go:325",#[⟨11,.data⟩],none⟩
abbrev a3X : Oper := ⟨some 97,.binOp .eql 5 (.tmp 90) (.tmp 96) 5,4,"machine.go:325",#[⟨6,.data⟩,⟨12,.data⟩],none⟩
abbrev a3Y : Oper := ⟨some 98,.move (.tmp 97),4,"machine.go:325",#[⟨13,.data⟩],none⟩
abbrev a3Z : Oper := ⟨some 99,.move (.tmp 9),84,"machine.go:325",#[⟨14,.guard⟩],some (14,true)⟩
abbrev a4a : Oper := ⟨some 100,.move (.tmp 10),3,"machine.go:325",#[⟨14,.guard⟩],some (14,true)⟩
abbrev a4b : Oper := ⟨some 101,.binOp .sub 3 (.tmp 100) (.const (.int .i64 1)) 3,3,"machine.go:325",#[⟨16,.data⟩,⟨14,.guard⟩],some (14,true)⟩
abbrev a4c : Oper := ⟨some 102,.indexAddr 84 (.tmp 99) (.tmp 101),0,"machine.go:325",#[⟨15,.data⟩,⟨17,.data⟩,⟨14,.guard⟩],some (14,true)⟩
abbrev a4d : Oper := ⟨some 103,.fieldAddr 92 (.tmp 102) 1,0,"machine.go:325",#[⟨18,.data⟩,⟨14,.guard⟩],some (14,true)⟩
abbrev a4e : Oper := ⟨some 104,.load 3 (.tmp 103),3,"machine.go:325",#[⟨19,.data⟩,⟨14,.guard⟩],some (14,true)⟩
abbrev a4f : Oper := ⟨some 105,.move (.tmp 9),84,"machine.go:325",#[⟨14,.guard⟩],some (14,true)⟩
abbrev a4g : Oper := ⟨some 106,.move (.tmp 10),3,"machine.go:325",#[⟨14,.guard⟩],some (14,true)⟩
abbrev a4h : Oper := ⟨some 107,.binOp .sub 3 (.tmp 106) (.const (.int .i64 2)) 3,3,"machine.go:325",#[⟨22,.data⟩,⟨14,.guard⟩],some (14,true)⟩
abbrev a4i : Oper := ⟨some 108,.indexAddr 84 (.tmp 105) (.tmp 107),0,"machine.go:325",#[⟨21,.data⟩,⟨23,.data⟩,⟨14,.guard⟩],some (14,true)⟩
abbrev a4j : Oper := ⟨some 109,.fieldAddr 92 (.tmp 108) 1,0,"machine.go:325",#[⟨24,.data⟩,⟨14,.guard⟩],some (14,true)⟩
abbrev a4k : Oper := ⟨some 110,.load 3 (.tmp 109),3,"machine.go:325",#[⟨25,.data⟩,⟨14,.guard⟩],some (14,true)⟩
abbrev a4l : Oper := ⟨some 111,.binOp .eql 3 (.tmp 104) (.tmp 110) 3,4,"machine.go:325",#[⟨20,.data⟩,⟨26,.data⟩,⟨14,.guard⟩],some (14,true)⟩
abbrev a4m : Oper := ⟨some 112,.pick (.tmp 98) (.tmp 111) (.const (.bool false)),4,"machine.go:325",#[⟨14,.data⟩,⟨27,.data⟩],none⟩
abbrev a4n : Oper := ⟨some 113,.call ⟨.value (.func 223),#[.tmp 112],#[4]⟩,92,"machine.go:325",#[⟨28,.data⟩,⟨14,.chain⟩],none⟩
abbrev a4o : Oper := ⟨some 114,.call ⟨.value (.func 220),#[.tmp 84,.const (.int .i64 2),.tmp 113],#[3,3,92]⟩,198,"machine.go:325",#[⟨0,.data⟩,⟨29,.data⟩,⟨29,.chain⟩],none⟩
theorem xU (fn:Nat) (x y:Val) (a:Int) (pc:Nat) (hpc:pc<=1000) (hsb:sb < W.heap.size) (x0:W.cell? ⟨sb,m*2,none⟩=some (.int .u8 x.1)) (x1:W.cell? ⟨sb,m*2+1,none⟩=some (.int .i64 x.2)) (y0:W.cell? ⟨sb,(m+1)*2,none⟩=some (.int .u8 y.1)) (y1:W.cell? ⟨sb,(m+1)*2+1,none⟩=some (.int .i64 y.2)) (hm:m<=1000) (h1:x.1=y.1) :
  Calls prog 185 #[.pointer (some ⟨mb,0,none⟩),.agg #[.int .i64 11,.int .i64 a],.int .i64 (pc:Int),.agg #[.int .i64 (fn:Int),.int .i64 (pc:Int),.slice la nl lc,.slice (some ⟨sb,0,none⟩) (m+2) sc]] W fun e w'=>C2 2 [(1,C9 (y.2 == x.2))] ((pc:Int)+1) 0 W e w':=by
 have xv:=(fun (_:m<=1000)=>hpc) hm;obtain⟨xk,xn⟩:=x;obtain⟨yk,yn⟩:=y;simp only at x0 x1 y0 y1;have xf:sb < W.heap.size+1:=by omega
 have xh:sb < W.heap.size+1+1:=by omega
 have xg:sb < W.heap.size+1+1+1:=by omega
 have xe:sb < W.heap.size+1+1+1+1:=by omega
 have xt:xk=yk:=h1;subst xt;clear h1;have xy:IntKind.i64.wrap ((m:Int)+2 - 1)=(m:Int)+1:=by rw [Go.IntWalk.i64_in _ R4];omega
 have ya:IntKind.i64.wrap ((m:Int)+2 - 2)=(m:Int):=by rw [Go.IntWalk.i64_in _ R4];omega
 have yc:IntKind.i64.wrap (m:Int)=(m:Int):=Go.IntWalk.i64_in _ R4;have xz:((m:Int)+1).toNat=m+1:=by omega
 have yd:(m:Int)+1 < (m:Int)+2:=by omega
 have yg:(0:Int)<=(m:Int)+1:=by omega
 have ye:(m:Int) < (m:Int)+2:=by omega
 go_enter func185,ntmps185;go_wp2_with fail;generalize hqV:(((W.alloc (Obj.cells #[.int .i64 11,.int .i64 a] 165)).alloc (Obj.cells #[.int .i64 (fn:Int),.int .i64 (pc:Int),.slice la nl lc,.slice (some ⟨sb,0,none⟩) (m+2) sc] 86)).alloc (Obj.cells #[.int .i64 0,.slice none 0 0,.int .i64 0,.int .i64 0] 198))=V at *
 have hB:L0d W V:=by subst hqV;exact P4
 have p0:=keep hB hsb x0;have p1:=keep hB hsb x1;have p2:=keep hB hsb y0;have p3:=keep hB hsb y1;have d0:V.cell? ⟨W.heap.size+1+1,0,none⟩=some (.int .i64 0):=by subst hqV;go_simp
 have xo:V.frozen? ⟨W.heap.size+1+1,0,none⟩=false:=by subst hqV;go_simp
 have d1:V.cell? ⟨W.heap.size+1+1,1,none⟩=some (.slice none 0 0):=by subst hqV;go_simp
 have xq:V.frozen? ⟨W.heap.size+1+1,1,none⟩=false:=by subst hqV;go_simp
 have d2:V.cell? ⟨W.heap.size+1+1,2,none⟩=some (.int .i64 0):=by subst hqV;go_simp
 have xp:V.frozen? ⟨W.heap.size+1+1,2,none⟩=false:=by subst hqV;go_simp
 have d3:V.cell? ⟨W.heap.size+1+1,3,none⟩=some (.int .i64 0):=by subst hqV;go_simp
 have xm:V.frozen? ⟨W.heap.size+1+1,3,none⟩=false:=by subst hqV;go_simp
 have xw:V.heap.size=W.heap.size+1+1+1:=by subst hqV;simp
 have HB:=hid hB;clear hB x0 x1 y0 y1 xf xh xg xe;clear hqV;generalize hDD:W.heap.size+1+1=D at *
 have xd:sb < V.heap.size:=by omega
 have xa:D < V.heap.size:=by omega
 have yb:sb≠D:=by omega
 have xr:W.heap.size<=D:=by omega
 have HC:Hid (∀u,L0d V u->u.cell? ⟨sb,m*2,none⟩=some (.int .u8 xk)/\u.cell? ⟨sb,m*2+1,none⟩=some (.int .i64 xn)/\u.cell? ⟨sb,(m+1)*2,none⟩=some (.int .u8 xk)/\u.cell? ⟨sb,(m+1)*2+1,none⟩=some (.int .i64 yn)):=hid fun u hu=>⟨keep hu xd p0,keep hu xd p1,keep hu xd p2,keep hu xd p3⟩
 have HD:Hid (∀u,L0d V u->(u.cell? ⟨D,0,none⟩=some (.int .i64 0)/\u.cell? ⟨D,1,none⟩=some (.slice none 0 0)/\u.cell? ⟨D,2,none⟩=some (.int .i64 0)/\u.cell? ⟨D,3,none⟩=some (.int .i64 0))/\u.frozen? ⟨D,0,none⟩=false/\u.frozen? ⟨D,1,none⟩=false/\u.frozen? ⟨D,2,none⟩=false/\u.frozen? ⟨D,3,none⟩=false):=hid fun u hu=>⟨⟨keep hu xa d0,keep hu xa d1,keep hu xa d2,keep hu xa d3⟩,B9 hu xa xo,B9 hu xa xq,B9 hu xa xp,B9 hu xa xm⟩
 have HV:Hid (L0d V V.drew):=L3c (L3b _ _);clear p0 p1 p2 p3 d0 d1 d2 d3 xo xq xp xm xw hDD;refine wp_region_held_drew (S:=fun u=>u.cell? ⟨sb,m*2,none⟩=some (.int .u8 xk)/\u.cell? ⟨sb,m*2+1,none⟩=some (.int .i64 xn)/\u.cell? ⟨sb,(m+1)*2,none⟩=some (.int .u8 xk)/\u.cell? ⟨sb,(m+1)*2+1,none⟩=some (.int .i64 yn)) Q7 (HC.out _ HV.out) (fun hHeld=>?_);refine TW 0 a5G ?_
 refine TW 1 a5H ?_;refine TW 2 a5I ?_;refine TW 3 a5J ?_;refine TW 4 a5K ?_;refine TW 5 a5L ?_;refine TW 6 a5M ?_;refine TW 7 a5N ?_;refine TW 8 a5O ?_;refine TW 9 a5P ?_;refine TW 10 a3U ?_;refine TW 11 a3V ?_;refine TW 12 a3W ?_;refine TK 13 a3X (.bool true) ?_ ?_
 ·intro w hSw;(try dsimp only at hSw);go_simp;try with_reducible rfl
 simp only[Act.put,T1,T2,T3];refine TW 14 a3Y ?_;refine TW 15 a3Z ?_;refine TW 16 a4a ?_;refine TW 17 a4b ?_;refine TW 18 a4c ?_;refine TW 19 a4d ?_;refine TW 20 a4e ?_;refine TW 21 a4f ?_;refine TW 22 a4g ?_;refine TW 23 a4h ?_;refine TW 24 a4i ?_;refine TW 25 a4j ?_;refine TW 26 a4k ?_;refine TW 27 a4l ?_;refine TW 28 a4m ?_;clear hHeld;refine TO 29 a4n fun K hK=>?_
 go_simp
 go_at_call 223
 refine (gH (yn == xn) _).mono ?_;rintro e w1 ⟨rfl,xl⟩;have xb:Hid (L0d V w1):=hid (HV.out.trans (xl.mono HV.out.size));clear xl
 dsimp only [yI]
 refine hK.out _ _ (HC.out _ xb.out) (fun hh=>?_);clear hh hK K
 try (simp only [Act.put,T1,T2,T3])
 refine TO 30 a4o fun K hK=>?_
 go_simp
 go_at_call 220
 refine (cG pc 2 (1,C9 (yn == xn)) _ hpc).mono ?_;rintro e w2 ⟨a2,c2,rfl,xi,xj⟩;have xc:Hid (L0d V w2):=hid (xb.out.trans (xi.mono xb.out.size));have xx:=hid xi;have xu:=hid xj;clear xi xj
 dsimp only
 refine hK.out _ _ (HC.out _ xc.out) (fun hh=>?_);clear hh hK K
 try (simp only [Act.put,T1,T2,T3])
 obtain⟨⟨d0,d1,d2,d3⟩,z0,z1,z2,z3⟩:=HD.out _ xc.out;obtain⟨q0,q1,q2,q3⟩:=HC.out _ xc.out;have yf:D < w2.heap.size:=L0a xa xc.out.size;refine wpAnyH_ready (rs:=[31]) Q7 R5 ?_;refine AllReadyH.cons rfl (fun K hK=>?_) AllReadyH.nil;go_simp
 refine hK.out _ _ (by refine ⟨?_,?_,?_,?_⟩ <;> go_simp) (fun hh=>?_);clear hh hK K;refine wpAnyH_done Q7 ?_ _;have xs:D < w1.heap.size:=L0a xa xb.out.size;generalize hqY:((((w2.setCell ⟨D,0,none⟩ (.int .i64 2)).setCell ⟨D,1,none⟩ (.slice a2 1 c2)).setCell ⟨D,2,none⟩ (.int .i64 ((pc:Int)+1))).setCell ⟨D,3,none⟩ (.int .i64 0))=Y at *
 have r0:Y.cell? ⟨D,0,none⟩=some (.int .i64 2):=by subst hqY;go_simp
 have r1:Y.cell? ⟨D,1,none⟩=some (.slice a2 1 c2):=by subst hqY;go_simp
 have r2:Y.cell? ⟨D,2,none⟩=some (.int .i64 ((pc:Int)+1)):=by subst hqY;go_simp
 have r3:Y.cell? ⟨D,3,none⟩=some (.int .i64 0):=by subst hqY;go_simp
 have HE:Hid (C2 2 [(1,C9 (yn == xn))] ((pc:Int)+1) 0 W (.returned (.agg #[.int .i64 2,.slice a2 1 c2,.int .i64 ((pc:Int)+1),.int .i64 0])) Y):=by subst hqY;exact hid (C2.stored (push:=[(1,C9 (yn == xn))]) (HB.out.trans (xb.out.mono HB.out.size)) xx.out xu.out xr xs _ _ _ _)
 clear d0 d1 d2 d3 z0 z1 z2 z3 q0 q1 q2 q3 HD HC;clear hqY;go_wp2_with fail;exact bodyPost_ret (v:=.agg #[.int .i64 2,.slice a2 1 c2,.int .i64 ((pc:Int)+1),.int .i64 0]) (by simp [results,results185,go_sem,r0,r1,r2,r3]) rfl HE.out
theorem xV (fn:Nat) (x y:Val) (a:Int) (pc:Nat) (hpc:pc<=1000) (hsb:sb < W.heap.size) (x0:W.cell? ⟨sb,m*2,none⟩=some (.int .u8 x.1)) (x1:W.cell? ⟨sb,m*2+1,none⟩=some (.int .i64 x.2)) (y0:W.cell? ⟨sb,(m+1)*2,none⟩=some (.int .u8 y.1)) (y1:W.cell? ⟨sb,(m+1)*2+1,none⟩=some (.int .i64 y.2)) (hm:m<=1000) (h1:¬x.1=y.1) :
  Calls prog 185 #[.pointer (some ⟨mb,0,none⟩),.agg #[.int .i64 11,.int .i64 a],.int .i64 (pc:Int),.agg #[.int .i64 (fn:Int),.int .i64 (pc:Int),.slice la nl lc,.slice (some ⟨sb,0,none⟩) (m+2) sc]] W fun e w'=>C2 2 [(1,C9 false)] ((pc:Int)+1) 0 W e w':=by
 have xu:=(fun (_:m<=1000)=>hpc) hm;obtain⟨xk,xn⟩:=x;obtain⟨yk,yn⟩:=y;simp only at x0 x1 y0 y1;have xf:sb < W.heap.size+1:=by omega
 have xh:sb < W.heap.size+1+1:=by omega
 have xg:sb < W.heap.size+1+1+1:=by omega
 have xe:sb < W.heap.size+1+1+1+1:=by omega
 have ya:(yk == xk)=false:=beq_false_of_ne fun e=>h1 e.symm
 have ye:¬yk=xk:=fun e=>h1 e.symm
 clear h1;have xx:IntKind.i64.wrap ((m:Int)+2 - 1)=(m:Int)+1:=by rw [Go.IntWalk.i64_in _ R4];omega
 have xz:IntKind.i64.wrap ((m:Int)+2 - 2)=(m:Int):=by rw [Go.IntWalk.i64_in _ R4];omega
 have yc:IntKind.i64.wrap (m:Int)=(m:Int):=Go.IntWalk.i64_in _ R4;have xy:((m:Int)+1).toNat=m+1:=by omega
 have yd:(m:Int)+1 < (m:Int)+2:=by omega
 have yh:(0:Int)<=(m:Int)+1:=by omega
 have yf:(m:Int) < (m:Int)+2:=by omega
 go_enter func185,ntmps185;go_wp2_with fail;generalize hqV:(((W.alloc (Obj.cells #[.int .i64 11,.int .i64 a] 165)).alloc (Obj.cells #[.int .i64 (fn:Int),.int .i64 (pc:Int),.slice la nl lc,.slice (some ⟨sb,0,none⟩) (m+2) sc] 86)).alloc (Obj.cells #[.int .i64 0,.slice none 0 0,.int .i64 0,.int .i64 0] 198))=V at *
 have hB:L0d W V:=by subst hqV;exact P4
 have p0:=keep hB hsb x0;have p1:=keep hB hsb x1;have p2:=keep hB hsb y0;have p3:=keep hB hsb y1;have d0:V.cell? ⟨W.heap.size+1+1,0,none⟩=some (.int .i64 0):=by subst hqV;go_simp
 have xo:V.frozen? ⟨W.heap.size+1+1,0,none⟩=false:=by subst hqV;go_simp
 have d1:V.cell? ⟨W.heap.size+1+1,1,none⟩=some (.slice none 0 0):=by subst hqV;go_simp
 have xq:V.frozen? ⟨W.heap.size+1+1,1,none⟩=false:=by subst hqV;go_simp
 have d2:V.cell? ⟨W.heap.size+1+1,2,none⟩=some (.int .i64 0):=by subst hqV;go_simp
 have xp:V.frozen? ⟨W.heap.size+1+1,2,none⟩=false:=by subst hqV;go_simp
 have d3:V.cell? ⟨W.heap.size+1+1,3,none⟩=some (.int .i64 0):=by subst hqV;go_simp
 have xm:V.frozen? ⟨W.heap.size+1+1,3,none⟩=false:=by subst hqV;go_simp
 have xv:V.heap.size=W.heap.size+1+1+1:=by subst hqV;simp
 have HB:=hid hB;clear hB x0 x1 y0 y1 xf xh xg xe;clear hqV;generalize hDD:W.heap.size+1+1=D at *
 have xd:sb < V.heap.size:=by omega
 have xa:D < V.heap.size:=by omega
 have yb:sb≠D:=by omega
 have xr:W.heap.size<=D:=by omega
 have HC:Hid (∀u,L0d V u->u.cell? ⟨sb,m*2,none⟩=some (.int .u8 xk)/\u.cell? ⟨sb,m*2+1,none⟩=some (.int .i64 xn)/\u.cell? ⟨sb,(m+1)*2,none⟩=some (.int .u8 yk)/\u.cell? ⟨sb,(m+1)*2+1,none⟩=some (.int .i64 yn)):=hid fun u hu=>⟨keep hu xd p0,keep hu xd p1,keep hu xd p2,keep hu xd p3⟩
 have HD:Hid (∀u,L0d V u->(u.cell? ⟨D,0,none⟩=some (.int .i64 0)/\u.cell? ⟨D,1,none⟩=some (.slice none 0 0)/\u.cell? ⟨D,2,none⟩=some (.int .i64 0)/\u.cell? ⟨D,3,none⟩=some (.int .i64 0))/\u.frozen? ⟨D,0,none⟩=false/\u.frozen? ⟨D,1,none⟩=false/\u.frozen? ⟨D,2,none⟩=false/\u.frozen? ⟨D,3,none⟩=false):=hid fun u hu=>⟨⟨keep hu xa d0,keep hu xa d1,keep hu xa d2,keep hu xa d3⟩,B9 hu xa xo,B9 hu xa xq,B9 hu xa xp,B9 hu xa xm⟩
 have HV:Hid (L0d V V.drew):=L3c (L3b _ _);clear p0 p1 p2 p3 d0 d1 d2 d3 xo xq xp xm xv hDD;refine wp_region_held_drew (S:=fun u=>u.cell? ⟨sb,m*2,none⟩=some (.int .u8 xk)/\u.cell? ⟨sb,m*2+1,none⟩=some (.int .i64 xn)/\u.cell? ⟨sb,(m+1)*2,none⟩=some (.int .u8 yk)/\u.cell? ⟨sb,(m+1)*2+1,none⟩=some (.int .i64 yn)) Q7 (HC.out _ HV.out) (fun hHeld=>?_);refine TW 0 a5G ?_
 refine TW 1 a5H ?_;refine TW 2 a5I ?_;refine TW 3 a5J ?_;refine TW 4 a5K ?_;refine TW 5 a5L ?_;refine TW 6 a5M ?_;refine TW 7 a5N ?_;refine TW 8 a5O ?_;refine TW 9 a5P ?_;refine TW 10 a3U ?_;refine TW 11 a3V ?_;refine TW 12 a3W ?_;refine TK 13 a3X (.bool false) ?_ ?_
 ·intro w hSw;(try dsimp only at hSw);go_simp;try with_reducible rfl
 simp only[Act.put,T1,T2,T3];refine TW 14 a3Y ?_;refine TS 15 a3Z ?_;simp only[Act.put,T1,T2,T3];refine TS 16 a4a ?_;simp only[Act.put,T1,T2,T3];refine TS 17 a4b ?_;simp only[Act.put,T1,T2,T3];refine TS 18 a4c ?_;simp only[Act.put,T1,T2,T3];refine TS 19 a4d ?_;simp only[Act.put,T1,T2,T3];refine TS 20 a4e ?_;simp only[Act.put,T1,T2,T3];refine TS 21 a4f ?_;simp only[Act.put,T1,T2,T3]
 refine TS 22 a4g ?_;simp only[Act.put,T1,T2,T3];refine TS 23 a4h ?_;simp only[Act.put,T1,T2,T3];refine TS 24 a4i ?_;simp only[Act.put,T1,T2,T3];refine TS 25 a4j ?_;simp only[Act.put,T1,T2,T3];refine TS 26 a4k ?_;simp only[Act.put,T1,T2,T3];refine TS 27 a4l ?_;simp only[Act.put,T1,T2,T3];refine TW 28 a4m ?_;clear hHeld;refine TO 29 a4n fun K hK=>?_
 go_simp
 go_at_call 223
 refine (gH false _).mono ?_;rintro e w1 ⟨rfl,xl⟩;have xb:Hid (L0d V w1):=hid (HV.out.trans (xl.mono HV.out.size));clear xl
 dsimp only [yI]
 refine hK.out _ _ (HC.out _ xb.out) (fun hh=>?_);clear hh hK K
 try (simp only [Act.put,T1,T2,T3])
 refine TO 30 a4o fun K hK=>?_
 go_simp
 go_at_call 220
 refine (cG pc 2 (1,C9 false) _ hpc).mono ?_;rintro e w2 ⟨a2,c2,rfl,xi,xj⟩;have xc:Hid (L0d V w2):=hid (xb.out.trans (xi.mono xb.out.size));have xw:=hid xi;have xt:=hid xj;clear xi xj
 dsimp only
 refine hK.out _ _ (HC.out _ xc.out) (fun hh=>?_);clear hh hK K
 try (simp only [Act.put,T1,T2,T3])
 obtain⟨⟨d0,d1,d2,d3⟩,z0,z1,z2,z3⟩:=HD.out _ xc.out;obtain⟨q0,q1,q2,q3⟩:=HC.out _ xc.out;have yg:D < w2.heap.size:=L0a xa xc.out.size;refine wpAnyH_ready (rs:=[31]) Q7 R5 ?_;refine AllReadyH.cons rfl (fun K hK=>?_) AllReadyH.nil;go_simp
 refine hK.out _ _ (by refine ⟨?_,?_,?_,?_⟩ <;> go_simp) (fun hh=>?_);clear hh hK K;refine wpAnyH_done Q7 ?_ _;have xs:D < w1.heap.size:=L0a xa xb.out.size;generalize hqY:((((w2.setCell ⟨D,0,none⟩ (.int .i64 2)).setCell ⟨D,1,none⟩ (.slice a2 1 c2)).setCell ⟨D,2,none⟩ (.int .i64 ((pc:Int)+1))).setCell ⟨D,3,none⟩ (.int .i64 0))=Y at *
 have r0:Y.cell? ⟨D,0,none⟩=some (.int .i64 2):=by subst hqY;go_simp
 have r1:Y.cell? ⟨D,1,none⟩=some (.slice a2 1 c2):=by subst hqY;go_simp
 have r2:Y.cell? ⟨D,2,none⟩=some (.int .i64 ((pc:Int)+1)):=by subst hqY;go_simp
 have r3:Y.cell? ⟨D,3,none⟩=some (.int .i64 0):=by subst hqY;go_simp
 have HE:Hid (C2 2 [(1,C9 false)] ((pc:Int)+1) 0 W (.returned (.agg #[.int .i64 2,.slice a2 1 c2,.int .i64 ((pc:Int)+1),.int .i64 0])) Y):=by subst hqY;exact hid (C2.stored (push:=[(1,C9 false)]) (HB.out.trans (xb.out.mono HB.out.size)) xw.out xt.out xr xs _ _ _ _)
 clear d0 d1 d2 d3 z0 z1 z2 z3 q0 q1 q2 q3 HD HC;clear hqY;go_wp2_with fail;exact bodyPost_ret (v:=.agg #[.int .i64 2,.slice a2 1 c2,.int .i64 ((pc:Int)+1),.int .i64 0]) (by simp [results,results185,go_sem,r0,r1,r2,r3]) rfl HE.out
theorem a5d (fn:Nat) (x y:Val) (a:Int) (pc:Nat) (hpc:pc<=1000) (hsb:sb < W.heap.size) (x0:W.cell? ⟨sb,m*2,none⟩=some (.int .u8 x.1)) (x1:W.cell? ⟨sb,m*2+1,none⟩=some (.int .i64 x.2)) (y0:W.cell? ⟨sb,(m+1)*2,none⟩=some (.int .u8 y.1)) (y1:W.cell? ⟨sb,(m+1)*2+1,none⟩=some (.int .i64 y.2)) (hm:m<=1000) :
  Calls prog 185 #[.pointer (some ⟨mb,0,none⟩),.agg #[.int .i64 11,.int .i64 a],.int .i64 (pc:Int),.agg #[.int .i64 (fn:Int),.int .i64 (pc:Int),.slice la nl lc,.slice (some ⟨sb,0,none⟩) (m+2) sc]] W fun e w'=>C2 2 [(1,C9 (x.1 == y.1 && x.2 == y.2))] ((pc:Int)+1) 0 W e w':=by
 by_cases h1:x.1=y.1
 ·have e:(x.1 == y.1 && x.2 == y.2)=(y.2 == x.2):=by rw [h1];simp [Bool.beq_comm]
  rw[e];exact xU fn x y a pc hpc hsb x0 x1 y0 y1 hm h1
 ·have e:(x.1 == y.1 && x.2 == y.2)=false:=by simp [h1]
  rw[e];exact xV fn x y a pc hpc hsb x0 x1 y0 y1 hm h1
end
end Go.Proofs.YtbkmgoffiigdbaaGreatDoor
