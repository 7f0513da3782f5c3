import Derived.Test.YtbkmgoffiigdbaaGreatDoorVEc
import Derived.Test.YtbkmgoffiigdbaaGreatDoorVDj
namespace Go.Proofs.YtbkmgoffiigdbaaGreatDoor
open Go.RowKit Go.Sort Go.Proofs.Tryz
set_option maxHeartbeats 4000000
set_option maxRecDepth 100000
section
variable {i:Nat} {l:List ObR} {o:ObR} {own:Own} {w w':World}
structure G0 (own:Own) (w w':World):Prop where
 os:w'.os=w.os
 tape:w'.tape=w.tape
 output:w'.output=w.output
 size:w.heap.size<=w'.heap.size
 block:∀k,k < w.heap.size->own k≠some .slots->(∀j,own k≠some (.fld j))->w'.heap[k]?=w.heap[k]?
theorem G0.refl (own:Own) (w:World):G0 own w w:=⟨rfl,rfl,rfl,L1c _,fun _ _ _ _=>rfl⟩
theorem G0.of_below (h:L0d w w'):G0 own w w':=⟨h.os,h.tape,h.output,h.size,fun k hk _ _=>h.block k hk⟩
theorem G0.trans {a b c:World} (h:G0 own a b) (k:G0 own b c):G0 own a c :=
 ⟨k.os.trans h.os,k.tape.trans h.tape,k.output.trans h.output,L5a h.size k.size,fun i hi h1 h2=>(k.block i (L0a hi h.size) h1 h2).trans (h.block i hi h1 h2)⟩
theorem G0.touched (h:G0 own w w'):A2 own w own w':=⟨h.os,h.tape,h.output,h.size,fun k hk hn=>h.block k hk (by rw [hn];simp) (fun j=>by rw [hn];simp),fun _ _=>rfl⟩
def N9 (all:List ObR) (o:ObR):ObR:={ o with fl:=(L2 (all.map ObR.abs) o.abs).2 }
theorem wA (all:List ObR) (o:ObR):(N9 all o).abs=L2 (all.map ObR.abs) o.abs:=by
 have:=bY (all.map ObR.abs) o.abs;unfold N9 ObR.abs at *
 exact Prod.ext this.symm rfl
def E8 (l:List ObR) (i:Nat):List ObR:=(l.take i).map (N9 l)++l.drop i
theorem cA (l:List ObR) (i:Nat):(E8 l i).length=l.length:=by simp [E8];omega
theorem qJ (l:List ObR):E8 l 0=l:=by simp [E8]
theorem sU (l:List ObR):E8 l l.length=l.map (N9 l):=by simp [E8]
theorem bZ {j:Nat} (h:l[j]?=some o):(E8 l i)[j]?=some (if j < i then N9 l o else o):=by
 have hj:=(L1a.1 h).1;unfold E8;by_cases hi:j < i
 ·rw [List.getElem?_append_left Q9,List.getElem?_map,List.getElem?_take_of_lt hi,h,if_pos hi];rfl
 ·rw [List.getElem?_append_right Q9,List.getElem?_drop,if_neg hi]
  have:i+(j - (List.map (N9 l) (List.take i l)).length)=j:=by simp;omega
  rw[this,h]
theorem dO (h:l[i]?=some o):E8 l (i+1)=(E8 l i).set i (N9 l o):=by
 have hi:=(L1a.1 h).1
 apply List.ext_getElem?
 intro j;by_cases hj:j < l.length
 ·obtain ⟨p,hp⟩:∃p,l[j]?=some p:=⟨_,L1b hj⟩
  rw[bZ hp];by_cases e:i=j
  ·subst e
   rw[h] at hp
   cases hp;rw[List.getElem?_set_self (by rw [cA];exact hi),if_pos R5]
  ·rw [List.getElem?_set_ne e,bZ hp]
   by_cases h1:j < i
   ·rw [if_pos R5,if_pos h1]
   ·rw [if_neg R5,if_neg h1]
 ·rw [List.getElem?_eq_none (by rw [cA];omega),List.getElem?_eq_none (by rw [List.length_set,cA];omega)]
theorem mH (h:¬(o.kind=3/\gD (l.map ObR.abs) (o.fl.headD (0,0))=true)):N9 l o=o:=by
 unfold N9 L2;rw[if_neg (show ¬(o.abs.1=3/\gD (l.map ObR.abs) (o.abs.2.headD (0,0))=true) from h)];rfl
theorem xQ (h:l[i]?=some o):l.set i o=l:=by
 obtain⟨hl,rfl⟩:=L1a.1 h;exact List.set_getElem_self hl
def nS (l:List ObR):Prop:=∀o,o∈l->o.kind=3->∃v:Val,o.fl=[v]/\(v.1=2->0<=v.2/\v.2.toNat < l.length)
theorem zO {mb:Nat} {g:PgR} {R:McR} (h:A4 w own mb g R) (hpos:0 < R.obs.length) (hn:R.obs.length<=1000) (hw:nS R.obs) :
  Calls prog 187 #[.pointer (some ⟨mb,4,none⟩)] w fun e w'=>e=.returned (.tuple #[])/\A4 w' own mb g { R with obs:=R.obs.map (N9 R.obs) }/\G0 own w w':=by
 have c4:=h.c4;have yn:mb < w.heap.size:=h.lt mb _ h.me;obtain⟨hb,hc,e,_,yq⟩:=h.slots.1.form hpos;rw[e] at c4;have HH:=hid h;have HE:=hid e;have HW:=hid hw;clear h e hw;go_enter func187,ntmps187;go_wp2_with fail;go_loopw [9] (fun vi wr=>∃i:Nat,i<=R.obs.length/\vi=J i/\A4 wr own mb g { R with obs:=E8 R.obs i }/\G0 own w wr) (fun vi _=>R.obs.length - (intOf vi).toNat)
 case atStart=>exact ⟨0,L4c _,rfl,by rw [qJ];exact HH.out,G0.refl _ _⟩
 case round =>
  obtain⟨i,hi,rfl,hm,xa⟩:=hrel;by_cases hlti:i < R.obs.length
  ·obtain ⟨o,ho⟩:∃o,R.obs[i]?=some o:=⟨_,L1b hlti⟩
   have xe:(E8 R.obs i)[i]?=some o:=by rw [bZ ho,if_neg R5]
   obtain⟨ye,hc',fa,fc,xs,_,yo,xh,k0,k1⟩:=hm.slot (R:={ R with obs:=E8 R.obs i }) xe;have xm:R.hv=.slice (zA ye) (E8 R.obs i).length hc':=xs;rw[HE.out,cA] at xm
   cases xm;have HM:=hid hm;have xf:=hid xa;have HO:=hid ho;have yp:=hid xe;have yh:mb < wr.heap.size:=hm.lt mb _ hm.me;by_cases h3:o.kind=3
   ·obtain ⟨v,xb,hv⟩:=HW.out o (L2a ho) h3
    have xo:=hm.fld (R:={ R with obs:=E8 R.obs i }) i o xe;obtain⟨fb,ys,ya,_,xj⟩:=xo.1.form (by rw [xb];simp);rw[xh] at ya
    cases ya;have xi:=xo.1;rw[xh] at xi;have f0:wr.cell? ⟨fb,0,none⟩=some (zC v.1):=by rw [xi.cellAt 0 (by rw [xb];simp),xb];rfl
    have f1:wr.cell? ⟨fb,1,none⟩=some (J v.2):=by rw [xi.cellAt 1 (by rw [xb];simp),xb];rfl
    have z0:=xi.frozenAt 0;have z1:=xi.frozenAt 1;rw[xb] at k1;rw[h3] at k0;simp only[List.length_cons,List.length_nil,Nat.zero_add] at k1;obtain⟨kd,xn,n2,xp,hR,xv⟩:∃kd xn n2 xp,(∀W,L0d wr W->Calls prog 225 #[.pointer (some ⟨mb,4,none⟩),.agg #[zC v.1,J v.2]] W fun e w'=>e=.returned (.agg #[zC kd,.slice xn n2 xp])/\L0d W w')/\(kd == 0)=gD (R.obs.map ObR.abs) v:=by
     by_cases h2:v.1=2
     ·obtain ⟨q0,q1⟩:=hv h2
      obtain⟨p,hp⟩:∃p,R.obs[v.2.toNat]?=some p:=⟨_,L1b q1⟩
      have xu:(E8 R.obs i)[v.2.toNat]?=some (if v.2.toNat < i then N9 R.obs p else p):=bZ hp;have yl:(if v.2.toNat < i then N9 R.obs p else p).kind=p.kind:=by split <;> rfl
      generalize (if v.2.toNat < i then N9 R.obs p else p)=p' at *
      obtain⟨xn,xp,xt⟩:=E0 (hm.fld (R:={ R with obs:=E8 R.obs i }) _ p' xu);refine⟨p'.kind,xn,p'.fl.length,xp,fun W hW=>?_,?_⟩
      ·have:=aF (R:={ R with obs:=E8 R.obs i }) (hm.same hW.size fun k hk=>hW.block k hk) xu
       rw[xt,Int.toNat_of_nonneg q0] at this;rw[h2];exact this
      ·rw [yl]
       unfold gD;rw[if_pos h2,List.getElem?_map,hp];rfl
     ·exact ⟨0,none,0,0,fun W _=>iF _ _ _ (L2c.2 h2) W,by unfold gD;rw [if_neg h2];rfl⟩
    have HR:=hid hR;have xr:Hid (gD (R.obs.map ObR.abs) v=true->∀W,L0d wr W->A4 ((W.setCell ⟨fb,0,none⟩ (zC 0)).setCell ⟨fb,1,none⟩ (J 0)) own mb g { R with obs:=E8 R.obs (i+1) }/\G0 own w ((W.setCell ⟨fb,0,none⟩ (zC 0)).setCell ⟨fb,1,none⟩ (J 0))):=by
     intro hlo W hW;have xw:=hm.same hW.size fun k hk=>hW.block k hk
     have xk:own fb=some (.fld i):=xo.2 fb (by rw [xh];rfl);have yb:=xw.fld (R:={ R with obs:=E8 R.obs i }) i o xe;rw[xh] at yb;have hr:=(World.ownsRow.stored (World.ownsRow.stored yb.1 0 (zC 0)).1 1 (J 0)).1;have yg:((A7 o.fl).set 0 (zC 0)).set 1 (J 0)=A7 [(0,0)]:=by rw [xb];rfl
     rw[yg] at hr;have xl:∀k,k≠fb->((W.setCell ⟨fb,0,none⟩ (zC 0)).setCell ⟨fb,1,none⟩ (J 0)).heap[k]?=W.heap[k]?:=fun k hk=>by
      rw[heap_setCell_other _ _ _ _ hk,heap_setCell_other _ _ _ _ hk]
     have xq:=xw.setFld (R:={ R with obs:=E8 R.obs i }) (w':=(W.setCell ⟨fb,0,none⟩ (zC 0)).setCell ⟨fb,1,none⟩ (J 0)) (l:=[(0,0)]) xe xh xk R6 xl (by rw [xb];rfl) hr;have yk:N9 R.obs o={ o with fl:=[(0,0)] }:=by
      unfold N9 L2;rw[if_pos (show o.abs.1=3/\gD (R.obs.map ObR.abs) (o.abs.2.headD (0,0))=true from ⟨h3,by show gD _ (o.fl.headD (0,0))=true;rw [xb];exact hlo⟩)];show ({ o with fl:=o.fl.set 0 (0,0) } : ObR)=_;rw[xb];rfl
     refine⟨?_,xa.trans ((G0.of_below hW).trans ⟨rfl,rfl,rfl,by simp,fun k hk h1 h2=>xl k (fun e=>h2 i (by rw [e];exact xk))⟩)⟩;rw[dO ho,yk];exact xq
    have xd:Hid (gD (R.obs.map ObR.abs) v=false->E8 R.obs (i+1)=E8 R.obs i):=fun hlo=>by
     rw[dO ho,mH (fun e=>by have h1:=e.2;rw [xb] at h1;have h2:gD (R.obs.map ObR.abs) v=true:=h1;rw [hlo] at h2;cases h2),xQ xe]
    have yf:fb≠wr.heap.size:=by omega
    clear hR xo xi xh hm xa ho xe hv xb h3 xs c4
    cases hlo:gD (R.obs.map ObR.abs) v
    ·rw [hlo] at xv
     go_wp2_with (first | (go_at_call 225;refine (HR.out _ ?_).mono ?_;exact P5;rintro e w2 ⟨rfl,xg⟩;have xx:=xg.size;have xc:Hid (L0d wr w2):=A3 xg P5;clear xg) | (go_at_call 212;refine (bB _ _ _ _ _).mono ?_;rintro e w' ⟨rfl,o4,rfl⟩))
     go_roundw
     case rel=>exact ⟨i+1,by omega,by go_num,by
      rw[xd.out hlo];exact HM.out.same (by have:=xc.out.size;simp;omega) fun k hk=>(L3a xc.out xc.out.size o4).block k hk,xf.out.trans (G0.of_below (L3a xc.out xc.out.size o4))⟩
     case measure=>simp [intOf];omega
    ·rw [hlo] at xv
     go_wp2_with (first | (go_at_call 225;refine (HR.out _ ?_).mono ?_;exact P5;rintro e w2 ⟨rfl,xg⟩;have xx:=xg.size;have xc:Hid (L0d wr w2):=A3 xg P5;have g0:=(xc.out.frozen (p:=⟨fb,0,none⟩) xj).trans z0;have g1:=(xc.out.frozen (p:=⟨fb,1,none⟩) xj).trans z1;have j0:=(xc.out.cell (p:=⟨fb,0,none⟩) xj).trans f0;have j1:=(xc.out.cell (p:=⟨fb,1,none⟩) xj).trans f1;have ym:w2.cell? ⟨wr.heap.size,1,none⟩=some (.slice (zA fb) 1 fc):=(xg.cell (p:=⟨wr.heap.size,1,none⟩) R6).trans R3;have yd:fb < w2.heap.size:=L0a xj xc.out.size;have yi:wr.heap.size < w2.heap.size:=(by simp at xx;omega);clear xg) | (go_at_call 212;refine (bB _ _ _ _ _).mono ?_;rintro e w' ⟨rfl,o4,rfl⟩))
     obtain⟨xz,xy⟩:=xr.out hlo w2 xc.out;have yj:=hid xz;have yc:=hid xy;clear xz xy;go_roundw
     case rel=>exact ⟨i+1,by omega,by go_num,yj.out.same R6 fun k hk=>(L3a (L3b _ _) (L1c _) _).block k hk,yc.out.trans (G0.of_below (L3a (L3b _ _) (L1c _) _))⟩
     case measure=>simp [intOf];omega
   ·have xd:Hid (E8 R.obs (i+1)=E8 R.obs i):=by
     refine hid ?_;rw[dO ho,mH (fun e=>h3 e.1),xQ xe]
    have yr:(o.kind == 3)=false:=L2c.2 h3;clear xh hm xa ho xe h3 xs c4;go_wp2_with fail;go_roundw
    case rel=>exact ⟨i+1,by omega,by go_num,by
     rw[xd.out];exact HM.out.same R6 fun k hk=>(L3a (L3b _ _) (L1c _) _).block k hk,xf.out.trans (G0.of_below (L3a (L3b _ _) (L1c _) _))⟩
    case measure=>simp [intOf];omega
  ·obtain rfl:i=R.obs.length:=by omega
   rw[sU] at hm;have HM:=hid hm;have xf:=hid xa;clear hm xa;go_wp2_with fail;go_end0
   exact⟨rfl,HM.out,xf.out⟩
end
section
variable {W w:World} {g:PgR} {l:List ObR} {mb:Nat} {o:ObR} {own:Own}
theorem jZ (a:Option Addr) (l:List Nat) (c x:Nat) (w:World) (hl:l.length<=1000) (hs:Y8 w a l) :
  Calls prog 186 #[.slice a l.length c,J (x:Int)] w fun e w'=>e=.returned (.bool (decide (x∈l)))/\L0d w w':=by
 have HI:=hid (a2G a l c x w hl hs);clear hs;go_enter func186,ntmps186;go_wp2_with (go_at_call 197;refine HI.out.mono ?_;rintro e w2 ⟨⟨r,rfl,hr⟩,hb2⟩;have HR:=hid hr;have xa:=hid hb2;clear hr hb2)
 go_ret;refine⟨congrArg (fun b=>Ending.returned (Value.bool b)) ?_,xa.out⟩;rw[Bool.eq_iff_iff];simp only[decide_eq_true_eq];exact HR.out
theorem Y8.later {a:Option Addr} {l:List Nat} (h:Y8 w a l) (hs:w.heap.size<=W.heap.size) (hb:∀b,b < w.heap.size->a=some ⟨b,0,none⟩->W.heap[b]?=w.heap[b]?):Y8 W a l:=fun h0=>by
 obtain⟨b,h1,h2,h3⟩:=h h0;refine⟨b,h1,L0a h2 hs,fun i x hx=>?_⟩;rw[L0b (w:=w) (a:=⟨b,i,none⟩) (hb b h2 h1)];exact h3 i x hx
def I4 (l:List ObR) (al:List Nat) (i:Nat):List ObR:=l.mapIdx fun j o=>if j < i/\j∉al then V2 else o
theorem R9 (l:List ObR) (al:List Nat) (i:Nat):(I4 l al i).length=l.length:=by simp [I4]
theorem R8 (l:List ObR) (al:List Nat) (i j:Nat):(I4 l al i)[j]?=(l[j]?).map fun o=>if j < i/\j∉al then V2 else o:=by simp [I4,List.getElem?_mapIdx]
theorem uG (l:List ObR) (al:List Nat):I4 l al 0=l:=by
 apply List.ext_getElem?
 intro j;rw[R8]
 cases l[j]? <;> simp
theorem uF {al:List Nat} {i:Nat} (h:l[i]?=some o):I4 l al (i+1)=if i∈al then I4 l al i else (I4 l al i).set i V2:=by
 have hi:=(L1a.1 h).1;by_cases hm:i∈al
 ·rw [if_pos hm]
  apply List.ext_getElem?
  intro j;rw[R8,R8];congr 1
  funext x
  by_cases e:j=i
  ·subst e;rw [if_neg (fun h=>h.2 hm),if_neg (fun h=>h.2 hm)]
  ·by_cases h2:j < i/\j∉al
   ·rw [if_pos h2,if_pos ⟨by omega,h2.2⟩]
   ·rw [if_neg h2,if_neg (fun h3=>h2 ⟨by omega,h3.2⟩)]
 ·rw [if_neg hm]
  apply List.ext_getElem?
  intro j;by_cases e:i=j
  ·subst e
   rw[R8,List.getElem?_set_self (by rw [R9];exact hi),h];simp[hm]
  ·rw [List.getElem?_set_ne e,R8,R8]
   congr 1
   funext x
   by_cases h2:j < i/\j∉al
   ·rw [if_pos h2,if_pos ⟨by omega,h2.2⟩]
   ·rw [if_neg h2,if_neg (fun h3=>h2 ⟨by omega,h3.2⟩)]
def K7 (l:List ObR) (al:List Nat):List ObR:=(I4 l al l.length).map (N9 (I4 l al l.length))
theorem xT (l:List ObR) (al:List Nat):(I4 l al l.length).map ObR.abs=bH (l.map ObR.abs) al:=by
 apply List.ext_getElem?
 intro j;rw[List.getElem?_map,R8,fE,List.getElem?_map]
 cases h:l[j]? with
 | none=>rfl
 | some o =>
  have hj:=(L1a.1 h).1;simp only[Option.map_some];by_cases hm:j∈al
  ·simp [hm]
  ·simp [hm,hj,V2,ObR.abs]
theorem qB (l:List ObR) (al:List Nat):(K7 l al).map ObR.abs=V3 (l.map ObR.abs) al:=by
 unfold K7 V3 nF;rw[List.map_map,<- xT,List.map_map];congr 1
 funext o
 exact wA _ o
theorem fF (l:List ObR) (al:List Nat):(K7 l al).length=l.length:=by simp [K7,R9]
theorem U9 (l:List ObR):taken l=L3 (l.map ObR.abs):=by
 unfold taken L3;rw[List.filter_map,List.length_map];rfl
theorem uK (al:List Nat) (h:nS l):nS (I4 l al l.length):=by
 intro o ho hk;obtain⟨j,hj⟩:=List.mem_iff_getElem?.1 ho;rw[R8] at hj;obtain⟨p,hp,rfl⟩:=Option.map_eq_some_iff.1 hj;split at hk
 ·simp [V2] at hk
 ·rename_i hc
  rw[if_neg hc,R9];exact h p (L2a hp) hk
theorem A4.freeSlot {R:McR} {j:Nat} {hb hc:Nat} (h:A4 w own mb g R) (hB:L0d w W) (hj:R.obs[j]?=some o) (he:R.hv=.slice (zA hb) R.obs.length hc) :
  A4 ((W.setCell ⟨hb,j*2,none⟩ (zC 0)).setCell ⟨hb,j*2+1,none⟩ zD) own mb g { R with obs:=R.obs.set j V2 }/\G0 own w ((W.setCell ⟨hb,j*2,none⟩ (zC 0)).setCell ⟨hb,j*2+1,none⟩ zD):=by
 obtain⟨h1,h2⟩:=h.layOb (p:=V2) hB hj he (fun b hb=>by cases hb) (World.ownsRow_nil _ _ _ _);have e:own.upd V2.fv.ownBlock (.fld j)=own:=Own.upd_none _ _;rw[e] at h1;exact⟨h1,⟨hB.os,hB.tape,hB.output,by have:=hB.size;simpa using this,fun k hk hs _=>h2 k hk hs⟩⟩
theorem a4a {R:McR} (h:A4 w own mb g R) (hpos:0 < R.obs.length) (hn:R.obs.length<=1000) (hw:nS R.obs) (a:Option Addr) (al:List Nat) (c:Nat) (hl:al.length<=1000) (hs:Y8 w a al) (hna:∀b,a=some ⟨b,0,none⟩->own b=none) :
  Calls prog 140 #[.pointer (some ⟨mb,4,none⟩),.slice a al.length c] w fun e w'=>e=.returned (J ((taken R.obs:Int) - (taken (K7 R.obs al):Int)))/\A4 w' own mb g { R with obs:=K7 R.obs al }/\G0 own w w':=by
 have c4:=h.c4;have xv:mb < w.heap.size:=h.lt mb _ h.me;obtain⟨hb,hc,e,_,yh⟩:=h.slots.1.form hpos;rw[e] at c4;have ya:Hid (∀W,L0d w W->Calls prog 45 #[.pointer (some ⟨mb,4,none⟩)] W fun e w'=>e=.returned (J (taken R.obs:Int))/\L0d W w'):=fun W hW=>lY (h.same hW.size fun k hk=>hW.block k hk) hpos hn
 have HH:=hid h;have HE:=hid e;have HW:=hid hw;have HS:=hid hs;have xy:=hid hna;clear h e hw hs hna;go_enter func140,ntmps140;go_wp2_with (go_at_call 45;refine (ya.out _ ?_).mono ?_;exact (L3b _ _);rintro e w2 ⟨rfl,xn⟩;have d4:=(xn.cell (p:=⟨mb,4,none⟩) xv).trans c4;have yf:mb < w2.heap.size:=L0a xv xn.size;have xp:=hid xn;clear xn)
 go_loopw [14] (fun vi wr=>∃i:Nat,i<=R.obs.length/\vi=J i/\A4 wr own mb g { R with obs:=I4 R.obs al i }/\G0 own w wr) (fun vi _=>R.obs.length - (intOf vi).toNat)
 case atStart=>exact ⟨0,L4c _,rfl,by rw [uG];exact HH.out.same xp.out.size fun k hk=>xp.out.block k hk,G0.of_below xp.out⟩
 case round =>
  obtain⟨i,hi,rfl,hm,xb⟩:=hrel;have HM:=hid hm;have xd:=hid xb;have xi:mb < wr.heap.size:=hm.lt mb _ hm.me;by_cases hlti:i < R.obs.length
  ·obtain ⟨o,ho⟩:∃o,R.obs[i]?=some o:=⟨_,L1b hlti⟩
   obtain⟨o',xq⟩:∃o',(I4 R.obs al i)[i]?=some o':=⟨_,L1b (by rw [R9];exact hlti)⟩
   obtain⟨xf,hc',fa,fc,xt,xs,xg,xz,k0,k1⟩:=hm.slot (R:={ R with obs:=I4 R.obs al i }) xq;have xk:R.hv=.slice (zA xf) (I4 R.obs al i).length hc':=xt;rw[HE.out,R9] at xk
   cases xk;have m4:wr.cell? ⟨mb,4,none⟩=some (.slice (zA hb) R.obs.length hc):=by have:wr.cell? ⟨mb,4,none⟩=some R.hv:=hm.c4;rw [HE.out] at this;exact this
   have xl:wr.ownsRow 0 90 2 R.hv (I4 R.obs al i).length ((I4 R.obs al i).flatMap ObR.cells):=hm.slots.1;rw[HE.out,R9] at xl;have z0:=xl.frozenAt (i*2);have z1:=xl.frozenAt (i*2+1);have xw:Hid (∀W,L0d wr W->Calls prog 186 #[.slice a al.length c,J (i:Int)] W fun e w'=>e=.returned (.bool (decide (i∈al)))/\L0d W w'):=fun W hW=>jZ a al c i W hl ((HS.out.later xb.size fun b xf hab=>xb.block b xf (by rw [xy.out b hab];simp) (fun j=>by rw [xy.out b hab];simp)).later hW.size fun b xf _=>hW.block b xf)
   have xh:=hid (uF (al:=al) ho);have yd:Hid (∀W,L0d wr W->A4 ((W.setCell ⟨hb,i*2,none⟩ (zC 0)).setCell ⟨hb,i*2+1,none⟩ zD) own mb g { R with obs:=(I4 R.obs al i).set i V2 }/\G0 own wr ((W.setCell ⟨hb,i*2,none⟩ (zC 0)).setCell ⟨hb,i*2+1,none⟩ zD)):=fun W hW=>hm.freeSlot (R:={ R with obs:=I4 R.obs al i }) hW xq (by show R.hv=_;rw [HE.out,R9])
   clear xl hm xb ho xq xz xt c4 d4 xs;by_cases hia:i∈al
   ·have hd:decide (i∈al)=true:=decide_eq_true hia
    go_wp2_with (go_at_call 186;refine (xw.out _ ?_).mono ?_;exact P5;rintro e w3 ⟨rfl,xc⟩;have xa:Hid (L0d wr w3):=A3 xc P5;clear xc)
    go_roundw
    case rel=>exact ⟨i+1,by omega,by go_num,by
     rw[xh.out,if_pos hia];exact HM.out.same xa.out.size fun k hk=>xa.out.block k hk,xd.out.trans (G0.of_below xa.out)⟩
    case measure=>simp [intOf];omega
   ·have hd:decide (i∈al)=false:=decide_eq_false hia
    go_wp2_with (go_at_call 186;refine (xw.out _ ?_).mono ?_;exact P5;rintro e w3 ⟨rfl,xc⟩;have xa:Hid (L0d wr w3):=A3 xc P5;have yk:=(xa.out.cell (p:=⟨mb,4,none⟩) xi).trans m4;have yn:=(xa.out.cell (p:=⟨hb,i*2,none⟩) xg).trans k0;have yi:=(xa.out.cell (p:=⟨hb,i*2+1,none⟩) xg).trans k1;have yj:=(xa.out.frozen (p:=⟨hb,i*2,none⟩) xg).trans z0;have ym:=(xa.out.frozen (p:=⟨hb,i*2+1,none⟩) xg).trans z1;have yl:hb < w3.heap.size:=L0a xg xa.out.size;have xr:mb < w3.heap.size:=L0a xi xa.out.size;clear xc k0 k1 z0 z1 m4)
    obtain⟨xu,xx⟩:=yd.out w3 xa.out;have ye:=hid xu;have yg:=hid xx;clear xu xx;go_roundw
    case rel=>exact ⟨i+1,by omega,by go_num,by
     rw[xh.out,if_neg hia];exact ye.out,xd.out.trans yg.out⟩
    case measure=>simp [intOf];omega
  ·obtain rfl:i=R.obs.length:=by omega
   have yb:(I4 R.obs al R.obs.length).length=R.obs.length:=R9 _ _ _;have yc:Hid (∀W,L0d wr W->Calls prog 187 #[.pointer (some ⟨mb,4,none⟩)] W fun e w'=>e=.returned (.tuple #[])/\A4 w' own mb g { R with obs:=K7 R.obs al }/\G0 own W w'):=fun W hW=>zO (R:={ R with obs:=I4 R.obs al R.obs.length }) (hm.same hW.size fun k hk=>hW.block k hk) (by show 0 < (I4 R.obs al R.obs.length).length;omega) (by show (I4 R.obs al R.obs.length).length<=1000;omega) (uK al HW.out)
   have xj:Hid (∀V W,A4 V own mb g { R with obs:=K7 R.obs al }->L0d V W->Calls prog 45 #[.pointer (some ⟨mb,4,none⟩)] W fun e w'=>e=.returned (J (taken (K7 R.obs al):Int))/\L0d W w'):=fun V W hV hW=>lY (R:={ R with obs:=K7 R.obs al }) (hV.same hW.size fun k hk=>hW.block k hk) (by show 0 < (K7 R.obs al).length;rw [fF];omega) (by show (K7 R.obs al).length<=1000;rw [fF];omega)
   have t1:=kY R.obs;have t2:=kY (K7 R.obs al);rw[fF] at t2;clear hm xb;go_wp2_with (first | (go_at_call 187;refine (yc.out _ ?_).mono ?_;exact P5;rintro e w3 ⟨rfl,xr,xc⟩;have xo:=hid xr;have xa:=hid xc;clear xr xc) | (go_at_call 45;refine (xj.out _ _ xo.out ?_).mono ?_;exact P5;rintro e w4 ⟨rfl,xe⟩;have xm:Hid (L0d w3 w4):=A3 xe P5;clear xe))
   try go_region_with (first | (go_at_call 45;refine (xj.out _ _ xo.out ?_).mono ?_;exact P5;rintro e w4 ⟨rfl,xe⟩;have xm:Hid (L0d w3 w4):=A3 xe P5;clear xe))
   all_goals
    go_wp2_with fail;go_ret;exact⟨rfl,xo.out.same xm.out.size fun k hk=>xm.out.block k hk,(xd.out.trans xa.out).trans (G0.of_below xm.out)⟩
end
section
variable {B N j kb rb tb:Nat} {met:List Nat} {mv:Value}
def cY (l:List Nat):List Value:=l.map fun (n:Nat)=>Value.int .i64 (n:Int)
def gB (N:Nat) (met:List Nat):List Value:=(List.range N).map fun j=>.bool (decide (j∈met))
structure X5 (W:World) (B N tb kb rb:Nat) (mv:Value) (met:List Nat):Prop where
 t0:W.cell? ⟨tb,0,none⟩=some mv
 tz:W.frozen? ⟨tb,0,none⟩=false
 k0:W.cell? ⟨kb,0,none⟩=some (.slice (zA rb) N N)
 row:W.ownsRow B 3 1 mv met.length (cY met)
 known:W.ownsRow B 4 1 (.slice (zA rb) N N) N (gB N met)
 tB:B<=tb/\tb < W.heap.size
 kB:B<=kb/\kb < W.heap.size
 rB:B<=rb/\rb < W.heap.size
 ne:tb≠kb/\tb≠rb/\kb≠rb
 mvn:∀b,mv.ownBlock=some b->b≠tb/\b≠kb/\b≠rb
theorem X5.alloc {W:World} (h:X5 W B N tb kb rb mv met) (o:Obj):X5 (W.alloc o) B N tb kb rb mv met:=by
 have hb:∀k,k < W.heap.size->(W.alloc o).heap[k]?=W.heap[k]?:=fun k hk=>Below.heap_alloc _ _ _ hk
 have hs:(W.alloc o).heap.size=W.heap.size+1:=by simp
 refine⟨?_,?_,?_,h.row.alloc o,h.known.alloc o,⟨h.tB.1,by have:=h.tB.2;omega⟩,⟨h.kB.1,by have:=h.kB.2;omega⟩,⟨h.rB.1,by have:=h.rB.2;omega⟩,h.ne,h.mvn⟩
 ·rw [L0b (w:=W) (a:=⟨tb,0,none⟩) (hb tb h.tB.2)];exact h.t0
 ·rw [L0c (w:=W) (a:=⟨tb,0,none⟩) (hb tb h.tB.2)];exact h.tz
 ·rw [L0b (w:=W) (a:=⟨kb,0,none⟩) (hb kb h.kB.2)];exact h.k0
theorem a0a (hj:j < N):(gB N met).set j (.bool true)=gB N (met++[j]):=by
 apply List.ext_getElem?
 intro k;unfold gB;by_cases e:j=k
 ·subst e
  rw[List.getElem?_set_self (by simpa using hj)];simp[hj]
 ·rw [List.getElem?_set_ne e,List.getElem?_map,List.getElem?_map]
  cases h:(List.range N)[k]? with
  | none=>rfl
  | some x =>
   have:x=k:=by
    obtain⟨h1,h2⟩:=L1a.1 h;rw[<- h2];simp
   subst this;simp[Ne.symm e]
def iP (W:World) (B:Nat) (a:Option Addr) (l:List Val):Prop:=0 < l.length->∃b,a=some ⟨b,0,none⟩/\b < B/\∀(i:Nat) (x:Val),l[i]?=some x->W.cell? ⟨b,i*2,none⟩=some (zC x.1)/\W.cell? ⟨b,i*2+1,none⟩=some (J x.2)
theorem a0j {l:List Val} {i:Nat} {x:Val} (h:l[i]?=some x):C1 met (l.take (i+1))=if x.1=2/\x.2.toNat∉C1 met (l.take i) then C1 met (l.take i)++[x.2.toNat] else C1 met (l.take i):=by
 have e:l.take (i+1)=l.take i++[x]:=by rw [List.take_add_one,h];rfl
 rw[e,kM];rfl
theorem X5.grow {wr w1:World} {v1:Value} {j:Nat} {o1 o2:Obj} (h:X5 wr B N tb kb rb mv met) (hj:j < N)
  (hown:w1.ownsRow B 3 1 v1 (met.length+1) (cY met++[J (j:Int)])) (hgrow:(((wr.setCell ⟨rb,j,none⟩ (.bool true)).alloc o1).alloc o2).grownBy w1 mv.ownBlock) (hat:∀g,v1.ownBlock=some g->mv.ownBlock=some g\/g=wr.heap.size+1+1) :
  (w1.cell? ⟨tb,0,none⟩=some mv/\w1.frozen? ⟨tb,0,none⟩=false/\tb < w1.heap.size)/\X5 (w1.setCell ⟨tb,0,none⟩ v1) B N tb kb rb v1 (met++[j])/\(∀W,B<=W.heap.size->Below B W wr->Below B W (w1.setCell ⟨tb,0,none⟩ v1)):=by
 have hs:(((wr.setCell ⟨rb,j,none⟩ (.bool true)).alloc o1).alloc o2).heap.size=wr.heap.size+1+1:=by simp
 have xc:∀k,k < wr.heap.size->k≠rb->(((wr.setCell ⟨rb,j,none⟩ (.bool true)).alloc o1).alloc o2).heap[k]?=wr.heap[k]?:=fun k hk hn=>by
  rw[Below.heap_alloc _ _ _ Q9,Below.heap_alloc _ _ _ (by simpa using hk),heap_setCell_other _ _ _ _ hn]
 have xb:∀k,(k=tb\/k=kb\/k=rb)->some k≠mv.ownBlock:=fun k hk e=>by
  have:=h.mvn k e.symm;rcases hk with rfl | rfl | rfl
  ·exact this.1 rfl
  ·exact this.2.1 rfl
  ·exact this.2.2 rfl
 have ht:=h.tB.2;have xf:=h.kB.2;have xm:=h.rB.2;have xa:w1.heap[tb]?=wr.heap[tb]?:=(hgrow.block tb R5 (xb tb (L4a rfl))).trans (xc tb ht h.ne.2.1);have xd:w1.heap[kb]?=wr.heap[kb]?:=(hgrow.block kb R5 (xb kb (L4b (L4a rfl)))).trans (xc kb xf h.ne.2.2);have xk:wr.heap.size<=w1.heap.size:=by have:=hgrow.size;omega
 have xe:∀b,v1.ownBlock=some b->b≠tb/\b≠kb/\b≠rb:=fun b hb=>by
  rcases hat b hb with h1 | h1
  ·exact h.mvn b h1
  ·omega
 have xh:w1.ownsRow B 4 1 (.slice (zA rb) N N) N (gB N (met++[j])):=by
  have h1:=(World.ownsRow.stored h.known j (.bool true)).1;rw[a0a hj] at h1;have h2:=(h1.alloc o1).alloc o2;exact h2.kept hgrow (L4b (by
   show some rb≠mv.ownBlock;exact xb rb (L4b (L4b rfl))))
 refine⟨⟨by rw [L0b (w:=wr) (a:=⟨tb,0,none⟩) xa];exact h.t0,by rw [L0c (w:=wr) (a:=⟨tb,0,none⟩) xa];exact h.tz,by omega⟩,?_,fun W hB hb=>?_⟩
 ·have c0:w1.cell? ⟨tb,0,none⟩=some mv:=by rw [L0b (w:=wr) (a:=⟨tb,0,none⟩) xa];exact h.t0
  have z0:w1.frozen? ⟨tb,0,none⟩=false:=by rw [L0c (w:=wr) (a:=⟨tb,0,none⟩) xa];exact h.tz
  have xl:tb < w1.heap.size:=by omega
  refine⟨by go_simp,by go_simp,?_,?_,ownsRow_setCell_other xh (by show some rb≠some tb;exact fun e=>h.ne.2.1 (L5b e).symm) _,⟨h.tB.1,by simp;omega⟩,⟨h.kB.1,by simp;omega⟩,⟨h.rB.1,by simp;omega⟩,h.ne,xe⟩
  ·rw [L0b (w:=w1) (a:=⟨kb,0,none⟩) (heap_setCell_other _ _ _ _ (Ne.symm h.ne.1)),L0b (w:=wr) (a:=⟨kb,0,none⟩) xd]
   exact h.k0
  ·have:=ownsRow_setCell_other hown (a:=⟨tb,0,none⟩) (fun e=>(xe tb e).1 rfl) v1
   simpa [cY] using this
 ·refine ⟨hgrow.os.trans hb.os,hgrow.tape.trans hb.tape,hgrow.output.trans hb.output,by have:=hb.size;simp;omega,fun k hk=>?_⟩
  have xi:k≠tb:=by have:=h.tB.1;omega
  have xj:k≠rb:=by have:=h.rB.1;omega
  have xg:k < wr.heap.size:=by have:=hb.size;omega
  rw[heap_setCell_other _ _ _ _ xi,hgrow.block k R5 (fun e=>by have:=(h.row.lt k e.symm).1;omega),xc k xg xj];exact hb.block k hk
theorem wS (B N tb kb rb:Nat) (mv:Value) (met:List Nat) (W:World) (h:X5 W B N tb kb rb mv met) (hN:N<=1000) (hml:met.Nodup/\∀j,j∈met->j < N) (a:Option Addr) (l:List Val) (c:Nat) (hl:l.length<=3000000) (hs:iP W B a l) (hr:∀v,v∈l->v.1=2->0<=v.2/\v.2.toNat < N) (hBW:B<=W.heap.size) :
  Calls prog 226 #[.slice a l.length c,zB kb,zB tb] W fun e w'=>e=.returned (.tuple #[])/\(∃mv',X5 w' B N tb kb rb mv' (C1 met l))/\Below B W w':=by
 have HH:=hid h;have xk:=hid hml;have HS:=hid hs;have HR:=hid hr;clear h hml hs hr;obtain⟨i3,hi,hz,xh,xi⟩:=info_parts iE;have HI:=hid hi;have HZ:=hid hz;have xn:=hid xh;have xl:=hid xi;clear hi hz xh xi;go_enter func226,ntmps226;go_wp2_with fail;go_loopw [8] (fun vi wr=>∃i:Nat,i<=l.length/\vi=J i/\(∃mv',X5 wr B N tb kb rb mv' (C1 met (l.take i)))/\Below B W wr) (fun vi _=>l.length - (intOf vi).toNat)
 case atStart=>exact ⟨0,L4c _,rfl,⟨mv,HH.out⟩,L3b _ _⟩
 case round =>
  obtain⟨i,hi,rfl,⟨mv',hm⟩,hbel⟩:=hrel;by_cases hlti:i < l.length
  ·obtain ⟨x,hx⟩:∃x,l[i]?=some x:=⟨_,L1b hlti⟩
   obtain⟨sb,rfl,xj,xb⟩:=HS.out R5;obtain⟨x0,x1⟩:=xb i x hx;rw[<- hbel.cell (p:=⟨sb,_,none⟩) xj] at x0 x1;have xt:sb < wr.heap.size:=L0a (L0a xj hBW) hbel.size;have xc:=hid (a0j (met:=met) hx);have HM:=hid hm;have xa:=hid hbel;have HX:=hid hx;have xg:B<=wr.heap.size:=L5a hBW hbel.size;by_cases h2:x.1=2
   ·obtain ⟨q0,q1⟩:=HR.out x (L2a hx) h2
    obtain⟨j,hj⟩:=L5c q0;rw[hj,Int.toNat_natCast] at q1;rw[h2] at x0;rw[hj] at x1;have xd:x.2.toNat=j:=by rw [hj];rfl
    have kc:wr.cell? ⟨rb,j,none⟩=some (.bool (decide (j∈C1 met (l.take i)))):=by
     rw[hm.known.cellAt j R5];unfold gB;rw[List.getElem?_map,List.getElem?_range q1];rfl
    have kz:=hm.known.frozenAt j;have ck:=hm.k0;have xs:=hm.kB.2;have xv:=hm.rB.2;have xr:=hm.tB.2;by_cases hin:j∈C1 met (l.take i)
    ·have hd:decide (j∈C1 met (l.take i))=true:=decide_eq_true hin
     rw[hd] at kc;clear hm hbel hx xb;go_wp2_with fail;go_roundw
     case rel=>exact ⟨i+1,by omega,by go_num,⟨mv',by
      rw[xc.out,if_neg (fun e=>e.2 (by rw [xd];exact hin))];exact HM.out.alloc _⟩,L3a xa.out xg _⟩
     case measure=>simp [intOf];omega
    ·have hd:decide (j∈C1 met (l.take i))=false:=decide_eq_false hin
     rw[hd] at kc;have t0:=hm.t0;have tz:=hm.tz;have xu:=hm.ne;have xf:(C1 met (l.take i)).length<=N:=L7 (W0 _ _ xk.out.1) (cM xk.out.2 fun v hv h2=>(HR.out v (List.mem_of_mem_take hv) h2).2);have xe:=hid (ownsRow_setCell_other hm.row (a:=⟨rb,j,none⟩) (fun e=>(hm.mvn rb e).2.2 rfl) (.bool true));clear hm hbel hx xb;go_wp2_with (at_builtin;go_must (refine A8 _ rfl (.tmp 27) (.tmp 30) 24 rfl B 3 i3 _ 1 8 underlying24 HI.out HZ.out xn.out xl.out rfl R4 mv' (C1 met (l.take i)).length (cY (C1 met (l.take i))) rfl ((xe.out.alloc _).alloc _) (some ⟨wr.heap.size+1,0,none⟩) 1 1 [J (j:Int)] rfl rfl (fun _=>⟨_,rfl,World.news_of_block (cs:=#[J (j:Int)]) (t:=3) (fr:=(0,0)) (B0 R6)⟩) (by intro u hu;rw [List.mem_singleton] at hu;subst hu;rfl) Q7 R5 Q9 ?_))
     intro v1 w1 hown1 hgrow1 hat1;obtain⟨gb,xp,rfl,_,_⟩:=hown1.form (Nat.succ_pos _);obtain⟨⟨e0,e1,e2⟩,hME,hBE⟩:=HM.out.grow q1 hown1 hgrow1 hat1;have xm:=hid hME;have xo:=hid (hBE W hBW xa.out);clear hown1 hgrow1 hat1 hME hBE kc kz ck t0 tz x0 x1;go_wp2_with fail;go_roundw
     case rel=>exact ⟨i+1,by omega,by go_num,⟨_,by
      rw[xc.out,if_pos ⟨h2,by rw [xd];exact hin⟩,xd];exact xm.out⟩,xo.out⟩
     case measure=>simp [intOf];omega
   ·have xq:(x.1 == 2)=false:=L2c.2 h2
    clear hm hbel hx xb;go_wp2_with fail;go_roundw
    case rel=>exact ⟨i+1,by omega,by go_num,⟨mv',by
     rw[xc.out,if_neg (fun e=>h2 e.1)];exact HM.out.alloc _⟩,L3a xa.out xg _⟩
    case measure=>simp [intOf];omega
  ·obtain rfl:i=l.length:=by omega
   rw[List.take_length] at hm;have HM:=hid hm;have xa:=hid hbel;clear hm hbel;go_wp2_with fail;go_end0
   exact⟨rfl,⟨mv',HM.out⟩,xa.out⟩
end
end Go.Proofs.YtbkmgoffiigdbaaGreatDoor
