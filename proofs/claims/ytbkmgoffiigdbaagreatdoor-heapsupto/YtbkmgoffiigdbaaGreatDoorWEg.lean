import Derived.Test.YtbkmgoffiigdbaaGreatDoorWEf
namespace Go.Proofs.YtbkmgoffiigdbaaGreatDoor
open Go.RowKit Go.Sort Go.Proofs.Tryz
set_option maxHeartbeats 4000000
set_option maxRecDepth 100000
section
variable {i:Nat} {l:List ObR} {o:ObR} {own:Own} {w w':World}
structure F5 (own:Own) (w w':World):Prop where
 os:w'.os=w.os
 tape:w'.tape=w.tape
 output:w'.output=w.output
 size:w.heap.size<=w'.heap.size
 block:∀k,k < w.heap.size->own k≠some .slots->(∀j,own k≠some (.fld j))->w'.heap[k]?=w.heap[k]?
theorem F5.refl (own:Own) (w:World):F5 own w w:=⟨rfl,rfl,rfl,L1c _,fun _ _ _ _=>rfl⟩
theorem F5.of_below (h:L0d w w'):F5 own w w':=⟨h.os,h.tape,h.output,h.size,fun k hk _ _=>h.block k hk⟩
theorem F5.trans {a b c:World} (h:F5 own a b) (k:F5 own b c):F5 own a c :=
 ⟨k.os.trans h.os,k.tape.trans h.tape,k.output.trans h.output,L5a h.size k.size,fun i hi h1 h2=>(k.block i (L0a hi h.size) h1 h2).trans (h.block i hi h1 h2)⟩
theorem F5.touched (h:F5 own w w'):A2 own w own w':=⟨h.os,h.tape,h.output,h.size,fun k hk hn=>h.block k hk (by rw [hn];simp) (fun j=>by rw [hn];simp),fun _ _=>rfl⟩
def L8 (all:List ObR) (o:ObR):ObR:={ o with fl:=(K7 (all.map ObR.abs) o.abs).2 }
theorem sN (all:List ObR) (o:ObR):(L8 all o).abs=K7 (all.map ObR.abs) o.abs:=by
 have:=aN (all.map ObR.abs) o.abs;unfold L8 ObR.abs at *
 exact Prod.ext this.symm rfl
def E4 (l:List ObR) (i:Nat):List ObR:=(l.take i).map (L8 l)++l.drop i
theorem aP (l:List ObR) (i:Nat):(E4 l i).length=l.length:=by simp [E4];omega
theorem nI (l:List ObR):E4 l 0=l:=by simp [E4]
theorem pK (l:List ObR):E4 l l.length=l.map (L8 l):=by simp [E4]
theorem aO {j:Nat} (h:l[j]?=some o):(E4 l i)[j]?=some (if j < i then L8 l o else o):=by
 have hj:=(L1a.1 h).1;unfold E4;by_cases hi:j < i
 ·rw [List.getElem?_append_left Q8,List.getElem?_map,List.getElem?_take_of_lt hi,h,if_pos hi];rfl
 ·rw [List.getElem?_append_right Q8,List.getElem?_drop,if_neg hi]
  have:i+(j - (List.map (L8 l) (List.take i l)).length)=j:=by simp;omega
  rw[this,h]
theorem bS (h:l[i]?=some o):E4 l (i+1)=(E4 l i).set i (L8 l o):=by
 have hi:=(L1a.1 h).1
 apply List.ext_getElem?
 intro j;by_cases hj:j < l.length
 ·obtain ⟨p,hp⟩:∃p,l[j]?=some p:=⟨_,L1b hj⟩
  rw[aO hp];by_cases e:i=j
  ·subst e
   rw[h] at hp
   cases hp;rw[List.getElem?_set_self (by rw [aP];exact hi),if_pos R4]
  ·rw [List.getElem?_set_ne e,aO hp]
   by_cases h1:j < i
   ·rw [if_pos R4,if_pos h1]
   ·rw [if_neg R4,if_neg h1]
 ·rw [List.getElem?_eq_none (by rw [aP];omega),List.getElem?_eq_none (by rw [List.length_set,aP];omega)]
theorem jX (h:¬(o.kind=3/\eA (l.map ObR.abs) (o.fl.headD (0,0))=true)):L8 l o=o:=by
 unfold L8 K7;rw[if_neg (show ¬(o.abs.1=3/\eA (l.map ObR.abs) (o.abs.2.headD (0,0))=true) from h)];rfl
theorem tZ (h:l[i]?=some o):l.set i o=l:=by
 obtain⟨hl,rfl⟩:=L1a.1 h;exact List.set_getElem_self hl
def lB (l:List ObR):Prop:=∀o,o∈l->o.kind=3->∃v:Val,o.fl=[v]/\(v.1=2->0<=v.2/\v.2.toNat < l.length)
theorem vM {mb:Nat} {g:PgR} {R:McR} (h:A4 w own mb g R) (hpos:0 < R.obs.length) (hn:R.obs.length<=1000) (hw:lB R.obs) :
  Calls prog 187 #[.pointer (some ⟨mb,4,none⟩)] w fun e w'=>e=.returned (.tuple #[])/\A4 w' own mb g { R with obs:=R.obs.map (L8 R.obs) }/\F5 own w w':=by
 have c4:=h.c4;have yq:mb < w.heap.size:=h.lt mb _ h.me;obtain⟨hb,hc,e,_,ym⟩:=h.slots.1.form hpos;rw[e] at c4;have HH:=hid h;have HE:=hid e;have HW:=hid hw;clear h e hw;go_enter func187,ntmps187;go_wp2_with fail;go_loopw [9] (fun vi wr=>∃i:Nat,i<=R.obs.length/\vi=.int .i64 i/\A4 wr own mb g { R with obs:=E4 R.obs i }/\F5 own w wr) (fun vi _=>R.obs.length - (intOf vi).toNat)
 case atStart=>exact ⟨0,L4c _,rfl,by rw [nI];exact HH.out,F5.refl _ _⟩
 case round =>
  obtain⟨i,hi,rfl,hm,xa⟩:=hrel;by_cases hlti:i < R.obs.length
  ·obtain ⟨o,ho⟩:∃o,R.obs[i]?=some o:=⟨_,L1b hlti⟩
   have xe:(E4 R.obs i)[i]?=some o:=by rw [aO ho,if_neg R4]
   obtain⟨yi,hc',fa,fc,xs,_,yo,xh,k0,k1⟩:=hm.slot (R:={ R with obs:=E4 R.obs i }) xe;have xl:R.hv=.slice (some ⟨yi,0,none⟩) (E4 R.obs i).length hc':=xs;rw[HE.out,aP] at xl
   cases xl;have HM:=hid hm;have xf:=hid xa;have HO:=hid ho;have ys:=hid xe;have yc:mb < wr.heap.size:=hm.lt mb _ hm.me;by_cases h3:o.kind=3
   ·obtain ⟨v,xc,hv⟩:=HW.out o (L2a ho) h3
    have xo:=hm.fld (R:={ R with obs:=E4 R.obs i }) i o xe;obtain⟨fb,yr,xy,_,xm⟩:=xo.1.form (by rw [xc];simp);rw[xh] at xy
    cases xy;have xi:=xo.1;rw[xh] at xi;have f0:wr.cell? ⟨fb,0,none⟩=some (.int .u8 v.1):=by rw [xi.cellAt 0 (by rw [xc];simp),xc];rfl
    have f1:wr.cell? ⟨fb,1,none⟩=some (.int .i64 v.2):=by rw [xi.cellAt 1 (by rw [xc];simp),xc];rfl
    have z0:=xi.frozenAt 0;have z1:=xi.frozenAt 1;rw[xc] at k1;rw[h3] at k0;simp only[List.length_cons,List.length_nil,Nat.zero_add] at k1;obtain⟨kd,xp,n2,xn,hR,xx⟩:∃kd xp n2 xn,(∀W,L0d wr W->Calls prog 225 #[.pointer (some ⟨mb,4,none⟩),.agg #[.int .u8 v.1,.int .i64 v.2]] W fun e w'=>e=.returned (.agg #[.int .u8 kd,.slice xp n2 xn])/\L0d W w')/\(kd == 0)=eA (R.obs.map ObR.abs) v:=by
     by_cases h2:v.1=2
     ·obtain ⟨q0,q1⟩:=hv h2
      obtain⟨p,hp⟩:∃p,R.obs[v.2.toNat]?=some p:=⟨_,L1b q1⟩
      have yb:(E4 R.obs i)[v.2.toNat]?=some (if v.2.toNat < i then L8 R.obs p else p):=aO hp;have yd:(if v.2.toNat < i then L8 R.obs p else p).kind=p.kind:=by split <;> rfl
      generalize (if v.2.toNat < i then L8 R.obs p else p)=p' at *
      obtain⟨xp,xn,xr⟩:=G3 (hm.fld (R:={ R with obs:=E4 R.obs i }) _ p' yb);refine⟨p'.kind,xp,p'.fl.length,xn,fun W hW=>?_,?_⟩
      ·have:=V9 (R:={ R with obs:=E4 R.obs i }) (hm.same hW.size fun k hk=>hW.block k hk) yb
       rw[xr,Int.toNat_of_nonneg q0] at this;rw[h2];exact this
      ·rw [yd]
       unfold eA;rw[if_pos h2,List.getElem?_map,hp];rfl
     ·exact ⟨0,none,0,0,fun W _=>fJ _ _ _ (L2c.2 h2) W,by unfold eA;rw [if_neg h2];rfl⟩
    have HR:=hid hR;have xq:Hid (eA (R.obs.map ObR.abs) v=true->∀W,L0d wr W->A4 ((W.setCell ⟨fb,0,none⟩ (.int .u8 0)).setCell ⟨fb,1,none⟩ (.int .i64 0)) own mb g { R with obs:=E4 R.obs (i+1) }/\F5 own w ((W.setCell ⟨fb,0,none⟩ (.int .u8 0)).setCell ⟨fb,1,none⟩ (.int .i64 0))):=by
     intro hlo W hW;have ya:=hm.same hW.size fun k hk=>hW.block k hk
     have xk:own fb=some (.fld i):=xo.2 fb (by rw [xh];rfl);have xv:=ya.fld (R:={ R with obs:=E4 R.obs i }) i o xe;rw[xh] at xv;have hr:=(World.ownsRow.stored (World.ownsRow.stored xv.1 0 (.int .u8 0)).1 1 (.int .i64 0)).1;have yh:((A5 o.fl).set 0 (.int .u8 0)).set 1 (.int .i64 0)=A5 [(0,0)]:=by rw [xc];rfl
     rw[yh] at hr;have xj:∀k,k≠fb->((W.setCell ⟨fb,0,none⟩ (.int .u8 0)).setCell ⟨fb,1,none⟩ (.int .i64 0)).heap[k]?=W.heap[k]?:=fun k hk=>by
      rw[heap_setCell_other _ _ _ _ hk,heap_setCell_other _ _ _ _ hk]
     have xt:=ya.setFld (R:={ R with obs:=E4 R.obs i }) (w':=(W.setCell ⟨fb,0,none⟩ (.int .u8 0)).setCell ⟨fb,1,none⟩ (.int .i64 0)) (l:=[(0,0)]) xe xh xk R5 xj (by rw [xc];rfl) hr;have yg:L8 R.obs o={ o with fl:=[(0,0)] }:=by
      unfold L8 K7;rw[if_pos (show o.abs.1=3/\eA (R.obs.map ObR.abs) (o.abs.2.headD (0,0))=true from ⟨h3,by show eA _ (o.fl.headD (0,0))=true;rw [xc];exact hlo⟩)];show ({ o with fl:=o.fl.set 0 (0,0) } : ObR)=_;rw[xc];rfl
     refine⟨?_,xa.trans ((F5.of_below hW).trans ⟨rfl,rfl,rfl,by simp,fun k hk h1 h2=>xj k (fun e=>h2 i (by rw [e];exact xk))⟩)⟩;rw[bS ho,yg];exact xt
    have xd:Hid (eA (R.obs.map ObR.abs) v=false->E4 R.obs (i+1)=E4 R.obs i):=fun hlo=>by
     rw[bS ho,jX (fun e=>by have h1:=e.2;rw [xc] at h1;have h2:eA (R.obs.map ObR.abs) v=true:=h1;rw [hlo] at h2;cases h2),tZ xe]
    have yk:fb≠wr.heap.size:=by omega
    clear hR xo xi xh hm xa ho xe hv xc h3 xs c4
    cases hlo:eA (R.obs.map ObR.abs) v
    ·rw [hlo] at xx
     go_wp2_with (first | (go_at_call 225;refine (HR.out _ ?_).mono ?_;exact P5;rintro e w2 ⟨rfl,xg⟩;have xu:=xg.size;have xb:Hid (L0d wr w2):=A7 xg P5;clear xg) | (go_at_call 212;refine (Y6 _ _ _ _ _).mono ?_;rintro e w' ⟨rfl,o4,rfl⟩))
     go_roundw
     case rel=>exact ⟨i+1,by omega,by go_num,by
      rw[xd.out hlo];exact HM.out.same (by have:=xb.out.size;simp;omega) fun k hk=>(L3a xb.out xb.out.size o4).block k hk,xf.out.trans (F5.of_below (L3a xb.out xb.out.size o4))⟩
     case measure=>simp [intOf];omega
    ·rw [hlo] at xx
     go_wp2_with (first | (go_at_call 225;refine (HR.out _ ?_).mono ?_;exact P5;rintro e w2 ⟨rfl,xg⟩;have xu:=xg.size;have xb:Hid (L0d wr w2):=A7 xg P5;have g0:=(xb.out.frozen (p:=⟨fb,0,none⟩) xm).trans z0;have g1:=(xb.out.frozen (p:=⟨fb,1,none⟩) xm).trans z1;have j0:=(xb.out.cell (p:=⟨fb,0,none⟩) xm).trans f0;have j1:=(xb.out.cell (p:=⟨fb,1,none⟩) xm).trans f1;have yp:w2.cell? ⟨wr.heap.size,1,none⟩=some (.slice (some ⟨fb,0,none⟩) 1 fc):=(xg.cell (p:=⟨wr.heap.size,1,none⟩) R5).trans Q9;have yl:fb < w2.heap.size:=L0a xm xb.out.size;have yf:wr.heap.size < w2.heap.size:=(by simp at xu;omega);clear xg) | (go_at_call 212;refine (Y6 _ _ _ _ _).mono ?_;rintro e w' ⟨rfl,o4,rfl⟩))
     obtain⟨xw,xz⟩:=xq.out hlo w2 xb.out;have yj:=hid xw;have ye:=hid xz;clear xw xz;go_roundw
     case rel=>exact ⟨i+1,by omega,by go_num,yj.out.same R5 fun k hk=>(L3a (L3b _ _) (L1c _) _).block k hk,ye.out.trans (F5.of_below (L3a (L3b _ _) (L1c _) _))⟩
     case measure=>simp [intOf];omega
   ·have xd:Hid (E4 R.obs (i+1)=E4 R.obs i):=by
     refine hid ?_;rw[bS ho,jX (fun e=>h3 e.1),tZ xe]
    have yn:(o.kind == 3)=false:=L2c.2 h3;clear xh hm xa ho xe h3 xs c4;go_wp2_with fail;go_roundw
    case rel=>exact ⟨i+1,by omega,by go_num,by
     rw[xd.out];exact HM.out.same R5 fun k hk=>(L3a (L3b _ _) (L1c _) _).block k hk,xf.out.trans (F5.of_below (L3a (L3b _ _) (L1c _) _))⟩
    case measure=>simp [intOf];omega
  ·obtain rfl:i=R.obs.length:=by omega
   rw[pK] at hm;have HM:=hid hm;have xf:=hid xa;clear hm xa;go_wp2_with fail;go_end0
   exact⟨rfl,HM.out,xf.out⟩
end
section
variable {W w:World} {g:PgR} {l:List ObR} {mb:Nat} {o:ObR} {own:Own}
theorem iA (a:Option Addr) (l:List Nat) (c x:Nat) (w:World) (hl:l.length<=1000) (hs:aG w a l) :
  Calls prog 186 #[.slice a l.length c,.int .i64 (x:Int)] w fun e w'=>e=.returned (.bool (decide (x∈l)))/\L0d w w':=by
 have HI:=hid (a0A a l c x w hl hs);clear hs;go_enter func186,ntmps186;go_wp2_with (go_at_call 197;refine HI.out.mono ?_;rintro e w2 ⟨⟨r,rfl,hr⟩,hb2⟩;have HR:=hid hr;have xa:=hid hb2;clear hr hb2)
 go_ret;refine⟨congrArg (fun b=>Ending.returned (Value.bool b)) ?_,xa.out⟩;rw[Bool.eq_iff_iff];simp only[decide_eq_true_eq];exact HR.out
theorem aG.later {a:Option Addr} {l:List Nat} (h:aG w a l) (hs:w.heap.size<=W.heap.size) (hb:∀b,b < w.heap.size->a=some ⟨b,0,none⟩->W.heap[b]?=w.heap[b]?):aG W a l:=fun h0=>by
 obtain⟨b,h1,h2,h3⟩:=h h0;refine⟨b,h1,L0a h2 hs,fun i x hx=>?_⟩;rw[L0b (w:=w) (a:=⟨b,i,none⟩) (hb b h2 h1)];exact h3 i x hx
def H6 (l:List ObR) (al:List Nat) (i:Nat):List ObR:=l.mapIdx fun j o=>if j < i/\j∉al then K9 else o
theorem N1 (l:List ObR) (al:List Nat) (i:Nat):(H6 l al i).length=l.length:=by simp [H6]
theorem N0 (l:List ObR) (al:List Nat) (i j:Nat):(H6 l al i)[j]?=(l[j]?).map fun o=>if j < i/\j∉al then K9 else o:=by simp [H6,List.getElem?_mapIdx]
theorem rA (l:List ObR) (al:List Nat):H6 l al 0=l:=by
 apply List.ext_getElem?
 intro j;rw[N0]
 cases l[j]? <;> simp
theorem qZ {al:List Nat} {i:Nat} (h:l[i]?=some o):H6 l al (i+1)=if i∈al then H6 l al i else (H6 l al i).set i K9:=by
 have hi:=(L1a.1 h).1;by_cases hm:i∈al
 ·rw [if_pos hm]
  apply List.ext_getElem?
  intro j;rw[N0,N0];congr 1
  funext x
  by_cases e:j=i
  ·subst e;rw [if_neg (fun h=>h.2 hm),if_neg (fun h=>h.2 hm)]
  ·by_cases h2:j < i/\j∉al
   ·rw [if_pos h2,if_pos ⟨by omega,h2.2⟩]
   ·rw [if_neg h2,if_neg (fun h3=>h2 ⟨by omega,h3.2⟩)]
 ·rw [if_neg hm]
  apply List.ext_getElem?
  intro j;by_cases e:i=j
  ·subst e
   rw[N0,List.getElem?_set_self (by rw [N1];exact hi),h];simp[hm]
  ·rw [List.getElem?_set_ne e,N0,N0]
   congr 1
   funext x
   by_cases h2:j < i/\j∉al
   ·rw [if_pos h2,if_pos ⟨by omega,h2.2⟩]
   ·rw [if_neg h2,if_neg (fun h3=>h2 ⟨by omega,h3.2⟩)]
def J5 (l:List ObR) (al:List Nat):List ObR:=(H6 l al l.length).map (L8 (H6 l al l.length))
theorem uB (l:List ObR) (al:List Nat):(H6 l al l.length).map ObR.abs=Z1 (l.map ObR.abs) al:=by
 apply List.ext_getElem?
 intro j;rw[List.getElem?_map,N0,cW,List.getElem?_map]
 cases h:l[j]? with
 | none=>rfl
 | some o =>
  have hj:=(L1a.1 h).1;simp only[Option.map_some];by_cases hm:j∈al
  ·simp [hm]
  ·simp [hm,hj,K9,ObR.abs]
theorem mW (l:List ObR) (al:List Nat):(J5 l al).map ObR.abs=R9 (l.map ObR.abs) al:=by
 unfold J5 R9 kN;rw[List.map_map,<- uB,List.map_map];congr 1
 funext o
 exact sN _ o
theorem cX (l:List ObR) (al:List Nat):(J5 l al).length=l.length:=by simp [J5,N1]
theorem M7 (l:List ObR):taken l=I8 (l.map ObR.abs):=by
 unfold taken I8;rw[List.filter_map,List.length_map];rfl
theorem rF (al:List Nat) (h:lB l):lB (H6 l al l.length):=by
 intro o ho hk;obtain⟨j,hj⟩:=List.mem_iff_getElem?.1 ho;rw[N0] at hj;obtain⟨p,hp,rfl⟩:=Option.map_eq_some_iff.1 hj;split at hk
 ·simp [K9] at hk
 ·rename_i hc
  rw[if_neg hc,N1];exact h p (L2a hp) hk
theorem A4.freeSlot {R:McR} {j:Nat} {hb hc:Nat} (h:A4 w own mb g R) (hB:L0d w W) (hj:R.obs[j]?=some o) (he:R.hv=.slice (some ⟨hb,0,none⟩) R.obs.length hc) :
  A4 ((W.setCell ⟨hb,j*2,none⟩ (.int .u8 0)).setCell ⟨hb,j*2+1,none⟩ (.slice none 0 0)) own mb g { R with obs:=R.obs.set j K9 }/\F5 own w ((W.setCell ⟨hb,j*2,none⟩ (.int .u8 0)).setCell ⟨hb,j*2+1,none⟩ (.slice none 0 0)):=by
 obtain⟨h1,h2⟩:=h.layOb (p:=K9) hB hj he (fun b hb=>by cases hb) (World.ownsRow_nil _ _ _ _);have e:own.upd K9.fv.ownBlock (.fld j)=own:=Own.upd_none _ _;rw[e] at h1;exact⟨h1,⟨hB.os,hB.tape,hB.output,by have:=hB.size;simpa using this,fun k hk hs _=>h2 k hk hs⟩⟩
theorem a1K {R:McR} (h:A4 w own mb g R) (hpos:0 < R.obs.length) (hn:R.obs.length<=1000) (hw:lB R.obs) (a:Option Addr) (al:List Nat) (c:Nat) (hl:al.length<=1000) (hs:aG w a al) (hna:∀b,a=some ⟨b,0,none⟩->own b=none) :
  Calls prog 140 #[.pointer (some ⟨mb,4,none⟩),.slice a al.length c] w fun e w'=>e=.returned (.int .i64 ((taken R.obs:Int) - (taken (J5 R.obs al):Int)))/\A4 w' own mb g { R with obs:=J5 R.obs al }/\F5 own w w':=by
 have c4:=h.c4;have xv:mb < w.heap.size:=h.lt mb _ h.me;obtain⟨hb,hc,e,_,yi⟩:=h.slots.1.form hpos;rw[e] at c4;have xz:Hid (∀W,L0d w W->Calls prog 45 #[.pointer (some ⟨mb,4,none⟩)] W fun e w'=>e=.returned (.int .i64 (taken R.obs:Int))/\L0d W w'):=fun W hW=>eY (h.same hW.size fun k hk=>hW.block k hk) hpos hn
 have HH:=hid h;have HE:=hid e;have HW:=hid hw;have HS:=hid hs;have xu:=hid hna;clear h e hw hs hna;go_enter func140,ntmps140;go_wp2_with (go_at_call 45;refine (xz.out _ ?_).mono ?_;exact (L3b _ _);rintro e w2 ⟨rfl,xm⟩;have d4:=(xm.cell (p:=⟨mb,4,none⟩) xv).trans c4;have yc:mb < w2.heap.size:=L0a xv xm.size;have xs:=hid xm;clear xm)
 go_loopw [14] (fun vi wr=>∃i:Nat,i<=R.obs.length/\vi=.int .i64 i/\A4 wr own mb g { R with obs:=H6 R.obs al i }/\F5 own w wr) (fun vi _=>R.obs.length - (intOf vi).toNat)
 case atStart=>exact ⟨0,L4c _,rfl,by rw [rA];exact HH.out.same xs.out.size fun k hk=>xs.out.block k hk,F5.of_below xs.out⟩
 case round =>
  obtain⟨i,hi,rfl,hm,xb⟩:=hrel;have HM:=hid hm;have xd:=hid xb;have xe:mb < wr.heap.size:=hm.lt mb _ hm.me;by_cases hlti:i < R.obs.length
  ·obtain ⟨o,ho⟩:∃o,R.obs[i]?=some o:=⟨_,L1b hlti⟩
   obtain⟨o',xp⟩:∃o',(H6 R.obs al i)[i]?=some o':=⟨_,L1b (by rw [N1];exact hlti)⟩
   obtain⟨xg,hc',fa,fc,xw,xq,xj,ye,k0,k1⟩:=hm.slot (R:={ R with obs:=H6 R.obs al i }) xp;have xi:R.hv=.slice (some ⟨xg,0,none⟩) (H6 R.obs al i).length hc':=xw;rw[HE.out,N1] at xi
   cases xi;have m4:wr.cell? ⟨mb,4,none⟩=some (.slice (some ⟨hb,0,none⟩) R.obs.length hc):=by have:wr.cell? ⟨mb,4,none⟩=some R.hv:=hm.c4;rw [HE.out] at this;exact this
   have xl:wr.ownsRow 0 90 2 R.hv (H6 R.obs al i).length ((H6 R.obs al i).flatMap ObR.cells):=hm.slots.1;rw[HE.out,N1] at xl;have z0:=xl.frozenAt (i*2);have z1:=xl.frozenAt (i*2+1);have xx:Hid (∀W,L0d wr W->Calls prog 186 #[.slice a al.length c,.int .i64 (i:Int)] W fun e w'=>e=.returned (.bool (decide (i∈al)))/\L0d W w'):=fun W hW=>iA a al c i W hl ((HS.out.later xb.size fun b xg hab=>xb.block b xg (by rw [xu.out b hab];simp) (fun j=>by rw [xu.out b hab];simp)).later hW.size fun b xg _=>hW.block b xg)
   have xh:=hid (qZ (al:=al) ho);have yb:Hid (∀W,L0d wr W->A4 ((W.setCell ⟨hb,i*2,none⟩ (.int .u8 0)).setCell ⟨hb,i*2+1,none⟩ (.slice none 0 0)) own mb g { R with obs:=(H6 R.obs al i).set i K9 }/\F5 own wr ((W.setCell ⟨hb,i*2,none⟩ (.int .u8 0)).setCell ⟨hb,i*2+1,none⟩ (.slice none 0 0))):=fun W hW=>hm.freeSlot (R:={ R with obs:=H6 R.obs al i }) hW xp (by show R.hv=_;rw [HE.out,N1])
   clear xl hm xb ho xp ye xw c4 d4 xq;by_cases hia:i∈al
   ·have hd:decide (i∈al)=true:=decide_eq_true hia
    go_wp2_with (go_at_call 186;refine (xx.out _ ?_).mono ?_;exact P5;rintro e w3 ⟨rfl,xc⟩;have xa:Hid (L0d wr w3):=A7 xc P5;clear xc)
    go_roundw
    case rel=>exact ⟨i+1,by omega,by go_num,by
     rw[xh.out,if_pos hia];exact HM.out.same xa.out.size fun k hk=>xa.out.block k hk,xd.out.trans (F5.of_below xa.out)⟩
    case measure=>simp [intOf];omega
   ·have hd:decide (i∈al)=false:=decide_eq_false hia
    go_wp2_with (go_at_call 186;refine (xx.out _ ?_).mono ?_;exact P5;rintro e w3 ⟨rfl,xc⟩;have xa:Hid (L0d wr w3):=A7 xc P5;have yj:=(xa.out.cell (p:=⟨mb,4,none⟩) xe).trans m4;have yn:=(xa.out.cell (p:=⟨hb,i*2,none⟩) xj).trans k0;have yk:=(xa.out.cell (p:=⟨hb,i*2+1,none⟩) xj).trans k1;have ym:=(xa.out.frozen (p:=⟨hb,i*2,none⟩) xj).trans z0;have yh:=(xa.out.frozen (p:=⟨hb,i*2+1,none⟩) xj).trans z1;have yl:hb < w3.heap.size:=L0a xj xa.out.size;have xo:mb < w3.heap.size:=L0a xe xa.out.size;clear xc k0 k1 z0 z1 m4)
    obtain⟨xt,xy⟩:=yb.out w3 xa.out;have yd:=hid xt;have yf:=hid xy;clear xt xy;go_roundw
    case rel=>exact ⟨i+1,by omega,by go_num,by
     rw[xh.out,if_neg hia];exact yd.out,xd.out.trans yf.out⟩
    case measure=>simp [intOf];omega
  ·obtain rfl:i=R.obs.length:=by omega
   have yg:(H6 R.obs al R.obs.length).length=R.obs.length:=N1 _ _ _;have ya:Hid (∀W,L0d wr W->Calls prog 187 #[.pointer (some ⟨mb,4,none⟩)] W fun e w'=>e=.returned (.tuple #[])/\A4 w' own mb g { R with obs:=J5 R.obs al }/\F5 own W w'):=fun W hW=>vM (R:={ R with obs:=H6 R.obs al R.obs.length }) (hm.same hW.size fun k hk=>hW.block k hk) (by show 0 < (H6 R.obs al R.obs.length).length;omega) (by show (H6 R.obs al R.obs.length).length<=1000;omega) (rF al HW.out)
   have xk:Hid (∀V W,A4 V own mb g { R with obs:=J5 R.obs al }->L0d V W->Calls prog 45 #[.pointer (some ⟨mb,4,none⟩)] W fun e w'=>e=.returned (.int .i64 (taken (J5 R.obs al):Int))/\L0d W w'):=fun V W hV hW=>eY (R:={ R with obs:=J5 R.obs al }) (hV.same hW.size fun k hk=>hW.block k hk) (by show 0 < (J5 R.obs al).length;rw [cX];omega) (by show (J5 R.obs al).length<=1000;rw [cX];omega)
   have t1:=iX R.obs;have t2:=iX (J5 R.obs al);rw[cX] at t2;clear hm xb;go_wp2_with (first | (go_at_call 187;refine (ya.out _ ?_).mono ?_;exact P5;rintro e w3 ⟨rfl,xo,xc⟩;have xr:=hid xo;have xa:=hid xc;clear xo xc) | (go_at_call 45;refine (xk.out _ _ xr.out ?_).mono ?_;exact P5;rintro e w4 ⟨rfl,xf⟩;have xn:Hid (L0d w3 w4):=A7 xf P5;clear xf))
   try go_region_with (first | (go_at_call 45;refine (xk.out _ _ xr.out ?_).mono ?_;exact P5;rintro e w4 ⟨rfl,xf⟩;have xn:Hid (L0d w3 w4):=A7 xf P5;clear xf))
   all_goals
    go_wp2_with fail;go_ret;exact⟨rfl,xr.out.same xn.out.size fun k hk=>xn.out.block k hk,(xd.out.trans xa.out).trans (F5.of_below xn.out)⟩
end
section
variable {B N j kb rb tb:Nat} {met:List Nat} {mv:Value}
def fH (l:List Nat):List Value:=l.map fun (n:Nat)=>Value.int .i64 (n:Int)
def dZ (N:Nat) (met:List Nat):List Value:=(List.range N).map fun j=>.bool (decide (j∈met))
structure T6 (W:World) (B N tb kb rb:Nat) (mv:Value) (met:List Nat):Prop where
 t0:W.cell? ⟨tb,0,none⟩=some mv
 tz:W.frozen? ⟨tb,0,none⟩=false
 k0:W.cell? ⟨kb,0,none⟩=some (.slice (some ⟨rb,0,none⟩) N N)
 row:W.ownsRow B 3 1 mv met.length (fH met)
 known:W.ownsRow B 4 1 (.slice (some ⟨rb,0,none⟩) N N) N (dZ N met)
 tB:B<=tb/\tb < W.heap.size
 kB:B<=kb/\kb < W.heap.size
 rB:B<=rb/\rb < W.heap.size
 ne:tb≠kb/\tb≠rb/\kb≠rb
 mvn:∀b,mv.ownBlock=some b->b≠tb/\b≠kb/\b≠rb
theorem T6.alloc {W:World} (h:T6 W B N tb kb rb mv met) (o:Obj):T6 (W.alloc o) B N tb kb rb mv met:=by
 have hb:∀k,k < W.heap.size->(W.alloc o).heap[k]?=W.heap[k]?:=fun k hk=>Below.heap_alloc _ _ _ hk
 have hs:(W.alloc o).heap.size=W.heap.size+1:=by simp
 refine⟨?_,?_,?_,h.row.alloc o,h.known.alloc o,⟨h.tB.1,by have:=h.tB.2;omega⟩,⟨h.kB.1,by have:=h.kB.2;omega⟩,⟨h.rB.1,by have:=h.rB.2;omega⟩,h.ne,h.mvn⟩
 ·rw [L0b (w:=W) (a:=⟨tb,0,none⟩) (hb tb h.tB.2)];exact h.t0
 ·rw [L0c (w:=W) (a:=⟨tb,0,none⟩) (hb tb h.tB.2)];exact h.tz
 ·rw [L0b (w:=W) (a:=⟨kb,0,none⟩) (hb kb h.kB.2)];exact h.k0
theorem wA (hj:j < N):(dZ N met).set j (.bool true)=dZ N (met++[j]):=by
 apply List.ext_getElem?
 intro k;unfold dZ;by_cases e:j=k
 ·subst e
  rw[List.getElem?_set_self (by simpa using hj)];simp[hj]
 ·rw [List.getElem?_set_ne e,List.getElem?_map,List.getElem?_map]
  cases h:(List.range N)[k]? with
  | none=>rfl
  | some x =>
   have:x=k:=by
    obtain⟨h1,h2⟩:=L1a.1 h;rw[<- h2];simp
   subst this;simp[Ne.symm e]
def fT (W:World) (B:Nat) (a:Option Addr) (l:List Val):Prop:=0 < l.length->∃b,a=some ⟨b,0,none⟩/\b < B/\∀(i:Nat) (x:Val),l[i]?=some x->W.cell? ⟨b,i*2,none⟩=some (.int .u8 x.1)/\W.cell? ⟨b,i*2+1,none⟩=some (.int .i64 x.2)
theorem wL {l:List Val} {i:Nat} {x:Val} (h:l[i]?=some x):C1 met (l.take (i+1))=if x.1=2/\x.2.toNat∉C1 met (l.take i) then C1 met (l.take i)++[x.2.toNat] else C1 met (l.take i):=by
 have e:l.take (i+1)=l.take i++[x]:=by rw [List.take_add_one,h];rfl
 rw[e,iK];rfl
theorem T6.grow {wr w1:World} {v1:Value} {j:Nat} {o1 o2:Obj} (h:T6 wr B N tb kb rb mv met) (hj:j < N)
  (hown:w1.ownsRow B 3 1 v1 (met.length+1) (fH met++[.int .i64 (j:Int)])) (hgrow:(((wr.setCell ⟨rb,j,none⟩ (.bool true)).alloc o1).alloc o2).grownBy w1 mv.ownBlock) (hat:∀g,v1.ownBlock=some g->mv.ownBlock=some g\/g=wr.heap.size+1+1) :
  (w1.cell? ⟨tb,0,none⟩=some mv/\w1.frozen? ⟨tb,0,none⟩=false/\tb < w1.heap.size)/\T6 (w1.setCell ⟨tb,0,none⟩ v1) B N tb kb rb v1 (met++[j])/\(∀W,B<=W.heap.size->Below B W wr->Below B W (w1.setCell ⟨tb,0,none⟩ v1)):=by
 have hs:(((wr.setCell ⟨rb,j,none⟩ (.bool true)).alloc o1).alloc o2).heap.size=wr.heap.size+1+1:=by simp
 have xc:∀k,k < wr.heap.size->k≠rb->(((wr.setCell ⟨rb,j,none⟩ (.bool true)).alloc o1).alloc o2).heap[k]?=wr.heap[k]?:=fun k hk hn=>by
  rw[Below.heap_alloc _ _ _ Q8,Below.heap_alloc _ _ _ (by simpa using hk),heap_setCell_other _ _ _ _ hn]
 have xd:∀k,(k=tb\/k=kb\/k=rb)->some k≠mv.ownBlock:=fun k hk e=>by
  have:=h.mvn k e.symm;rcases hk with rfl | rfl | rfl
  ·exact this.1 rfl
  ·exact this.2.1 rfl
  ·exact this.2.2 rfl
 have ht:=h.tB.2;have xi:=h.kB.2;have xl:=h.rB.2;have xa:w1.heap[tb]?=wr.heap[tb]?:=(hgrow.block tb R4 (xd tb (L4a rfl))).trans (xc tb ht h.ne.2.1);have xb:w1.heap[kb]?=wr.heap[kb]?:=(hgrow.block kb R4 (xd kb (L4b (L4a rfl)))).trans (xc kb xi h.ne.2.2);have xm:wr.heap.size<=w1.heap.size:=by have:=hgrow.size;omega
 have xe:∀b,v1.ownBlock=some b->b≠tb/\b≠kb/\b≠rb:=fun b hb=>by
  rcases hat b hb with h1 | h1
  ·exact h.mvn b h1
  ·omega
 have xh:w1.ownsRow B 4 1 (.slice (some ⟨rb,0,none⟩) N N) N (dZ N (met++[j])):=by
  have h1:=(World.ownsRow.stored h.known j (.bool true)).1;rw[wA hj] at h1;have h2:=(h1.alloc o1).alloc o2;exact h2.kept hgrow (L4b (by
   show some rb≠mv.ownBlock;exact xd rb (L4b (L4b rfl))))
 refine⟨⟨by rw [L0b (w:=wr) (a:=⟨tb,0,none⟩) xa];exact h.t0,by rw [L0c (w:=wr) (a:=⟨tb,0,none⟩) xa];exact h.tz,by omega⟩,?_,fun W hB hb=>?_⟩
 ·have c0:w1.cell? ⟨tb,0,none⟩=some mv:=by rw [L0b (w:=wr) (a:=⟨tb,0,none⟩) xa];exact h.t0
  have z0:w1.frozen? ⟨tb,0,none⟩=false:=by rw [L0c (w:=wr) (a:=⟨tb,0,none⟩) xa];exact h.tz
  have xk:tb < w1.heap.size:=by omega
  refine⟨by go_simp,by go_simp,?_,?_,ownsRow_setCell_other xh (by show some rb≠some tb;exact fun e=>h.ne.2.1 (L5b e).symm) _,⟨h.tB.1,by simp;omega⟩,⟨h.kB.1,by simp;omega⟩,⟨h.rB.1,by simp;omega⟩,h.ne,xe⟩
  ·rw [L0b (w:=w1) (a:=⟨kb,0,none⟩) (heap_setCell_other _ _ _ _ (Ne.symm h.ne.1)),L0b (w:=wr) (a:=⟨kb,0,none⟩) xb]
   exact h.k0
  ·have:=ownsRow_setCell_other hown (a:=⟨tb,0,none⟩) (fun e=>(xe tb e).1 rfl) v1
   simpa [fH] using this
 ·refine ⟨hgrow.os.trans hb.os,hgrow.tape.trans hb.tape,hgrow.output.trans hb.output,by have:=hb.size;simp;omega,fun k hk=>?_⟩
  have xf:k≠tb:=by have:=h.tB.1;omega
  have xg:k≠rb:=by have:=h.rB.1;omega
  have xj:k < wr.heap.size:=by have:=hb.size;omega
  rw[heap_setCell_other _ _ _ _ xf,hgrow.block k R4 (fun e=>by have:=(h.row.lt k e.symm).1;omega),xc k xj xg];exact hb.block k hk
theorem tE (B N tb kb rb:Nat) (mv:Value) (met:List Nat) (W:World) (h:T6 W B N tb kb rb mv met) (hN:N<=1000) (hml:met.Nodup/\∀j,j∈met->j < N) (a:Option Addr) (l:List Val) (c:Nat) (hl:l.length<=3000000) (hs:fT W B a l) (hr:∀v,v∈l->v.1=2->0<=v.2/\v.2.toNat < N) (hBW:B<=W.heap.size) :
  Calls prog 226 #[.slice a l.length c,.pointer (some ⟨kb,0,none⟩),.pointer (some ⟨tb,0,none⟩)] W fun e w'=>e=.returned (.tuple #[])/\(∃mv',T6 w' B N tb kb rb mv' (C1 met l))/\Below B W w':=by
 have HH:=hid h;have xi:=hid hml;have HS:=hid hs;have HR:=hid hr;clear h hml hs hr;obtain⟨i3,hi,hz,xk,xf⟩:=info_parts dW;have HI:=hid hi;have HZ:=hid hz;have xo:=hid xk;have xl:=hid xf;clear hi hz xk xf;go_enter func226,ntmps226;go_wp2_with fail;go_loopw [8] (fun vi wr=>∃i:Nat,i<=l.length/\vi=.int .i64 i/\(∃mv',T6 wr B N tb kb rb mv' (C1 met (l.take i)))/\Below B W wr) (fun vi _=>l.length - (intOf vi).toNat)
 case atStart=>exact ⟨0,L4c _,rfl,⟨mv,HH.out⟩,L3b _ _⟩
 case round =>
  obtain⟨i,hi,rfl,⟨mv',hm⟩,hbel⟩:=hrel;by_cases hlti:i < l.length
  ·obtain ⟨x,hx⟩:∃x,l[i]?=some x:=⟨_,L1b hlti⟩
   obtain⟨sb,rfl,xg,xb⟩:=HS.out R4;obtain⟨x0,x1⟩:=xb i x hx;rw[<- hbel.cell (p:=⟨sb,_,none⟩) xg] at x0 x1;have xq:sb < wr.heap.size:=L0a (L0a xg hBW) hbel.size;have xc:=hid (wL (met:=met) hx);have HM:=hid hm;have xa:=hid hbel;have HX:=hid hx;have xj:B<=wr.heap.size:=L5a hBW hbel.size;by_cases h2:x.1=2
   ·obtain ⟨q0,q1⟩:=HR.out x (L2a hx) h2
    obtain⟨j,hj⟩:=L5c q0;rw[hj,Int.toNat_natCast] at q1;rw[h2] at x0;rw[hj] at x1;have xd:x.2.toNat=j:=by rw [hj];rfl
    have kc:wr.cell? ⟨rb,j,none⟩=some (.bool (decide (j∈C1 met (l.take i)))):=by
     rw[hm.known.cellAt j R4];unfold dZ;rw[List.getElem?_map,List.getElem?_range q1];rfl
    have kz:=hm.known.frozenAt j;have ck:=hm.k0;have xu:=hm.kB.2;have xr:=hm.rB.2;have xv:=hm.tB.2;by_cases hin:j∈C1 met (l.take i)
    ·have hd:decide (j∈C1 met (l.take i))=true:=decide_eq_true hin
     rw[hd] at kc;clear hm hbel hx xb;go_wp2_with fail;go_roundw
     case rel=>exact ⟨i+1,by omega,by go_num,⟨mv',by
      rw[xc.out,if_neg (fun e=>e.2 (by rw [xd];exact hin))];exact HM.out.alloc _⟩,L3a xa.out xj _⟩
     case measure=>simp [intOf];omega
    ·have hd:decide (j∈C1 met (l.take i))=false:=decide_eq_false hin
     rw[hd] at kc;have t0:=hm.t0;have tz:=hm.tz;have xs:=hm.ne;have xh:(C1 met (l.take i)).length<=N:=L1 (Q0 _ _ xi.out.1) (bA xi.out.2 fun v hv h2=>(HR.out v (List.mem_of_mem_take hv) h2).2);have xe:=hid (ownsRow_setCell_other hm.row (a:=⟨rb,j,none⟩) (fun e=>(hm.mvn rb e).2.2 rfl) (.bool true));clear hm hbel hx xb;go_wp2_with (at_builtin;go_must (refine A9 _ rfl (.tmp 27) (.tmp 30) 24 rfl B 3 i3 _ 1 8 underlying24 HI.out HZ.out xo.out xl.out rfl R3 mv' (C1 met (l.take i)).length (fH (C1 met (l.take i))) rfl ((xe.out.alloc _).alloc _) (some ⟨wr.heap.size+1,0,none⟩) 1 1 [.int .i64 (j:Int)] rfl rfl (fun _=>⟨_,rfl,World.news_of_block (cs:=#[.int .i64 (j:Int)]) (t:=3) (fr:=(0,0)) (B1 R5)⟩) (by intro u hu;rw [List.mem_singleton] at hu;subst hu;rfl) Q5 R4 Q8 ?_))
     intro v1 w1 hown1 hgrow1 hat1;obtain⟨gb,xp,rfl,_,_⟩:=hown1.form (Nat.succ_pos _);obtain⟨⟨e0,e1,e2⟩,hME,hBE⟩:=HM.out.grow q1 hown1 hgrow1 hat1;have xm:=hid hME;have xn:=hid (hBE W hBW xa.out);clear hown1 hgrow1 hat1 hME hBE kc kz ck t0 tz x0 x1;go_wp2_with fail;go_roundw
     case rel=>exact ⟨i+1,by omega,by go_num,⟨_,by
      rw[xc.out,if_pos ⟨h2,by rw [xd];exact hin⟩,xd];exact xm.out⟩,xn.out⟩
     case measure=>simp [intOf];omega
   ·have xt:(x.1 == 2)=false:=L2c.2 h2
    clear hm hbel hx xb;go_wp2_with fail;go_roundw
    case rel=>exact ⟨i+1,by omega,by go_num,⟨mv',by
     rw[xc.out,if_neg (fun e=>h2 e.1)];exact HM.out.alloc _⟩,L3a xa.out xj _⟩
    case measure=>simp [intOf];omega
  ·obtain rfl:i=l.length:=by omega
   rw[List.take_length] at hm;have HM:=hid hm;have xa:=hid hbel;clear hm hbel;go_wp2_with fail;go_end0
   exact⟨rfl,⟨mv',HM.out⟩,xa.out⟩
end
theorem a6M:(prog.info? 4).map (fun i=>(i.zero,i.size,i.bytes))=some (some (.bool false),1,1):=by kernel_rfl
def oZ (N:Nat) (l:List Val):Prop:=∀v,v∈l->v.1=2->0<=v.2/\v.2.toNat < N
theorem T6.drew {W:World} {B N tb kb rb:Nat} {mv:Value} {met:List Nat} (h:T6 W B N tb kb rb mv met):T6 W.drew B N tb kb rb mv met:=⟨h.t0,h.tz,h.k0,h.row,h.known,h.tB,h.kB,h.rB,h.ne,h.mvn⟩
theorem yK {obs:List Ob} {met:List Nat} {i:Nat} (h:met.length<=i):∀n,G7 obs n i met=met
 | 0=>rfl
 | n+1=>by rw [G7,List.getElem?_eq_none h]
def bW (met:List Nat) (w:World) (e:Ending) (w':World):Prop:=∃v,e=.returned v/\w'.ownsRow w.heap.size 3 1 v met.length (fH met)/\L0d w w'
theorem wK (N:Nat):(madeCells #[.bool false] N).toList=dZ N []:=by
 apply List.ext_getElem?
 intro j;simp[madeCells,dZ,Nat.mod_one]
theorem wM (w:World) (N:Nat) (hN:N<=1000):T6 (((w.alloc (.cells #[.slice none 0 0] 24)).alloc (.cells (madeCells #[.bool false] N) 4)).alloc (.cells #[.slice (some ⟨w.heap.size+1,0,none⟩) N N] 259)) w.heap.size N w.heap.size (w.heap.size+1+1) (w.heap.size+1) (.slice none 0 0) []:=by
 refine⟨by go_simp,by go_simp,by go_simp,World.ownsRow_nil _ _ _ _,?_,⟨L1c _,by simp;omega⟩,⟨by omega,by simp⟩,⟨by omega,by simp⟩,⟨by omega,by omega,by omega⟩,fun b hb=>by cases hb⟩;refine World.ownsRow.alloc ?_ _;have:=World.ownsRow_lit (base:=w.heap.size) (e:=4) (size:=1) (w.alloc (.cells #[.slice none 0 0] 24)) (madeCells #[.bool false] N) N R5 Q5 (by rw [size_madeCells];simp)
 rw[wK] at this;simpa using this
theorem tR {own:Own} {mb:Nat} {g:PgR} {R:McR} {w:World} (h:A4 w own mb g R) (hpos:0 < R.obs.length) (hn:R.obs.length<=1000) (hob:∀o,o∈R.obs->oZ R.obs.length o.fl/\o.fl.length<=1000) (a:Option Addr) (l:List Val) (c:Nat) (hl:l.length<=3000000) (hs:fT w w.heap.size a l) (hr:oZ R.obs.length l) :
  Calls prog 188 #[.pointer (some ⟨mb,4,none⟩),.slice a l.length c] w fun e w'=>bW (K6 (R.obs.map ObR.abs) l) w e w':=by
 have c4:=h.c4;have yu:mb < w.heap.size:=h.lt mb _ h.me;obtain⟨hb,hc,e,_,yo⟩:=h.slots.1.form hpos;rw[e] at c4;obtain⟨i4,hi,hz,xy,xt⟩:=info_parts a6M;have xs:Hid (∀W:World,(Instr.makeSlice 259 (.int .i64 (R.obs.length:Int)) (.int .i64 (R.obs.length:Int))).run prog W=.ok (.slice (some ⟨W.heap.size,0,none⟩) R.obs.length R.obs.length) (W.alloc (.cells (madeCells #[.bool false] R.obs.length) 4))):=by
  intro W;have hr:=run_make (P:=prog) W 259 4 i4 _ underlying259 hi hz .i64 .i64 R.obs.length R.obs.length R4 (Int.le_refl _) (by rw [xt];omega) R4;simpa [xy,Value.cells] using hr
 have yb:=xs.out;have xh:=hid (wM w R.obs.length hn);have xr:L0d w (((w.alloc (.cells #[.slice none 0 0] 24)).alloc (.cells (madeCells #[.bool false] R.obs.length) 4)).alloc (.cells #[.slice (some ⟨w.heap.size+1,0,none⟩) R.obs.length R.obs.length] 259)):=P5
 have xk:=hid xr;have HH:=hid h;have HE:=hid e;have yg:=hid hob;have HS:Hid (∀W,L0d w W->fT W w.heap.size a l):=fun W hW h0=>by
  obtain⟨b,h1,h2,h3⟩:=hs h0;refine⟨b,h1,h2,fun i x hx=>?_⟩;rw[hW.cell (p:=⟨b,_,none⟩) h2,hW.cell (p:=⟨b,_,none⟩) h2];exact h3 i x hx
 have HR:=hid hr;clear hi hz xy xt xs h e hob hs hr xr;go_enter func188,ntmps188;go_wp2_with fail;refine (tE w.heap.size R.obs.length w.heap.size (w.heap.size+1+1) (w.heap.size+1) _ [] _ xh.out hn ⟨List.nodup_nil,by simp⟩ a l c hl (HS.out _ xk.out) HR.out xk.out.size).mono ?_;rintro e w2 ⟨rfl,⟨ym,xp⟩,hb2⟩;have yd:=hid xp;have xz:L0d w w2:=xk.out.trans hb2
 have yl:=hid xz;clear xp hb2 xz yb c4 xh xk;go_wp2_with fail;go_loopw [8] (fun vi wr=>∃(i:Nat) (xa:List Nat),i<=R.obs.length/\vi=.int .i64 i/\(∃xf,T6 wr w.heap.size R.obs.length w.heap.size (w.heap.size+1+1) (w.heap.size+1) xf xa)/\xa.Nodup/\(∀j,j∈xa->j < R.obs.length)/\G7 (R.obs.map ObR.abs) (R.obs.length - i) i xa=K6 (R.obs.map ObR.abs) l/\L0d w wr) (fun vi _=>R.obs.length - (intOf vi).toNat)
 case atStart=>exact ⟨0,C1 [] l,L4c _,rfl,⟨ym,yd.out⟩,Q0 _ _ List.nodup_nil,bA R5 fun v hv h2=>(HR.out v hv h2).2,by simp [K6],yl.out⟩
 case round =>
  obtain⟨i,xa,hi,rfl,⟨xf,hm⟩,hnd,hlt',hwk,hbel⟩:=hrel;have yp:=L1 hnd hlt';obtain⟨ma,mc,yf⟩:∃ma mc,xf=.slice ma xa.length mc:=by
   rcases hm.row.2 with ⟨e,e0⟩ | ⟨gb,yz,_,e,_⟩
   ·exact ⟨none,0,by rw [e,e0]⟩
   ·exact ⟨_,_,e⟩
  subst yf;have t0:=hm.t0;have yq:w.heap.size < wr.heap.size:=hm.tB.2;have xj:=hbel.size;have HM:=hid hm;have xc:=hid hbel;have xx:=hid hnd;have xv:=hid hlt';have yj:=hid hwk;by_cases hlti:i < xa.length
  ·obtain ⟨j,hj⟩:∃j,xa[i]?=some j:=⟨_,L1b hlti⟩
   have yn:j < R.obs.length:=hlt' j (L2a hj);obtain⟨o,ho⟩:∃o,R.obs[j]?=some o:=⟨_,L1b yn⟩
   obtain⟨gb,gc,yi,_,yx⟩:=hm.row.form R4
   cases yi;have za:wr.cell? ⟨gb,i,none⟩=some (.int .i64 (j:Int)):=by
    rw[hm.row.cellAt i R4];unfold fH;rw[List.getElem?_map,hj];rfl
   have xe:=HH.out.same hbel.size fun k hk=>hbel.block k hk
   obtain⟨yt,yv,fa,fc,xu,_,yr,xm,k0,k1⟩:=xe.slot ho;rw[HE.out] at xu
   cases xu;have m4:=xe.c4;rw[HE.out] at m4;have ya:mb < wr.heap.size:=xe.lt mb _ xe.me;have xb:Hid (G7 (R.obs.map ObR.abs) (R.obs.length - (i+1)) (i+1) (if o.kind=3 then xa else C1 xa o.fl)=K6 (R.obs.map ObR.abs) l):=by
    refine hid ?_;rw[<- hwk,show R.obs.length - i=(R.obs.length - (i+1))+1 by omega,G7,hj];simp only[List.getElem?_map,ho,Option.map_some];rfl
   have xl:=hid (yg.out o (L2a ho));have yh:Hid (∀W,L0d wr W->fT W w.heap.size fa o.fl):=fun W hW h0=>by
    have xq:=HH.out.fld j o ho;obtain⟨fb,yy,xw,_,xn⟩:=xq.1.form h0;rw[xm] at xw
    cases xw;have xi:=xq.1;rw[xm] at xi;refine⟨fb,rfl,xn,fun t x hx=>?_⟩;have yw:=(L1a.1 hx).1;have xd:∀q,q < 2->W.cell? ⟨fb,t*2+q,none⟩=(O4 x)[q]?:=fun q hq=>by
     rw[hW.cell (p:=⟨fb,_,none⟩) (L0a xn xj),xc.out.cell (p:=⟨fb,_,none⟩) xn,xi.cellAt _ R4];exact E0 F7 hx hq
    exact⟨xd 0 R4,xd 1 R4⟩
   have xg:Hid (∀W c,L0d wr W->T6 W w.heap.size R.obs.length w.heap.size (w.heap.size+1+1) (w.heap.size+1) (.slice (some ⟨gb,0,none⟩) xa.length mc) xa->Calls prog 226 #[.slice fa o.fl.length c,.pointer (some ⟨w.heap.size+1+1,0,none⟩),.pointer (some ⟨w.heap.size,0,none⟩)] W fun e w'=>e=.returned (.tuple #[])/\(∃xf,T6 w' w.heap.size R.obs.length w.heap.size (w.heap.size+1+1) (w.heap.size+1) xf (C1 xa o.fl))/\Below w.heap.size W w'):=fun W c hW xe=>tE _ _ _ _ _ _ xa W xe hn ⟨hnd,hlt'⟩ fa o.fl c (by have:=xl.out.2;omega) (yh.out W hW) xl.out.1 (L5a xj hW.size)
   clear hm hbel hnd hlt' hwk xe xm hj ho;go_wp2_with fail;go_region
   all_goals
    by_cases h3:o.kind=3
    ·rw [if_pos h3] at xb
     have ye:(o.kind != 3)=false:=by rw [h3];rfl
     go_wp2_with fail;go_roundw
     case rel=>exact ⟨i+1,xa,by omega,by go_num,⟨_,(HM.out.alloc _).drew⟩,xx.out,xv.out,xb.out,L3c (L3a xc.out xj _)⟩
     case measure=>simp [intOf];omega
    ·rw [if_neg h3] at xb
     have ye:(o.kind != 3)=true:=bne_iff_ne.2 h3;go_wp2_with (go_at_call 226;refine (xg.out _ _ ?_ ?_).mono ?_;exact P5;exact (HM.out.alloc _).drew;rintro e w3 ⟨rfl,⟨ys,xo⟩,hb3⟩;have yk:=hid xo;have yc:Hid (L0d w w3):=Below.trans (L3c (L3a xc.out xj _)) hb3;clear xo hb3)
     go_roundw
     case rel=>exact ⟨i+1,_,by omega,by go_num,⟨_,yk.out⟩,Q0 _ _ xx.out,bA xv.out fun v hv h2=>(xl.out.1 v hv h2).2,xb.out,yc.out⟩
     case measure=>simp [intOf];omega
  ·clear hm hbel hnd hlt' hwk
   go_wp2_with fail;go_ret;refine⟨_,rfl,?_,xc.out⟩;rw[<- yj.out,yK R4];exact HM.out.row
section
variable {B mb:Nat} {R:McR} {W w:World} {g:PgR} {own:Own} {v:Value}
structure W7 (R:McR):Prop where
 pos:0 < R.obs.length
 n:R.obs.length<=1000
 weak:lB R.obs
 refs:∀o,o∈R.obs->oZ R.obs.length o.fl/\o.fl.length<=1000
 frn:R.frs.length<=1000
 fr:∀f,f∈R.frs->f.loc.length<=1000/\f.stk.length<=1000
 roots:oZ R.obs.length (M0 R.frs)
theorem fT.of_owns {B':Nat} {l:List Val} (h:W.ownsRow B 92 2 v l.length (A5 l)) (hB:W.heap.size<=B'):∃a c,v=.slice a l.length c/\fT W B' a l:=by
 rcases id h.2 with ⟨e,e0⟩ | ⟨gb,xc,xb,e,_,hg,_⟩
 ·exact ⟨none,0,by rw [e,e0],fun h0=>by omega⟩
 ·subst e
  refine⟨_,_,rfl,fun h0=>⟨gb,rfl,L0a (R6 h).2 hB,fun i x hx=>?_⟩⟩;have hi:=(L1a.1 hx).1;have xa:∀t,t < 2->W.cell? ⟨gb,i*2+t,none⟩=(O4 x)[t]?:=fun t ht=>by
   rw[h.cellAt _ R4];exact E0 F7 hx ht
  exact⟨xa 0 R4,xa 1 R4⟩
theorem aG.of_owns {l:List Nat} (h:W.ownsRow B 3 1 v l.length (fH l)):∃a c,v=.slice a l.length c/\aG W a l/\∀b,a=some ⟨b,0,none⟩->B<=b/\b < W.heap.size:=by
 rcases id h.2 with ⟨e,e0⟩ | ⟨gb,xb,xa,e,hB,hg,_⟩
 ·exact ⟨none,0,by rw [e,e0],fun h0=>by omega,fun b hb=>by cases hb⟩
 ·subst e
  refine⟨_,_,rfl,fun h0=>⟨gb,rfl,(R6 h).2,fun i x hx=>?_⟩,fun b hb=>?_⟩
  ·have hi:=(L1a.1 hx).1
   rw[h.cellAt i R4];unfold fH;rw[List.getElem?_map,hx];rfl
  ·cases hb;exact ⟨hB,(R6 h).2⟩
theorem oA (h:A4 w own mb g R) (ho:W7 R) :
  Calls prog 141 #[.pointer (some ⟨mb,0,none⟩)] w fun e w'=>bW (A1 R.abs) w e w':=by
 have xf:A1 R.abs=K6 (R.obs.map ObR.abs) (M0 R.frs):=by
  unfold A1;rw[<- kE];rfl
 rw[xf];have HV:Hid (∀W,L0d w W->Calls prog 189 #[.pointer (some ⟨mb,3,none⟩)] W fun e w'=>lA (M0 R.frs) W e w'):=fun W hW=>uH (h.same hW.size fun k hk=>hW.block k hk) ho.frn ho.fr
 have xa:(M0 R.frs).length<=3000000:=by
  have:=uG R.frs 1000 ho.fr;have h2:R.frs.length*(2*1000)<=1000*(2*1000):=Nat.mul_le_mul_right _ ho.frn;omega
 have xi:Hid (∀U W v,L0d w U->L0d U W->W.ownsRow U.heap.size 92 2 v (M0 R.frs).length (A5 (M0 R.frs))->Calls prog 188 #[.pointer (some ⟨mb,4,none⟩),v] W fun e w'=>bW (K6 (R.obs.map ObR.abs) (M0 R.frs)) w e w'):=by
  intro U W v hU hW hown;have hB:=A7 hW hU;obtain⟨a,c,rfl,xk⟩:=fT.of_owns hown (L1c _);refine (tR (h.same hB.size fun k hk=>hB.block k hk) ho.pos ho.n ho.refs a _ c xa xk ho.roots).mono ?_;rintro e w' ⟨v,rfl,hv,hb⟩;exact⟨v,rfl,D6 hv hB.size,A7 hb hB⟩
 clear h ho xf xa;generalize K6 (R.obs.map ObR.abs) (M0 R.frs)=met at *
 go_enter func141,ntmps141;go_wp2_with fail;go_region_with (first | (go_at_call 189;refine (HV.out _ ?_).mono ?_;exact P5;rintro e w2 ⟨v2,rfl,xc,xe⟩;have xh:=hid (xi.out _ w2 v2 P5 xe xc);clear xc xe) | (go_at_call 188;refine xh.out.mono ?_;rintro e w3 ⟨v3,rfl,xd,xb⟩;have xj:=hid xd;have xg:=hid xb;clear xd xb))
 all_goals
  go_wp2_with fail;go_ret;exact⟨v3,rfl,xj.out,xg.out⟩
def dJ (own:Own) (mb:Nat) (g:PgR) (R:McR) (w:World) (e:Ending) (w':World):Prop :=
 e=.returned (.int .i64 ((taken R.obs:Int) - (taken (J5 R.obs (A1 R.abs)):Int)))/\A4 w' own mb g { R with obs:=J5 R.obs (A1 R.abs) }/\F5 own w w'
theorem jV (h:A4 w own mb g R) (ho:W7 R) (hal:(A1 R.abs).length<=1000) :
  Calls prog 102 #[.pointer (some ⟨mb,0,none⟩)] w fun e w'=>dJ own mb g R w e w':=by
 have HA:Hid (∀W,L0d w W->Calls prog 141 #[.pointer (some ⟨mb,0,none⟩)] W fun e w'=>bW (A1 R.abs) W e w'):=fun W hW=>oA (h.same hW.size fun k hk=>hW.block k hk) ho
 have xg:Hid (∀U W v,L0d w U->L0d U W->W.ownsRow U.heap.size 3 1 v (A1 R.abs).length (fH (A1 R.abs))->Calls prog 140 #[.pointer (some ⟨mb,4,none⟩),v] W fun e w'=>dJ own mb g R w e w'):=by
  intro U W v hU hW hown;have hB:=A7 hW hU;obtain⟨a,c,rfl,xh,xj⟩:=aG.of_owns hown;refine (a1K (h.same hB.size fun k hk=>hB.block k hk) ho.pos ho.n ho.weak a (A1 R.abs) c hal xh fun b hb=>?_).mono ?_
  ·cases e:own b with
   | none=>rfl
   | some t=>have:=h.lt b t e;have:=(xj b hb).1;have:=hU.size;omega
  ·rintro e w' ⟨rfl,hm,hb⟩
   exact⟨rfl,hm,(F5.of_below hB).trans hb⟩
 clear h ho hal;go_enter func102,ntmps102;go_wp2_with fail;go_region_with (first | (go_at_call 141;refine (HA.out _ ?_).mono ?_;exact P5;rintro e w2 ⟨v2,rfl,xc,xd⟩;have xi:=hid (xg.out _ w2 v2 P5 xd xc);clear xc xd) | (go_at_call 140;refine xi.out.mono ?_;rintro e w3 ⟨rfl,xa,xb⟩;have xf:=hid xa;have xe:=hid xb;clear xa xb))
 all_goals
  go_wp2_with fail;go_ret;exact⟨rfl,xf.out,xe.out⟩
end
section
variable {g:PgR}
theorem oL (hp:S5 g):∀(l:List FrA) (fn:Nat),fn < g.n->gO g fn l->∀f,f∈l->∃q,0<=q/\gN g f q
 | [],_,_,_,f,hf=>by cases hf
 | c::r,fn,hfn,h,f,hf=>by
  obtain⟨h1,_,_,h4⟩:=h;rcases List.mem_cons.1 hf with rfl | hf
  ·exact ⟨_,by have:=hp.sized.bd hfn;omega,h1⟩
  ·exact oL hp r c.fn h1.fn h4 f hf
theorem vR (hp:S5 g) {l:List FrA} (h:oX g l):∀f,f∈l->∃q,0<=q/\gN g f q:=by
 intro f hf
 cases l with
 | nil=>cases hf
 | cons c r =>
  obtain⟨h1,h2⟩:=h;rcases List.mem_cons.1 hf with rfl | hf
  ·exact ⟨0,Int.le_refl _,h1⟩
  ·exact oL hp r c.fn h1.fn h2 f hf
theorem gN.bd (hp:S5 g) {f:FrA} {q:Int} (h:gN g f q) (hq:0<=q):f.loc.length<=8/\f.stk.length<=18/\f.pc < 60/\f.pc < (g.f f.fn).n:=by
 obtain⟨h1,h2,h3,h4⟩:=h.at hp;have hb:=hp.sized.bd h.fn;have hl:=h.loc;have xb:=(kO hp.sized hp.legal h.fn).pop_bd h1;have xa:=(aD ((g.f f.fn).op f.pc)).1;have h5:(f.stk.length:Int)+q - (B6 g (g.f f.fn)).pop f.pc+M9 ((g.f f.fn).op f.pc)<=10:=h4;refine⟨by omega,by omega,by omega,h1⟩
theorem D4.frame (hp:S5 g) {s:McA} (h:D4 g s) {f:FrA} (hf:f∈s.frs):f.loc.length<=8/\f.stk.length<=18/\f.pc < 60/\f.pc < (g.f f.fn).n:=by
 obtain⟨q,h0,hq⟩:=vR hp h.frs f (List.mem_reverse.2 hf);exact hq.bd hp h0
theorem D4.heapOk (hp:S5 g) {R:McR} (h:D4 g R.abs):W7 R:=by
 have xb:R.abs.obs.length=R.obs.length:=by simp [McR.abs]
 have xd:=h.cap;rw[xb] at xd;have xc:∀o,o∈R.obs->OOk R.abs.obs o.abs:=fun o ho=>h.obs o.abs (List.mem_map.2 ⟨o,ho,rfl⟩)
 have xa:∀v,VOk R.abs.obs v->v.1=2->0<=v.2/\v.2.toNat < R.obs.length:=fun v hv h2=>⟨(hv.ref h2).1,by have:=hv.lt h2;omega⟩
 have xe:∀f,f∈R.frs->f.abs∈R.abs.frs:=fun f hf=>List.mem_map.2 ⟨f,hf,rfl⟩
 refine⟨by omega,by omega,fun o ho hk=>?_,fun o ho=>⟨fun v hv h2=>xa v ((xc o ho).vals hv) h2,by have:o.fl.length<=12:=(xc o ho).len;omega⟩,?_,fun f hf=>?_,fun v hv h2=>?_⟩
 ·rcases xc o ho with h1 | h1 | h1 | ⟨_,u,hu,hvu,_⟩
  ·have:o.kind=0:=h1.1;omega
  ·have:o.kind=1:=h1.1;omega
  ·have:o.kind=2:=h1.1;omega
  ·exact ⟨u,hu,fun h2=>xa u hvu h2⟩
 ·have:=h.depth
  have e:R.abs.frs.length=R.frs.length:=by simp [McR.abs]
  omega
 ·have:=h.frame hp (xe f hf)
  have e1:f.abs.loc=f.loc:=rfl;have e2:f.abs.stk=f.stk:=rfl;rw[e1,e2] at this;omega
 ·rw [<- kE] at hv
  obtain⟨f,hf,hv⟩:=F9.1 hv;exact xa v (h.vals f hf v hv) h2
theorem D4.alive_len {s:McA} (h:D4 g s):(A1 s).length<=1000:=by
 have:=L1 h.alive.nodup h.alive.lt;have:=h.cap.2;omega
theorem gA:∀(l:List Ob) (n:Nat),I8 l≠l.length->∃j,freeA l n=some j
 | [],_,h=>absurd rfl h
 | o::l,n,h=>by
  rw[freeA];by_cases h0:o.1=0
  ·exact ⟨n,if_pos h0⟩
  ·rw [if_neg h0]
   refine gA l (n+1) fun e=>h ?_
   unfold I8 at e ⊢;simp[h0,e]
theorem cM {obs:List Ob} {dr:List Int} (hpos:0 < obs.length) (h:I8 obs≠obs.length):∃j,cD obs dr=some j:=by
 obtain⟨j,hj⟩:=gA obs 0 h
 cases dr with
 | nil=>exact ⟨(j,[]),by simp only [cD,hj,Option.map_some]⟩
 | cons d r =>
  have h1:0<=d % (obs.length:Int):=Int.emod_nonneg _ R4;have h2:d % (obs.length:Int) < obs.length:=Int.emod_lt_of_pos _ R4;obtain⟨o,ho⟩:∃o,obs[(d % (obs.length:Int)).toNat]?=some o:=⟨_,L1b R4⟩
  by_cases h0:o.1=0
  ·exact ⟨_,by simp only [cD,ho];rw [if_pos h0]⟩
  ·exact ⟨_,by simp only [cD,ho];rw [if_neg h0,hj];rfl⟩
end
section
variable {R:McR} {W w:World} {args fl rest:List Val} {ds:List Int} {f:FrR} {fs:List FrR} {g:PgR} {j mb sb:Nat} {kind:Int} {own:Own} {va:Option Addr}
theorem C0.layNew {R:McR} (h:C0 w own mb g R fs f rest args va sb) (hB:L0d w W) (j:Nat) (ds:List Int) (hj:gS R.obs R.dr j ds) (hn:R.obs.length<=1000) (hdn:R.dr.length<=1000) (p:ObR) (nb nc:Nat) (hfv:p.fv=.slice (some ⟨nb,0,none⟩) p.fl.length nc) (hnew:N4 own g p.fv) (hrow:W.ownsRow 0 92 2 p.fv p.fl.length (A5 p.fl)) :
  Calls prog 118 #[.pointer (some ⟨mb,4,none⟩),.agg #[.int .u8 p.kind,.slice (some ⟨nb,0,none⟩) p.fl.length nc]] W fun e w'=>∃dv,e=.returned (.int .i64 (j:Int))/\C0 w' (own.upd p.fv.ownBlock (.fld j)) mb g { R with dv:=dv,dr:=ds,obs:=R.obs.set j p } fs f rest args va sb/\kK own mb W w':=by
 have xb:=h.m.same hB.size fun k hk=>hB.block k hk
 have:=zF xb j ds hj hn hdn p nb nc hfv hnew hrow;rw[hfv] at this;refine this.mono ?_;rintro e w' ⟨dv,rfl,hm,hb⟩;refine⟨dv,rfl,h.laid hm rfl (fun k i hk=>hnew.upd hk) (fun k i hk=>?_),hb⟩;have xa:=h.m.lt k _ hk;exact (hb.block k (L0a xa hB.size) (fun e=>by rw [e,h.m.me] at hk;cases hk) (by rw [hk];simp) (by rw [hk];simp)).trans (hB.block k xa)
theorem rC {w':World} {v:Value} (hme:own mb=some .mach) (hnew:∀b,v.ownBlock=some b->w.heap.size<=b) (ht:A2 own w own W) (hb:kK own mb W w'):A2 own w (own.upd v.ownBlock (.fld j)) w' :=
 ⟨hb.os.trans ht.os,hb.tape.trans ht.tape,hb.output.trans ht.output,L5a ht.size hb.size,fun k hk hn=>(hb.block k (L0a hk ht.size) (fun e=>by rw [e,hme] at hn;cases hn) (by rw [hn];simp) (by rw [hn];simp)).trans (ht.block k hk hn),fun k hk=>by
  unfold Own.upd;split
  ·rename_i e;have:=hnew k e;omega
  ·rfl⟩
def G6 (R:McR):McR:={ R with obs:=J5 R.obs (A1 R.abs) }
theorem oS (R:McR):(G6 R).abs=I7 R.abs:=by
 unfold G6 I7 McR.abs;simp only[mW]
theorem eX (R:McR):(G6 R).obs.length=R.obs.length:=cX _ _
theorem a0J {fs:List FrA} {f:FrA} (h1:taken R.obs=R.obs.length) (h2:taken (G6 R).obs=(G6 R).obs.length):U1 R.abs fs f rest kind fl={ (G6 R).abs with st:=6 }:=by
 have e:G0 R.abs=(G6 R).abs:=by
  unfold G0;rw[if_pos (by rw [show R.abs.obs=R.obs.map ObR.abs from rfl,<- M7,List.length_map];exact h1),oS]
 unfold U1;rw[e,if_pos (by rw [show (G6 R).abs.obs=(G6 R).obs.map ObR.abs from rfl,<- M7,List.length_map];exact h2)]
theorem wN {fs:List FrA} {f:FrA} {j:Nat} (h1:taken R.obs=R.obs.length) (h2:taken (G6 R).obs≠(G6 R).obs.length) (hp:cD (G6 R).abs.obs R.dr=some (j,ds)) :
  U1 R.abs fs f rest kind fl=⟨0,R.out,fs++[⟨f.fn,f.pc+1,f.loc,rest++[(2,(j:Int))]⟩],(G6 R).abs.obs.set j (kind,fl),ds⟩:=by
 have e:G0 R.abs=(G6 R).abs:=by
  unfold G0;rw[if_pos (by rw [show R.abs.obs=R.obs.map ObR.abs from rfl,<- M7,List.length_map];exact h1),oS]
 unfold U1;rw[e,if_neg (by rw [show (G6 R).abs.obs=(G6 R).obs.map ObR.abs from rfl,<- M7,List.length_map];exact h2),show R.abs.dr=R.dr from rfl,hp];rfl
theorem a0K {fs:List FrA} {f:FrA} {j:Nat} (h1:taken R.obs≠R.obs.length) (hp:cD R.abs.obs R.dr=some (j,ds)) :
  U1 R.abs fs f rest kind fl=⟨0,R.out,fs++[⟨f.fn,f.pc+1,f.loc,rest++[(2,(j:Int))]⟩],R.abs.obs.set j (kind,fl),ds⟩:=by
 have e:G0 R.abs=R.abs:=by
  unfold G0;rw[if_neg (by rw [show R.abs.obs=R.obs.map ObR.abs from rfl,<- M7,List.length_map];exact h1)]
 unfold U1;rw[e,if_neg (by rw [show R.abs.obs=R.obs.map ObR.abs from rfl,<- M7,List.length_map];exact h1),show R.abs.dr=R.dr from rfl,hp];rfl
theorem lE (hq:E6 R) (h:C0 w own mb g R fs f rest args va sb) (hB:L0d w W) (ho:W7 R) (hal:(A1 R.abs).length<=1000) (hdn:R.dr.length<=1000) (hfu:taken R.obs=R.obs.length) (p:ObR) (nb nc:Nat) (hfv:p.fv=.slice (some ⟨nb,0,none⟩) p.fl.length nc) (hnew:w.heap.size<=nb) (hrow:W.ownsRow 0 92 2 p.fv p.fl.length (A5 p.fl)) (k:Nat) (hk:args.length=k) (vc:Nat) :
  Calls prog 300 #[.pointer (some ⟨mb,0,none⟩),.slice va k vc,.int .u8 p.kind,.slice (some ⟨nb,0,none⟩) p.fl.length nc] W fun e w'=>DoA own mb g (U1 R.abs (fs.map FrR.abs) f.abs rest p.kind p.fl) w e w':=by
 have xw:(taken R.obs == R.obs.length)=true:=beq_iff_eq.2 hfu;have xj:p.fv.ownBlock=some nb:=by rw [hfv];rfl
 have xl:N4 own g p.fv:=h.m.nobody xj hnew;have xp:Hid (∀U,L0d W U->Calls prog 305 #[.pointer (some ⟨mb,4,none⟩)] U fun e w'=>e=.returned (.bool true)/\L0d U w'):=by
  intro U hU;have xa:=A7 hU hB;have:=lT (h.m.same xa.size fun k hk=>xa.block k hk) ho.pos ho.n;rw[xw] at this;exact this
 have xz:Hid (∀U,L0d W U->Calls prog 102 #[.pointer (some ⟨mb,0,none⟩)] U fun e w'=>∃t,e=.returned (.int .i64 t)/\C0 w' own mb g (G6 R) fs f rest args va sb/\A2 own w own w'/\w'.ownsRow 0 92 2 p.fv p.fl.length (A5 p.fl)):=by
  intro U hU;have xa:=A7 hU hB;refine (jV (h.m.same xa.size fun k hk=>xa.block k hk) ho hal).mono ?_;rintro e w' ⟨rfl,hm,hb⟩;refine⟨_,rfl,h.laid hm rfl (fun _ _ _=>rfl) (fun b i hb'=>?_),(A2.of_below xa).trans hb.touched,A6 hrow fun b hb'=>?_⟩
  ·have xt:=h.m.lt b _ hb'
   exact (hb.block b (L0a xt xa.size) (by rw [hb'];simp) (fun j=>by rw [hb'];simp)).trans (xa.block b xt)
  ·have h1:=(xl b hb').1
   have xy:=(hrow.lt b hb').2;exact (hb.block b (L0a xy hU.size) (by rw [h1];simp) (fun j=>by rw [h1];simp)).trans (hU.block b xy)
 have ya:Hid (∀V U,C0 V own mb g (G6 R) fs f rest args va sb->L0d V U->Calls prog 305 #[.pointer (some ⟨mb,4,none⟩)] U fun e w'=>e=.returned (.bool (taken (G6 R).obs == (G6 R).obs.length))/\L0d U w'):=by
  intro V U hV hU;exact lT (hV.m.same hU.size fun k hk=>hU.block k hk) (by rw [eX];exact ho.pos) (by rw [eX];exact ho.n)
 have xr:E6 (G6 R):=hq;have yg:=hid xl;have yi:=hid hfv;have yl:=hid xj;have HQ:=hid xr;have xs:=hid hfu;have xn:(G6 R).obs.length<=1000:=by rw [eX];exact ho.n
 have xk:0 < (G6 R).obs.length:=by rw [eX];exact ho.pos
 have yc:=h.m.me;clear h hB ho hal hfv hrow xw xj xl hq xr hfu;by_cases h2:taken (G6 R).obs=(G6 R).obs.length
 ·have yh:(taken (G6 R).obs == (G6 R).obs.length)=true:=beq_iff_eq.2 h2
  rw[a0J xs.out h2];go_enter func300,ntmps300;go_wp2_with fail;refine (xp.out _ (L3b _ _)).mono ?_;rintro e w2 ⟨rfl,xf⟩;have xo:=hid xf;clear xf;go_wp2_with fail;refine (xz.out _ xo.out).mono ?_;rintro e w3 ⟨t,rfl,xg,xe,xh⟩;have xd:=hid xg;have xi:=hid xe;clear xg xe xh;go_wp2_with fail;refine (ya.out w3 _ xd.out P5).mono ?_
  rintro e w4 ⟨rfl,xc⟩;have xb:Hid (L0d w3 w4):=A7 xc P5;clear xc;go_wp2_with fail;go_ret;exact⟨own,G6 R,rfl,xd.out.m.same xb.out.size fun k hk=>xb.out.block k hk,⟨rfl,HQ.out⟩,xi.out.trans (A2.of_below xb.out)⟩
 ·have yh:(taken (G6 R).obs == (G6 R).obs.length)=false:=beq_eq_false_iff_ne.2 h2
  have xx:I8 (G6 R).abs.obs≠(G6 R).abs.obs.length:=by
   rw[show (G6 R).abs.obs=(G6 R).obs.map ObR.abs from rfl,<- M7,List.length_map];exact h2
  obtain⟨⟨j,ds⟩,hj⟩:=cM (dr:=R.dr) (by rw [show (G6 R).abs.obs=(G6 R).obs.map ObR.abs from rfl,List.length_map];exact xk) xx;have xq:gS (G6 R).obs (G6 R).dr j ds:=mC hj;rw[wN xs.out h2 hj];have yj:Hid (∀V U,C0 V own mb g (G6 R) fs f rest args va sb->V.ownsRow 0 92 2 p.fv p.fl.length (A5 p.fl)->L0d V U->Calls prog 118 #[.pointer (some ⟨mb,4,none⟩),.agg #[.int .u8 p.kind,.slice (some ⟨nb,0,none⟩) p.fl.length nc]] U fun e w'=>∃dv,e=.returned (.int .i64 (j:Int))/\C0 w' (own.upd p.fv.ownBlock (.fld j)) mb g { G6 R with dv:=dv,dr:=ds,obs:=(G6 R).obs.set j p } fs f rest args va sb/\kK own mb U w'):=fun V U hV hr hU =>
   hV.layNew hU j ds xq xn hdn p nb nc yi.out yg.out (A6 hr fun b hb=>hU.block b (hr.lt b hb).2)
  clear xq xx hj;go_enter func300,ntmps300;go_wp2_with fail;refine (xp.out _ (L3b _ _)).mono ?_;rintro e w2 ⟨rfl,xf⟩;have xo:=hid xf;clear xf;go_wp2_with fail;refine (xz.out _ xo.out).mono ?_;rintro e w3 ⟨t,rfl,xg,xe,xh⟩;have xd:=hid xg;have xi:=hid xe;have yk:=hid xh;clear xg xe xh;go_wp2_with fail;refine (ya.out w3 _ xd.out P5).mono ?_
  rintro e w4 ⟨rfl,xc⟩;have xb:Hid (L0d w3 w4):=A7 xc P5;clear xc;go_wp2_with fail;refine (yj.out w3 w4 xd.out yk.out xb.out).mono ?_;rintro e w5 ⟨dv,rfl,yb,xv⟩;have xu:=hid yb;have yd:Hid (A2 own w (own.upd p.fv.ownBlock (.fld j)) w5):=rC yc (fun b hb=>by rw [yl.out] at hb;cases hb;exact hnew) (xi.out.trans (A2.of_below xb.out)) xv
  clear yb xv;go_wp2_with (first | (go_at_call 214;refine (fI _ _).mono ?_;rintro e w' ⟨rfl,o4,rfl⟩) | (go_at_call 290;refine (xu.out.answer P5 vc _ [(2,(j:Int))] (H3 xu.out.m Q4 (B1 R5)) R5 k hk).mono ?_;rintro e w' ⟨xm,ym,rfl,hm,ht⟩;have ye:=hid hm;have yf:=hid ht;clear hm ht))
  go_ret;refine⟨xm,_,rfl,ye.out,⟨?_,HQ.out⟩,yd.out.trans yf.out⟩;simp[McR.abs,FrR.abs,ObR.abs,List.map_set,G6]
theorem bO (hq:E6 R) (h:C0 w own mb g R fs f rest args va sb) (hB:L0d w W) (ho:W7 R) (hal:(A1 R.abs).length<=1000) (hdn:R.dr.length<=1000) (p:ObR) (nb nc:Nat) (hfv:p.fv=.slice (some ⟨nb,0,none⟩) p.fl.length nc) (hnew:w.heap.size<=nb) (hrow:W.ownsRow 0 92 2 p.fv p.fl.length (A5 p.fl)) (k:Nat) (hk:args.length=k) (vc:Nat) :
  Calls prog 300 #[.pointer (some ⟨mb,0,none⟩),.slice va k vc,.int .u8 p.kind,.slice (some ⟨nb,0,none⟩) p.fl.length nc] W fun e w'=>DoA own mb g (U1 R.abs (fs.map FrR.abs) f.abs rest p.kind p.fl) w e w':=by
 by_cases hfu:taken R.obs=R.obs.length
 ·exact lE hq h hB ho hal hdn hfu p nb nc hfv hnew hrow k hk vc
 ·obtain ⟨⟨j,ds⟩,hj⟩:=cM (obs:=R.abs.obs) (dr:=R.dr) (by rw [show R.abs.obs=R.obs.map ObR.abs from rfl,List.length_map];exact ho.pos) (by rw [show R.abs.obs=R.obs.map ObR.abs from rfl,<- M7,List.length_map];exact hfu)
  refine (pC h hB j ds (mC hj) ho.n hdn p nb nc hfv hnew hrow k hk vc).mono ?_;rintro e w' ⟨xa,R',rfl,hm,⟨xc,xb,rfl⟩,ht⟩;rw[a0K hfu hj];exact⟨xa,_,rfl,hm,⟨by simp [McR.abs,FrR.abs,ObR.abs,List.map_set],hq⟩,ht⟩
end
section
variable {R:McR} {f:FrR} {fs:List FrR} {g:PgR} {mb sb:Nat} {own:Own} {rest:List Val} {va:Option Addr} {w:World} {x:Val}
theorem a0N (hq:E6 R) (h:C0 w own mb g R fs f rest [] va sb) (ho:W7 R) (hal:(A1 R.abs).length<=1000) (hdn:R.dr.length<=1000) (a:Int) (h0:0<=a) (h8:a<=8) (vc:Nat) :
  Calls prog 277 #[.pointer (some ⟨mb,0,none⟩),.int .i64 a,.slice va 0 vc] w fun e w'=>DoA own mb g (U1 R.abs (fs.map FrR.abs) f.abs rest 1 (List.replicate a.toNat (0,0))) w e w':=by
 obtain⟨a,rfl⟩:=L5c h0;rw[Int.toNat_natCast];obtain⟨xb,hi,hz,xf,xd⟩:=info_parts I2;have xe:Hid (∀W:World,(Instr.makeSlice 84 (.int .i64 (a:Int)) (.int .i64 (a:Int))).run prog W=.ok (.slice (some ⟨W.heap.size,0,none⟩) a a) (W.alloc (.cells (madeCells #[.int .u8 0,.int .i64 0] (a*2)) 92))):=by
  intro W;have hr:=run_make (P:=prog) W 84 92 xb _ underlying84 hi hz .i64 .i64 a a R4 (Int.le_refl _) (by rw [xd];omega) R4;simpa [xf,Value.cells] using hr
 have xh:=xe.out;have xa:(w.alloc (Obj.cells (madeCells #[.int .u8 0,.int .i64 0] (a*2)) 92)).ownsRow 0 92 2 (.slice (some ⟨w.heap.size,0,none⟩) a a) a (A5 (List.replicate a (0,0))):=by
  have:=World.ownsRow_lit (base:=0) (e:=92) (size:=2) w (madeCells #[.int .u8 0,.int .i64 0] (a*2)) a (L4c _) Q5 (by rw [size_madeCells]);rwa [V7] at this
 have xg:Hid (Calls prog 300 #[.pointer (some ⟨mb,0,none⟩),.slice va 0 vc,.int .u8 1,.slice (some ⟨w.heap.size,0,none⟩) a a] (w.alloc (Obj.cells (madeCells #[.int .u8 0,.int .i64 0] (a*2)) 92)) fun e w'=>DoA own mb g (U1 R.abs (fs.map FrR.abs) f.abs rest 1 (List.replicate a (0,0))) w e w'):=by
  have:=bO hq h (L3a (L3b _ _) (L1c _) (Obj.cells (madeCells #[.int .u8 0,.int .i64 0] (a*2)) 92)) ho hal hdn ⟨1,.slice (some ⟨w.heap.size,0,none⟩) a a,List.replicate a (0,0)⟩ w.heap.size a R5 (L1c _) (by simpa using xa) 0 rfl vc;refine hid ?_;simpa using this
 clear h hi hz xf xd xe xa ho hal hdn hq;generalize U1 R.abs (fs.map FrR.abs) f.abs rest 1 (List.replicate a (0,0))=s at *
 go_enter func277,ntmps277;go_wp2_with (go_at_call 300;refine xg.out.mono ?_;rintro e w' ⟨xc,R',rfl,hm,hp,ht⟩)
 go_ret;exact⟨xc,R',rfl,hm,hp,ht⟩
theorem vG (hq:E6 R) (n:Nat) (h:C0 w own mb g R fs f rest [(1,(n:Int))] va sb) (ho:W7 R) (hal:(A1 R.abs).length<=1000) (hdn:R.dr.length<=1000) (h12:n<=12) (a:Int) (vc:Nat) :
  Calls prog 278 #[.pointer (some ⟨mb,0,none⟩),.int .i64 a,.slice va 1 vc] w fun e w'=>DoA own mb g (U1 R.abs (fs.map FrR.abs) f.abs rest 2 (List.replicate n (0,0))) w e w':=by
 obtain⟨o,rfl,xh,c0,c1⟩:=h.one;simp only at c0 c1;have xj:B0 (n:Int) 0 12=true:=I4 R4 R4;obtain⟨xc,hi,hz,xf,xd⟩:=info_parts I2;have xe:Hid (∀W:World,(Instr.makeSlice 84 (.int .i64 (n:Int)) (.int .i64 (n:Int))).run prog W=.ok (.slice (some ⟨W.heap.size,0,none⟩) n n) (W.alloc (.cells (madeCells #[.int .u8 0,.int .i64 0] (n*2)) 92))):=by
  intro W;have hr:=run_make (P:=prog) W 84 92 xc _ underlying84 hi hz .i64 .i64 n n R4 (Int.le_refl _) (by rw [xd];omega) R4;simpa [xf,Value.cells] using hr
 have xi:=xe.out;have xg:Hid (∀W nb,L0d w W->W.heap.size=nb->Calls prog 300 #[.pointer (some ⟨mb,0,none⟩),.slice (some ⟨sb,o,none⟩) 1 vc,.int .u8 2,.slice (some ⟨nb,0,none⟩) n n] (W.alloc (Obj.cells (madeCells #[.int .u8 0,.int .i64 0] (n*2)) 92)) fun e w'=>DoA own mb g (U1 R.abs (fs.map FrR.abs) f.abs rest 2 (List.replicate n (0,0))) w e w'):=by
  rintro W _ hW rfl;have xb:(W.alloc (Obj.cells (madeCells #[.int .u8 0,.int .i64 0] (n*2)) 92)).ownsRow 0 92 2 (.slice (some ⟨W.heap.size,0,none⟩) n n) n (A5 (List.replicate n (0,0))):=by
   have:=World.ownsRow_lit (base:=0) (e:=92) (size:=2) W (madeCells #[.int .u8 0,.int .i64 0] (n*2)) n (L4c _) Q5 (by rw [size_madeCells]);rwa [V7] at this
  have:=bO hq h (L3a hW hW.size (Obj.cells (madeCells #[.int .u8 0,.int .i64 0] (n*2)) 92)) ho hal hdn ⟨2,.slice (some ⟨W.heap.size,0,none⟩) n n,List.replicate n (0,0)⟩ W.heap.size n R5 hW.size (by simpa using xb) 1 rfl vc;simpa using this
 clear h hi hz xf xd xe ho hal hdn hq;generalize U1 R.abs (fs.map FrR.abs) f.abs rest 2 (List.replicate n (0,0))=s at *
 go_enter func278,ntmps278;go_wp2_with (first | (go_at_call 206;refine (C6 _ _ _).mono ?_;rintro e w' ⟨rfl,o4,rfl⟩) | (go_at_call 116;refine (B3 _ _ _ _).mono ?_;rintro e w' ⟨rfl,rfl⟩) | (go_at_call 300;refine (xg.out _ _ ?_ ?_).mono ?_;exact P5;exact R5;rintro e w' ⟨xa,R',rfl,hm,hp,ht⟩))
 try go_region_with (first | (go_at_call 300;refine (xg.out _ _ ?_ ?_).mono ?_;exact P5;exact R5;rintro e w' ⟨xa,R',rfl,hm,hp,ht⟩))
 all_goals
  go_wp2_with fail;go_ret;exact⟨xa,R',rfl,hm,hp,ht⟩
theorem pE (h:C0 w own mb g R fs f rest [x] va sb) (hk:x.1≠1) (a:Int) (vc:Nat) :
  Calls prog 278 #[.pointer (some ⟨mb,0,none⟩),.int .i64 a,.slice va 1 vc] w fun e w'=>E9 2 w e w':=by
 obtain⟨o,rfl,xa,c0,c1⟩:=h.one;have h1:(x.1 == 1)=false:=L2c.2 hk;clear h hk;go_enter func278,ntmps278;go_wp2_with (first | (go_at_call 206;refine (C6 _ _ _).mono ?_;rintro e w' ⟨rfl,o4,rfl⟩) | (go_at_call 116;refine (B3 _ _ _ _).mono ?_;rintro e w' ⟨rfl,rfl⟩))
 go_ret;exact⟨rfl,P5⟩
theorem pF {n:Int} (h:C0 w own mb g R fs f rest [(1,n)] va sb) (hk:¬(0<=n/\n<=12)) (a:Int) (vc:Nat) :
  Calls prog 278 #[.pointer (some ⟨mb,0,none⟩),.int .i64 a,.slice va 1 vc] w fun e w'=>E9 4 w e w':=by
 obtain⟨o,rfl,xa,c0,c1⟩:=h.one;simp only at c0 c1;have xb:B0 n 0 12=false:=by
  cases e:B0 n 0 12
  ·rfl
  ·exact absurd (E2.1 e) hk
 clear h hk;go_enter func278,ntmps278;go_wp2_with (first | (go_at_call 206;refine (C6 _ _ _).mono ?_;rintro e w' ⟨rfl,o4,rfl⟩) | (go_at_call 116;refine (B3 _ _ _ _).mono ?_;rintro e w' ⟨rfl,rfl⟩))
 go_ret;exact⟨rfl,P5⟩
theorem a2W (hq:E6 R) (h:C0 w own mb g R fs f rest [x] va sb) (ho:W7 R) (hal:(A1 R.abs).length<=1000) (hdn:R.dr.length<=1000) (a:Int) (vc:Nat) :
  Calls prog 278 #[.pointer (some ⟨mb,0,none⟩),.int .i64 a,.slice va 1 vc] w fun e w'=>DoA own mb g (doA g 17 a R.abs (fs.map FrR.abs) f.abs rest [x]) w e w':=by
 obtain⟨x1,x2⟩:=x;by_cases h1:x1=1
 ·subst h1
  by_cases h12:0<=x2/\x2<=12
  ·obtain ⟨n,rfl⟩:=L5c h12.1
   have e:doA g 17 a R.abs (fs.map FrR.abs) f.abs rest [(1,(n:Int))]=U1 R.abs (fs.map FrR.abs) f.abs rest 2 (List.replicate n (0,0)):=by
    simp only[doA];rw[if_neg R5,if_pos h12,Int.toNat_natCast]
   rw[e];exact vG hq n h ho hal hdn R4 a vc
  ·have e:doA g 17 a R.abs (fs.map FrR.abs) f.abs rest [(1,x2)]=C7 R.abs 4:=by
    simp only[doA];rw[if_neg R5,if_neg h12]
   rw[e];exact (pF h h12 a vc).mono fun _ _ ht=>ht.doA h.m hq
 ·have e:doA g 17 a R.abs (fs.map FrR.abs) f.abs rest [(x1,x2)]=C7 R.abs 2:=by
   simp only[doA];rw[if_pos h1]
  rw[e];exact (pE h h1 a vc).mono fun _ _ ht=>ht.doA h.m hq
end
end Go.Proofs.YtbkmgoffiigdbaaGreatDoor
