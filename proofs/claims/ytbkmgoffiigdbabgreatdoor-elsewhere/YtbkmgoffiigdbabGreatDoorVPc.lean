import Derived.Test.YtbkmgoffiigdbabGreatDoorVPb
namespace Go.Proofs.YtbkmgoffiigdbabGreatDoor
open Go.RowKit Go.Sort
set_option maxHeartbeats 4000000
set_option maxRecDepth 100000
structure I1 (own:Own) (w w':World):Prop where
 os:w'.os=w.os
 tape:w'.tape=w.tape
 output:w'.output=w.output
 size:w.heap.size≤w'.heap.size
 block:∀k,k < w.heap.size→own k≠some .slots→(∀j,own k≠some (.fld j))→w'.heap[k]?=w.heap[k]?
theorem I1.refl (own:Own) (w:World):I1 own w w:=⟨rfl,rfl,rfl,Nat.le_refl _,fun _ _ _ _=>rfl⟩
theorem I1.of_below {own:Own} {w w':World} (h:Below w.heap.size w w'):I1 own w w':=⟨h.os,h.tape,h.output,h.size,fun k hk _ _=>h.block k hk⟩
theorem I1.trans {own:Own} {a b c:World} (h:I1 own a b) (k:I1 own b c):I1 own a c :=
 ⟨k.os.trans h.os,k.tape.trans h.tape,k.output.trans h.output,Nat.le_trans h.size k.size,fun i hi h1 h2=>(k.block i (Nat.lt_of_lt_of_le hi h.size) h1 h2).trans (h.block i hi h1 h2)⟩
theorem I1.touched {own:Own} {w w':World} (h:I1 own w w'):A8 own w own w':=⟨h.os,h.tape,h.output,h.size,fun k hk hn=>h.block k hk (by rw [hn];simp) (fun j=>by rw [hn];simp),fun _ _=>rfl⟩
def R9 (all:List ObR) (o:ObR):ObR:={ o with fl:=(M8 (all.map ObR.abs) o.abs).2 }
theorem zG (all:List ObR) (o:ObR):(R9 all o).abs=M8 (all.map ObR.abs) o.abs:=by
 have:=O6 (all.map ObR.abs) o.abs;unfold R9 ObR.abs at *
 exact Prod.ext this.symm rfl
def G0 (l:List ObR) (i:Nat):List ObR:=(l.take i).map (R9 l)++l.drop i
theorem cQ (l:List ObR) (i:Nat):(G0 l i).length=l.length:=by simp [G0];omega
theorem tH (l:List ObR):G0 l 0=l:=by simp [G0]
theorem wA (l:List ObR):G0 l l.length=l.map (R9 l):=by simp [G0]
theorem cP {l:List ObR} {i j:Nat} {o:ObR} (h:l[j]?=some o):(G0 l i)[j]?=some (if j < i then R9 l o else o):=by
 have hj:=(List.getElem?_eq_some_iff.1 h).1;unfold G0;by_cases hi:j < i
 ·rw [List.getElem?_append_left Q5,List.getElem?_map,List.getElem?_take_of_lt hi,h,if_pos hi];rfl
 ·rw [List.getElem?_append_right Q5,List.getElem?_drop,if_neg hi]
  have:i+(j - (List.map (R9 l) (List.take i l)).length)=j:=by simp;omega
  rw[this,h]
theorem eI {l:List ObR} {i:Nat} {o:ObR} (h:l[i]?=some o):G0 l (i+1)=(G0 l i).set i (R9 l o):=by
 have hi:=(List.getElem?_eq_some_iff.1 h).1
 apply List.ext_getElem?
 intro j;by_cases hj:j < l.length
 ·obtain ⟨p,hp⟩:∃p,l[j]?=some p:=⟨_,List.getElem?_eq_getElem hj⟩
  rw[cP hp];by_cases e:i=j
  ·subst e
   rw[h] at hp
   cases hp;rw[List.getElem?_set_self (by rw [cQ];exact hi),if_pos Q8]
  ·rw [List.getElem?_set_ne e,cP hp]
   by_cases h1:j < i
   ·rw [if_pos Q8,if_pos h1]
   ·rw [if_neg Q8,if_neg h1]
 ·rw [List.getElem?_eq_none (by rw [cQ];omega),List.getElem?_eq_none (by rw [List.length_set,cQ];omega)]
theorem nY {l:List ObR} {o:ObR} (h:¬(o.kind=3∧eW (l.map ObR.abs) (o.fl.headD (0,0))=true)):R9 l o=o:=by
 unfold R9 M8;rw[if_neg (show ¬(o.abs.1=3∧eW (l.map ObR.abs) (o.abs.2.headD (0,0))=true) from h)];rfl
theorem a0F {l:List ObR} {i:Nat} {o:ObR} (h:l[i]?=some o):l.set i o=l:=by
 obtain⟨hl,rfl⟩:=List.getElem?_eq_some_iff.1 h;exact List.set_getElem_self hl
def pX (l:List ObR):Prop:=∀o,o∈l→o.kind=3→∃v:Val,o.fl=[v]∧(v.1=2→0≤v.2∧v.2.toNat < l.length)
theorem a1x {own:Own} {mb:Nat} {g:PgR} {R:McR} {w:World} (h:A3 w own mb g R) (hpos:0 < R.obs.length) (hn:R.obs.length≤1000) (hw:pX R.obs) :
  Calls Tryz.prog 90 #[.pointer (some ⟨mb,4,none⟩)] w fun e w'=>e=.returned (.tuple #[])∧A3 w' own mb g { R with obs:=R.obs.map (R9 R.obs) }∧I1 own w w':=by
 have c4:=h.c4;have hmb:mb < w.heap.size:=h.lt mb _ h.me;obtain⟨hb,hc,e,_,hlt⟩:=h.slots.1.form hpos;rw[e] at c4;have HH:=hid h;have HE:=hid e;have HW:=hid hw;clear h e hw;go_enter Tryz.func90,Tryz.ntmps90;go_wp2_with fail;go_loopw [9] (fun vi wr=>∃i:Nat,i≤R.obs.length∧vi=.int .i64 i∧A3 wr own mb g { R with obs:=G0 R.obs i }∧I1 own w wr) (fun vi _=>R.obs.length - (intOf vi).toNat)
 case atStart=>exact ⟨0,Nat.zero_le _,rfl,by rw [tH];exact HH.out,I1.refl _ _⟩
 case round =>
  obtain⟨i,hi,rfl,hm,hbut⟩:=hrel;by_cases hlti:i < R.obs.length
  ·obtain ⟨o,ho⟩:∃o,R.obs[i]?=some o:=⟨_,List.getElem?_eq_getElem hlti⟩
   have ho':(G0 R.obs i)[i]?=some o:=by rw [cP ho,if_neg Q8]
   obtain⟨hb',hc',fa,fc,he',_,hl',hfv,k0,k1⟩:=hm.slot (R:={ R with obs:=G0 R.obs i }) ho';have he'':R.hv=.slice (some ⟨hb',0,none⟩) (G0 R.obs i).length hc':=he';rw[HE.out,cQ] at he''
   cases he'';have HM:=hid hm;have HBUT:=hid hbut;have HO:=hid ho;have HO':=hid ho';have hmbr:mb < wr.heap.size:=hm.lt mb _ hm.me;by_cases h3:o.kind=3
   ·obtain ⟨v,hfl,hv⟩:=HW.out o (List.mem_of_getElem? ho) h3
    have hfd:=hm.fld (R:={ R with obs:=G0 R.obs i }) i o ho';obtain⟨fb,fc',hfe,_,hfb⟩:=hfd.1.form (by rw [hfl];simp);rw[hfv] at hfe
    cases hfe;have hfr:=hfd.1;rw[hfv] at hfr;have f0:wr.cell? ⟨fb,0,none⟩=some (.int .u8 v.1):=by rw [hfr.cellAt 0 (by rw [hfl];simp),hfl];rfl
    have f1:wr.cell? ⟨fb,1,none⟩=some (.int .i64 v.2):=by rw [hfr.cellAt 1 (by rw [hfl];simp),hfl];rfl
    have z0:=hfr.frozenAt 0;have z1:=hfr.frozenAt 1;rw[hfl] at k1;rw[h3] at k0;simp only[List.length_cons,List.length_nil,Nat.zero_add] at k1;obtain⟨kd,fa2,n2,fc2,hR,hkd⟩:∃kd fa2 n2 fc2,(∀W,Below wr.heap.size wr W→Calls Tryz.prog 122 #[.pointer (some ⟨mb,4,none⟩),.agg #[.int .u8 v.1,.int .i64 v.2]] W fun e w'=>e=.returned (.agg #[.int .u8 kd,.slice fa2 n2 fc2])∧Below W.heap.size W w')∧(kd == 0)=eW (R.obs.map ObR.abs) v:=by
     by_cases h2:v.1=2
     ·obtain ⟨q0,q1⟩:=hv h2
      obtain⟨p,hp⟩:∃p,R.obs[v.2.toNat]?=some p:=⟨_,List.getElem?_eq_getElem q1⟩
      have hp':(G0 R.obs i)[v.2.toNat]?=some (if v.2.toNat < i then R9 R.obs p else p):=cP hp;have hpk:(if v.2.toNat < i then R9 R.obs p else p).kind=p.kind:=by split <;> rfl
      generalize (if v.2.toNat < i then R9 R.obs p else p)=p' at *
      obtain⟨fa2,fc2,hfv2⟩:=C6 (hm.fld (R:={ R with obs:=G0 R.obs i }) _ p' hp');refine⟨p'.kind,fa2,p'.fl.length,fc2,fun W hW=>?_,?_⟩
      ·have:=aN (R:={ R with obs:=G0 R.obs i }) (hm.same hW.size fun k hk=>hW.block k hk) hp'
       rw[hfv2,Int.toNat_of_nonneg q0] at this;rw[h2];exact this
      ·rw [hpk]
       unfold eW;rw[if_pos h2,List.getElem?_map,hp];rfl
     ·exact ⟨0,none,0,0,fun W _=>jR _ _ _ (beq_eq_false_iff_ne.2 h2) W,by unfold eW;rw [if_neg h2];rfl⟩
    have HR:=hid hR;have HEND:Hid (eW (R.obs.map ObR.abs) v=true→∀W,Below wr.heap.size wr W→A3 ((W.setCell ⟨fb,0,none⟩ (.int .u8 0)).setCell ⟨fb,1,none⟩ (.int .i64 0)) own mb g { R with obs:=G0 R.obs (i+1) }∧I1 own w ((W.setCell ⟨fb,0,none⟩ (.int .u8 0)).setCell ⟨fb,1,none⟩ (.int .i64 0))):=by
     intro hlo W hW;have hmW:=hm.same hW.size fun k hk=>hW.block k hk
     have hofb:own fb=some (.fld i):=hfd.2 fb (by rw [hfv];rfl);have hfW:=hmW.fld (R:={ R with obs:=G0 R.obs i }) i o ho';rw[hfv] at hfW;have hr:=(World.ownsRow.stored (World.ownsRow.stored hfW.1 0 (.int .u8 0)).1 1 (.int .i64 0)).1;have hvf:((A5 o.fl).set 0 (.int .u8 0)).set 1 (.int .i64 0)=A5 [(0,0)]:=by rw [hfl];rfl
     rw[hvf] at hr;have hblk:∀k,k≠fb→((W.setCell ⟨fb,0,none⟩ (.int .u8 0)).setCell ⟨fb,1,none⟩ (.int .i64 0)).heap[k]?=W.heap[k]?:=fun k hk=>by
      rw[heap_setCell_other _ _ _ _ hk,heap_setCell_other _ _ _ _ hk]
     have hset:=hmW.setFld (R:={ R with obs:=G0 R.obs i }) (w':=(W.setCell ⟨fb,0,none⟩ (.int .u8 0)).setCell ⟨fb,1,none⟩ (.int .i64 0)) (l:=[(0,0)]) ho' hfv hofb Q9 hblk (by rw [hfl];rfl) hr;have hfo:R9 R.obs o={ o with fl:=[(0,0)] }:=by
      unfold R9 M8;rw[if_pos (show o.abs.1=3∧eW (R.obs.map ObR.abs) (o.abs.2.headD (0,0))=true from ⟨h3,by show eW _ (o.fl.headD (0,0))=true;rw [hfl];exact hlo⟩)];show ({ o with fl:=o.fl.set 0 (0,0) } : ObR)=_;rw[hfl];rfl
     refine⟨?_,hbut.trans ((I1.of_below hW).trans ⟨rfl,rfl,rfl,by simp,fun k hk h1 h2=>hblk k (fun e=>h2 i (by rw [e];exact hofb))⟩)⟩;rw[eI ho,hfo];exact hset
    have HSAME:Hid (eW (R.obs.map ObR.abs) v=false→G0 R.obs (i+1)=G0 R.obs i):=fun hlo=>by
     rw[eI ho,nY (fun e=>by have h1:=e.2;rw [hfl] at h1;have h2:eW (R.obs.map ObR.abs) v=true:=h1;rw [hlo] at h2;cases h2),a0F ho']
    have hvf1:fb≠wr.heap.size:=by omega
    clear hR hfd hfr hfv hm hbut ho ho' hv hfl h3 he' c4
    cases hlo:eW (R.obs.map ObR.abs) v
    ·rw [hlo] at hkd
     go_wp2_with (first | (go_at_call 122;refine (HR.out _ ?_).mono ?_;exact P0;rintro e w2 ⟨rfl,hb2⟩;have hs2:=hb2.size;have HB2:Hid (Below wr.heap.size wr w2):=A1 hb2 P0;clear hb2) | (go_at_call 121;refine (O9 _ _ _ _ _).mono ?_;rintro e w' ⟨rfl,o4,rfl⟩))
     go_roundw
     case rel=>exact ⟨i+1,by omega,by go_num,by
      rw[HSAME.out hlo];exact HM.out.same (by have:=HB2.out.size;simp;omega) fun k hk=>(Below.alloc HB2.out HB2.out.size o4).block k hk,HBUT.out.trans (I1.of_below (Below.alloc HB2.out HB2.out.size o4))⟩
     case measure=>simp [intOf];omega
    ·rw [hlo] at hkd
     go_wp2_with (first | (go_at_call 122;refine (HR.out _ ?_).mono ?_;exact P0;rintro e w2 ⟨rfl,hb2⟩;have hs2:=hb2.size;have HB2:Hid (Below wr.heap.size wr w2):=A1 hb2 P0;have g0:=(HB2.out.frozen (p:=⟨fb,0,none⟩) hfb).trans z0;have g1:=(HB2.out.frozen (p:=⟨fb,1,none⟩) hfb).trans z1;have j0:=(HB2.out.cell (p:=⟨fb,0,none⟩) hfb).trans f0;have j1:=(HB2.out.cell (p:=⟨fb,1,none⟩) hfb).trans f1;have hbx:w2.cell? ⟨wr.heap.size,1,none⟩=some (.slice (some ⟨fb,0,none⟩) 1 fc):=(hb2.cell (p:=⟨wr.heap.size,1,none⟩) Q9).trans Q6;have hfb2:fb < w2.heap.size:=Nat.lt_of_lt_of_le hfb HB2.out.size;have hwr2:wr.heap.size < w2.heap.size:=(by simp at hs2;omega);clear hb2) | (go_at_call 121;refine (O9 _ _ _ _ _).mono ?_;rintro e w' ⟨rfl,o4,rfl⟩))
     obtain⟨hME,hBE⟩:=HEND.out hlo w2 HB2.out;have HME:=hid hME;have HBE:=hid hBE;clear hME hBE;go_roundw
     case rel=>exact ⟨i+1,by omega,by go_num,HME.out.same Q9 fun k hk=>(Below.alloc (Below.refl _ _) (Nat.le_refl _) _).block k hk,HBE.out.trans (I1.of_below (Below.alloc (Below.refl _ _) (Nat.le_refl _) _))⟩
     case measure=>simp [intOf];omega
   ·have HSAME:Hid (G0 R.obs (i+1)=G0 R.obs i):=by
     refine hid ?_;rw[eI ho,nY (fun e=>h3 e.1),a0F ho']
    have h3':(o.kind == 3)=false:=beq_eq_false_iff_ne.2 h3;clear hfv hm hbut ho ho' h3 he' c4;go_wp2_with fail;go_roundw
    case rel=>exact ⟨i+1,by omega,by go_num,by
     rw[HSAME.out];exact HM.out.same Q9 fun k hk=>(Below.alloc (Below.refl _ _) (Nat.le_refl _) _).block k hk,HBUT.out.trans (I1.of_below (Below.alloc (Below.refl _ _) (Nat.le_refl _) _))⟩
    case measure=>simp [intOf];omega
  ·obtain rfl:i=R.obs.length:=by omega
   rw[wA] at hm;have HM:=hid hm;have HBUT:=hid hbut;clear hm hbut;go_wp2_with fail;go_end0
   exact⟨rfl,HM.out,HBUT.out⟩
theorem lF (a:Option Addr) (l:List Nat) (c x:Nat) (w:World) (hl:l.length≤1000) (hs:aA w a l) :
  Calls Tryz.prog 89 #[.slice a l.length c,.int .i64 (x:Int)] w fun e w'=>e=.returned (.bool (decide (x∈l)))∧Below w.heap.size w w':=by
 have HI:=hid (a4e a l c x w hl hs);clear hs;go_enter Tryz.func89,Tryz.ntmps89;go_wp2_with (go_at_call 75;refine HI.out.mono ?_;rintro e w2 ⟨⟨r,rfl,hr⟩,hb2⟩;have HR:=hid hr;have HB2:=hid hb2;clear hr hb2)
 go_ret;refine⟨congrArg (fun b=>Ending.returned (Value.bool b)) ?_,HB2.out⟩;rw[Bool.eq_iff_iff];simp only[decide_eq_true_eq];exact HR.out
theorem aA.later {w W:World} {a:Option Addr} {l:List Nat} (h:aA w a l) (hs:w.heap.size≤W.heap.size) (hb:∀b,b < w.heap.size→a=some ⟨b,0,none⟩→W.heap[b]?=w.heap[b]?):aA W a l:=fun h0=>by
 obtain⟨b,h1,h2,h3⟩:=h h0;refine⟨b,h1,Nat.lt_of_lt_of_le h2 hs,fun i x hx=>?_⟩;rw[World.cell?_of_block (w:=w) (a:=⟨b,i,none⟩) (hb b h2 h1)];exact h3 i x hx
def K2 (l:List ObR) (al:List Nat) (i:Nat):List ObR:=l.mapIdx fun j o=>if j < i∧j∉al then K7 else o
theorem U5 (l:List ObR) (al:List Nat) (i:Nat):(K2 l al i).length=l.length:=by simp [K2]
theorem U1 (l:List ObR) (al:List Nat) (i j:Nat):(K2 l al i)[j]?=(l[j]?).map fun o=>if j < i∧j∉al then K7 else o:=by simp [K2,List.getElem?_mapIdx]
theorem xR (l:List ObR) (al:List Nat):K2 l al 0=l:=by
 apply List.ext_getElem?
 intro j;rw[U1]
 cases l[j]? <;> simp
theorem xQ {l:List ObR} {al:List Nat} {i:Nat} {o:ObR} (h:l[i]?=some o):K2 l al (i+1)=if i∈al then K2 l al i else (K2 l al i).set i K7:=by
 have hi:=(List.getElem?_eq_some_iff.1 h).1;by_cases hm:i∈al
 ·rw [if_pos hm]
  apply List.ext_getElem?
  intro j;rw[U1,U1];congr 1
  funext x
  by_cases e:j=i
  ·subst e;rw [if_neg (fun h=>h.2 hm),if_neg (fun h=>h.2 hm)]
  ·by_cases h2:j < i∧j∉al
   ·rw [if_pos h2,if_pos ⟨by omega,h2.2⟩]
   ·rw [if_neg h2,if_neg (fun h3=>h2 ⟨by omega,h3.2⟩)]
 ·rw [if_neg hm]
  apply List.ext_getElem?
  intro j;by_cases e:i=j
  ·subst e
   rw[U1,List.getElem?_set_self (by rw [U5];exact hi),h];simp[hm]
  ·rw [List.getElem?_set_ne e,U1,U1]
   congr 1
   funext x
   by_cases h2:j < i∧j∉al
   ·rw [if_pos h2,if_pos ⟨by omega,h2.2⟩]
   ·rw [if_neg h2,if_neg (fun h3=>h2 ⟨by omega,h3.2⟩)]
def Y0 (l:List ObR) (al:List Nat):List ObR:=(K2 l al l.length).map (R9 (K2 l al l.length))
theorem a0J (l:List ObR) (al:List Nat):(K2 l al l.length).map ObR.abs=aX (l.map ObR.abs) al:=by
 apply List.ext_getElem?
 intro j;rw[List.getElem?_map,U1,fW,List.getElem?_map]
 cases h:l[j]? with
 | none=>rfl
 | some o =>
  have hj:=(List.getElem?_eq_some_iff.1 h).1;simp only[Option.map_some];by_cases hm:j∈al
  ·simp [hm]
  ·simp [hm,hj,K7,ObR.abs]
theorem a2D (l:List ObR) (al:List Nat):(Y0 l al).map ObR.abs=aH (l.map ObR.abs) al:=by
 unfold Y0 aH pB;rw[List.map_map,← a0J,List.map_map];congr 1
 funext o
 exact zG _ o
theorem fX (l:List ObR) (al:List Nat):(Y0 l al).length=l.length:=by simp [Y0,U5]
theorem T7 (l:List ObR):taken l=K8 (l.map ObR.abs):=by
 unfold taken K8;rw[List.filter_map,List.length_map];rfl
theorem xV {l:List ObR} (al:List Nat) (h:pX l):pX (K2 l al l.length):=by
 intro o ho hk;obtain⟨j,hj⟩:=List.mem_iff_getElem?.1 ho;rw[U1] at hj;obtain⟨p,hp,rfl⟩:=Option.map_eq_some_iff.1 hj;split at hk
 ·simp [K7] at hk
 ·rename_i hc
  rw[if_neg hc,U5];exact h p (List.mem_of_getElem? hp) hk
theorem A3.freeSlot {w W:World} {own:Own} {mb:Nat} {g:PgR} {R:McR} {j:Nat} {o:ObR} {hb hc:Nat} (h:A3 w own mb g R) (hB:Below w.heap.size w W) (hj:R.obs[j]?=some o) (he:R.hv=.slice (some ⟨hb,0,none⟩) R.obs.length hc) :
  A3 ((W.setCell ⟨hb,j*2,none⟩ (.int .u8 0)).setCell ⟨hb,j*2+1,none⟩ (.slice none 0 0)) own mb g { R with obs:=R.obs.set j K7 }∧I1 own w ((W.setCell ⟨hb,j*2,none⟩ (.int .u8 0)).setCell ⟨hb,j*2+1,none⟩ (.slice none 0 0)):=by
 obtain⟨h1,h2⟩:=h.layOb (p:=K7) hB hj he (fun b hb=>by cases hb) (World.ownsRow_nil _ _ _ _);have e:own.upd K7.fv.ownBlock (.fld j)=own:=Own.upd_none _ _;rw[e] at h1;exact⟨h1,⟨hB.os,hB.tape,hB.output,by have:=hB.size;simpa using this,fun k hk hs _=>h2 k hk hs⟩⟩
theorem a5i {own:Own} {mb:Nat} {g:PgR} {R:McR} {w:World} (h:A3 w own mb g R) (hpos:0 < R.obs.length) (hn:R.obs.length≤1000) (hw:pX R.obs) (a:Option Addr) (al:List Nat) (c:Nat) (hl:al.length≤1000) (hs:aA w a al) (hna:∀b,a=some ⟨b,0,none⟩→own b=none) :
  Calls Tryz.prog 54 #[.pointer (some ⟨mb,4,none⟩),.slice a al.length c] w fun e w'=>e=.returned (.int .i64 ((taken R.obs:Int) - (taken (Y0 R.obs al):Int)))∧A3 w' own mb g { R with obs:=Y0 R.obs al }∧I1 own w w':=by
 have c4:=h.c4;have hmb:mb < w.heap.size:=h.lt mb _ h.me;obtain⟨hb,hc,e,_,hlt⟩:=h.slots.1.form hpos;rw[e] at c4;have HTK:Hid (∀W,Below w.heap.size w W→Calls Tryz.prog 36 #[.pointer (some ⟨mb,4,none⟩)] W fun e w'=>e=.returned (.int .i64 (taken R.obs:Int))∧Below W.heap.size W w'):=fun W hW=>jH (h.same hW.size fun k hk=>hW.block k hk) hpos hn
 have HH:=hid h;have HE:=hid e;have HW:=hid hw;have HS:=hid hs;have HNA:=hid hna;clear h e hw hs hna;go_enter Tryz.func54,Tryz.ntmps54;go_wp2_with (go_at_call 36;refine (HTK.out _ ?_).mono ?_;exact (Below.refl _ _);rintro e w2 ⟨rfl,hb2⟩;have d4:=(hb2.cell (p:=⟨mb,4,none⟩) hmb).trans c4;have hmb2:mb < w2.heap.size:=Nat.lt_of_lt_of_le hmb hb2.size;have HB2:=hid hb2;clear hb2)
 go_loopw [14] (fun vi wr=>∃i:Nat,i≤R.obs.length∧vi=.int .i64 i∧A3 wr own mb g { R with obs:=K2 R.obs al i }∧I1 own w wr) (fun vi _=>R.obs.length - (intOf vi).toNat)
 case atStart=>exact ⟨0,Nat.zero_le _,rfl,by rw [xR];exact HH.out.same HB2.out.size fun k hk=>HB2.out.block k hk,I1.of_below HB2.out⟩
 case round =>
  obtain⟨i,hi,rfl,hm,hbut⟩:=hrel;have HM:=hid hm;have HBUT:=hid hbut;have hmbr:mb < wr.heap.size:=hm.lt mb _ hm.me;by_cases hlti:i < R.obs.length
  ·obtain ⟨o,ho⟩:∃o,R.obs[i]?=some o:=⟨_,List.getElem?_eq_getElem hlti⟩
   obtain⟨o',ho'⟩:∃o',(K2 R.obs al i)[i]?=some o':=⟨_,List.getElem?_eq_getElem (by rw [U5];exact hlti)⟩
   obtain⟨hb',hc',fa,fc,he',hohb,hl',hfv,k0,k1⟩:=hm.slot (R:={ R with obs:=K2 R.obs al i }) ho';have he'':R.hv=.slice (some ⟨hb',0,none⟩) (K2 R.obs al i).length hc':=he';rw[HE.out,U5] at he''
   cases he'';have m4:wr.cell? ⟨mb,4,none⟩=some (.slice (some ⟨hb,0,none⟩) R.obs.length hc):=by have:wr.cell? ⟨mb,4,none⟩=some R.hv:=hm.c4;rw [HE.out] at this;exact this
   have hsl:wr.ownsRow 0 75 2 R.hv (K2 R.obs al i).length ((K2 R.obs al i).flatMap ObR.cells):=hm.slots.1;rw[HE.out,U5] at hsl;have z0:=hsl.frozenAt (i*2);have z1:=hsl.frozenAt (i*2+1);have HCN:Hid (∀W,Below wr.heap.size wr W→Calls Tryz.prog 89 #[.slice a al.length c,.int .i64 (i:Int)] W fun e w'=>e=.returned (.bool (decide (i∈al)))∧Below W.heap.size W w'):=fun W hW=>lF a al c i W hl ((HS.out.later hbut.size fun b hb' hab=>hbut.block b hb' (by rw [HNA.out b hab];simp) (fun j=>by rw [HNA.out b hab];simp)).later hW.size fun b hb' _=>hW.block b hb')
   have HSUC:=hid (xQ (al:=al) ho);have HFR:Hid (∀W,Below wr.heap.size wr W→A3 ((W.setCell ⟨hb,i*2,none⟩ (.int .u8 0)).setCell ⟨hb,i*2+1,none⟩ (.slice none 0 0)) own mb g { R with obs:=(K2 R.obs al i).set i K7 }∧I1 own wr ((W.setCell ⟨hb,i*2,none⟩ (.int .u8 0)).setCell ⟨hb,i*2+1,none⟩ (.slice none 0 0))):=fun W hW=>hm.freeSlot (R:={ R with obs:=K2 R.obs al i }) hW ho' (by show R.hv=_;rw [HE.out,U5])
   clear hsl hm hbut ho ho' hfv he' c4 d4 hohb;by_cases hia:i∈al
   ·have hd:decide (i∈al)=true:=decide_eq_true hia
    go_wp2_with (go_at_call 89;refine (HCN.out _ ?_).mono ?_;exact P0;rintro e w3 ⟨rfl,hb3⟩;have HB3:Hid (Below wr.heap.size wr w3):=A1 hb3 P0;clear hb3)
    go_roundw
    case rel=>exact ⟨i+1,by omega,by go_num,by
     rw[HSUC.out,if_pos hia];exact HM.out.same HB3.out.size fun k hk=>HB3.out.block k hk,HBUT.out.trans (I1.of_below HB3.out)⟩
    case measure=>simp [intOf];omega
   ·have hd:decide (i∈al)=false:=decide_eq_false hia
    go_wp2_with (go_at_call 89;refine (HCN.out _ ?_).mono ?_;exact P0;rintro e w3 ⟨rfl,hb3⟩;have HB3:Hid (Below wr.heap.size wr w3):=A1 hb3 P0;have m4':=(HB3.out.cell (p:=⟨mb,4,none⟩) hmbr).trans m4;have k0':=(HB3.out.cell (p:=⟨hb,i*2,none⟩) hl').trans k0;have k1':=(HB3.out.cell (p:=⟨hb,i*2+1,none⟩) hl').trans k1;have z0':=(HB3.out.frozen (p:=⟨hb,i*2,none⟩) hl').trans z0;have z1':=(HB3.out.frozen (p:=⟨hb,i*2+1,none⟩) hl').trans z1;have hl3:hb < w3.heap.size:=Nat.lt_of_lt_of_le hl' HB3.out.size;have hm3:mb < w3.heap.size:=Nat.lt_of_lt_of_le hmbr HB3.out.size;clear hb3 k0 k1 z0 z1 m4)
    obtain⟨hME,hBE⟩:=HFR.out w3 HB3.out;have HME:=hid hME;have HBE:=hid hBE;clear hME hBE;go_roundw
    case rel=>exact ⟨i+1,by omega,by go_num,by
     rw[HSUC.out,if_neg hia];exact HME.out,HBUT.out.trans HBE.out⟩
    case measure=>simp [intOf];omega
  ·obtain rfl:i=R.obs.length:=by omega
   have hlen:(K2 R.obs al R.obs.length).length=R.obs.length:=U5 _ _ _;have HFO:Hid (∀W,Below wr.heap.size wr W→Calls Tryz.prog 90 #[.pointer (some ⟨mb,4,none⟩)] W fun e w'=>e=.returned (.tuple #[])∧A3 w' own mb g { R with obs:=Y0 R.obs al }∧I1 own W w'):=fun W hW=>a1x (R:={ R with obs:=K2 R.obs al R.obs.length }) (hm.same hW.size fun k hk=>hW.block k hk) (by show 0 < (K2 R.obs al R.obs.length).length;omega) (by show (K2 R.obs al R.obs.length).length≤1000;omega) (xV al HW.out)
   have HTK2:Hid (∀V W,A3 V own mb g { R with obs:=Y0 R.obs al }→Below V.heap.size V W→Calls Tryz.prog 36 #[.pointer (some ⟨mb,4,none⟩)] W fun e w'=>e=.returned (.int .i64 (taken (Y0 R.obs al):Int))∧Below W.heap.size W w'):=fun V W hV hW=>jH (R:={ R with obs:=Y0 R.obs al }) (hV.same hW.size fun k hk=>hW.block k hk) (by show 0 < (Y0 R.obs al).length;rw [fX];omega) (by show (Y0 R.obs al).length≤1000;rw [fX];omega)
   have t1:=mD R.obs;have t2:=mD (Y0 R.obs al);rw[fX] at t2;clear hm hbut;go_wp2_with (first | (go_at_call 90;refine (HFO.out _ ?_).mono ?_;exact P0;rintro e w3 ⟨rfl,hm3,hb3⟩;have HM3:=hid hm3;have HB3:=hid hb3;clear hm3 hb3) | (go_at_call 36;refine (HTK2.out _ _ HM3.out ?_).mono ?_;exact P0;rintro e w4 ⟨rfl,hb4⟩;have HB4:Hid (Below w3.heap.size w3 w4):=A1 hb4 P0;clear hb4))
   try go_region_with (first | (go_at_call 36;refine (HTK2.out _ _ HM3.out ?_).mono ?_;exact P0;rintro e w4 ⟨rfl,hb4⟩;have HB4:Hid (Below w3.heap.size w3 w4):=A1 hb4 P0;clear hb4))
   all_goals
    go_wp2_with fail;go_ret;exact⟨rfl,HM3.out.same HB4.out.size fun k hk=>HB4.out.block k hk,(HBUT.out.trans HB3.out).trans (I1.of_below HB4.out)⟩
def T4 (l:List Nat):List Value:=l.map fun (n:Nat)=>Value.int .i64 (n:Int)
def bI (N:Nat) (met:List Nat):List Value:=(List.range N).map fun j=>.bool (decide (j∈met))
structure U9 (W:World) (B N tb kb rb:Nat) (mv:Value) (met:List Nat):Prop where
 t0:W.cell? ⟨tb,0,none⟩=some mv
 tz:W.frozen? ⟨tb,0,none⟩=false
 k0:W.cell? ⟨kb,0,none⟩=some (.slice (some ⟨rb,0,none⟩) N N)
 row:W.ownsRow B 3 1 mv met.length (T4 met)
 known:W.ownsRow B 4 1 (.slice (some ⟨rb,0,none⟩) N N) N (bI N met)
 tB:B≤tb∧tb < W.heap.size
 kB:B≤kb∧kb < W.heap.size
 rB:B≤rb∧rb < W.heap.size
 ne:tb≠kb∧tb≠rb∧kb≠rb
 mvn:∀b,mv.ownBlock=some b→b≠tb∧b≠kb∧b≠rb
theorem U9.alloc {W:World} {B N tb kb rb:Nat} {mv:Value} {met:List Nat} (h:U9 W B N tb kb rb mv met) (o:Obj):U9 (W.alloc o) B N tb kb rb mv met:=by
 have hb:∀k,k < W.heap.size→(W.alloc o).heap[k]?=W.heap[k]?:=fun k hk=>Below.heap_alloc _ _ _ hk
 have hs:(W.alloc o).heap.size=W.heap.size+1:=by simp
 refine⟨?_,?_,?_,h.row.alloc o,h.known.alloc o,⟨h.tB.1,by have:=h.tB.2;omega⟩,⟨h.kB.1,by have:=h.kB.2;omega⟩,⟨h.rB.1,by have:=h.rB.2;omega⟩,h.ne,h.mvn⟩
 ·rw [World.cell?_of_block (w:=W) (a:=⟨tb,0,none⟩) (hb tb h.tB.2)];exact h.t0
 ·rw [World.frozen?_of_block (w:=W) (a:=⟨tb,0,none⟩) (hb tb h.tB.2)];exact h.tz
 ·rw [World.cell?_of_block (w:=W) (a:=⟨kb,0,none⟩) (hb kb h.kB.2)];exact h.k0
theorem rN {N j:Nat} {met:List Nat} (hj:j < N):(bI N met).set j (.bool true)=bI N (met++[j]):=by
 apply List.ext_getElem?
 intro k;unfold bI;by_cases e:j=k
 ·subst e
  rw[List.getElem?_set_self (by simpa using hj)];simp[hj]
 ·rw [List.getElem?_set_ne e,List.getElem?_map,List.getElem?_map]
  cases h:(List.range N)[k]? with
  | none=>rfl
  | some x =>
   have:x=k:=by
    obtain⟨h1,h2⟩:=List.getElem?_eq_some_iff.1 h;rw[← h2];simp
   subst this;simp[Ne.symm e]
def O1 (W:World) (B:Nat) (a:Option Addr) (l:List Val):Prop:=0 < l.length→∃b,a=some ⟨b,0,none⟩∧b < B∧∀(i:Nat) (x:Val),l[i]?=some x→W.cell? ⟨b,i*2,none⟩=some (.int .u8 x.1)∧W.cell? ⟨b,i*2+1,none⟩=some (.int .i64 x.2)
theorem a1R {l:List Val} {met:List Nat} {i:Nat} {x:Val} (h:l[i]?=some x):G2 met (l.take (i+1))=if x.1=2∧x.2.toNat∉G2 met (l.take i) then G2 met (l.take i)++[x.2.toNat] else G2 met (l.take i):=by
 have e:l.take (i+1)=l.take i++[x]:=by rw [List.take_add_one,h];rfl
 rw[e,wX];rfl
theorem U9.grow {wr w1:World} {B N tb kb rb:Nat} {mv v1:Value} {met:List Nat} {j:Nat} {o1 o2:Obj} (h:U9 wr B N tb kb rb mv met) (hj:j < N)
  (hown:w1.ownsRow B 3 1 v1 (met.length+1) (T4 met++[.int .i64 (j:Int)])) (hgrow:(((wr.setCell ⟨rb,j,none⟩ (.bool true)).alloc o1).alloc o2).grownBy w1 mv.ownBlock) (hat:∀g,v1.ownBlock=some g→mv.ownBlock=some g∨g=wr.heap.size+1+1) :
  (w1.cell? ⟨tb,0,none⟩=some mv∧w1.frozen? ⟨tb,0,none⟩=false∧tb < w1.heap.size)∧U9 (w1.setCell ⟨tb,0,none⟩ v1) B N tb kb rb v1 (met++[j])∧(∀W,B≤W.heap.size→Below B W wr→Below B W (w1.setCell ⟨tb,0,none⟩ v1)):=by
 have hs:(((wr.setCell ⟨rb,j,none⟩ (.bool true)).alloc o1).alloc o2).heap.size=wr.heap.size+1+1:=by simp
 have hbl:∀k,k < wr.heap.size→k≠rb→(((wr.setCell ⟨rb,j,none⟩ (.bool true)).alloc o1).alloc o2).heap[k]?=wr.heap[k]?:=fun k hk hn=>by
  rw[Below.heap_alloc _ _ _ Q5,Below.heap_alloc _ _ _ (by simpa using hk),heap_setCell_other _ _ _ _ hn]
 have hnm:∀k,(k=tb∨k=kb∨k=rb)→some k≠mv.ownBlock:=fun k hk e=>by
  have:=h.mvn k e.symm;rcases hk with rfl | rfl | rfl
  ·exact this.1 rfl
  ·exact this.2.1 rfl
  ·exact this.2.2 rfl
 have ht:=h.tB.2;have hkb:=h.kB.2;have hrb:=h.rB.2;have htb:w1.heap[tb]?=wr.heap[tb]?:=(hgrow.block tb Q8 (hnm tb (Or.inl rfl))).trans (hbl tb ht h.ne.2.1);have hkb':w1.heap[kb]?=wr.heap[kb]?:=(hgrow.block kb Q8 (hnm kb (Or.inr (Or.inl rfl)))).trans (hbl kb hkb h.ne.2.2);have hs1:wr.heap.size≤w1.heap.size:=by have:=hgrow.size;omega
 have hv1:∀b,v1.ownBlock=some b→b≠tb∧b≠kb∧b≠rb:=fun b hb=>by
  rcases hat b hb with h1 | h1
  ·exact h.mvn b h1
  ·omega
 have hkn:w1.ownsRow B 4 1 (.slice (some ⟨rb,0,none⟩) N N) N (bI N (met++[j])):=by
  have h1:=(World.ownsRow.stored h.known j (.bool true)).1;rw[rN hj] at h1;have h2:=(h1.alloc o1).alloc o2;exact h2.kept hgrow (Or.inr (by
   show some rb≠mv.ownBlock;exact hnm rb (Or.inr (Or.inr rfl))))
 refine⟨⟨by rw [World.cell?_of_block (w:=wr) (a:=⟨tb,0,none⟩) htb];exact h.t0,by rw [World.frozen?_of_block (w:=wr) (a:=⟨tb,0,none⟩) htb];exact h.tz,by omega⟩,?_,fun W hB hb=>?_⟩
 ·have c0:w1.cell? ⟨tb,0,none⟩=some mv:=by rw [World.cell?_of_block (w:=wr) (a:=⟨tb,0,none⟩) htb];exact h.t0
  have z0:w1.frozen? ⟨tb,0,none⟩=false:=by rw [World.frozen?_of_block (w:=wr) (a:=⟨tb,0,none⟩) htb];exact h.tz
  have htw:tb < w1.heap.size:=by omega
  refine⟨by go_simp,by go_simp,?_,?_,ownsRow_setCell_other hkn (by show some rb≠some tb;exact fun e=>h.ne.2.1 (Option.some.inj e).symm) _,⟨h.tB.1,by simp;omega⟩,⟨h.kB.1,by simp;omega⟩,⟨h.rB.1,by simp;omega⟩,h.ne,hv1⟩
  ·rw [World.cell?_of_block (w:=w1) (a:=⟨kb,0,none⟩) (heap_setCell_other _ _ _ _ (Ne.symm h.ne.1)),World.cell?_of_block (w:=wr) (a:=⟨kb,0,none⟩) hkb']
   exact h.k0
  ·have:=ownsRow_setCell_other hown (a:=⟨tb,0,none⟩) (fun e=>(hv1 tb e).1 rfl) v1
   simpa [T4] using this
 ·refine ⟨hgrow.os.trans hb.os,hgrow.tape.trans hb.tape,hgrow.output.trans hb.output,by have:=hb.size;simp;omega,fun k hk=>?_⟩
  have hkt:k≠tb:=by have:=h.tB.1;omega
  have hkr:k≠rb:=by have:=h.rB.1;omega
  have hkw:k < wr.heap.size:=by have:=hb.size;omega
  rw[heap_setCell_other _ _ _ _ hkt,hgrow.block k Q8 (fun e=>by have:=(h.row.lt k e.symm).1;omega),hbl k hkw hkr];exact hb.block k hk
theorem lU (B N tb kb rb:Nat) (mv:Value) (met:List Nat) (W:World) (h:U9 W B N tb kb rb mv met) (hN:N≤1000) (hml:met.Nodup∧∀j,j∈met→j < N) (a:Option Addr) (l:List Val) (c:Nat) (hl:l.length≤3000000) (hs:O1 W B a l) (hr:∀v,v∈l→v.1=2→0≤v.2∧v.2.toNat < N) (hBW:B≤W.heap.size) :
  Calls Tryz.prog 123 #[.slice a l.length c,.pointer (some ⟨kb,0,none⟩),.pointer (some ⟨tb,0,none⟩)] W fun e w'=>e=.returned (.tuple #[])∧(∃mv',U9 w' B N tb kb rb mv' (G2 met l))∧Below B W w':=by
 have HH:=hid h;have HML:=hid hml;have HS:=hid hs;have HR:=hid hr;clear h hml hs hr;obtain⟨i3,hi,hz,hsz,hby⟩:=info_parts lK;have HI:=hid hi;have HZ:=hid hz;have HSZ:=hid hsz;have HBY:=hid hby;clear hi hz hsz hby;go_enter Tryz.func123,Tryz.ntmps123;go_wp2_with fail;go_loopw [8] (fun vi wr=>∃i:Nat,i≤l.length∧vi=.int .i64 i∧(∃mv',U9 wr B N tb kb rb mv' (G2 met (l.take i)))∧Below B W wr) (fun vi _=>l.length - (intOf vi).toNat)
 case atStart=>exact ⟨0,Nat.zero_le _,rfl,⟨mv,HH.out⟩,Below.refl _ _⟩
 case round =>
  obtain⟨i,hi,rfl,⟨mv',hm⟩,hbel⟩:=hrel;by_cases hlti:i < l.length
  ·obtain ⟨x,hx⟩:∃x,l[i]?=some x:=⟨_,List.getElem?_eq_getElem hlti⟩
   obtain⟨sb,rfl,hsb,hcs⟩:=HS.out Q8;obtain⟨x0,x1⟩:=hcs i x hx;rw[← hbel.cell (p:=⟨sb,_,none⟩) hsb] at x0 x1;have hsw:sb < wr.heap.size:=Nat.lt_of_lt_of_le (Nat.lt_of_lt_of_le hsb hBW) hbel.size;have HTK:=hid (a1R (met:=met) hx);have HM:=hid hm;have HBEL:=hid hbel;have HX:=hid hx;have hBr:B≤wr.heap.size:=Nat.le_trans hBW hbel.size;by_cases h2:x.1=2
   ·obtain ⟨q0,q1⟩:=HR.out x (List.mem_of_getElem? hx) h2
    obtain⟨j,hj⟩:=Int.eq_ofNat_of_zero_le q0;rw[hj,Int.toNat_natCast] at q1;rw[h2] at x0;rw[hj] at x1;have hjt:x.2.toNat=j:=by rw [hj];rfl
    have kc:wr.cell? ⟨rb,j,none⟩=some (.bool (decide (j∈G2 met (l.take i)))):=by
     rw[hm.known.cellAt j Q8];unfold bI;rw[List.getElem?_map,List.getElem?_range q1];rfl
    have kz:=hm.known.frozenAt j;have ck:=hm.k0;have hkb:=hm.kB.2;have hrb:=hm.rB.2;have htb:=hm.tB.2;by_cases hin:j∈G2 met (l.take i)
    ·have hd:decide (j∈G2 met (l.take i))=true:=decide_eq_true hin
     rw[hd] at kc;clear hm hbel hx hcs;go_wp2_with fail;go_roundw
     case rel=>exact ⟨i+1,by omega,by go_num,⟨mv',by
      rw[HTK.out,if_neg (fun e=>e.2 (by rw [hjt];exact hin))];exact HM.out.alloc _⟩,Below.alloc HBEL.out hBr _⟩
     case measure=>simp [intOf];omega
    ·have hd:decide (j∈G2 met (l.take i))=false:=decide_eq_false hin
     rw[hd] at kc;have t0:=hm.t0;have tz:=hm.tz;have hne:=hm.ne;have hmlen:(G2 met (l.take i)).length≤N:=K5 (U0 _ _ HML.out.1) (cE HML.out.2 fun v hv h2=>(HR.out v (List.mem_of_mem_take hv) h2).2);have HROW:=hid (ownsRow_setCell_other hm.row (a:=⟨rb,j,none⟩) (fun e=>(hm.mvn rb e).2.2 rfl) (.bool true));clear hm hbel hx hcs;go_wp2_with (at_builtin;go_must (refine C8 _ rfl (.tmp 27) (.tmp 30) 22 rfl B 3 i3 _ 1 8 Tryz.underlying22 HI.out HZ.out HSZ.out HBY.out rfl Q7 mv' (G2 met (l.take i)).length (T4 (G2 met (l.take i))) rfl ((HROW.out.alloc _).alloc _) (some ⟨wr.heap.size+1,0,none⟩) 1 1 [.int .i64 (j:Int)] rfl rfl (fun _=>⟨_,rfl,World.news_of_block (cs:=#[.int .i64 (j:Int)]) (t:=3) (fr:=(0,0)) (D8 Q9)⟩) (by intro u hu;rw [List.mem_singleton] at hu;subst hu;rfl) Q0 Q8 Q5 ?_))
     intro v1 w1 hown1 hgrow1 hat1;obtain⟨gb,gcap,rfl,_,_⟩:=hown1.form (Nat.succ_pos _);obtain⟨⟨e0,e1,e2⟩,hME,hBE⟩:=HM.out.grow q1 hown1 hgrow1 hat1;have HME:=hid hME;have HBE:=hid (hBE W hBW HBEL.out);clear hown1 hgrow1 hat1 hME hBE kc kz ck t0 tz x0 x1;go_wp2_with fail;go_roundw
     case rel=>exact ⟨i+1,by omega,by go_num,⟨_,by
      rw[HTK.out,if_pos ⟨h2,by rw [hjt];exact hin⟩,hjt];exact HME.out⟩,HBE.out⟩
     case measure=>simp [intOf];omega
   ·have h2':(x.1 == 2)=false:=beq_eq_false_iff_ne.2 h2
    clear hm hbel hx hcs;go_wp2_with fail;go_roundw
    case rel=>exact ⟨i+1,by omega,by go_num,⟨mv',by
     rw[HTK.out,if_neg (fun e=>h2 e.1)];exact HM.out.alloc _⟩,Below.alloc HBEL.out hBr _⟩
    case measure=>simp [intOf];omega
  ·obtain rfl:i=l.length:=by omega
   rw[List.take_length] at hm;have HM:=hid hm;have HBEL:=hid hbel;clear hm hbel;go_wp2_with fail;go_end0
   exact⟨rfl,⟨mv',HM.out⟩,HBEL.out⟩
theorem a6q:(Tryz.prog.info? 4).map (fun i=>(i.zero,i.size,i.bytes))=some (some (.bool false),1,1):=by kernel_rfl
def bF (N:Nat) (l:List Val):Prop:=∀v,v∈l→v.1=2→0≤v.2∧v.2.toNat < N
theorem U9.drew {W:World} {B N tb kb rb:Nat} {mv:Value} {met:List Nat} (h:U9 W B N tb kb rb mv met):U9 W.drew B N tb kb rb mv met:=⟨h.t0,h.tz,h.k0,h.row,h.known,h.tB,h.kB,h.rB,h.ne,h.mvn⟩
theorem sU {obs:List Ob} {met:List Nat} {i:Nat} (h:met.length≤i):∀n,K6 obs n i met=met
 | 0=>rfl
 | n+1=>by rw [K6,List.getElem?_eq_none h]
def Y3 (met:List Nat) (w:World) (e:Ending) (w':World):Prop:=∃v,e=.returned v∧w'.ownsRow w.heap.size 3 1 v met.length (T4 met)∧Below w.heap.size w w'
theorem rQ (N:Nat):(madeCells #[.bool false] N).toList=bI N []:=by
 apply List.ext_getElem?
 intro j;simp[madeCells,bI,Nat.mod_one]
theorem rS (w:World) (N:Nat) (hN:N≤1000):U9 (((w.alloc (.cells #[.slice none 0 0] 22)).alloc (.cells (madeCells #[.bool false] N) 4)).alloc (.cells #[.slice (some ⟨w.heap.size+1,0,none⟩) N N] 71)) w.heap.size N w.heap.size (w.heap.size+1+1) (w.heap.size+1) (.slice none 0 0) []:=by
 refine⟨by go_simp,by go_simp,by go_simp,World.ownsRow_nil _ _ _ _,?_,⟨Nat.le_refl _,by simp;omega⟩,⟨by omega,by simp⟩,⟨by omega,by simp⟩,⟨by omega,by omega,by omega⟩,fun b hb=>by cases hb⟩;refine World.ownsRow.alloc ?_ _;have:=World.ownsRow_lit (base:=w.heap.size) (e:=4) (size:=1) (w.alloc (.cells #[.slice none 0 0] 22)) (madeCells #[.bool false] N) N Q9 Q0 (by rw [size_madeCells];simp)
 rw[rQ] at this;simpa using this
theorem a0w {own:Own} {mb:Nat} {g:PgR} {R:McR} {w:World} (h:A3 w own mb g R) (hpos:0 < R.obs.length) (hn:R.obs.length≤1000) (hob:∀o,o∈R.obs→bF R.obs.length o.fl∧o.fl.length≤1000) (a:Option Addr) (l:List Val) (c:Nat) (hl:l.length≤3000000) (hs:O1 w w.heap.size a l) (hr:bF R.obs.length l) :
  Calls Tryz.prog 91 #[.pointer (some ⟨mb,4,none⟩),.slice a l.length c] w fun e w'=>Y3 (E3 (R.obs.map ObR.abs) l) w e w':=by
 have c4:=h.c4;have hmb:mb < w.heap.size:=h.lt mb _ h.me;obtain⟨hb,hc,e,_,hlt⟩:=h.slots.1.form hpos;rw[e] at c4;obtain⟨i4,hi,hz,hsz,hby⟩:=info_parts a6q;have HMK:Hid (∀W:World,(Instr.makeSlice 71 (.int .i64 (R.obs.length:Int)) (.int .i64 (R.obs.length:Int))).run Tryz.prog W=.ok (.slice (some ⟨W.heap.size,0,none⟩) R.obs.length R.obs.length) (W.alloc (.cells (madeCells #[.bool false] R.obs.length) 4))):=by
  intro W;have hr:=run_make (P:=Tryz.prog) W 71 4 i4 _ Tryz.underlying71 hi hz .i64 .i64 R.obs.length R.obs.length Q8 (Int.le_refl _) (by rw [hby];omega) Q8;simpa [hsz,Value.cells] using hr
 have hmk:=HMK.out;have HBEG:=hid (rS w R.obs.length hn);have hB0:Below w.heap.size w (((w.alloc (.cells #[.slice none 0 0] 22)).alloc (.cells (madeCells #[.bool false] R.obs.length) 4)).alloc (.cells #[.slice (some ⟨w.heap.size+1,0,none⟩) R.obs.length R.obs.length] 71)):=P0
 have HB0:=hid hB0;have HH:=hid h;have HE:=hid e;have HOB:=hid hob;have HS:Hid (∀W,Below w.heap.size w W→O1 W w.heap.size a l):=fun W hW h0=>by
  obtain⟨b,h1,h2,h3⟩:=hs h0;refine⟨b,h1,h2,fun i x hx=>?_⟩;rw[hW.cell (p:=⟨b,_,none⟩) h2,hW.cell (p:=⟨b,_,none⟩) h2];exact h3 i x hx
 have HR:=hid hr;clear hi hz hsz hby HMK h e hob hs hr hB0;go_enter Tryz.func91,Tryz.ntmps91;go_wp2_with fail;refine (lU w.heap.size R.obs.length w.heap.size (w.heap.size+1+1) (w.heap.size+1) _ [] _ HBEG.out hn ⟨List.nodup_nil,by simp⟩ a l c hl (HS.out _ HB0.out) HR.out HB0.out.size).mono ?_;rintro e w2 ⟨rfl,⟨mv2,hm2⟩,hb2⟩;have HM2:=hid hm2;have hB2:Below w.heap.size w w2:=HB0.out.trans hb2;have HB2:=hid hB2
 clear hm2 hb2 hB2 hmk c4 HBEG HB0;go_wp2_with fail;go_loopw [8] (fun vi wr=>∃(i:Nat) (met:List Nat),i≤R.obs.length∧vi=.int .i64 i∧(∃mv',U9 wr w.heap.size R.obs.length w.heap.size (w.heap.size+1+1) (w.heap.size+1) mv' met)∧met.Nodup∧(∀j,j∈met→j < R.obs.length)∧K6 (R.obs.map ObR.abs) (R.obs.length - i) i met=E3 (R.obs.map ObR.abs) l∧Below w.heap.size w wr) (fun vi _=>R.obs.length - (intOf vi).toNat)
 case atStart=>exact ⟨0,G2 [] l,Nat.zero_le _,rfl,⟨mv2,HM2.out⟩,U0 _ _ List.nodup_nil,cE Q9 fun v hv h2=>(HR.out v hv h2).2,by simp [E3],HB2.out⟩
 case round =>
  obtain⟨i,met,hi,rfl,⟨mv',hm⟩,hnd,hlt',hwk,hbel⟩:=hrel;have hml:=K5 hnd hlt';obtain⟨ma,mc,hmv⟩:∃ma mc,mv'=.slice ma met.length mc:=by
   rcases hm.row.2 with ⟨e,e0⟩ | ⟨gb,cap,_,e,_⟩
   ·exact ⟨none,0,by rw [e,e0]⟩
   ·exact ⟨_,_,e⟩
  subst hmv;have t0:=hm.t0;have hwr:w.heap.size < wr.heap.size:=hm.tB.2;have hws:=hbel.size;have HM:=hid hm;have HBEL:=hid hbel;have HND:=hid hnd;have HLT:=hid hlt';have HWK:=hid hwk;by_cases hlti:i < met.length
  ·obtain ⟨j,hj⟩:∃j,met[i]?=some j:=⟨_,List.getElem?_eq_getElem hlti⟩
   have hjl:j < R.obs.length:=hlt' j (List.mem_of_getElem? hj);obtain⟨o,ho⟩:∃o,R.obs[j]?=some o:=⟨_,List.getElem?_eq_getElem hjl⟩
   obtain⟨gb,gc,hme,_,hgb⟩:=hm.row.form Q8
   cases hme;have mc0:wr.cell? ⟨gb,i,none⟩=some (.int .i64 (j:Int)):=by
    rw[hm.row.cellAt i Q8];unfold T4;rw[List.getElem?_map,hj];rfl
   have hmW:=HH.out.same hbel.size fun k hk=>hbel.block k hk
   obtain⟨hb',hc',fa,fc,he',_,hl',hfv,k0,k1⟩:=hmW.slot ho;rw[HE.out] at he'
   cases he';have m4:=hmW.c4;rw[HE.out] at m4;have hmbr:mb < wr.heap.size:=hmW.lt mb _ hmW.me;have HSTEP:Hid (K6 (R.obs.map ObR.abs) (R.obs.length - (i+1)) (i+1) (if o.kind=3 then met else G2 met o.fl)=E3 (R.obs.map ObR.abs) l):=by
    refine hid ?_;rw[← hwk,show R.obs.length - i=(R.obs.length - (i+1))+1 by omega,K6,hj];simp only[List.getElem?_map,ho,Option.map_some];rfl
   have HFL:=hid (HOB.out o (List.mem_of_getElem? ho));have HVI:Hid (∀W,Below wr.heap.size wr W→O1 W w.heap.size fa o.fl):=fun W hW h0=>by
    have hfd:=HH.out.fld j o ho;obtain⟨fb,fc',hfe,_,hfb⟩:=hfd.1.form h0;rw[hfv] at hfe
    cases hfe;have hrow:=hfd.1;rw[hfv] at hrow;refine⟨fb,rfl,hfb,fun t x hx=>?_⟩;have htl:=(List.getElem?_eq_some_iff.1 hx).1;have hcell:∀q,q < 2→W.cell? ⟨fb,t*2+q,none⟩=(N0 x)[q]?:=fun q hq=>by
     rw[hW.cell (p:=⟨fb,_,none⟩) (Nat.lt_of_lt_of_le hfb hws),HBEL.out.cell (p:=⟨fb,_,none⟩) hfb,hrow.cellAt _ Q8];exact C3 E7 hx hq
    exact⟨hcell 0 Q8,hcell 1 Q8⟩
   have HMEET:Hid (∀W c,Below wr.heap.size wr W→U9 W w.heap.size R.obs.length w.heap.size (w.heap.size+1+1) (w.heap.size+1) (.slice (some ⟨gb,0,none⟩) met.length mc) met→Calls Tryz.prog 123 #[.slice fa o.fl.length c,.pointer (some ⟨w.heap.size+1+1,0,none⟩),.pointer (some ⟨w.heap.size,0,none⟩)] W fun e w'=>e=.returned (.tuple #[])∧(∃mv',U9 w' w.heap.size R.obs.length w.heap.size (w.heap.size+1+1) (w.heap.size+1) mv' (G2 met o.fl))∧Below w.heap.size W w'):=fun W c hW hmW=>lU _ _ _ _ _ _ met W hmW hn ⟨hnd,hlt'⟩ fa o.fl c (by have:=HFL.out.2;omega) (HVI.out W hW) HFL.out.1 (Nat.le_trans hws hW.size)
   clear hm hbel hnd hlt' hwk hmW hfv hj ho;go_wp2_with fail;go_region
   all_goals
    by_cases h3:o.kind=3
    ·rw [if_pos h3] at HSTEP
     have h3':(o.kind != 3)=false:=by rw [h3];rfl
     go_wp2_with fail;go_roundw
     case rel=>exact ⟨i+1,met,by omega,by go_num,⟨_,(HM.out.alloc _).drew⟩,HND.out,HLT.out,HSTEP.out,Below.drew (Below.alloc HBEL.out hws _)⟩
     case measure=>simp [intOf];omega
    ·rw [if_neg h3] at HSTEP
     have h3':(o.kind != 3)=true:=bne_iff_ne.2 h3;go_wp2_with (go_at_call 123;refine (HMEET.out _ _ ?_ ?_).mono ?_;exact P0;exact (HM.out.alloc _).drew;rintro e w3 ⟨rfl,⟨mv3,hm3⟩,hb3⟩;have HM3:=hid hm3;have HB3:Hid (Below w.heap.size w w3):=Below.trans (Below.drew (Below.alloc HBEL.out hws _)) hb3;clear hm3 hb3)
     go_roundw
     case rel=>exact ⟨i+1,_,by omega,by go_num,⟨_,HM3.out⟩,U0 _ _ HND.out,cE HLT.out fun v hv h2=>(HFL.out.1 v hv h2).2,HSTEP.out,HB3.out⟩
     case measure=>simp [intOf];omega
  ·clear hm hbel hnd hlt' hwk
   go_wp2_with fail;go_ret;refine⟨_,rfl,?_,HBEL.out⟩;rw[← HWK.out,sU Q8];exact HM.out.row
structure Z0 (R:McR):Prop where
 pos:0 < R.obs.length
 n:R.obs.length≤1000
 weak:pX R.obs
 refs:∀o,o∈R.obs→bF R.obs.length o.fl∧o.fl.length≤1000
 frn:R.frs.length≤1000
 fr:∀f,f∈R.frs→f.loc.length≤1000∧f.stk.length≤1000
 roots:bF R.obs.length (I5 R.frs)
theorem O1.of_owns {W:World} {B B':Nat} {v:Value} {l:List Val} (h:W.ownsRow B 73 2 v l.length (A5 l)) (hB:W.heap.size≤B'):∃a c,v=.slice a l.length c∧O1 W B' a l:=by
 rcases id h.2 with ⟨e,e0⟩ | ⟨gb,cap,cur,e,_,hg,_⟩
 ·exact ⟨none,0,by rw [e,e0],fun h0=>by omega⟩
 ·subst e
  refine⟨_,_,rfl,fun h0=>⟨gb,rfl,Nat.lt_of_lt_of_le (M6 h).2 hB,fun i x hx=>?_⟩⟩;have hi:=(List.getElem?_eq_some_iff.1 hx).1;have hcell:∀t,t < 2→W.cell? ⟨gb,i*2+t,none⟩=(N0 x)[t]?:=fun t ht=>by
   rw[h.cellAt _ Q8];exact C3 E7 hx ht
  exact⟨hcell 0 Q8,hcell 1 Q8⟩
theorem aA.of_owns {W:World} {B:Nat} {v:Value} {l:List Nat} (h:W.ownsRow B 3 1 v l.length (T4 l)):∃a c,v=.slice a l.length c∧aA W a l∧∀b,a=some ⟨b,0,none⟩→B≤b∧b < W.heap.size:=by
 rcases id h.2 with ⟨e,e0⟩ | ⟨gb,cap,cur,e,hB,hg,_⟩
 ·exact ⟨none,0,by rw [e,e0],fun h0=>by omega,fun b hb=>by cases hb⟩
 ·subst e
  refine⟨_,_,rfl,fun h0=>⟨gb,rfl,(M6 h).2,fun i x hx=>?_⟩,fun b hb=>?_⟩
  ·have hi:=(List.getElem?_eq_some_iff.1 hx).1
   rw[h.cellAt i Q8];unfold T4;rw[List.getElem?_map,hx];rfl
  ·cases hb;exact ⟨hB,(M6 h).2⟩
theorem mR {own:Own} {mb:Nat} {g:PgR} {R:McR} {w:World} (h:A3 w own mb g R) (ho:Z0 R) :
  Calls Tryz.prog 55 #[.pointer (some ⟨mb,0,none⟩)] w fun e w'=>Y3 (A0 R.abs) w e w':=by
 have hal:A0 R.abs=E3 (R.obs.map ObR.abs) (I5 R.frs):=by
  unfold A0;rw[← eA];rfl
 rw[hal];have HV:Hid (∀W,Below w.heap.size w W→Calls Tryz.prog 92 #[.pointer (some ⟨mb,3,none⟩)] W fun e w'=>eQ (I5 R.frs) W e w'):=fun W hW=>oK (h.same hW.size fun k hk=>hW.block k hk) ho.frn ho.fr
 have hvl:(I5 R.frs).length≤3000000:=by
  have:=oJ R.frs 1000 ho.fr;have h2:R.frs.length*(2*1000)≤1000*(2*1000):=Nat.mul_le_mul_right _ ho.frn;omega
 have HRE:Hid (∀U W v,Below w.heap.size w U→Below U.heap.size U W→W.ownsRow U.heap.size 73 2 v (I5 R.frs).length (A5 (I5 R.frs))→Calls Tryz.prog 91 #[.pointer (some ⟨mb,4,none⟩),v] W fun e w'=>Y3 (E3 (R.obs.map ObR.abs) (I5 R.frs)) w e w'):=by
  intro U W v hU hW hown;have hB:=A1 hW hU;obtain⟨a,c,rfl,hvi⟩:=O1.of_owns hown (Nat.le_refl _);refine (a0w (h.same hB.size fun k hk=>hB.block k hk) ho.pos ho.n ho.refs a _ c hvl hvi ho.roots).mono ?_;rintro e w' ⟨v,rfl,hv,hb⟩;exact⟨v,rfl,C5 hv hB.size,A1 hb hB⟩
 clear h ho hal hvl;generalize E3 (R.obs.map ObR.abs) (I5 R.frs)=met at *
 go_enter Tryz.func55,Tryz.ntmps55;go_wp2_with fail;go_region_with (first | (go_at_call 92;refine (HV.out _ ?_).mono ?_;exact P0;rintro e w2 ⟨v2,rfl,hv2,hb2⟩;have HR2:=hid (HRE.out _ w2 v2 P0 hb2 hv2);clear hv2 hb2) | (go_at_call 91;refine HR2.out.mono ?_;rintro e w3 ⟨v3,rfl,hv3,hb3⟩;have HV3:=hid hv3;have HB3:=hid hb3;clear hv3 hb3))
 all_goals
  go_wp2_with fail;go_ret;exact⟨v3,rfl,HV3.out,HB3.out⟩
def gL (own:Own) (mb:Nat) (g:PgR) (R:McR) (w:World) (e:Ending) (w':World):Prop :=
 e=.returned (.int .i64 ((taken R.obs:Int) - (taken (Y0 R.obs (A0 R.abs)):Int)))∧A3 w' own mb g { R with obs:=Y0 R.obs (A0 R.abs) }∧I1 own w w'
theorem nW {own:Own} {mb:Nat} {g:PgR} {R:McR} {w:World} (h:A3 w own mb g R) (ho:Z0 R) (hal:(A0 R.abs).length≤1000) :
  Calls Tryz.prog 33 #[.pointer (some ⟨mb,0,none⟩)] w fun e w'=>gL own mb g R w e w':=by
 have HA:Hid (∀W,Below w.heap.size w W→Calls Tryz.prog 55 #[.pointer (some ⟨mb,0,none⟩)] W fun e w'=>Y3 (A0 R.abs) W e w'):=fun W hW=>mR (h.same hW.size fun k hk=>hW.block k hk) ho
 have HSW:Hid (∀U W v,Below w.heap.size w U→Below U.heap.size U W→W.ownsRow U.heap.size 3 1 v (A0 R.abs).length (T4 (A0 R.abs))→Calls Tryz.prog 54 #[.pointer (some ⟨mb,4,none⟩),v] W fun e w'=>gL own mb g R w e w'):=by
  intro U W v hU hW hown;have hB:=A1 hW hU;obtain⟨a,c,rfl,hna,hbn⟩:=aA.of_owns hown;refine (a5i (h.same hB.size fun k hk=>hB.block k hk) ho.pos ho.n ho.weak a (A0 R.abs) c hal hna fun b hb=>?_).mono ?_
  ·cases e:own b with
   | none=>rfl
   | some t=>have:=h.lt b t e;have:=(hbn b hb).1;have:=hU.size;omega
  ·rintro e w' ⟨rfl,hm,hb⟩
   exact⟨rfl,hm,(I1.of_below hB).trans hb⟩
 clear h ho hal;go_enter Tryz.func33,Tryz.ntmps33;go_wp2_with fail;go_region_with (first | (go_at_call 55;refine (HA.out _ ?_).mono ?_;exact P0;rintro e w2 ⟨v2,rfl,hv2,hb2⟩;have HR2:=hid (HSW.out _ w2 v2 P0 hb2 hv2);clear hv2 hb2) | (go_at_call 54;refine HR2.out.mono ?_;rintro e w3 ⟨rfl,hm3,hb3⟩;have HM3:=hid hm3;have HB3:=hid hb3;clear hm3 hb3))
 all_goals
  go_wp2_with fail;go_ret;exact⟨rfl,HM3.out,HB3.out⟩
theorem uQ {g:PgR} (hp:F2 g):∀(l:List FrA) (fn:Nat),fn < g.n→cW g fn l→∀f,f∈l→∃q,0≤q∧bY g f q
 | [],_,_,_,f,hf=>by cases hf
 | c::r,fn,hfn,h,f,hf=>by
  obtain⟨h1,_,_,h4⟩:=h;rcases List.mem_cons.1 hf with rfl | hf
  ·exact ⟨_,by have:=hp.sized.bd hfn;omega,h1⟩
  ·exact uQ hp r c.fn h1.fn h4 f hf
theorem qX {g:PgR} (hp:F2 g) {l:List FrA} (h:fG g l):∀f,f∈l→∃q,0≤q∧bY g f q:=by
 intro f hf
 cases l with
 | nil=>cases hf
 | cons c r =>
  obtain⟨h1,h2⟩:=h;rcases List.mem_cons.1 hf with rfl | hf
  ·exact ⟨0,Int.le_refl _,h1⟩
  ·exact uQ hp r c.fn h1.fn h2 f hf
theorem bY.bd {g:PgR} (hp:F2 g) {f:FrA} {q:Int} (h:bY g f q) (hq:0≤q):f.loc.length≤8∧f.stk.length≤18∧f.pc < 60∧f.pc < (g.f f.fn).n:=by
 obtain⟨h1,h2,h3,h4⟩:=h.at hp;have hb:=hp.sized.bd h.fn;have hl:=h.loc;have hpop:=(pC hp.sized hp.legal h.fn).pop_bd h1;have hpush:=(M7 ((g.f f.fn).op f.pc)).1;have h5:(f.stk.length:Int)+q - (A7 g (g.f f.fn)).pop f.pc+J9 ((g.f f.fn).op f.pc)≤10:=h4;refine⟨by omega,by omega,by omega,h1⟩
theorem C1.frame {g:PgR} (hp:F2 g) {s:McA} (h:C1 g s) {f:FrA} (hf:f∈s.frs):f.loc.length≤8∧f.stk.length≤18∧f.pc < 60∧f.pc < (g.f f.fn).n:=by
 obtain⟨q,h0,hq⟩:=qX hp h.frs f (List.mem_reverse.2 hf);exact hq.bd hp h0
theorem C1.heapOk {g:PgR} (hp:F2 g) {R:McR} (h:C1 g R.abs):Z0 R:=by
 have hlen:R.abs.obs.length=R.obs.length:=by simp [McR.abs]
 have hcap:=h.cap;rw[hlen] at hcap;have hob:∀o,o∈R.obs→OOk R.abs.obs o.abs:=fun o ho=>h.obs o.abs (List.mem_map.2 ⟨o,ho,rfl⟩)
 have href:∀v,VOk R.abs.obs v→v.1=2→0≤v.2∧v.2.toNat < R.obs.length:=fun v hv h2=>⟨(hv.ref h2).1,by have:=hv.lt h2;omega⟩
 have hfr:∀f,f∈R.frs→f.abs∈R.abs.frs:=fun f hf=>List.mem_map.2 ⟨f,hf,rfl⟩
 refine⟨by omega,by omega,fun o ho hk=>?_,fun o ho=>⟨fun v hv h2=>href v ((hob o ho).vals hv) h2,by have:o.fl.length≤12:=(hob o ho).len;omega⟩,?_,fun f hf=>?_,fun v hv h2=>?_⟩
 ·rcases hob o ho with h1 | h1 | h1 | ⟨_,u,hu,hvu,_⟩
  ·have:o.kind=0:=h1.1;omega
  ·have:o.kind=1:=h1.1;omega
  ·have:o.kind=2:=h1.1;omega
  ·exact ⟨u,hu,fun h2=>href u hvu h2⟩
 ·have:=h.depth
  have e:R.abs.frs.length=R.frs.length:=by simp [McR.abs]
  omega
 ·have:=h.frame hp (hfr f hf)
  have e1:f.abs.loc=f.loc:=rfl;have e2:f.abs.stk=f.stk:=rfl;rw[e1,e2] at this;omega
 ·rw [← eA] at hv
  obtain⟨f,hf,hv⟩:=N1.1 hv;exact href v (h.vals f hf v hv) h2
theorem C1.alive_len {g:PgR} {s:McA} (h:C1 g s):(A0 s).length≤1000:=by
 have:=K5 h.alive.nodup h.alive.lt;have:=h.cap.2;omega
theorem qY:∀(l:List Ob) (n:Nat),K8 l≠l.length→∃j,jO l n=some j
 | [],_,h=>absurd rfl h
 | o::l,n,h=>by
  rw[jO];by_cases h0:o.1=0
  ·exact ⟨n,if_pos h0⟩
  ·rw [if_neg h0]
   refine qY l (n+1) fun e=>h ?_
   unfold K8 at e ⊢;simp[h0,e]
theorem bN {obs:List Ob} {dr:List Int} (hpos:0 < obs.length) (h:K8 obs≠obs.length):∃j,fA obs dr=some j:=by
 obtain⟨j,hj⟩:=qY obs 0 h
 cases dr with
 | nil=>exact ⟨(j,[]),by simp only [fA,hj,Option.map_some]⟩
 | cons d r =>
  have h1:0≤d % (obs.length:Int):=Int.emod_nonneg _ Q8;have h2:d % (obs.length:Int) < obs.length:=Int.emod_lt_of_pos _ Q8;obtain⟨o,ho⟩:∃o,obs[(d % (obs.length:Int)).toNat]?=some o:=⟨_,List.getElem?_eq_getElem Q8⟩
  by_cases h0:o.1=0
  ·exact ⟨_,by simp only [fA,ho];rw [if_pos h0]⟩
  ·exact ⟨_,by simp only [fA,ho];rw [if_neg h0,hj];rfl⟩
end Go.Proofs.YtbkmgoffiigdbabGreatDoor
