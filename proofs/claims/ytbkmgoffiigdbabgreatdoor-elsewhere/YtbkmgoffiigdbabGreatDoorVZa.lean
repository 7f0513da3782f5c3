import Derived.Test.YtbkmgoffiigdbabGreatDoorVT
import Derived.Test.YtbkmgoffiigdbabGreatDoorVUq
namespace Go.Proofs.YtbkmgoffiigdbabGreatDoor
open Go.RowKit Go.Sort
set_option maxHeartbeats 4000000
set_option maxRecDepth 100000
theorem O1.src {W:World} {B:Nat} {a:Option Addr} {l:List Val} (h:O1 W B a l):0 < l.length→∃d,a=some d∧∀j u,(A5 l)[j]?=some u→W.cell? (d.add j)=some u:=fun h0=>by
 obtain⟨b,rfl,hb,hc⟩:=h h0;refine⟨_,rfl,fun j u hu=>?_⟩;have hj:=(List.getElem?_eq_some_iff.1 hu).1;rw[K1] at hj;obtain⟨x,hx⟩:∃x,l[j / 2]?=some x:=⟨_,List.getElem?_eq_getElem Q8⟩
 have hg:=C3 E7 hx (show j % 2 < 2 by omega);rw[show j / 2*2+j % 2=j by omega] at hg;obtain⟨c0,c1⟩:=hc _ x hx;have hu':(N0 x)[j % 2]?=some u:=hg.symm.trans hu;rw[X1];rcases Nat.mod_two_eq_zero_or_one j with e | e
 ·rw [e] at hu'
  rw[show j=j / 2*2 by omega,c0];exact hu'
 ·rw [e] at hu'
  rw[show j=j / 2*2+1 by omega,c1];exact hu'
theorem oI (l:List FrA) (k:Nat) (h:∀f,f∈l→f.loc.length≤k∧f.stk.length≤k):(D5 l).length≤l.length*(2*k):=by
 induction l with
 | nil=>simp [D5]
 | cons f l ih =>
  have h1:=ih fun x hx=>h x (by simp [hx])
  have h2:=h f Q9;unfold D5 at h1 ⊢;simp only[List.flatMap_cons,List.length_append,List.length_cons];rw[Nat.add_mul];omega
theorem xT {l:List FrA} {i:Nat} {f:FrA} (h:l[i]?=some f):D5 (l.take (i+1))=D5 (l.take i)++f.loc++f.stk:=by
 have e:l.take (i+1)=l.take i++[f]:=by rw [List.take_add_one,h];rfl
 rw[e];simp[D5,List.append_assoc]
theorem a4X (a:Option Addr) (c:Nat) (frs:List FrA) (w:World) (hn:frs.length≤1000) (hf:∀f,f∈frs→f.loc.length≤1000∧f.stk.length≤1000) (hs:pL w a frs) :
  Calls Tryz.prog 18 #[.slice a frs.length c] w fun e w'=>eQ (D5 frs) w e w':=by
 obtain⟨i101,hi,hz,hsz,hby⟩:=info_parts Z7;have HI:=hid hi;have HZ:=hid hz;have HSZ:=hid hsz;have HBY:=hid hby;have HS:=hid hs;have HF:=hid hf;clear hs hf hi hz hsz hby;go_enter Tryz.func18,Tryz.ntmps18;go_wp2_with fail;go_loopw [3,4] (fun vl vi wr=>∃i:Nat,i≤frs.length∧vi=.int .i64 i∧wr.ownsRow w.heap.size 73 2 vl (D5 (frs.take i)).length (A5 (D5 (frs.take i)))∧Below w.heap.size w wr) (fun _ vi _=>frs.length - (intOf vi).toNat)
 case atStart=>exact ⟨0,Nat.zero_le _,rfl,World.ownsRow_nil _ _ _ _,Below.refl _ _⟩
 case round =>
  obtain⟨i,hi,rfl,hrow,hbel⟩:=hrel;have HBEL:=hid hbel;have HROW:=hid hrow;by_cases hlt:i < frs.length
  ·obtain ⟨f,hf⟩:∃f,frs[i]?=some f:=⟨_,List.getElem?_eq_getElem hlt⟩
   obtain⟨cb,rfl,hcb,hcs⟩:=HS.out Q8;obtain⟨la,lc,sa,sc,k2,k3,hl,hs⟩:=hcs i f hf;have HLS:=hid ((hl.later HBEL.out).src);have HSS:Hid (∀W,Below w.heap.size w W→(0 < f.stk.length→∃d,sa=some d∧∀j u,(A5 f.stk)[j]?=some u→W.cell? (d.add j)=some u)):=fun W hW=>(hs.later hW).src
   have HK3:=hid k3;rw[← hbel.cell (p:=⟨cb,_,none⟩) hcb] at k2 k3;have hlw:cb < wr.heap.size:=Nat.lt_of_lt_of_le hcb hbel.size;have hm:=HF.out f (List.mem_of_getElem? hf);have hvl:=oI (frs.take i) 1000 fun x hx=>HF.out x (List.mem_of_mem_take hx)
   rw[List.length_take] at hvl;have hvl':(D5 (frs.take i)).length≤2000000:=by
    have:min i frs.length*(2*1000)≤1000*(2*1000):=Nat.mul_le_mul_right _ Q8;omega
   have HTK:=hid (xT hf);clear hrow hbel hf hvl hcs hl hs;have hwz:w.heap.size≤wr.heap.size:=HBEL.out.size;go_wp2_with (at_builtin;go_must (refine C8 _ rfl (.tmp 11) (.tmp 16) 45 rfl w.heap.size 73 i101 _ 2 16 Tryz.underlying45 HI.out HZ.out HSZ.out HBY.out rfl Q7 _ (D5 (frs.take i)).length (A5 (D5 (frs.take i))) rfl HROW.out la f.loc.length lc (A5 f.loc) rfl (K1 _) HLS.out (bQ _) Q0 Q8 Q8 ?_))
   intro v1 w1 hown1 hgrow1 _;have hB1:=X2 HBEL.out HROW.out hgrow1;have r3:=(hB1.cell (p:=⟨cb,i*4+3,none⟩) hcb).trans HK3.out;have hw1:cb < w1.heap.size:=Nat.lt_of_lt_of_le hcb hB1.size;have hz1:w.heap.size≤w1.heap.size:=hB1.size;have HB1:=hid hB1;have HO1:=hid hown1;clear hB1 hown1 hgrow1 k2 k3;go_wp2_with (at_builtin;go_must (refine C8 _ rfl (.tmp 18) (.tmp 23) 45 rfl w.heap.size 73 i101 _ 2 16 Tryz.underlying45 HI.out HZ.out HSZ.out HBY.out rfl Q7 _ ((D5 (frs.take i)).length+f.loc.length) (A5 (D5 (frs.take i))++A5 f.loc) rfl HO1.out sa f.stk.length sc (A5 f.stk) rfl (K1 _) (HSS.out _ HB1.out) (bQ _) Q0 Q8 Q8 ?_))
   intro v2 w2 hown2 hgrow2 _;have HB2:=hid (X2 HB1.out HO1.out hgrow2);have HO2:=hid hown2;clear hown2 hgrow2 r3;go_wp2_with fail;go_roundw
   case rel=>exact ⟨i+1,by omega,by go_num,by
    rw[HTK.out,V5,V5,List.length_append,List.length_append,List.append_assoc];exact HO2.out,HB2.out⟩
   case measure=>simp [intOf];omega
  ·obtain rfl:i=frs.length:=by omega
   rw[List.take_length] at HROW;clear hbel hrow;go_wp2_with fail;go_ret;exact⟨_,rfl,HROW.out,HBEL.out⟩
theorem zM {w0 W w':World} {v:Value} {e size n:Nat} {xs:List Value} (hB:Below w0.heap.size w0 W) (ho:W.ownsRow w0.heap.size e size v n xs) (hg:W.grownBy w' v.ownBlock):Below w0.heap.size w0 w':=X2 hB ho hg
theorem a1M (a:Option Addr) (c:Nat) (obs:List Ob) (v:Value) (l:List Val) (w0 w:World) (h0:0 < obs.length) (hn:obs.length≤40) (hs:nS w0 a obs) (hB0:Below w0.heap.size w0 w) (hok:∀o,o∈obs→OOk obs o) (hl:l.length≤30000) (hlv:∀u,u∈l→VOk obs u) (hrow:w.ownsRow w0.heap.size 73 2 v l.length (A5 l)) :
  Calls Tryz.prog 16 #[.slice a obs.length c,v] w fun e w'=>e=.returned (.int .i64 ((E3 obs l).length:Int))∧Below w0.heap.size w0 w':=by
 obtain⟨i101,hi,hz,hsz,hby⟩:=info_parts Z7;have HI:=hid hi;have HZ:=hid hz;have HSZ:=hid hsz;have HBY:=hid hby;obtain⟨ab,rfl,hab,hcs⟩:=hs h0;have HCS:=hid hcs;have HOK:=hid hok;have HLV:=hid hlv;have HB0:=hid hB0;have HROW0:=hid hrow;obtain⟨va,vc,rfl⟩:=B0 hrow;have hw0:w0.heap.size≤w.heap.size:=hB0.size;have hvb:∀b,(Value.slice va l.length vc).ownBlock=some b→b < w.heap.size:=fun b hb=>(hrow.lt b hb).2
 have HVB:=hid hvb;obtain⟨i4,hi4,hz4,hs4,hb4⟩:=info_parts a6q;have HMK:Hid (∀W:World,(Instr.makeSlice 71 (.int .i64 (obs.length:Int)) (.int .i64 (obs.length:Int))).run Tryz.prog W=.ok (.slice (some ⟨W.heap.size,0,none⟩) obs.length obs.length) (W.alloc (.cells (madeCells #[.bool false] obs.length) 4))):=fun W=>by
  have hr:=run_make (P:=Tryz.prog) W 71 4 i4 _ Tryz.underlying71 hi4 hz4 .i64 .i64 obs.length obs.length Q8 (Int.le_refl _) (by rw [hb4];omega) Q8;simpa [hs4,Value.cells] using hr
 have hkn:(w.alloc (.cells (madeCells #[.bool false] obs.length) 4)).ownsRow w0.heap.size 4 1 (.slice (some ⟨w.heap.size,0,none⟩) obs.length obs.length) obs.length (bI obs.length []):=by
  have:=World.ownsRow_lit (base:=w0.heap.size) (e:=4) (size:=1) w (madeCells #[.bool false] obs.length) obs.length hw0 Q0 (by rw [size_madeCells];simp);rw[rQ] at this;simpa using this
 have HKN:=hid hkn;have hmk:=HMK.out;obtain⟨rb,hrb⟩:∃rb,rb=w.heap.size:=⟨_,rfl⟩
 clear hs hcs hok hlv hrow hB0 hi hz hsz hby hvb hi4 hz4 hs4 hb4 hkn HMK;go_enter Tryz.func16,Tryz.ntmps16;go_wp2_with fail;go_loopw [1,6,7] (fun vr vn vi wr=>∃(i:Nat) (met:List Nat) (q:List Val),vi=.int .i64 i∧vn=.int .i64 (met.length:Int)∧i≤q.length∧gB obs l i met q∧(∀u,u∈q→VOk obs u)∧wr.ownsRow w0.heap.size 73 2 vr q.length (A5 q)∧vr.ownBlock≠some w.heap.size∧wr.ownsRow w0.heap.size 4 1 (.slice (some ⟨w.heap.size,0,none⟩) obs.length obs.length) obs.length (bI obs.length met)∧Below w0.heap.size w0 wr) (fun _ _ vi _=>40000 - (intOf vi).toNat)
 case atStart=>exact ⟨0,[],l,rfl,rfl,Nat.zero_le _,gB.begin _ _,HLV.out,HROW0.out.alloc _,fun e=>Nat.lt_irrefl _ (HVB.out _ e),HKN.out,Below.alloc HB0.out hw0 _⟩
 case round =>
  obtain⟨i,met,q,rfl,rfl,hiq,hq,hvq,hrow,hne,hkn,hbel⟩:=hrel;clear hmk HKN HROW0 HVB HB0;have hml:=K5 hq.nodup hq.lt;have hql:=hq.len;have hq3:q.length≤30500:=by omega
  obtain⟨ra,rc,rfl⟩:=B0 hrow;by_cases hlt:i < q.length
  ·obtain ⟨x,hx⟩:∃x,q[i]?=some x:=⟨_,List.getElem?_eq_getElem hlt⟩
   obtain⟨qb,qc,e,hqB,hqb⟩:=hrow.form Q8
   cases e;have hcell:∀j,j < 2→wr.cell? ⟨qb,i*2+j,none⟩=(N0 x)[j]?:=fun j hj=>by
    rw[hrow.cellAt _ Q8];exact C3 E7 hx hj
   have x0:wr.cell? ⟨qb,i*2,none⟩=some (.int .u8 x.1):=hcell 0 Q8;have x1:wr.cell? ⟨qb,i*2+1,none⟩=some (.int .i64 x.2):=hcell 1 Q8;have hvx:=hvq x (List.mem_of_getElem? hx);have hwr:w0.heap.size≤wr.heap.size:=hbel.size;have HQ:=hid hq;have HVQ:=hid hvq;have HROW:=hid hrow;have HNE:=hid hne;have HKN:=hid hkn;have HBEL:=hid hbel;have HX:=hid hx;by_cases h2:x.1=2
   ·obtain ⟨q0,o,ho,hno⟩:=hvx.ref h2
    obtain⟨j,hj⟩:=Int.eq_ofNat_of_zero_le q0;have hjt:x.2.toNat=j:=by rw [hj];rfl
    rw[hjt] at ho;have hjN:j < obs.length:=(List.getElem?_eq_some_iff.1 ho).1;rw[h2] at x0;rw[hj] at x1;have kc:wr.cell? ⟨w.heap.size,j,none⟩=some (.bool (decide (j∈met))):=by
     rw[hkn.cellAt j Q8];unfold bI;rw[List.getElem?_map,List.getElem?_range hjN];rfl
    have kz:=hkn.frozenAt j;have hrw:w.heap.size < wr.heap.size:=(hkn.lt _ rfl).2;have hqn:qb≠w.heap.size:=fun e=>hne (by rw [← e];rfl)
    have hok:=HOK.out o (List.mem_of_getElem? ho);have h12:o.2.length≤12:=by
     rcases hok with ⟨_,e⟩ | ⟨_,e,_⟩ | ⟨_,e,_⟩ | ⟨_,u,e,_⟩
     ·rw [e];simp
     ·omega
     ·exact e
     ·rw [e];simp
    have HOKV:Hid (∀u,u∈o.2→VOk obs u):=fun u hu=>hok.vals hu
    by_cases hin:j∈met
    ·have hd:decide (j∈met)=true:=decide_eq_true hin
     rw[hd] at kc;have HSK:=hid (hq.skip hx fun _=>by rw [hjt];exact hin);clear hq hvq hrow hne hkn hbel hx hcell hvx;go_wp2_with fail;go_roundw
     case rel=>exact ⟨i+1,met,q,by go_num,rfl,by omega,HSK.out,HVQ.out,HROW.out.alloc _,HNE.out,HKN.out.alloc _,Below.alloc HBEL.out hwr _⟩
     case measure=>simp [intOf];omega
    ·have hd:decide (j∈met)=false:=decide_eq_false hin
     rw[hd] at kc;obtain⟨k0,fa,fc,k1,hfl⟩:=HCS.out j o ho;have ab0:=(hbel.cell (p:=⟨ab,_,none⟩) hab).trans k0;have ab1:=(hbel.cell (p:=⟨ab,_,none⟩) hab).trans k1;have haw:ab < wr.heap.size:=Nat.lt_of_lt_of_le hab hwr;have habn:ab≠w.heap.size:=by omega
     have HMT:=hid (hq.meet hx h2 (by rw [hjt];exact hin) (by rw [hjt];exact ho) h12);rw[hjt] at HMT;have hK1:((wr.setCell ⟨w.heap.size,j,none⟩ (.bool true)).alloc (.cells #[.int .u8 2,.int .i64 (j:Int)] 73)).ownsRow w0.heap.size 4 1 (.slice (some ⟨w.heap.size,0,none⟩) obs.length obs.length) obs.length (bI obs.length (met++[j])):=by
      have h1:=(World.ownsRow.stored hkn j (.bool true)).1;rw[rN hjN] at h1;exact h1.alloc _
     have hR1:((wr.setCell ⟨w.heap.size,j,none⟩ (.bool true)).alloc (.cells #[.int .u8 2,.int .i64 (j:Int)] 73)).ownsRow w0.heap.size 73 2 (.slice (some ⟨qb,0,none⟩) q.length rc) q.length (A5 q):=(ownsRow_setCell_other hrow (a:=⟨w.heap.size,j,none⟩) hne _).alloc _;have hB1:Below w0.heap.size w0 ((wr.setCell ⟨w.heap.size,j,none⟩ (.bool true)).alloc (.cells #[.int .u8 2,.int .i64 (j:Int)] 73)):=Below.alloc (Below.setCell hbel (p:=⟨w.heap.size,j,none⟩) hw0 _) (by simpa using hwr) _
     have HSRC:=hid ((hfl.later hB1).src);have HK1:=hid hK1;have HR1:=hid hR1;have HB1:=hid hB1;clear hq hvq hrow hne hkn hbel hx hcell hvx hfl hK1 hR1 hB1 k0 k1;by_cases h3:o.1=3
     ·rw [if_pos h3,List.append_nil] at HMT
      rw[h3] at ab0;go_wp2_with fail;go_roundw
      case rel=>exact ⟨i+1,met++[j],q,by go_num,by rw [List.length_append];go_num,by omega,HMT.out,HVQ.out,HR1.out,HNE.out,HK1.out,HB1.out⟩
      case measure=>simp [intOf];omega
     ·rw [if_neg h3] at HMT
      go_wp2_with (at_builtin;go_must (refine C8 _ rfl (.tmp 57) (.tmp 63) 45 rfl w0.heap.size 73 i101 _ 2 16 Tryz.underlying45 HI.out HZ.out HSZ.out HBY.out rfl Q7 _ q.length (A5 q) rfl HR1.out fa o.2.length fc (A5 o.2) rfl (K1 _) HSRC.out (bQ _) Q0 Q8 Q5 ?_))
      intro v2 w2 hown2 hgrow2 hat2;have HB2:=hid (zM HB1.out HR1.out hgrow2);have HO2:=hid hown2;have HK2:Hid (w2.ownsRow w0.heap.size 4 1 (.slice (some ⟨w.heap.size,0,none⟩) obs.length obs.length) obs.length (bI obs.length (met++[j]))):=HK1.out.kept hgrow2 (Or.inr (fun e=>HNE.out e.symm));have HN2:Hid (v2.ownBlock≠some w.heap.size):=fun e=>by
       rcases hat2 _ e with h | h
       ·exact HNE.out h
       ·first | omega | (simp at h;omega)
      clear hown2 hgrow2 hat2;go_wp2_with fail;go_roundw
      case rel=>exact ⟨i+1,met++[j],q++o.2,by go_num,by rw [List.length_append];go_num,by rw [List.length_append];omega,HMT.out,fun u hu=>(List.mem_append.1 hu).elim (HVQ.out u) (HOKV.out u),by rw [List.length_append,V5];exact HO2.out,HN2.out,HK2.out,HB2.out⟩
      case measure=>simp [intOf];omega
   ·have HSK:=hid (hq.skip hx fun e=>absurd e h2)
    clear hq hvq hrow hne hkn hbel hx hcell hvx;go_wp2_with fail;go_roundw
    case rel=>exact ⟨i+1,met,q,by go_num,rfl,by omega,HSK.out,HVQ.out,HROW.out.alloc _,HNE.out,HKN.out.alloc _,Below.alloc HBEL.out hwr _⟩
    case measure=>simp [intOf];omega
  ·obtain rfl:i=q.length:=by omega
   have hwh:=hq.whole (fun o ho _ hv h2=>((HOK.out o ho).vals hv).lt h2) (fun u hu h2=>(HLV.out u hu).lt h2);have HBEL:=hid hbel;clear hq hvq hrow hne hkn hbel;rw[hwh];go_wp2_with fail;go_ret;exact⟨rfl,HBEL.out⟩
theorem HM.obs_fl {w0 w:World} {own:Own} {ma:Nat} {g:PgR} {R:McR} {s:McA} (h:HM w0 w own ma g R s):R.obs.map ObR.abs=s.obs∧R.obs.length=s.obs.length∧∀o,o∈R.obs→o.fl.length≤1000:=by
 obtain⟨rfl,_⟩:=h.is;refine⟨rfl,by simp [McR.abs],fun o ho=>?_⟩;have:OOk R.abs.obs o.abs:=h.inv.obs o.abs (List.mem_map.2 ⟨o,ho,rfl⟩);rcases this with ⟨_,e⟩ | ⟨_,e,_⟩ | ⟨_,e,_⟩ | ⟨_,u,e,_⟩
 ·have:o.fl=[]:=e
  rw[this];simp
 ·have:o.fl.length≤8:=e
  omega
 ·have:o.fl.length≤12:=e
  omega
 ·have:o.fl=[u]:=e
  rw[this];simp
theorem HM.heap {w0 w:World} {own:Own} {ma:Nat} {g:PgR} {R:McR} {s:McA} (h:HM w0 w own ma g R s) :
  Calls Tryz.prog 17 #[.pointer (some ⟨ma,0,none⟩)] w fun e w'=>iO s.obs w e w':=by
 obtain⟨e1,e2,e3⟩:=h.obs_fl;have hcp:=h.inv.cap;have HC:Hid (Calls Tryz.prog 34 #[.pointer (some ⟨ma,4,none⟩)] w fun e w'=>iO s.obs w e w'):=by
  have:=tD h.m Q8 Q8 e3;rw[e1] at this;exact hid this
 have hmb:ma < w.heap.size:=h.m.lt ma _ h.m.me;clear h e1 e2 e3 hcp;go_enter Tryz.func17,Tryz.ntmps17;go_wp2_with (go_at_call 34;refine HC.out.mono ?_;rintro e w2 ⟨⟨a,c,rfl,ho⟩,hb⟩)
 go_ret;exact⟨⟨a,c,rfl,ho⟩,hb⟩
theorem HM.frames {w0 w:World} {own:Own} {ma:Nat} {g:PgR} {R:McR} {s:McA} (h:HM w0 w own ma g R s) (hp:F2 g) :
  Calls Tryz.prog 19 #[.pointer (some ⟨ma,0,none⟩)] w fun e w'=>kX s.frs w e w':=by
 obtain⟨e0,_⟩:=h.is;have hk:Z0 R:=by
  have:=h.inv;rw[← e0] at this;exact this.heapOk hp
 have HC:Hid (Calls Tryz.prog 35 #[.pointer (some ⟨ma,3,none⟩)] w fun e w'=>kX s.frs w e w'):=by
  have:=oO h.m hk.frn hk.fr;rw[show R.frs.map FrR.abs=s.frs by rw [← e0];rfl] at this;exact hid this
 have hmb:ma < w.heap.size:=h.m.lt ma _ h.m.me;clear h e0 hk;go_enter Tryz.func19,Tryz.ntmps19;go_wp2_with (go_at_call 35;refine HC.out.mono ?_;rintro e w2 ⟨⟨a,c,rfl,ho⟩,hb⟩)
 go_ret;exact⟨⟨a,c,rfl,ho⟩,hb⟩
theorem C1.frs_len {g:PgR} (hp:F2 g) {w0 w:World} {own:Own} {ma:Nat} {R:McR} {s:McA} (h:HM w0 w own ma g R s):∀f,f∈s.frs→f.loc.length≤1000∧f.stk.length≤1000:=by
 obtain⟨e0,_⟩:=h.is;have hk:Z0 R:=by
  have:=h.inv;rw[← e0] at this;exact this.heapOk hp
 intro f hf;rw[← e0] at hf;obtain⟨r,hr,rfl⟩:=List.mem_map.1 hf;exact hk.fr r hr
theorem a5s {g:PgR} {s:McA} (h:C1 g s):∀u,u∈D5 s.frs→VOk s.obs u:=fun u hu=>by
 obtain⟨f,hf,hv⟩:=N1.1 hu;exact h.vals f hf u hv
theorem mO.frozen {own:Own} {w w':World} (h:mO own w w') {b i:Nat} (hb:b < w.heap.size) (ho:own b=none) (hc:w.frozen? ⟨b,i,none⟩=false):w'.frozen? ⟨b,i,none⟩=false:=by
 rw[World.frozen?_of_block (w:=w) (a:=⟨b,i,none⟩) (h.2 b hb ho)];exact hc
end Go.Proofs.YtbkmgoffiigdbabGreatDoor
