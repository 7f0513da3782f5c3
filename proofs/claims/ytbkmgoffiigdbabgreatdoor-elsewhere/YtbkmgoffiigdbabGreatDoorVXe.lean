import Derived.Test.YtbkmgoffiigdbabGreatDoorVXd
namespace Go.Proofs.YtbkmgoffiigdbabGreatDoor
open Go.RowKit Go.Sort
set_option maxHeartbeats 4000000
set_option maxRecDepth 100000
structure pO (R:McR):Prop where
 n:R.obs.length≤1000
 refs:∀o,o∈R.obs→bF R.obs.length o.fl∧o.fl.length≤1000
 frn:R.frs.length≤1000
 fr:∀f,f∈R.frs→f.loc.length≤1000∧f.stk.length≤1000
 roots:bF R.obs.length (I5 R.frs)
theorem xG {own:Own} {mb:Nat} {g:PgR} {R:McR} {w:World} (h:A3 w own mb g R) (hn:R.obs.length≤1000) (hob:∀o,o∈R.obs→bF R.obs.length o.fl∧o.fl.length≤1000) (a:Option Addr) (l:List Val) (c:Nat) (hl:l.length≤3000000) (hs:O1 w w.heap.size a l) (hr:bF R.obs.length l) :
  Calls Tryz.prog 91 #[.pointer (some ⟨mb,4,none⟩),.slice a l.length c] w fun e w'=>Y3 (E3 (R.obs.map ObR.abs) l) w e w':=by
 have c4:=h.c4;have hmb:mb < w.heap.size:=h.lt mb _ h.me;obtain⟨hsa,hc,e⟩:=B0 h.slots.1;rw[e] at c4;obtain⟨i4,hi,hz,hsz,hby⟩:=info_parts a6q;have HMK:Hid (∀W:World,(Instr.makeSlice 71 (.int .i64 (R.obs.length:Int)) (.int .i64 (R.obs.length:Int))).run Tryz.prog W=.ok (.slice (some ⟨W.heap.size,0,none⟩) R.obs.length R.obs.length) (W.alloc (.cells (madeCells #[.bool false] R.obs.length) 4))):=by
  intro W;have hr:=run_make (P:=Tryz.prog) W 71 4 i4 _ Tryz.underlying71 hi hz .i64 .i64 R.obs.length R.obs.length Q8 (Int.le_refl _) (by rw [hby];omega) Q8;simpa [hsz,Value.cells] using hr
 have hmk:=HMK.out;have HBEG:=hid (rS w R.obs.length hn);have hB0:Below w.heap.size w (((w.alloc (.cells #[.slice none 0 0] 22)).alloc (.cells (madeCells #[.bool false] R.obs.length) 4)).alloc (.cells #[.slice (some ⟨w.heap.size+1,0,none⟩) R.obs.length R.obs.length] 71)):=P0
 have HB0:=hid hB0;have HH:=hid h;have HE:=hid e;have HOB:=hid hob;have HS:Hid (∀W,Below w.heap.size w W→O1 W w.heap.size a l):=fun W hW h0=>by
  obtain⟨b,h1,h2,h3⟩:=hs h0;refine⟨b,h1,h2,fun i x hx=>?_⟩;rw[hW.cell (p:=⟨b,_,none⟩) h2,hW.cell (p:=⟨b,_,none⟩) h2];exact h3 i x hx
 have HR:=hid hr;clear hi hz hsz hby HMK h e hob hs hr hB0;go_enter Tryz.func91,Tryz.ntmps91;go_wp2_with fail;refine (lU w.heap.size R.obs.length w.heap.size (w.heap.size+1+1) (w.heap.size+1) _ [] _ HBEG.out hn ⟨List.nodup_nil,by simp⟩ a l c hl (HS.out _ HB0.out) HR.out HB0.out.size).mono ?_;rintro e w2 ⟨rfl,⟨mv2,hm2⟩,hb2⟩;have HM2:=hid hm2;have hB2:Below w.heap.size w w2:=HB0.out.trans hb2;have HB2:=hid hB2
 clear hm2 hb2 hB2 hmk c4 HBEG HB0;go_wp2_with fail;go_loopw [8] (fun vi wr=>∃(i:Nat) (met:List Nat),i≤R.obs.length∧vi=.int .i64 i∧(∃mv',U9 wr w.heap.size R.obs.length w.heap.size (w.heap.size+1+1) (w.heap.size+1) mv' met)∧met.Nodup∧(∀j,j∈met→j < R.obs.length)∧K6 (R.obs.map ObR.abs) (R.obs.length - i) i met=E3 (R.obs.map ObR.abs) l∧Below w.heap.size w wr) (fun vi _=>R.obs.length - (intOf vi).toNat)
 case atStart=>exact ⟨0,G2 [] l,Nat.zero_le _,rfl,⟨mv2,HM2.out⟩,U0 _ _ List.nodup_nil,cE Q9 fun v hv h2=>(HR.out v hv h2).2,by simp [E3],HB2.out⟩
 case round =>
  obtain⟨i,met,hi,rfl,⟨mv',hm⟩,hnd,hlt',hwk,hbel⟩:=hrel;have hml:=K5 hnd hlt';obtain⟨ma,mc,hmv⟩:∃ma mc,mv'=.slice ma met.length mc:=by
   rcases hm.row.2 with ⟨e,e0⟩ | ⟨gb,cap,_,e,_⟩
   ·exact ⟨none,0,by rw [e,e0]⟩
   ·exact ⟨_,_,e⟩
  subst hmv;have t0:=hm.t0;have hwr:w.heap.size < wr.heap.size:=hm.tB.2;have hws:=hbel.size;have HM:=hid hm;have HBEL:=hid hbel;have HND:=hid hnd;have HLT:=hid hlt';have HWK:=hid hwk;by_cases hlti:i < met.length
  ·obtain ⟨j,hj⟩:∃j,met[i]?=some j:=⟨_,List.getElem?_eq_getElem hlti⟩
   have hjl:j < R.obs.length:=hlt' j (List.mem_of_getElem? hj);obtain⟨o,ho⟩:∃o,R.obs[j]?=some o:=⟨_,List.getElem?_eq_getElem hjl⟩
   obtain⟨gb,gc,hme,_,hgb⟩:=hm.row.form Q8
   cases hme;have mc0:wr.cell? ⟨gb,i,none⟩=some (.int .i64 (j:Int)):=by
    rw[hm.row.cellAt i Q8];unfold T4;rw[List.getElem?_map,hj];rfl
   have hmW:=HH.out.same hbel.size fun k hk=>hbel.block k hk
   obtain⟨hb',hc',fa,fc,he',_,hl',hfv,k0,k1⟩:=hmW.slot ho;rw[HE.out] at he'
   cases he';have m4:=hmW.c4;rw[HE.out] at m4;have hmbr:mb < wr.heap.size:=hmW.lt mb _ hmW.me;have HSTEP:Hid (K6 (R.obs.map ObR.abs) (R.obs.length - (i+1)) (i+1) (if o.kind=3 then met else G2 met o.fl)=E3 (R.obs.map ObR.abs) l):=by
    refine hid ?_;rw[← hwk,show R.obs.length - i=(R.obs.length - (i+1))+1 by omega,K6,hj];simp only[List.getElem?_map,ho,Option.map_some];rfl
   have HFL:=hid (HOB.out o (List.mem_of_getElem? ho));have HVI:Hid (∀W,Below wr.heap.size wr W→O1 W w.heap.size fa o.fl):=fun W hW h0=>by
    have hfd:=HH.out.fld j o ho;obtain⟨fb,fc',hfe,_,hfb⟩:=hfd.1.form h0;rw[hfv] at hfe
    cases hfe;have hrow:=hfd.1;rw[hfv] at hrow;refine⟨fb,rfl,hfb,fun t x hx=>?_⟩;have htl:=(List.getElem?_eq_some_iff.1 hx).1;have hcell:∀q,q < 2→W.cell? ⟨fb,t*2+q,none⟩=(N0 x)[q]?:=fun q hq=>by
     rw[hW.cell (p:=⟨fb,_,none⟩) (Nat.lt_of_lt_of_le hfb hws),HBEL.out.cell (p:=⟨fb,_,none⟩) hfb,hrow.cellAt _ Q8];exact C3 E7 hx hq
    exact⟨hcell 0 Q8,hcell 1 Q8⟩
   have HMEET:Hid (∀W c,Below wr.heap.size wr W→U9 W w.heap.size R.obs.length w.heap.size (w.heap.size+1+1) (w.heap.size+1) (.slice (some ⟨gb,0,none⟩) met.length mc) met→Calls Tryz.prog 123 #[.slice fa o.fl.length c,.pointer (some ⟨w.heap.size+1+1,0,none⟩),.pointer (some ⟨w.heap.size,0,none⟩)] W fun e w'=>e=.returned (.tuple #[])∧(∃mv',U9 w' w.heap.size R.obs.length w.heap.size (w.heap.size+1+1) (w.heap.size+1) mv' (G2 met o.fl))∧Below w.heap.size W w'):=fun W c hW hmW=>lU _ _ _ _ _ _ met W hmW hn ⟨hnd,hlt'⟩ fa o.fl c (by have:=HFL.out.2;omega) (HVI.out W hW) HFL.out.1 (Nat.le_trans hws hW.size)
   clear hm hbel hnd hlt' hwk hmW hfv hj ho;go_wp2_with fail;go_region
   all_goals
    by_cases h3:o.kind=3
    ·rw [if_pos h3] at HSTEP
     have h3':(o.kind != 3)=false:=by rw [h3];rfl
     go_wp2_with fail;go_roundw
     case rel=>exact ⟨i+1,met,by omega,by go_num,⟨_,(HM.out.alloc _).drew⟩,HND.out,HLT.out,HSTEP.out,Below.drew (Below.alloc HBEL.out hws _)⟩
     case measure=>simp [intOf];omega
    ·rw [if_neg h3] at HSTEP
     have h3':(o.kind != 3)=true:=bne_iff_ne.2 h3;go_wp2_with (go_at_call 123;refine (HMEET.out _ _ ?_ ?_).mono ?_;exact P0;exact (HM.out.alloc _).drew;rintro e w3 ⟨rfl,⟨mv3,hm3⟩,hb3⟩;have HM3:=hid hm3;have HB3:Hid (Below w.heap.size w w3):=Below.trans (Below.drew (Below.alloc HBEL.out hws _)) hb3;clear hm3 hb3)
     go_roundw
     case rel=>exact ⟨i+1,_,by omega,by go_num,⟨_,HM3.out⟩,U0 _ _ HND.out,cE HLT.out fun v hv h2=>(HFL.out.1 v hv h2).2,HSTEP.out,HB3.out⟩
     case measure=>simp [intOf];omega
  ·clear hm hbel hnd hlt' hwk
   go_wp2_with fail;go_ret;refine⟨_,rfl,?_,HBEL.out⟩;rw[← HWK.out,sU Q8];exact HM.out.row
theorem a0Y {own:Own} {mb:Nat} {g:PgR} {R:McR} {w:World} (h:A3 w own mb g R) (ho:pO R) :
  Calls Tryz.prog 55 #[.pointer (some ⟨mb,0,none⟩)] w fun e w'=>Y3 (A0 R.abs) w e w':=by
 have hal:A0 R.abs=E3 (R.obs.map ObR.abs) (I5 R.frs):=by
  unfold A0;rw[← eA];rfl
 rw[hal];have HV:Hid (∀W,Below w.heap.size w W→Calls Tryz.prog 92 #[.pointer (some ⟨mb,3,none⟩)] W fun e w'=>eQ (I5 R.frs) W e w'):=fun W hW=>oK (h.same hW.size fun k hk=>hW.block k hk) ho.frn ho.fr
 have hvl:(I5 R.frs).length≤3000000:=by
  have:=oJ R.frs 1000 ho.fr;have h2:R.frs.length*(2*1000)≤1000*(2*1000):=Nat.mul_le_mul_right _ ho.frn;omega
 have HRE:Hid (∀U W v,Below w.heap.size w U→Below U.heap.size U W→W.ownsRow U.heap.size 73 2 v (I5 R.frs).length (A5 (I5 R.frs))→Calls Tryz.prog 91 #[.pointer (some ⟨mb,4,none⟩),v] W fun e w'=>Y3 (E3 (R.obs.map ObR.abs) (I5 R.frs)) w e w'):=by
  intro U W v hU hW hown;have hB:=A1 hW hU;obtain⟨a,c,rfl,hvi⟩:=O1.of_owns hown (Nat.le_refl _);refine (xG (h.same hB.size fun k hk=>hB.block k hk) ho.n ho.refs a _ c hvl hvi ho.roots).mono ?_;rintro e w' ⟨v,rfl,hv,hb⟩;exact⟨v,rfl,C5 hv hB.size,A1 hb hB⟩
 clear h ho hal hvl;generalize E3 (R.obs.map ObR.abs) (I5 R.frs)=met at *
 go_enter Tryz.func55,Tryz.ntmps55;go_wp2_with fail;go_region_with (first | (go_at_call 92;refine (HV.out _ ?_).mono ?_;exact P0;rintro e w2 ⟨v2,rfl,hv2,hb2⟩;have HR2:=hid (HRE.out _ w2 v2 P0 hb2 hv2);clear hv2 hb2) | (go_at_call 91;refine HR2.out.mono ?_;rintro e w3 ⟨v3,rfl,hv3,hb3⟩;have HV3:=hid hv3;have HB3:=hid hb3;clear hv3 hb3))
 all_goals
  go_wp2_with fail;go_ret;exact⟨v3,rfl,HV3.out,HB3.out⟩
theorem a4l (n:Int) (w:World):Calls Tryz.prog 151 #[.int .i64 n] w fun e w'=>e=.returned (.bool false)∧w'=w:=by
 go_enter Tryz.func151,Tryz.ntmps151;go_wp2_with fail;go_ret;exact⟨by simp,rfl⟩
theorem nV (m n:Int) (w:World):Calls Tryz.prog 141 #[.int .i64 m,.int .i64 n] w fun e w'=>e=.returned (.bool (decide (m < n)))∧w'=w:=by
 go_enter Tryz.func141,Tryz.ntmps141;go_wp2_with (go_at_call 151;refine (a4l _ _).mono ?_;rintro e w' ⟨rfl,rfl⟩)
 go_ret;exact⟨rfl,rfl⟩
def mN (al:List Nat):Prop:=∀i x y,al[i]?=some x→al[i+1]?=some y→x≤y
theorem wQ {W:World} {base:Nat} {a:Option Addr} {c:Nat} {al:List Nat} (hr:W.ownsRow base 3 1 (.slice a al.length c) al.length (T4 al)) (hn:al.length≤100000) :
  Calls Tryz.prog 119 #[.slice a al.length c] W fun e w'=>∃b,e=.returned (.bool b)∧Below W.heap.size W w'∧(b=true↔mN al):=by
 have HR:=hid hr;clear hr;go_enter Tryz.func119,Tryz.ntmps119;go_wp2_with fail;go_loopw [3] (fun v wr=>∃i:Int, -1≤i∧i < al.length∧v=.int .i64 i∧Below W.heap.size W wr∧∀(j x y:Nat),i≤j→al[j]?=some x→al[j+1]?=some y→x≤y) (fun v _=>(intOf v+1).toNat)
 case atStart=>exact ⟨(al.length:Int) - 1,by omega,by omega,by go_num,Below.refl _ _,fun j x y hj hx hy=>by have:=(List.getElem?_eq_some_iff.1 hy).1;omega⟩
 case round =>
  obtain⟨i,hi1,hi2,rfl,hbel,hso⟩:=hrel;have HBEL:=hid hbel;have HSO:=hid hso;clear hso hbel;by_cases hi0:0 < i
  ·obtain ⟨p,rfl⟩:∃p:Nat,i=(p:Int)+1:=⟨(i - 1).toNat,by omega⟩
   obtain⟨hb,hc,e,_,hlt⟩:=HR.out.form Q8
   injection e with e1 e2 e3
   subst e1 e3;clear e2;have hpm:p+1 < al.length:=by omega
   obtain⟨y,hy⟩:∃y,al[p+1]?=some y:=⟨_,List.getElem?_eq_getElem hpm⟩
   obtain⟨x,hx⟩:∃x,al[p]?=some x:=⟨_,List.getElem?_eq_getElem Q8⟩
   have k0:wr.cell? ⟨hb,p+1,none⟩=some (.int .i64 (y:Int)):=by
    rw[HBEL.out.cell (p:=⟨hb,_,none⟩) hlt,HR.out.cellAt (p+1) Q8];unfold T4;rw[List.getElem?_map,hy];rfl
   have k1:wr.cell? ⟨hb,p,none⟩=some (.int .i64 (x:Int)):=by
    rw[HBEL.out.cell (p:=⟨hb,_,none⟩) hlt,HR.out.cellAt p Q8];unfold T4;rw[List.getElem?_map,hx];rfl
   have hlw:hb < wr.heap.size:=Nat.lt_of_lt_of_le hlt HBEL.out.size;have HX:=hid hx;have HY:=hid hy;have hb1:(0:Int)≤(p:Int)+1:=by omega
   have hb2:(p:Int)+1 < (al.length:Int):=by omega
   have hb3:(p:Int) < (al.length:Int):=by omega
   have hb4:p < al.length:=by omega
   have hb5:(0:Int)≤(p:Int):=by omega
   have hw1:IntKind.i64.wrap (p:Int)=(p:Int):=Go.IntWalk.i64_in _ Q8;have hw2:IntKind.i64.wrap ((p:Int)+1 - 1)=(p:Int):=by rw [show (p:Int)+1 - 1=p by omega];exact hw1
   clear hx hy hi1 hi2 hi0;by_cases hxy:(y:Int) < (x:Int)
   ·have hno:¬mN al:=fun h=>by
     have:=h p x y HX.out HY.out;omega
    have HNO:=hid hno;clear hno;go_wp2_with fail;go_region_held3 (fun u=>u.cell? ⟨hb,p+1,none⟩=some (.int .i64 (y:Int))∧u.cell? ⟨hb,p,none⟩=some (.int .i64 (x:Int))) (first | go_keep | exact ⟨k0,k1⟩) (first | (go_at_call 141;refine (nV _ _ _).mono ?_;rintro e w' ⟨rfl,rfl⟩))
    all_goals
     go_wp2_with fail;go_ret
     first | exact ⟨false,rfl,Below.drew HBEL.out,⟨(fun h=>by cases h),fun h=>absurd h HNO.out⟩⟩ | exact ⟨Below.drew HBEL.out,HNO.out⟩
   ·go_wp2_with fail
    go_region_held3 (fun u=>u.cell? ⟨hb,p+1,none⟩=some (.int .i64 (y:Int))∧u.cell? ⟨hb,p,none⟩=some (.int .i64 (x:Int))) (first | go_keep | exact ⟨k0,k1⟩) (first | (go_at_call 141;refine (nV _ _ _).mono ?_;rintro e w' ⟨rfl,rfl⟩))
    all_goals
     go_wp2_with fail;go_roundw
     case rel=>exact ⟨(p:Int),by omega,by omega,rfl,Below.drew HBEL.out,fun j x' y' hj hx' hy'=>by
      by_cases e:j=p
      ·subst e
       rw[HX.out] at hx';rw[HY.out] at hy'
       cases hx'
       cases hy';omega
      ·exact HSO.out j x' y' Q8 hx' hy'⟩
     case measure=>simp [intOf];omega
  ·have hall:∀b:Bool,b=true→(b=true↔mN al):=fun b hb=>⟨fun _ j x y hx hy=>HSO.out j x y Q8 hx hy,fun _=>hb⟩
   have HALL:=hid hall;clear hall;have hi0':i≤0:=by omega
   clear hi0;go_wp2_with fail;go_ret
   first | exact ⟨true,rfl,HBEL.out,HALL.out true rfl⟩ | exact ⟨HBEL.out,(HALL.out true rfl).1 rfl⟩
def a2Q (R:McR):Prop:=∀q v l t,J3 R q v l t→bF R.obs.length l
structure a5F (R:McR):Prop where
 n:R.obs.length≤1000
 frn:R.frs.length≤1000
 len:∀q v l t,J3 R q v l t→l.length≤1000
 pos:∀q v l t,J3 R q v l t→∀x,x∈l→x.1=2→0≤x.2
theorem a5F.free {R:McR} (h:a5F R) (ha:a2Q R):pO R:=by
 refine⟨h.n,fun o ho=>?_,h.frn,fun f hf=>?_,fun v hv h2=>?_⟩
 ·obtain ⟨j,hj⟩:=List.getElem?_of_mem ho
  have hv:J3 R (R.frs.length*2+j) o.fv o.fl (.fld j):=Or.inr (Or.inr ⟨j,o,hj,rfl,rfl,rfl,rfl⟩);exact⟨ha _ _ _ _ hv,h.len _ _ _ _ hv⟩
 ·obtain ⟨i,hi⟩:=List.getElem?_of_mem hf
  exact⟨h.len _ _ _ _ (Or.inl ⟨i,f,hi,rfl,rfl,rfl,rfl⟩),h.len _ _ _ _ (Or.inr (Or.inl ⟨i,f,hi,rfl,rfl,rfl,rfl⟩))⟩
 ·unfold I5 at hv
  obtain⟨f,hf,hv⟩:=List.mem_flatMap.1 hv;obtain⟨i,hi⟩:=List.getElem?_of_mem hf;rcases List.mem_append.1 hv with hv | hv
  ·exact ha _ _ _ _ (Or.inl ⟨i,f,hi,rfl,rfl,rfl,rfl⟩) v hv h2
  ·exact ha _ _ _ _ (Or.inr (Or.inl ⟨i,f,hi,rfl,rfl,rfl,rfl⟩)) v hv h2
theorem J3.row {w:World} {own:Own} {mb:Nat} {g:PgR} {R:McR} (h:A3 w own mb g R) {q:Nat} {v:Value} {l:List Val} {t:Tag} (hv:J3 R q v l t):w.ownsRow 0 73 2 v l.length (A5 l):=by
 rcases hv with ⟨i,f,hf,_,rfl,rfl,_⟩ | ⟨i,f,hf,_,rfl,rfl,_⟩ | ⟨j,o,ho,_,rfl,rfl,_⟩
 ·exact (h.loc i f hf).1
 ·exact (h.stk i f hf).1
 ·exact (h.fld j o ho).1
def cB (R:McR):Prop:=a2Q R∧(A0 R.abs).length=R.obs.length∧mN (A0 R.abs)
theorem wP {own:Own} {mb:Nat} {g:PgR} {R:McR} {w:World} (h:A3 w own mb g R) (hk:a5F R) (hal0:a2Q R→(A0 R.abs).length≤1000) :
  Calls Tryz.prog 85 #[.pointer (some ⟨mb,0,none⟩)] w fun e w'=>∃b,e=.returned (.bool b)∧Below w.heap.size w w'∧(b=true↔cB R):=by
 have hmb:mb < w.heap.size:=h.lt mb _ h.me;obtain⟨hsa,hsc,hse⟩:=B0 h.slots.1;have c4:=h.c4;rw[hse] at c4;have HH:=hid h;have HK:=hid hk;have HL:=hid (nD h hk.frn hk.n);have hn:=hk.n;have hfn:=hk.frn;clear h hk hse;generalize hN:R.frs.length*2+R.obs.length=N at *
 have hN3:N≤3000:=by omega
 have HN:=hid hN;clear hN;go_enter Tryz.func85,Tryz.ntmps85;go_wp2_with fail;refine HL.out.mono ?_;rintro e w1 ⟨v,rfl,hrow,hb1⟩;obtain⟨la,lc,rfl⟩:=B0 hrow;have HROW:=hid hrow;have HB1:=hid hb1;have hs1:=hb1.size;clear hrow hb1 HL;go_wp2_with fail;go_loopw [11] (fun vi wr=>∃i:Nat,i≤N∧vi=.int .i64 i∧Below w1.heap.size w1 wr∧∀q v l t,q < i→J3 R q v l t→bF R.obs.length l) (fun vi _=>N - (intOf vi).toNat)
 case atStart=>exact ⟨0,Nat.zero_le _,rfl,Below.refl _ _,fun q v l t hq=>by omega⟩
 case round =>
  obtain⟨i,hi,rfl,hbel,hin⟩:=hrel;have HBEL:=hid hbel;have HIN:=hid hin;have hsr:=hbel.size;clear hbel hin;by_cases hil:i < N
  ·obtain ⟨lb,lcc,e,hlb0,hlb⟩:=HROW.out.form Q8
   injection e with e1 e2 e3
   subst e1 e3;clear e2;obtain⟨v,l,t,hv⟩:=J3.all (R:=R) (q:=i) (by rw [HN.out];exact hil);have hrv:=J3.row HH.out hv;obtain⟨va,vc,rfl⟩:=B0 hrv;have k0:wr.cell? ⟨lb,i,none⟩=some (.slice va l.length vc):=by
    rw[HBEL.out.cell (p:=⟨lb,_,none⟩) hlb,HROW.out.cellAt i Q8];exact hv.get
   have hlw:lb < wr.heap.size:=Nat.lt_of_lt_of_le hlb HBEL.out.size;have hll:=HK.out.len _ _ _ _ hv;have HPOS:=hid (HK.out.pos _ _ _ _ hv);have HV:=hid hv;have HRV:=hid hrv;clear hv hrv;go_wp2_with fail;go_loopw [17] (fun vk wx=>∃k:Nat,k≤l.length∧vk=.int .i64 k∧Below w1.heap.size w1 wx∧bF R.obs.length (l.take k)) (fun vk _=>l.length - (intOf vk).toNat)
   case atStart=>exact ⟨0,Nat.zero_le _,rfl,HBEL.out,fun v hv=>by simp at hv⟩
   case round =>
    obtain⟨k,hk,rfl,hbx,hrx⟩:=hrel;have HBX:=hid hbx;have HRX:=hid hrx;have hsx:=hbx.size;clear hbx hrx;by_cases hkl:k < l.length
    ·obtain ⟨vb,vcc,e,_,hvb⟩:=HRV.out.form Q8
     injection e with e1 e2 e3
     subst e1 e3;clear e2;obtain⟨⟨x1,x2⟩,hx⟩:∃x,l[k]?=some x:=⟨_,List.getElem?_eq_getElem hkl⟩
     have hBw:Below w.heap.size w wr:=HB1.out.trans (HBX.out.mono hs1);have hcell:∀j,j < 2→wr.cell? ⟨vb,k*2+j,none⟩=(N0 (x1,x2))[j]?:=fun j hj=>by
      rw[hBw.cell (p:=⟨vb,_,none⟩) hvb,HRV.out.cellAt _ Q8];exact C3 E7 hx hj
     have x0:wr.cell? ⟨vb,k*2,none⟩=some (.int .u8 x1):=hcell 0 Q8;have x1':wr.cell? ⟨vb,k*2+1,none⟩=some (.int .i64 x2):=hcell 1 Q8;have m4:wr.cell? ⟨mb,4,none⟩=some (.slice hsa R.obs.length hsc):=(hBw.cell (p:=⟨mb,4,none⟩) hmb).trans c4;have hvw:vb < wr.heap.size:=Nat.lt_of_lt_of_le hvb hBw.size;have hmw:mb < wr.heap.size:=Nat.lt_of_lt_of_le hmb hBw.size;have HX:=hid hx;have HTK:Hid (∀k0,k0=k→(x1=2→0≤x2∧x2.toNat < R.obs.length)→bF R.obs.length (l.take (k0+1))):=hid fun k0 e hg u hu h2=>by
      subst e;rw[List.take_add_one,HX.out] at hu;rcases List.mem_append.1 hu with hu | hu
      ·exact HRX.out u hu h2
      ·simp at hu
       subst hu;exact hg h2
     have hp2:=HPOS.out (x1,x2) (List.mem_of_getElem? hx);simp only at hp2;clear hx hcell c4 hBw k0;by_cases h2:x1=2
     ·subst h2
      obtain⟨r,rfl⟩:=Int.eq_ofNat_of_zero_le (hp2 rfl);have HIR:Hid (∀W,Calls Tryz.prog 102 #[.agg #[.int .u8 2,.int .i64 (r:Int)]] W fun e w'=>e=.returned (.bool true)∧∃o,w'=W.alloc o):=hid fun W=>L0 2 r W
      clear hp2;by_cases hrl:r < R.obs.length
      ·have HT2:=hid (HTK.out k rfl fun _=>⟨by omega,by simpa using hrl⟩)
       have hr1:(r:Int) < (R.obs.length:Int):=by omega
       clear HTK;go_wp2_with fail;go_region_with (first | (go_at_call 102;refine (HIR.out _).mono ?_;rintro e w' ⟨rfl,o4,rfl⟩))
       all_goals
        go_wp2_with fail;go_roundw
        case rel=>exact ⟨k+1,by omega,by go_num,(by repeat (first | exact HBX.out | refine Below.drew ?_ | refine Below.drewQ ?_ _ | refine Below.alloc ?_ P6 _)),HT2.out⟩
        case measure=>simp [intOf];omega
      ·have hno:¬cB R:=fun hp=>by
        have:=hp.1 _ _ _ _ HV.out (2,(r:Int)) (List.mem_of_getElem? HX.out) rfl;simp at this;omega
       have HNO:=hid hno;have hr1:(R.obs.length:Int)≤(r:Int):=by omega
       clear HTK hno;go_wp2_with fail;go_region_with (first | (go_at_call 102;refine (HIR.out _).mono ?_;rintro e w' ⟨rfl,o4,rfl⟩))
       all_goals
        go_wp2_with fail;go_ret;exact⟨false,rfl,HB1.out.trans ((by repeat (first | exact HBX.out | refine Below.drew ?_ | refine Below.drewQ ?_ _ | refine Below.alloc ?_ P6 _):Below w1.heap.size w1 _).mono hs1),⟨(fun h=>by cases h),fun h=>absurd h HNO.out⟩⟩
     ·have HT2:=hid (HTK.out k rfl fun e=>absurd e h2)
      have h2':(x1 == 2)=false:=beq_eq_false_iff_ne.2 h2;have HIR:Hid (∀W,Calls Tryz.prog 102 #[.agg #[.int .u8 x1,.int .i64 x2]] W fun e w'=>e=.returned (.bool false)∧∃o,w'=W.alloc o):=hid fun W=>by
       have:=L0 x1 x2 W;rw[h2'] at this;exact this
      clear HTK hp2 h2';go_wp2_with fail
      first | (go_region_with (first | (go_at_call 102;refine (HIR.out _).mono ?_;rintro e w' ⟨rfl,o4,rfl⟩))) | fail
      all_goals
       go_wp2_with fail;go_roundw
       case rel=>exact ⟨k+1,by omega,by go_num,(by repeat (first | exact HBX.out | refine Below.drew ?_ | refine Below.drewQ ?_ _ | refine Below.alloc ?_ P6 _)),HT2.out⟩
       case measure=>simp [intOf];omega
    ·have hfull:bF R.obs.length l:=by have:=HRX.out;rw [List.take_of_length_le Q8] at this;exact this
     have HFU:=hid hfull;clear hfull;go_wp2_with fail;go_roundw
     case rel=>exact ⟨i+1,by omega,by go_num,HBX.out,fun q v l' t' hq hv'=>by
      by_cases e:q=i
      ·subst e
       obtain⟨_,rfl,_⟩:=HV.out.same hv';exact HFU.out
      ·exact HIN.out q v l' t' Q8 hv'⟩
     case measure=>simp [intOf];omega
  ·have hall:a2Q R:=fun q v l t hv=>HIN.out q v l t (by
    have:=(List.getElem?_eq_some_iff.1 hv.get).1;rw[List.length_append,dG] at this;unfold cD at this;rw[List.length_map] at this;have:=HN.out;omega) hv
   have HALL:=hid hall;have hal:=hal0 hall;clear hal0;have hBw:Below w.heap.size w wr:=HB1.out.trans (HBEL.out.mono hs1);have HA:=hid (a0Y (HH.out.same hBw.size fun k hk=>hBw.block k hk) (HK.out.free hall));have m4:wr.cell? ⟨mb,4,none⟩=some (.slice hsa R.obs.length hsc):=(hBw.cell (p:=⟨mb,4,none⟩) hmb).trans c4;have hmw:mb < wr.heap.size:=Nat.lt_of_lt_of_le hmb hBw.size;have HBW:=hid hBw;have HIP:Hid (cB R↔(A0 R.abs).length=R.obs.length∧mN (A0 R.abs)):=hid ⟨fun h=>h.2,fun h=>⟨HALL.out,h⟩⟩
   generalize A0 R.abs=al at *
   clear hall hBw c4 HBEL HIN;go_wp2_with fail;refine HA.out.mono ?_;rintro e w2 ⟨v2,rfl,hv2,hb2⟩;obtain⟨aa,ac,rfl⟩:=B0 hv2;have n4:w2.cell? ⟨mb,4,none⟩=some (.slice hsa R.obs.length hsc):=(hb2.cell (p:=⟨mb,4,none⟩) hmw).trans m4;have hmw2:mb < w2.heap.size:=Nat.lt_of_lt_of_le hmw hb2.size;have HIS:=hid (wQ hv2 Q8);have HB2:=hid (A1 hb2 HBW.out);clear hv2 hb2 m4 HA HBW
   by_cases hlen:al.length=R.obs.length
   ·have hIP:∀b:Bool,(b=true↔mN al)→(b=true↔cB R):=fun b hb=>hb.trans ⟨fun h=>HIP.out.2 ⟨hlen,h⟩,fun h=>(HIP.out.1 h).2⟩
    have HIQ:=hid hIP;clear hIP HIP;rw[hlen] at HIS ⊢;go_wp2_with (go_at_call 119;refine HIS.out.mono ?_;rintro e w3 ⟨b,rfl,hb3,hbs⟩)
    go_ret;exact⟨b,rfl,A1 hb3 HB2.out,HIQ.out b hbs⟩
   ·have hno:¬cB R:=fun h=>hlen (HIP.out.1 h).1
    have HNO:=hid hno;have hl':((al.length:Int) == (R.obs.length:Int))=false:=beq_eq_false_iff_ne.2 Q8;clear hno HIP HIS;go_wp2_with fail;go_ret;exact⟨false,rfl,HB2.out,⟨(fun h=>by cases h),fun h=>absurd h HNO.out⟩⟩
end Go.Proofs.YtbkmgoffiigdbabGreatDoor
