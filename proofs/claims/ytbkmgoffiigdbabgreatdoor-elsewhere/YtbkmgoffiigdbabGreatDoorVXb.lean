import Derived.Test.YtbkmgoffiigdbabGreatDoorVXa
namespace Go.Proofs.YtbkmgoffiigdbabGreatDoor
open Go.RowKit Go.Sort
set_option maxHeartbeats 4000000
set_option maxRecDepth 100000
def M9 (bs:List Int) (s:Rs):(Int × Int) × Rs:=(((C0 bs s).1,(W6 bs (C0 bs s).2).1),(W6 bs (C0 bs s).2).2)
theorem oG (bs:List Int) (s:Rs):gT s (M9 bs s).2:=(kU bs _ s).then (a3a bs _)
theorem a2t {W:World} {rb c:Nat} {a:Option Addr} {bs:List Int} {s:Rs} (h:F7 W rb a c bs s) :
  Calls Tryz.prog 136 #[.pointer (some ⟨rb,0,none⟩)] W fun e w'=>J1 rb a c bs (M9 bs s).2 (.agg #[.int .i64 (M9 bs s).1.1,.int .i64 (M9 bs s).1.2]) W e w':=by
 have hlt:=h.lt;have HW:=hid h;have hB0:Below W.heap.size W (W.alloc (.cells #[.int .i64 0,.int .i64 0] 62)):=Below.alloc (Below.refl _ _) (Nat.le_refl _) _;have HB0:=hid hB0;have HC:=hid (aF (h.later hB0));have HE:Hid (M9 bs s=(((C0 bs s).1,(W6 bs (C0 bs s).2).1),(W6 bs (C0 bs s).2).2)):=hid rfl;generalize M9 bs s=r at *
 generalize C0 bs s=q at *
 clear h hB0;go_enter Tryz.func136,Tryz.ntmps136;go_wp2_with fail;refine HC.out.mono ?_;rintro e w1 ⟨rfl,h1,h2⟩;have y0:w1.cell? ⟨W.heap.size,0,none⟩=some (.int .i64 0):=h2.cell Q9 Q8 Q8 Q6;have y1:w1.cell? ⟨W.heap.size,1,none⟩=some (.int .i64 0):=h2.cell Q9 Q8 Q8 Q6;have f0:w1.frozen? ⟨W.heap.size,0,none⟩=false:=h2.frozen Q9 Q8 Q8 Q6
 have f1:w1.frozen? ⟨W.heap.size,1,none⟩=false:=h2.frozen Q9 Q8 Q8 Q6;have lw1:W.heap.size < w1.heap.size:=by have:=h2.size;simp at this;omega
 have HI:=hid (iG h1);have H2:=hid ((A6.of_below HB0.out).trans h2);generalize W6 bs q.2=t at *
 clear h1 h2 HC HB0;go_wp2_with fail;refine HI.out.mono ?_;rintro e w2 ⟨rfl,h3,h4⟩;have z0:=h4.cell lw1 Q8 Q8 y0;have z1:=h4.cell lw1 Q8 Q8 y1;have g0:=h4.frozen lw1 Q8 Q8 f0;have g1:=h4.frozen lw1 Q8 Q8 f1;have lw2:W.heap.size < w2.heap.size:=Nat.lt_of_lt_of_le lw1 h4.size;have c6:=h3.c6;have hl2:=h3.lt;have H3:=hid h3;have H4:=hid (H2.out.trans h4)
 clear h3 h4 y0 y1 f0 f1 HI H2;go_wp2_with fail;go_region_with (first | (go_at_call 112;refine (uI _ _).mono ?_;rintro e w' ⟨rfl,hw⟩;rw [hw];clear hw w') | (go_at_call 82;refine (aM _ _).mono ?_;rintro e w' ⟨rfl,hw⟩;rw [hw];clear hw w'))
 all_goals
  go_wp2_with fail;refine bodyPost_ret (v:=.agg #[.int .i64 q.1,.int .i64 t.1]) (by simp [results,Tryz.results136,go_sem,z0,z1,lw2]) rfl ?_;rw[HE.out];exact⟨rfl,(by repeat (first | exact H3.out | refine HW.out.setNew ?_ (Nat.le_refl _) _ _ | refine F7.later ?_ (Below.alloc (Below.refl _ _) (Nat.le_refl _) _) | refine F7.later ?_ (Below.drew (Below.refl _ _)))),(by repeat (first | exact H4.out | refine A6.setNew ?_ (Nat.le_refl _) _ _ | refine A6.trans ?_ (A6.of_below (Below.alloc (Below.refl _ _) (Nat.le_refl _) _)) | refine A6.trans ?_ (A6.of_below (Below.drew (Below.refl _ _)))))⟩
def Z9 (bs:List Int) (n:Int) (s:Rs):List (Int × Int) × Rs:=D9 (M9 bs) (bs.length+2) n [] s
theorem yO (l:List (Int × Int)) (x y:Int):C7 l++[.int .i64 x,.int .i64 y]=C7 (l++[(x,y)]):=by simp [C7]
theorem tK {W:World} {rb c:Nat} {a:Option Addr} {bs:List Int} {s:Rs} (h:F7 W rb a c bs s) (n:Int) (hn:n≤9223372036854775807) :
  Calls Tryz.prog 135 #[.pointer (some ⟨rb,0,none⟩),.int .i64 n,.func (.func 136) #[.pointer (some ⟨rb,0,none⟩)] #[]] W fun e w'=>∃v,J1 rb a c bs (Z9 bs n s).2 v W e w'∧w'.ownsRow W.heap.size 62 2 v (Z9 bs n s).1.length (C7 (Z9 bs n s).1):=by
 obtain⟨i62,hi,hz,hsz,hby⟩:=info_parts O7;have HI:=hid hi;have HZ:=hid hz;have HSZ:=hid hsz;have HBY:=hid hby;have HH:=hid h;have hlen:=h.len;unfold Z9;clear h hi hz hsz hby;go_enter Tryz.func135,Tryz.ntmps135;go_wp2_with fail;go_loopw [7] (fun vl wr=>∃(acc:List (Int × Int)) (la:Option Addr) (lc:Nat) (s':Rs),vl=.slice la acc.length lc∧wr.ownsRow W.heap.size 62 2 vl acc.length (C7 acc)∧F7 wr rb a c bs s'∧Rd rb W wr∧(s'.f=true∨s.p+acc.length≤s'.p)∧acc.length≤bs.length+1∧D9 (M9 bs) (bs.length+2) n [] s=D9 (M9 bs) (bs.length+2 - acc.length) n acc s') (fun vl _=>bs.length+2 - Z5 vl)
 case atStart=>exact ⟨[],none,0,s,rfl,World.ownsRow_nil _ _ _ _,HH.out,A6.refl _ _ _,Or.inr (Nat.le_refl _),Nat.zero_le _,rfl⟩
 case round =>
  obtain⟨acc,la,lc,s',rfl,hrow,hrd,hwr,hpp,hal,heq⟩:=hrel;have c2:=hrd.c2;have hlt:=hrd.lt;have hps:=hrd.pos;have HRD:=hid hrd;have HWR:=hid hwr;have HROW:=hid hrow;by_cases hgo:(acc.length:Int) < n∧s'.f=false
  ·obtain ⟨h1,h2⟩:=hgo
   have hal2:acc.length≤bs.length:=by
    rcases hpp with e | e
    ·rw [h2] at e;cases e
    ·omega
   have HEQ:Hid (D9 (M9 bs) (bs.length+2) n [] s=D9 (M9 bs) (bs.length+2 - (acc.length+1)) n (acc++[(M9 bs s').1]) (M9 bs s').2):=by
    refine hid ?_;rw[heq,show bs.length+2 - acc.length=(bs.length+2 - (acc.length+1))+1 by omega];exact aT ⟨h1,h2⟩
   have htk:=oG bs s';have HPP:Hid ((M9 bs s').2.f=true∨s.p+(acc.length+1)≤(M9 bs s').2.p):=by
    refine hid ?_;rcases htk.2 with e | e
    ·exact Or.inl e
    ·rcases hpp with e' | e'
     ·rw [h2] at e';cases e'
     ·exact Or.inr Q8
   rw[h2] at c2;have HV:=hid (a2t hrd);generalize M9 bs s'=r at *
   obtain⟨⟨x1,x2⟩,s2⟩:=r;simp only at HV HPP HEQ;clear hrd hwr hrow hpp heq htk h2;generalize hk:acc.length=k at *
   have HK:=hid hk;clear hk;go_wp2_with fail;refine HV.out.mono ?_;rintro e w1 ⟨rfl,h3,h4⟩;have hr1:w1.ownsRow W.heap.size 62 2 (.slice la k lc) k (C7 acc):=A2 HROW.out fun b hb=>h4.block b (HROW.out.lt b hb).2 (by have:=(HROW.out.lt b hb).1;have:=HH.out.lt;omega) (by have:=(HROW.out.lt b hb).1;have:=HH.out.lt;omega)
   have H3:=hid h3;have H4:=hid (HWR.out.trans h4);have HR1:=hid hr1;have hz1:W.heap.size≤w1.heap.size:=H4.out.size;clear h3 h4 hr1;go_wp2_with (at_builtin;go_must (refine C8 _ rfl (.tmp 20) (.tmp 23) 64 rfl W.heap.size 62 i62 _ 2 16 Tryz.underlying64 HI.out HZ.out HSZ.out HBY.out rfl Q7 (.slice la k lc) k (C7 acc) rfl (HR1.out.alloc _) (some ⟨w1.heap.size,0,none⟩) 1 1 [.int .i64 x1,.int .i64 x2] rfl rfl (fun _=>⟨_,rfl,World.news_of_block (cs:=#[.int .i64 x1,.int .i64 x2]) (t:=62) (fr:=(0,0)) (D8 Q9)⟩) (by intro u hu;simp at hu;rcases hu with rfl | rfl <;> rfl) Q0 Q8 Q5 ?_))
   intro v5 w5 hown5 hgrow5 _;obtain⟨a5,c5,rfl⟩:=B0 hown5;have hlow:=cT HR1.out hz1 hgrow5;have H5:=hid (HH.out.low H3.out hlow.1 hlow.2.1);have H6:=hid (H4.out.low hlow);have hown6:w5.ownsRow W.heap.size 62 2 (.slice a5 (k+1) c5) (k+1) (C7 (acc++[(x1,x2)])):=by rw [← yO];exact hown5
   have HO5:=hid hown6;clear hown5 hgrow5 hlow hown6;go_wp2_with fail;go_roundw
   case rel=>exact ⟨acc++[(x1,x2)],a5,c5,s2,by rw [List.length_append,HK.out];rfl,by rw [List.length_append,HK.out];exact HO5.out,H5.out,H6.out,by rw [List.length_append,HK.out];exact HPP.out,by rw [List.length_append,HK.out];simp;omega,by rw [List.length_append,HK.out];exact HEQ.out⟩
   case measure=>simp [Z5];omega
  ·have HEQ:Hid (D9 (M9 bs) (bs.length+2) n [] s=(acc,s')):=by
    refine hid ?_;rw[heq,show bs.length+2 - acc.length=(bs.length+1 - acc.length)+1 by omega];exact Y7 hgo
   have HP:Hid (∀v,v=.slice la acc.length lc→J1 rb a c bs (D9 (M9 bs) (bs.length+2) n [] s).2 v W (.returned v) wr∧wr.ownsRow W.heap.size 62 2 v (D9 (M9 bs) (bs.length+2) n [] s).1.length (C7 (D9 (M9 bs) (bs.length+2) n [] s).1)):=fun v hv=>by
    rw[HEQ.out,hv];exact⟨⟨rfl,HRD.out,HWR.out⟩,HROW.out⟩
   clear hrd hwr hrow hpp heq;by_cases hn2:(acc.length:Int) < n
   ·have hf:s'.f=true:=by
     cases e:s'.f
     ·exact absurd ⟨hn2,e⟩ hgo
     ·rfl
    rw[hf] at c2;clear hgo;go_wp2_with fail;go_ret;exact⟨_,HP.out _ rfl⟩
   ·clear hgo
    go_wp2_with fail;go_ret;exact⟨_,HP.out _ rfl⟩
abbrev FnL:=Int × Int × List (Int × Int)
def R4 (bs:List Int) (s:Rs):FnL × Rs :=
 (((C0 bs s).1,(C0 bs (C0 bs s).2).1,(Z9 bs (C0 bs (C0 bs (C0 bs s).2).2).1 (C0 bs (C0 bs (C0 bs s).2).2).2).1),(Z9 bs (C0 bs (C0 bs (C0 bs s).2).2).1 (C0 bs (C0 bs (C0 bs s).2).2).2).2)
theorem rD {α:Type} {rd:Rs→α × Rs} (h:∀s,Fwd s (rd s).2):∀(F:Nat) (n:Int) (acc:List α) (s:Rs),Fwd s (D9 rd F n acc s).2
 | 0,_,_,s=>Fwd.refl s
 | F+1,n,acc,s=>by
  rw[D9];split
  ·exact (h s).trans (rD h F n _ _)
  ·exact Fwd.refl s
theorem a1D (bs:List Int) (n:Int) (s:Rs):Fwd s (Z9 bs n s).2:=rD (fun s=>(oG bs s).1) _ _ _ _
theorem a2F (bs:List Int) (s:Rs):gT s (R4 bs s).2:=(kU bs _ s).then ((mX bs _).trans ((mX bs _).trans (a1D bs _ _)))
theorem T6 {bs:List Int} {most:Int} (hr:∀x,x∈bs→0≤x∧x < 256) (h0:0≤most) (s:Rs):0≤(D7 bs most s).1∧(D7 bs most s).1≤most:=by
 have hb:=xF hr s;unfold D7;simp only;split
 ·exact ⟨Int.le_refl _,h0⟩
 ·rename_i hf
  refine⟨hb.1,?_⟩;by_cases hle:(X9 bs s).1≤most
  ·exact hle
  ·rw [decide_eq_false hle] at hf
   exact absurd rfl hf
theorem a4W {W:World} {rb c:Nat} {a:Option Addr} {bs:List Int} {s:Rs} (h:F7 W rb a c bs s) :
  Calls Tryz.prog 115 #[.pointer (some ⟨rb,0,none⟩)] W fun e w'=>∃v,J1 rb a c bs (R4 bs s).2 (.agg #[.int .i64 (R4 bs s).1.1,.int .i64 (R4 bs s).1.2.1,v]) W e w'∧w'.ownsRow W.heap.size 62 2 v (R4 bs s).1.2.2.length (C7 (R4 bs s).1.2.2):=by
 have hlt:=h.lt;have HW:=hid h;have HRNG:=hid h.rng;have hB0:Below W.heap.size W (W.alloc (.cells #[.int .i64 0,.int .i64 0,.slice none 0 0] 68)):=Below.alloc (Below.refl _ _) (Nat.le_refl _) _;have HB0:=hid hB0;have HC:=hid (aF (h.later hB0));have HE:Hid (R4 bs s=(((C0 bs s).1,(C0 bs (C0 bs s).2).1,(Z9 bs (C0 bs (C0 bs (C0 bs s).2).2).1 (C0 bs (C0 bs (C0 bs s).2).2).2).1),(Z9 bs (C0 bs (C0 bs (C0 bs s).2).2).1 (C0 bs (C0 bs (C0 bs s).2).2).2).2)):=hid rfl
 generalize R4 bs s=r at *
 generalize C0 bs s=q1 at *
 clear h hB0;go_enter Tryz.func115,Tryz.ntmps115;go_wp2_with fail;refine HC.out.mono ?_;rintro e w1 ⟨rfl,h1,h2⟩;have y0:w1.cell? ⟨W.heap.size,0,none⟩=some (.int .i64 0):=h2.cell Q9 Q8 Q8 Q6;have y1:w1.cell? ⟨W.heap.size,1,none⟩=some (.int .i64 0):=h2.cell Q9 Q8 Q8 Q6;have y2:w1.cell? ⟨W.heap.size,2,none⟩=some (.slice none 0 0):=h2.cell Q9 Q8 Q8 Q6
 have f0:w1.frozen? ⟨W.heap.size,0,none⟩=false:=h2.frozen Q9 Q8 Q8 Q6;have f1:w1.frozen? ⟨W.heap.size,1,none⟩=false:=h2.frozen Q9 Q8 Q8 Q6;have f2:w1.frozen? ⟨W.heap.size,2,none⟩=false:=h2.frozen Q9 Q8 Q8 Q6;have lw1:W.heap.size < w1.heap.size:=by have:=h2.size;simp at this;omega
 have HI:=hid (aF h1);have H2:=hid ((A6.of_below HB0.out).trans h2);generalize C0 bs q1.2=q2 at *
 clear h1 h2 HC HB0;go_wp2_with fail;refine HI.out.mono ?_;rintro e w2 ⟨rfl,h3,h4⟩;have z0:=h4.cell lw1 Q8 Q8 y0;have z1:=h4.cell lw1 Q8 Q8 y1;have z2:=h4.cell lw1 Q8 Q8 y2;have g0:=h4.frozen lw1 Q8 Q8 f0;have g1:=h4.frozen lw1 Q8 Q8 f1;have g2:=h4.frozen lw1 Q8 Q8 f2;have lw2:W.heap.size < w2.heap.size:=Nat.lt_of_lt_of_le lw1 h4.size
 have hB2:Below w2.heap.size w2 (w2.alloc (.cells #[.int .i64 q1.1,.int .i64 q2.1,.slice none 0 0] 68)):=Below.alloc (Below.refl _ _) (Nat.le_refl _) _;have H4:=hid ((H2.out.trans h4).trans (A6.of_below hB2));have HC3:=hid (aF (h3.later hB2));have hq3:(C0 bs q2.2).1≤9223372036854775807:=(T6 HRNG.out Q7 q2.2).2;generalize C0 bs q2.2=q3 at *
 clear h3 h4 hB2 y0 y1 y2 f0 f1 f2 HI H2;go_wp2_with fail;refine HC3.out.mono ?_;rintro e w3 ⟨rfl,h5,h6⟩;have u0:w3.cell? ⟨w2.heap.size,0,none⟩=some (.int .i64 q1.1):=h6.cell Q9 Q8 Q8 Q6;have u1:w3.cell? ⟨w2.heap.size,1,none⟩=some (.int .i64 q2.1):=h6.cell Q9 Q8 Q8 Q6;have u2:w3.cell? ⟨w2.heap.size,2,none⟩=some (.slice none 0 0):=h6.cell Q9 Q8 Q8 Q6
 have v2:w3.frozen? ⟨w2.heap.size,2,none⟩=false:=h6.frozen Q9 Q8 Q8 Q6;have l23:w2.heap.size < w3.heap.size:=by have:=h6.size;simp at this;omega
 have t0:w3.cell? ⟨W.heap.size,0,none⟩=some (.int .i64 0):=h6.cell Q5 Q8 Q8 Q6;have t1:w3.cell? ⟨W.heap.size,1,none⟩=some (.int .i64 0):=h6.cell Q5 Q8 Q8 Q6;have t2:w3.cell? ⟨W.heap.size,2,none⟩=some (.slice none 0 0):=h6.cell Q5 Q8 Q8 Q6;have r0:w3.frozen? ⟨W.heap.size,0,none⟩=false:=h6.frozen Q5 Q8 Q8 Q6
 have r1:w3.frozen? ⟨W.heap.size,1,none⟩=false:=h6.frozen Q5 Q8 Q8 Q6;have r2:w3.frozen? ⟨W.heap.size,2,none⟩=false:=h6.frozen Q5 Q8 Q8 Q6;have lw3:W.heap.size < w3.heap.size:=by omega
 have H6:=hid (H4.out.trans h6);have HL:=hid (tK h5 q3.1 hq3);generalize Z9 bs q3.1 q3.2=q4 at *
 clear h5 h6 z0 z1 z2 g0 g1 g2 HC3 H4;go_wp2_with fail;refine HL.out.mono ?_;rintro e w4 ⟨v4,⟨rfl,h7,h8⟩,hrow⟩;obtain⟨la,lc,rfl⟩:=B0 hrow;have p0:=h8.cell l23 Q8 Q8 u0;have p1:=h8.cell l23 Q8 Q8 u1;have p2:=h8.cell l23 Q8 Q8 u2;have k2:=h8.frozen l23 Q8 Q8 v2;have s0:=h8.cell lw3 Q8 Q8 t0;have s1:=h8.cell lw3 Q8 Q8 t1
 have s2:=h8.cell lw3 Q8 Q8 t2;have m0:=h8.frozen lw3 Q8 Q8 r0;have m1:=h8.frozen lw3 Q8 Q8 r1;have m2:=h8.frozen lw3 Q8 Q8 r2;have l24:w2.heap.size < w4.heap.size:=Nat.lt_of_lt_of_le l23 h8.size;have lw4:W.heap.size < w4.heap.size:=Nat.lt_of_lt_of_le lw3 h8.size;have hrowlt:∀b,(Value.slice la q4.1.length lc).ownBlock=some b→w3.heap.size≤b:=fun b hb=>(hrow.lt b hb).1
 have hbase:W.heap.size≤w3.heap.size:=by omega
 have HROW:=hid hrow;have HRLT:=hid hrowlt;have H7:=hid h7;have H8:=hid (H6.out.trans h8);clear hrow hrowlt h7 h8 u0 u1 u2 v2 t0 t1 t2 r0 r1 r2 HL H6;have hne:W.heap.size≠w2.heap.size:=by omega
 go_wp2_with fail;refine bodyPost_ret (v:=.agg #[.int .i64 q1.1,.int .i64 q2.1,.slice la q4.1.length lc]) (by simp [results,Tryz.results115,go_sem,s0,s1,s2]) rfl ?_;rw[HE.out];refine⟨.slice la q4.1.length lc,⟨rfl,?_,?_⟩,?_⟩
 ·repeat (first | exact H7.out | refine HW.out.setNew ?_ Q8 _ _)
 ·repeat (first | exact H8.out | refine A6.setNew ?_ Q8 _ _)
 ·refine C5 ?_ hbase
  repeat (first | exact HROW.out | refine ownsRow_setCell_other ?_ (by intro hb;have:=HRLT.out _ hb;simp at this;omega) _)
def eL (bs:List Int) (n:Int) (s:Rs):List FnL × Rs:=D9 (R4 bs) (bs.length+2) n [] s
abbrev FnV:=FnL × Value
def fL (x:FnV):List Value:=[.int .i64 x.1.1,.int .i64 x.1.2.1,x.2]
theorem gY (x:FnV):(fL x).length=3:=rfl
structure mH (w:World) (B:Nat) (vl:Value) (acc:List FnV):Prop where
 row:w.ownsRow B 68 3 vl acc.length (acc.flatMap fL)
 code:∀x,x∈acc→w.ownsRow B 62 2 x.2 x.1.2.2.length (C7 x.1.2.2)∧∀b,vl.ownBlock=some b→x.2.ownBlock≠some b
theorem wW {W:World} {rb c:Nat} {a:Option Addr} {bs:List Int} {s:Rs} (h:F7 W rb a c bs s) (n:Int) (hn:n≤9223372036854775807) :
  Calls Tryz.prog 113 #[.pointer (some ⟨rb,0,none⟩),.int .i64 n,.func (.func 115) #[.pointer (some ⟨rb,0,none⟩)] #[]] W fun e w'=>∃v fl,J1 rb a c bs (eL bs n s).2 v W e w'∧mH w' W.heap.size v fl∧fl.map (·.1)=(eL bs n s).1:=by
 obtain⟨i68,hi,hz,hsz,hby⟩:=info_parts a3d;have HI:=hid hi;have HZ:=hid hz;have HSZ:=hid hsz;have HBY:=hid hby;have HH:=hid h;have hlen:=h.len;unfold eL;clear h hi hz hsz hby;go_enter Tryz.func113,Tryz.ntmps113;go_wp2_with fail;go_loopw [7] (fun vl wr=>∃(acc:List FnV) (la:Option Addr) (lc:Nat) (s':Rs),vl=.slice la acc.length lc∧mH wr W.heap.size vl acc∧F7 wr rb a c bs s'∧Rd rb W wr∧(s'.f=true∨s.p+acc.length≤s'.p)∧acc.length≤bs.length+1∧D9 (R4 bs) (bs.length+2) n [] s=D9 (R4 bs) (bs.length+2 - acc.length) n (acc.map (·.1)) s') (fun vl _=>bs.length+2 - Z5 vl)
 case atStart=>exact ⟨[],none,0,s,rfl,⟨World.ownsRow_nil _ _ _ _,fun x hx=>by cases hx⟩,HH.out,A6.refl _ _ _,Or.inr (Nat.le_refl _),Nat.zero_le _,rfl⟩
 case round =>
  obtain⟨acc,la,lc,s',rfl,hrow,hrd,hwr,hpp,hal,heq⟩:=hrel;have c2:=hrd.c2;have hlt:=hrd.lt;have hps:=hrd.pos;have HRD:=hid hrd;have HWR:=hid hwr;have HROW:=hid hrow;have hml:(acc.map (·.1)).length=acc.length:=by simp
  by_cases hgo:(acc.length:Int) < n∧s'.f=false
  ·obtain ⟨h1,h2⟩:=hgo
   have hal2:acc.length≤bs.length:=by
    rcases hpp with e | e
    ·rw [h2] at e;cases e
    ·omega
   have HEQ:Hid (D9 (R4 bs) (bs.length+2) n [] s=D9 (R4 bs) (bs.length+2 - (acc.length+1)) n (acc.map (·.1)++[(R4 bs s').1]) (R4 bs s').2):=by
    refine hid ?_;rw[heq,show bs.length+2 - acc.length=(bs.length+2 - (acc.length+1))+1 by omega];exact aT ⟨by rw [hml];exact h1,h2⟩
   have htk:=a2F bs s';have HPP:Hid ((R4 bs s').2.f=true∨s.p+(acc.length+1)≤(R4 bs s').2.p):=by
    refine hid ?_;rcases htk.2 with e | e
    ·exact Or.inl e
    ·rcases hpp with e' | e'
     ·rw [h2] at e';cases e'
     ·exact Or.inr Q8
   rw[h2] at c2;have HV:=hid (a4W hrd);generalize R4 bs s'=r at *
   obtain⟨⟨x1,x2,x3⟩,s2⟩:=r;simp only at HV HPP HEQ;clear hrd hwr hrow hpp heq htk h2 hml;generalize hk:acc.length=k at *
   have HK:=hid hk;clear hk;go_wp2_with fail;refine HV.out.mono ?_;rintro e w1 ⟨cv,⟨rfl,h3,h4⟩,hcode⟩;obtain⟨ca,cc,rfl⟩:=B0 hcode;have keep:∀b,W.heap.size≤b→b < wr.heap.size→w1.heap[b]?=wr.heap[b]?:=fun b h1 h2=>h4.block b h2 (by have:=HH.out.lt;omega) (by have:=HH.out.lt;omega)
   have hr1:w1.ownsRow W.heap.size 68 3 (.slice la k lc) k (acc.flatMap fL):=by
    have:=HROW.out.row;rw[HK.out] at this;exact A2 this fun b hb=>keep b (this.lt b hb).1 (this.lt b hb).2
   have hcod:∀x,x∈acc++[((x1,x2,x3),.slice ca x3.length cc)]→w1.ownsRow W.heap.size 62 2 x.2 x.1.2.2.length (C7 x.1.2.2)∧∀b,(Value.slice la k lc).ownBlock=some b→x.2.ownBlock≠some b:=fun x hx=>by
    rcases List.mem_append.1 hx with hx | hx
    ·obtain ⟨q1,q2⟩:=HROW.out.code x hx
     exact⟨A2 q1 fun b hb=>keep b (q1.lt b hb).1 (q1.lt b hb).2,fun b hb=>q2 b hb⟩
    ·rw [List.mem_singleton] at hx
     subst hx;refine⟨C5 hcode (by exact HWR.out.size),fun b hb e=>?_⟩;have h5:=(hcode.lt b e).1;have h6:=HROW.out.row.lt b hb;omega
   have H3:=hid h3;have H4:=hid (HWR.out.trans h4);have HR1:=hid hr1;have HCOD:=hid hcod;have hz1:W.heap.size≤w1.heap.size:=H4.out.size;clear h3 h4 hr1 hcod hcode keep;go_wp2_with (at_builtin;go_must (refine C8 _ rfl (.tmp 20) (.tmp 23) 25 rfl W.heap.size 68 i68 _ 3 40 Tryz.underlying25 HI.out HZ.out HSZ.out HBY.out rfl Q7 (.slice la k lc) k (acc.flatMap fL) rfl (HR1.out.alloc _) (some ⟨w1.heap.size,0,none⟩) 1 1 [.int .i64 x1,.int .i64 x2,.slice ca x3.length cc] rfl rfl (fun _=>⟨_,rfl,World.news_of_block (cs:=#[.int .i64 x1,.int .i64 x2,.slice ca x3.length cc]) (t:=68) (fr:=(0,0)) (D8 Q9)⟩) (by intro u hu;simp at hu;rcases hu with rfl | rfl | rfl <;> rfl) Q0 Q8 Q5 ?_))
   intro v5 w5 hown5 hgrow5 hwhere;obtain⟨a5,c5,rfl⟩:=B0 hown5;have hlow:=cT HR1.out hz1 hgrow5;have H5:=hid (HH.out.low H3.out hlow.1 hlow.2.1);have H6:=hid (H4.out.low hlow);have hfn:mH w5 W.heap.size (.slice a5 (k+1) c5) (acc++[((x1,x2,x3),.slice ca x3.length cc)]):=by
    refine⟨?_,fun x hx=>?_⟩
    ·rw [List.length_append,HK.out,List.flatMap_append]
     exact hown5
    ·obtain ⟨q1,q2⟩:=HCOD.out x hx
     have hb1:∀b,x.2.ownBlock=some b→b < w1.heap.size:=fun b hb=>(q1.lt b hb).2
     refine⟨A2 q1 fun b hb=>?_,fun b hb e=>?_⟩
     ·rw [hgrow5.block b (by have:=hb1 b hb;simp;omega) (fun e=>q2 b e.symm hb)]
      exact (Below.alloc (Below.refl _ _) (Nat.le_refl _) _).block b (hb1 b hb)
     ·rcases hwhere b hb with e' | e'
      ·exact q2 b e' e
      ·have:=hb1 b e
       first | omega | (simp at e';omega)
   have HFN:=hid hfn;clear hown5 hgrow5 hlow hfn hwhere;go_wp2_with fail;go_roundw
   case rel=>exact ⟨acc++[((x1,x2,x3),.slice ca x3.length cc)],a5,c5,s2,by rw [List.length_append,HK.out];rfl,HFN.out,H5.out,H6.out,by rw [List.length_append,HK.out];exact HPP.out,by rw [List.length_append,HK.out];simp;omega,by rw [List.length_append,HK.out,List.map_append];exact HEQ.out⟩
   case measure=>simp [Z5];omega
  ·have HEQ:Hid (D9 (R4 bs) (bs.length+2) n [] s=(acc.map (·.1),s')):=by
    refine hid ?_;rw[heq,show bs.length+2 - acc.length=(bs.length+1 - acc.length)+1 by omega];exact Y7 (by rw [hml];exact hgo)
   have HP:Hid (∀v,v=.slice la acc.length lc→∃fl,J1 rb a c bs (D9 (R4 bs) (bs.length+2) n [] s).2 v W (.returned v) wr∧mH wr W.heap.size v fl∧fl.map (·.1)=(D9 (R4 bs) (bs.length+2) n [] s).1):=fun v hv=>by
    rw[HEQ.out,hv];exact⟨acc,⟨rfl,HRD.out,HWR.out⟩,HROW.out,rfl⟩
   clear hrd hwr hrow hpp heq hml;by_cases hn2:(acc.length:Int) < n
   ·have hf:s'.f=true:=by
     cases e:s'.f
     ·exact absurd ⟨hn2,e⟩ hgo
     ·rfl
    rw[hf] at c2;clear hgo;go_wp2_with fail;go_ret;obtain⟨fl,hq⟩:=HP.out _ rfl;exact⟨_,fl,hq⟩
   ·clear hgo
    go_wp2_with fail;go_ret;obtain⟨fl,hq⟩:=HP.out _ rfl;exact⟨_,hq.1,fl,hq.2⟩
def slA:Value→Option Addr
 | .slice a _ _=>a
 | _=>none
def slC:Value→Nat
 | .slice _ _ c=>c
 | _=>0
def slB (v:Value):Nat:=v.ownBlock.getD 0
def fnR (x:FnV):FnR:={ p:=x.1.1,l:=x.1.2.1,a:=slA x.2,n:=x.1.2.2.length,c:=slC x.2,b:=slB x.2,o:=0,op:=fun j=>(x.1.2.2[j]?.getD (0,0)).1,ar:=fun j=>(x.1.2.2[j]?.getD (0,0)).2 }
def aS:FnV:=((0,0,[]),.slice none 0 0)
def pgF (v:Value) (fl:List FnV):PgR:={ a:=slA v,n:=fl.length,c:=slC v,b:=slB v,o:=0,f:=fun i=>fnR (fl[i]?.getD aS) }
theorem a3G {w:World} {B:Nat} {x:FnV} (hr:w.ownsRow B 62 2 x.2 x.1.2.2.length (C7 x.1.2.2)) (hl:x.1.2.2.length≤1152921504606846976):O0 w.heap.size w (fnR x):=by
 obtain⟨⟨p,l,L⟩,v⟩:=x;refine⟨hl,fun hn=>?_⟩;have hn':0 < L.length:=hn;obtain⟨g,cap,e,h1,h2⟩:=hr.form hn';simp only at e hr;subst e;refine⟨rfl,h2,fun j hj=>?_⟩;have hj':j < L.length:=hj;have e0:=hr.cellAt (j*2) Q8;have e1:=hr.cellAt (j*2+1) Q8;have q:L[j]?=some L[j]:=List.getElem?_eq_getElem hj';have f0:=C3 (c:=fun x:Int × Int=>[Value.int .i64 x.1,.int .i64 x.2]) (s:=2) (fun _=>rfl) (l:=L) (i:=j) (j:=0) q Q8
 have f1:=C3 (c:=fun x:Int × Int=>[Value.int .i64 x.1,.int .i64 x.2]) (s:=2) (fun _=>rfl) (l:=L) (i:=j) (j:=1) q Q8;constructor
 ·show w.cell? ⟨g,0+j*2,none⟩=some (.int .i64 (L[j]?.getD (0,0)).1)
  rw[Nat.zero_add,e0,q];exact f0
 ·show w.cell? ⟨g,0+j*2+1,none⟩=some (.int .i64 (L[j]?.getD (0,0)).2)
  rw[Nat.zero_add,e1,q];exact f1
theorem a8p {w:World} {B:Nat} {v:Value} {fl:List FnV} (h:mH w B v fl) (hl:fl.length≤1152921504606846976) (hc:∀x,x∈fl→x.1.2.2.length≤1152921504606846976):M3 w.heap.size w (pgF v fl):=by
 refine⟨hl,fun hn=>?_,fun i hi=>?_⟩
 ·have hn':0 < fl.length:=hn
  obtain⟨g,cap,e,h1,h2⟩:=h.row.form hn';subst e;refine⟨rfl,h2,fun i hi=>?_⟩;have hi':i < fl.length:=hi;have q:fl[i]?=some fl[i]:=List.getElem?_eq_getElem hi';obtain⟨a,c,ev⟩:=B0 (h.code _ (List.mem_of_getElem? q)).1;have e0:=h.row.cellAt (i*3) Q8;have e1:=h.row.cellAt (i*3+1) Q8;have e2:=h.row.cellAt (i*3+2) Q8;have f0:=C3 (c:=fL) (s:=3) gY (l:=fl) (i:=i) (j:=0) q Q8
  have f1:=C3 (c:=fL) (s:=3) gY (l:=fl) (i:=i) (j:=1) q Q8;have f2:=C3 (c:=fL) (s:=3) gY (l:=fl) (i:=i) (j:=2) q Q8;refine⟨?_,?_,?_⟩
  ·show w.cell? ⟨g,0+i*3,none⟩=some (.int .i64 (fl[i]?.getD aS).1.1)
   rw[Nat.zero_add,e0,q];exact f0
  ·show w.cell? ⟨g,0+i*3+1,none⟩=some (.int .i64 (fl[i]?.getD aS).1.2.1)
   rw[Nat.zero_add,e1,q];exact f1
  ·show w.cell? ⟨g,0+i*3+2,none⟩=some (.slice (slA (fl[i]?.getD aS).2) (fl[i]?.getD aS).1.2.2.length (slC (fl[i]?.getD aS).2))
   rw[Nat.zero_add,e2,q];refine f2.trans ?_;show some fl[i].2=_;simp only[Option.getD_some];rw[ev];rfl
 ·have hi':i < fl.length:=hi
  have q:fl[i]?=some fl[i]:=List.getElem?_eq_getElem hi';show O0 w.heap.size w (fnR (fl[i]?.getD aS));rw[q];exact a3G (h.code _ (List.mem_of_getElem? q)).1 (hc _ (List.mem_of_getElem? q))
structure a0X (g:PgR) (L:List FnL):Prop where
 n:g.n=L.length
 f:∀i x,L[i]?=some x→(g.f i).p=x.1∧(g.f i).l=x.2.1∧(g.f i).n=x.2.2.length∧∀j y,x.2.2[j]?=some y→(g.f i).op j=y.1∧(g.f i).ar j=y.2
theorem a8q (v:Value) (fl:List FnV):a0X (pgF v fl) (fl.map (·.1)):=by
 refine⟨by simp [pgF],fun i x hx=>?_⟩;rw[List.getElem?_map] at hx
 cases q:fl[i]? with
 | none=>rw [q] at hx;cases hx
 | some y =>
  rw[q] at hx
  injection hx with hx
  subst hx;show (fnR (fl[i]?.getD aS)).p=_∧(fnR (fl[i]?.getD aS)).l=_∧(fnR (fl[i]?.getD aS)).n=_∧∀j z,_→(fnR (fl[i]?.getD aS)).op j=_∧(fnR (fl[i]?.getD aS)).ar j=_
  rw[q];refine⟨rfl,rfl,rfl,fun j z hz=>?_⟩;show (y.1.2.2[j]?.getD (0,0)).1=_∧(y.1.2.2[j]?.getD (0,0)).2=_;rw[hz];exact⟨rfl,rfl⟩
theorem a8o {w:World} {B:Nat} {v:Value} {fl:List FnV} (h:mH w B v fl):∀k,(pgF v fl).blk k→B≤k∧k < w.heap.size:=by
 intro k hk;rcases hk with ⟨h0,e⟩ | ⟨i,hi,h0,e⟩
 ·have hn':0 < fl.length:=h0
  obtain⟨g,cap,e',h1,h2⟩:=h.row.form hn';subst e';have:k=g:=e;omega
 ·have hi':i < fl.length:=hi
  have q:fl[i]?=some fl[i]:=List.getElem?_eq_getElem hi';have h0':0 < (fl[i]?.getD aS).1.2.2.length:=h0;have e':k=slB (fl[i]?.getD aS).2:=e;rw[q] at h0' e';simp only[Option.getD_some] at h0' e';obtain⟨g,cap,e2,h1,h2⟩:=(h.code _ (List.mem_of_getElem? q)).1.form h0';rw[e2] at e';have:k=g:=e';omega
theorem jB {α:Type} (rd:Rs→α × Rs):∀(F:Nat) (n:Int) (acc:List α) (s:Rs),(D9 rd F n acc s).1.length≤acc.length+F
 | 0,n,acc,s=>Nat.le_refl _
 | F+1,n,acc,s=>by
  by_cases h:(acc.length:Int) < n∧s.f=false
  ·rw [aT h]
   have:=jB rd F n (acc++[(rd s).1]) (rd s).2;rw[List.length_append] at this;simp at this;omega
  ·rw [Y7 h]
   simp
theorem jC {α:Type} (rd:Rs→α × Rs):∀(F:Nat) (n:Int) (acc:List α) (s:Rs) (x:α),x∈(D9 rd F n acc s).1→x∈acc∨∃s',x=(rd s').1
 | 0,n,acc,s,x,hx=>Or.inl hx
 | F+1,n,acc,s,x,hx=>by
  by_cases h:(acc.length:Int) < n∧s.f=false
  ·rw [aT h] at hx
   rcases jC rd F n _ _ x hx with h1 | h1
   ·rcases List.mem_append.1 h1 with h2 | h2
    ·exact Or.inl h2
    ·exact Or.inr ⟨s,List.mem_singleton.1 h2⟩
   ·exact Or.inr h1
  ·rw [Y7 h] at hx
   exact Or.inl hx
theorem a4T (bs:List Int) (hb:bs.length≤20000) (n:Int) (s:Rs):(eL bs n s).1.length≤20002∧∀x,x∈(eL bs n s).1→x.2.2.length≤20002:=by
 constructor
 ·have:=jB (R4 bs) (bs.length+2) n [] s
  unfold eL;simp at this;omega
 ·intro x hx
  rcases jC (R4 bs) _ _ _ _ x hx with h | ⟨s',rfl⟩
  ·cases h
  ·unfold R4
   have:=jB (M9 bs) (bs.length+2) (C0 bs (C0 bs (C0 bs s').2).2).1 [] (C0 bs (C0 bs (C0 bs s').2).2).2;simp at this;simp only[Z9];omega
def cO (bs:List Int) (s:Rs):List FnL × Rs:=eL bs (C0 bs s).1 (C0 bs s).2
theorem Tab.wrote {rb:Nat} {W V:World} (h:Tab W) (h0:rb≠0) (hw:A6 rb rb W V):Tab V:=h.held hw.size (hw.block 0 h.1 (Ne.symm h0) (Ne.symm h0))
theorem xJ {W:World} {rb c:Nat} {a:Option Addr} {bs:List Int} {s:Rs} (h:F7 W rb a c bs s) (ht:Tab W) (h0:rb≠0) :
  Calls Tryz.prog 79 #[.pointer (some ⟨rb,0,none⟩)] W fun e w'=>∃g x y,J1 rb a c bs (E9 (cO bs s).2 (x == 0)) (.agg #[.slice g.a g.n g.c]) W e w'∧M3 w'.heap.size w' g∧(∀k,g.blk k→W.heap.size≤k)∧a0X g (cO bs s).1∧N6 g x y:=by
 have hlt:=h.lt;have HW:=hid h;have HLEN:=hid h.len;have HT:=hid ht;have hB0:Below W.heap.size W (W.alloc (.cells #[.slice none 0 0] 27)):=Below.alloc (Below.refl _ _) (Nat.le_refl _) _;have HB0:=hid hB0;have HC:=hid (aF (h.later hB0));have HE:Hid (cO bs s=eL bs (C0 bs s).1 (C0 bs s).2):=hid rfl;have hq:(C0 bs s).1≤9223372036854775807:=(T6 h.rng Q7 s).2;generalize cO bs s=r at *
 generalize C0 bs s=q1 at *
 clear h hB0 ht;go_enter Tryz.func79,Tryz.ntmps79;go_wp2_with fail;refine HC.out.mono ?_;rintro e w1 ⟨rfl,h1,h2⟩;have y0:w1.cell? ⟨W.heap.size,0,none⟩=some (.slice none 0 0):=h2.cell Q9 Q8 Q8 Q6;have f0:w1.frozen? ⟨W.heap.size,0,none⟩=false:=h2.frozen Q9 Q8 Q8 Q6;have lw1:W.heap.size < w1.heap.size:=by have:=h2.size;simp at this;omega
 have HL:=hid (wW h1 q1.1 hq);have HBD:=hid (a4T bs HLEN.out q1.1 q1.2);have H2:=hid ((A6.of_below HB0.out).trans h2);generalize eL bs q1.1 q1.2=q2 at *
 clear h1 h2 HC HB0;go_wp2_with fail;refine HL.out.mono ?_;rintro e w2 ⟨v,fl,⟨rfl,h3,h4⟩,hrow,hfl⟩;have z0:=h4.cell lw1 Q8 Q8 y0;have g0:=h4.frozen lw1 Q8 Q8 f0;have lw2:W.heap.size < w2.heap.size:=Nat.lt_of_lt_of_le lw1 h4.size;have hbd:=HBD.out;rw[← hfl] at hbd;have hpi:M3 w2.heap.size w2 (pgF v fl):=a8p hrow (by have:=hbd.1;rw [List.length_map] at this;omega) (fun x hx=>by have:=hbd.2 _ (List.mem_map_of_mem hx);omega)
 have hbl:∀k,(pgF v fl).blk k→w1.heap.size≤k:=fun k hk=>(a8o hrow k hk).1
 have his:=a8q v fl;rw[hfl] at his;obtain⟨va,vc,rfl⟩:=B0 hrow.row;have hg1:(pgF (.slice va fl.length vc) fl).a=va:=rfl;have hg2:(pgF (.slice va fl.length vc) fl).n=fl.length:=rfl;have hg3:(pgF (.slice va fl.length vc) fl).c=vc:=rfl;generalize pgF (.slice va fl.length vc) fl=g at *
 rw[← hg1,← hg2,← hg3];have hB2:Below w2.heap.size w2 (w2.alloc (.cells #[.slice g.a g.n g.c] 27)):=Below.alloc (Below.refl _ _) (Nat.le_refl _) _;have H4:=hid (H2.out.trans h4);have H3:=hid h3;have HPI:=hid hpi;have HBL:=hid hbl;have HIS:=hid his;have HB2:=hid hB2;have HK:=hid (mU g _ (hpi.below hB2 |>.mono hB2.size) ((HT.out.wrote h0 H4.out).held hB2.size (hB2.block 0 Q8)));clear h3 h4 hpi hbl his hB2 y0 f0 hg1 hg2 hg3 hrow hfl hbd HL HBD H2
 go_wp2_with fail;refine HK.out.mono ?_;rintro e w3 ⟨x,y,rfl,hck,hB3⟩;have t0:w3.cell? ⟨W.heap.size,0,none⟩=some (.slice none 0 0):=by rw [hB3.cell (p:=⟨W.heap.size,0,none⟩) Q5];go_simp
 have t1:w3.frozen? ⟨W.heap.size,0,none⟩=false:=by rw [hB3.frozen (p:=⟨W.heap.size,0,none⟩) Q5];go_simp
 have u0:w3.cell? ⟨w2.heap.size,0,none⟩=some (.slice g.a g.n g.c):=by rw [hB3.cell (p:=⟨w2.heap.size,0,none⟩) Q9];go_simp
 have hB23:Below w2.heap.size w2 w3:=A1 hB3 HB2.out;have l3:w2.heap.size < w3.heap.size:=by have:=hB3.size;simp at this;omega
 have H5:=hid (H3.out.later hB23);have HM:=hid (M5 H5.out (x == 0));have H6:=hid (H4.out.trans (A6.of_below hB23));have HPI3:=hid ((HPI.out.below hB23).mono hB23.size);have HCK:=hid hck;clear hB3 hB23 hck HK HB2 HPI H4 H3 z0 g0;go_wp2_with fail;refine HM.out.mono ?_;rintro e w4 ⟨rfl,h7,h8⟩;have s0:=h8.cell Q8 Q8 Q8 t0;have s1:=h8.frozen Q8 Q8 Q8 t1
 have p0:=h8.cell l3 Q8 Q8 u0;have hpi4:M3 w4.heap.size w4 g:=HPI3.out.held h8.size fun k hk=>h8.block k (HPI3.out.blk_lt hk) (by have:=HBL.out k hk;omega) (by have:=HBL.out k hk;omega)
 have H7:=hid h7;have H8:=hid (H6.out.trans h8);have HPI4:=hid hpi4;have hne:W.heap.size≠w2.heap.size:=by omega
 clear h7 h8 hpi4 t0 t1 u0 HM H6 H5 HPI3;go_wp2_with fail;refine bodyPost_ret (v:=.agg #[.slice g.a g.n g.c]) (by simp [results,Tryz.results79,go_sem,s0]) rfl ?_;rw[HE.out];refine⟨g,x,y,⟨rfl,?_,?_⟩,?_,fun k hk=>?_,HIS.out,HCK.out⟩
 ·repeat (first | exact H7.out | refine HW.out.setNew ?_ Q8 _ _)
 ·repeat (first | exact H8.out | refine A6.setNew ?_ Q8 _ _)
 ·refine HPI4.out.held Q9 fun k hk=>?_
  have:=HBL.out k hk;exact Below.heap_setCell _ _ _ _ Q5
 ·have:=HBL.out k hk
  omega
def sF (bs:List Int) (n:Int) (s:Rs):List Int × Rs:=D9 (W6 bs) (bs.length+2) n [] s
theorem zY {W:World} {rb c:Nat} {a:Option Addr} {bs:List Int} {s:Rs} (h:F7 W rb a c bs s) (n:Int) (hn:n≤9223372036854775807) :
  Calls Tryz.prog 133 #[.pointer (some ⟨rb,0,none⟩),.int .i64 n,.func (.func 134) #[.pointer (some ⟨rb,0,none⟩)] #[]] W fun e w'=>∃v,J1 rb a c bs (sF bs n s).2 v W e w'∧w'.ownsRow W.heap.size 3 1 v (sF bs n s).1.length ((sF bs n s).1.map (Value.int .i64))∧((sF bs n s).1=[]→v=.slice none 0 0):=by
 obtain⟨i3,hi,hz,hsz,hby⟩:=info_parts a6o;have HI:=hid hi;have HZ:=hid hz;have HSZ:=hid hsz;have HBY:=hid hby;have HH:=hid h;have hlen:=h.len;unfold sF;clear h hi hz hsz hby;go_enter Tryz.func133,Tryz.ntmps133;go_wp2_with fail;go_loopw [7] (fun vl wr=>∃(acc:List Int) (la:Option Addr) (lc:Nat) (s':Rs),vl=.slice la acc.length lc∧wr.ownsRow W.heap.size 3 1 vl acc.length (acc.map (Value.int .i64))∧F7 wr rb a c bs s'∧Rd rb W wr∧(s'.f=true∨s.p+acc.length≤s'.p)∧acc.length≤bs.length+1∧D9 (W6 bs) (bs.length+2) n [] s=D9 (W6 bs) (bs.length+2 - acc.length) n acc s'∧(acc=[]→la=none∧lc=0)) (fun vl _=>bs.length+2 - Z5 vl)
 case atStart=>exact ⟨[],none,0,s,rfl,World.ownsRow_nil _ _ _ _,HH.out,A6.refl _ _ _,Or.inr (Nat.le_refl _),Nat.zero_le _,rfl,fun _=>⟨rfl,rfl⟩⟩
 case round =>
  obtain⟨acc,la,lc,s',rfl,hrow,hrd,hwr,hpp,hal,heq,hnil⟩:=hrel;have HNIL:=hid hnil;clear hnil;have c2:=hrd.c2;have hlt:=hrd.lt;have hps:=hrd.pos;have HRD:=hid hrd;have HWR:=hid hwr;have HROW:=hid hrow;by_cases hgo:(acc.length:Int) < n∧s'.f=false
  ·obtain ⟨h1,h2⟩:=hgo
   have hal2:acc.length≤bs.length:=by
    rcases hpp with e | e
    ·rw [h2] at e;cases e
    ·omega
   have HEQ:Hid (D9 (W6 bs) (bs.length+2) n [] s=D9 (W6 bs) (bs.length+2 - (acc.length+1)) n (acc++[(W6 bs s').1]) (W6 bs s').2):=by
    refine hid ?_;rw[heq,show bs.length+2 - acc.length=(bs.length+2 - (acc.length+1))+1 by omega];exact aT ⟨h1,h2⟩
   have htk:=a5k bs s';have HPP:Hid ((W6 bs s').2.f=true∨s.p+(acc.length+1)≤(W6 bs s').2.p):=by
    refine hid ?_;rcases htk.2 with e | e
    ·exact Or.inl e
    ·rcases hpp with e' | e'
     ·rw [h2] at e';cases e'
     ·exact Or.inr Q8
   rw[h2] at c2;have HV:=hid (iG hrd);generalize W6 bs s'=r at *
   obtain⟨x1,s2⟩:=r;simp only at HV HPP HEQ;clear hrd hwr hrow hpp heq htk h2;generalize hk:acc.length=k at *
   have HK:=hid hk;clear hk;go_wp2_with fail;refine HV.out.mono ?_;rintro e w1 ⟨rfl,h3,h4⟩;have hr1:w1.ownsRow W.heap.size 3 1 (.slice la k lc) k (acc.map (Value.int .i64)):=A2 HROW.out fun b hb=>h4.block b (HROW.out.lt b hb).2 (by have:=(HROW.out.lt b hb).1;have:=HH.out.lt;omega) (by have:=(HROW.out.lt b hb).1;have:=HH.out.lt;omega)
   have H3:=hid h3;have H4:=hid (HWR.out.trans h4);have HR1:=hid hr1;have hz1:W.heap.size≤w1.heap.size:=H4.out.size;clear h3 h4 hr1;go_wp2_with (at_builtin;go_must (refine C8 _ rfl (.tmp 20) (.tmp 23) 22 rfl W.heap.size 3 i3 _ 1 8 Tryz.underlying22 HI.out HZ.out HSZ.out HBY.out rfl Q7 (.slice la k lc) k (acc.map (Value.int .i64)) rfl (HR1.out.alloc _) (some ⟨w1.heap.size,0,none⟩) 1 1 [.int .i64 x1] rfl rfl (fun _=>⟨_,rfl,World.news_of_block (cs:=#[.int .i64 x1]) (t:=3) (fr:=(0,0)) (D8 Q9)⟩) (by intro u hu;simp at hu;subst hu;rfl) Q0 Q8 Q5 ?_))
   intro v5 w5 hown5 hgrow5 _;obtain⟨a5,c5,rfl⟩:=B0 hown5;have hlow:=cT HR1.out hz1 hgrow5;have H5:=hid (HH.out.low H3.out hlow.1 hlow.2.1);have H6:=hid (H4.out.low hlow);have hown6:w5.ownsRow W.heap.size 3 1 (.slice a5 (k+1) c5) (k+1) ((acc++[x1]).map (Value.int .i64)):=by rw [List.map_append];exact hown5
   have HO5:=hid hown6;clear hown5 hgrow5 hlow hown6;go_wp2_with fail;go_roundw
   case rel=>exact ⟨acc++[x1],a5,c5,s2,by rw [List.length_append,HK.out];rfl,by rw [List.length_append,HK.out];exact HO5.out,H5.out,H6.out,by rw [List.length_append,HK.out];exact HPP.out,by rw [List.length_append,HK.out];simp;omega,by rw [List.length_append,HK.out];exact HEQ.out,fun e=>absurd e Q9⟩
   case measure=>simp [Z5];omega
  ·have HEQ:Hid (D9 (W6 bs) (bs.length+2) n [] s=(acc,s')):=by
    refine hid ?_;rw[heq,show bs.length+2 - acc.length=(bs.length+1 - acc.length)+1 by omega];exact Y7 hgo
   have HP:Hid (∀v,v=.slice la acc.length lc→J1 rb a c bs (D9 (W6 bs) (bs.length+2) n [] s).2 v W (.returned v) wr∧wr.ownsRow W.heap.size 3 1 v (D9 (W6 bs) (bs.length+2) n [] s).1.length ((D9 (W6 bs) (bs.length+2) n [] s).1.map (Value.int .i64))∧((D9 (W6 bs) (bs.length+2) n [] s).1=[]→v=.slice none 0 0)):=fun v hv=>by
    rw[HEQ.out,hv];refine⟨⟨rfl,HRD.out,HWR.out⟩,HROW.out,fun e=>?_⟩;have e:acc=[]:=e;rw[(HNIL.out e).1,(HNIL.out e).2,e];rfl
   clear hrd hwr hrow hpp heq;by_cases hn2:(acc.length:Int) < n
   ·have hf:s'.f=true:=by
     cases e:s'.f
     ·exact absurd ⟨hn2,e⟩ hgo
     ·rfl
    rw[hf] at c2;clear hgo;go_wp2_with fail;go_ret;exact⟨_,HP.out _ rfl⟩
   ·clear hgo
    go_wp2_with fail;go_ret;exact⟨_,HP.out _ rfl⟩
def tO (bs:List Int) (s:Rs):List Int × Rs:=sF bs (D7 bs 40 s).1 (D7 bs 40 s).2
theorem a7e {W:World} {rb c:Nat} {a:Option Addr} {bs:List Int} {s:Rs} (h:F7 W rb a c bs s) :
  Calls Tryz.prog 111 #[.pointer (some ⟨rb,0,none⟩)] W fun e w'=>∃v,J1 rb a c bs (tO bs s).2 v W e w'∧w'.ownsRow W.heap.size 3 1 v (tO bs s).1.length ((tO bs s).1.map (Value.int .i64))∧((tO bs s).1=[]→v=.slice none 0 0):=by
 have HN:=hid (aY h 40 Q7);have hq:(D7 bs 40 s).1≤9223372036854775807:=by have:=(T6 h.rng (most:=40) Q7 s).2;omega
 clear h;unfold tO;go_enter Tryz.func111,Tryz.ntmps111;go_wp2_with (go_at_call 80;refine HN.out.mono ?_;rintro e w1 ⟨rfl,h1,h2⟩)
 have HL:=hid (zY h1 _ hq);have H2:=hid h2;clear h1 h2;go_wp2_with (go_at_call 133;refine HL.out.mono ?_;rintro e w2 ⟨v,⟨rfl,h3,h4⟩,h5,h6⟩;have H6:=hid h6;clear h6)
 go_ret;exact⟨v,⟨rfl,h3,H2.out.trans h4⟩,C5 h5 H2.out.size,H6.out⟩
end Go.Proofs.YtbkmgoffiigdbabGreatDoor
