import Derived.Test.YtbkmgoffiigdbabGreatDoorVXb
namespace Go.Proofs.YtbkmgoffiigdbabGreatDoor
open Go.RowKit Go.Sort
set_option maxHeartbeats 4000000
set_option maxRecDepth 100000
def isI (x:Val):Bool:=x.1 == 1
def a7C (l:List Val) (W:World) (e:Ending) (w':World):Prop:=(∃i:Int,e=.returned (.int .i64 i)∧(decide (0≤i)=l.any isI))∧Below W.heap.size W w'
theorem a5K {l:List Val} {i:Nat} {x:Val} (h:l[i]?=some x) (h0:(l.take i).any isI=false):(l.take (i+1)).any isI=isI x:=by
 rw[List.take_add_one,h,List.any_append,h0];simp
theorem a5J {l:List Val} {i:Nat} {x:Val} (h:l[i]?=some x) (hx:isI x=true):l.any isI=true :=
 List.any_eq_true.2 ⟨x,List.mem_of_getElem? h,hx⟩
theorem wC {W:World} {base:Nat} {a:Option Addr} {c:Nat} {l:List Val} (hr:W.ownsRow base 73 2 (.slice a l.length c) l.length (A5 l)) (hn:l.length≤1000000) :
  Calls Tryz.prog 150 #[.slice a l.length c,.func (.func 140) #[] #[]] W fun e w'=>a7C l W e w':=by
 have HR:=hid hr;clear hr;go_enter Tryz.func150,Tryz.ntmps150;go_wp2_with fail;go_loopw [8] (fun v wr=>∃i:Nat,i≤l.length∧v=.int .i64 i∧Below W.heap.size W wr∧(l.take i).any isI=false) (fun v _=>l.length - (intOf v).toNat)
 case atStart=>exact ⟨0,Nat.zero_le _,rfl,Below.refl _ _,rfl⟩
 case round =>
  obtain⟨i,hi,rfl,hbel,hany⟩:=hrel;have HBEL:=hid hbel;by_cases hil:i < l.length
  ·obtain ⟨hb,hc,e,_,hlt⟩:=HR.out.form Q8
   injection e with e1 e2 e3
   subst e1 e3;clear e2;obtain⟨⟨x1,x2⟩,ho⟩:∃o,l[i]?=some o:=⟨_,List.getElem?_eq_getElem hil⟩
   have hcell:∀t,t < 2→wr.cell? ⟨hb,i*2+t,none⟩=(N0 (x1,x2))[t]?:=fun t ht=>by
    rw[hbel.cell (p:=⟨hb,_,none⟩) hlt,HR.out.cellAt _ Q8];exact C3 E7 ho ht
   have k0:wr.cell? ⟨hb,i*2,none⟩=some (.int .u8 x1):=hcell 0 Q8;have k1:wr.cell? ⟨hb,i*2+1,none⟩=some (.int .i64 x2):=hcell 1 Q8;have hlw:hb < wr.heap.size:=Nat.lt_of_lt_of_le hlt hbel.size;have HO:=hid ho;have HANY:=hid hany;by_cases hk:(x1 == 1)=true
   ·clear hcell hbel ho hany
    go_wp2_with (go_at_call 140;refine (D4 _ _ _).mono ?_;rintro e w' ⟨rfl,o4,rfl⟩)
    go_ret;exact⟨⟨(i:Int),rfl,by rw [a5J HO.out hk];simp⟩,Below.alloc HBEL.out HBEL.out.size _⟩
   ·have hk':(x1 == 1)=false:=by simpa using hk
    clear hcell hbel ho hany hk;go_wp2_with (go_at_call 140;refine (D4 _ _ _).mono ?_;rintro e w' ⟨rfl,o4,rfl⟩)
    go_roundw
    case rel=>exact ⟨i+1,by omega,by go_num,Below.alloc HBEL.out HBEL.out.size _,(a5K HO.out HANY.out).trans hk'⟩
    case measure=>simp [intOf];omega
  ·have hall:l.any isI=false:=by rw [List.take_of_length_le Q8] at hany;exact hany
   clear hbel hany;go_wp2_with fail;go_ret;exact⟨⟨-1,rfl,by rw [hall];rfl⟩,HBEL.out⟩
theorem oN {W:World} {base:Nat} {a:Option Addr} {c:Nat} {l:List Val} (hr:W.ownsRow base 73 2 (.slice a l.length c) l.length (A5 l)) (hn:l.length≤1000000) :
  Calls Tryz.prog 139 #[.slice a l.length c,.func (.func 140) #[] #[]] W fun e w'=>e=.returned (.bool (l.any isI))∧Below W.heap.size W w':=by
 have HN:=hid (wC hr hn);clear hr;go_enter Tryz.func139,Tryz.ntmps139;go_wp2_with (go_at_call 150;refine HN.out.mono ?_;rintro e w1 ⟨⟨i,rfl,hi⟩,h2⟩)
 go_ret;refine⟨?_,h2⟩;rw[← hi];rfl
def R5 (bs:List Int) (k:Int) (s:Rs):Int × Rs:=if k=1 then D7 bs 8 s else if k=2 then D7 bs 12 s else if k=3 then (1,s) else (0,E9 s false)
theorem a5a {W:World} {rb c:Nat} {a:Option Addr} {bs:List Int} {s:Rs} (h:F7 W rb a c bs s) (k:Int) :
  Calls Tryz.prog 138 #[.pointer (some ⟨rb,0,none⟩),.int .i64 k] W fun e w'=>J1 rb a c bs (R5 bs k s).2 (.int .i64 (R5 bs k s).1) W e w':=by
 have H8:=hid (aY h 8 Q7);have H12:=hid (aY h 12 Q7);have HM:=hid (M5 h false);have HH:=hid h;unfold R5;clear h;by_cases h1:k=1
 ·subst h1
  rw[if_pos rfl];go_enter Tryz.func138,Tryz.ntmps138;go_wp2_with (go_at_call 80;refine H8.out.mono ?_;rintro e w1 ⟨rfl,h1,h2⟩)
  go_ret;exact⟨rfl,h1,h2⟩
 ·rw [if_neg h1]
  by_cases h2:k=2
  ·subst h2
   rw[if_pos rfl];clear h1;go_enter Tryz.func138,Tryz.ntmps138;go_wp2_with (go_at_call 80;refine H12.out.mono ?_;rintro e w1 ⟨rfl,h1,h2⟩)
   go_ret;exact⟨rfl,h1,h2⟩
  ·rw [if_neg h2]
   by_cases h3:k=3
   ·subst h3
    rw[if_pos rfl];clear h1 h2;go_enter Tryz.func138,Tryz.ntmps138;go_wp2_with fail;go_ret;exact⟨rfl,HH.out,A6.refl _ _ _⟩
   ·rw [if_neg h3]
    have e1:(k == 1)=false:=by simpa using h1
    have e2:(k == 2)=false:=by simpa using h2
    have e3:(k == 3)=false:=by simpa using h3
    go_enter Tryz.func138,Tryz.ntmps138;go_wp2_with (go_at_call 82;refine HM.out.mono ?_;rintro e w1 ⟨rfl,h1,h2⟩)
    go_ret;exact⟨rfl,h1,h2⟩
theorem a0v {bs:List Int} (hr:∀x,x∈bs→0≤x∧x < 256) (k:Int) (s:Rs):(R5 bs k s).1≤12:=by
 unfold R5;split
 ·have:=(T6 hr (most:=8) Q7 s).2
  omega
 ·split
  ·exact (T6 hr (most:=12) Q7 s).2
  ·split
   ·show (1:Int)≤12
    decide
   ·show (0:Int)≤12
    decide
abbrev ObL:=Int × List Val
def bA (bs:List Int) (s:Rs):ObL × Rs :=
 (((D7 bs 3 s).1,(N9 bs (R5 bs (D7 bs 3 s).1 (D7 bs 3 s).2).1 (R5 bs (D7 bs 3 s).1 (D7 bs 3 s).2).2).1),
  E9 (N9 bs (R5 bs (D7 bs 3 s).1 (D7 bs 3 s).2).1 (R5 bs (D7 bs 3 s).1 (D7 bs 3 s).2).2).2 ((D7 bs 3 s).1 != 3 || !(N9 bs (R5 bs (D7 bs 3 s).1 (D7 bs 3 s).2).1 (R5 bs (D7 bs 3 s).1 (D7 bs 3 s).2).2).1.any isI))
theorem a6h (bs:List Int) (k:Int) (s:Rs):Fwd s (R5 bs k s).2:=by
 unfold R5;split
 ·exact rF bs _ s
 ·split
  ·exact rF bs _ s
  ·split
   ·exact Fwd.refl s
   ·exact X6 s false
theorem rG (bs:List Int) (n:Int) (s:Rs):Fwd s (N9 bs n s).2:=rD (fun s=>(oH bs s).1) _ _ _ _
theorem a5l (bs:List Int) (s:Rs):gT s (bA bs s).2:=(kU bs _ s).then ((a6h bs _ _).trans ((rG bs _ _).trans (X6 _ _)))
theorem a0C {W:World} {rb c:Nat} {a:Option Addr} {bs:List Int} {s:Rs} (h:F7 W rb a c bs s) :
  Calls Tryz.prog 118 #[.pointer (some ⟨rb,0,none⟩)] W fun e w'=>∃v,J1 rb a c bs (bA bs s).2 (.agg #[.int .u8 (bA bs s).1.1,v]) W e w'∧w'.ownsRow W.heap.size 73 2 v (bA bs s).1.2.length (A5 (bA bs s).1.2):=by
 have hlt:=h.lt;have HW:=hid h;have HRNG:=hid h.rng;have HLEN:=hid h.len;have hB0:Below W.heap.size W (W.alloc (.cells #[.int .u8 0,.slice none 0 0] 75)):=Below.alloc (Below.refl _ _) (Nat.le_refl _) _;have HB0:=hid hB0;have HC:=hid (aY (h.later hB0) 3 Q7);have hq:=T6 h.rng (most:=3) Q7 s;have HE:Hid (bA bs s=(((D7 bs 3 s).1,(N9 bs (R5 bs (D7 bs 3 s).1 (D7 bs 3 s).2).1 (R5 bs (D7 bs 3 s).1 (D7 bs 3 s).2).2).1),
  E9 (N9 bs (R5 bs (D7 bs 3 s).1 (D7 bs 3 s).2).1 (R5 bs (D7 bs 3 s).1 (D7 bs 3 s).2).2).2 ((D7 bs 3 s).1 != 3 || !(N9 bs (R5 bs (D7 bs 3 s).1 (D7 bs 3 s).2).1 (R5 bs (D7 bs 3 s).1 (D7 bs 3 s).2).2).1.any isI))):=hid rfl
 generalize bA bs s=r at *
 simp only[show ((3:Nat):Int)=3 from rfl] at HC;generalize D7 bs 3 s=q1 at *
 clear h hB0;go_enter Tryz.func118,Tryz.ntmps118;go_wp2_with fail;refine HC.out.mono ?_;rintro e w1 ⟨rfl,h1,h2⟩;have y0:w1.cell? ⟨W.heap.size,0,none⟩=some (.int .u8 0):=h2.cell Q9 Q8 Q8 Q6;have y1:w1.cell? ⟨W.heap.size,1,none⟩=some (.slice none 0 0):=h2.cell Q9 Q8 Q8 Q6;have f0:w1.frozen? ⟨W.heap.size,0,none⟩=false:=h2.frozen Q9 Q8 Q8 Q6
 have f1:w1.frozen? ⟨W.heap.size,1,none⟩=false:=h2.frozen Q9 Q8 Q8 Q6;have lw1:W.heap.size < w1.heap.size:=by have:=h2.size;simp at this;omega
 have c7:=h1.c7;have H1:=hid h1;have H2:=hid ((A6.of_below HB0.out).trans h2);clear h1 h2 HC HB0;go_wp2_with fail;go_region_with (first | (go_at_call 112;refine (uI _ _).mono ?_;rintro e w' ⟨rfl,rfl⟩) | (go_at_call 82;refine (aM _ _).mono ?_;rintro e w' ⟨rfl,rfl⟩))
 all_goals go_wp2_with fail
 have hdr:Below w1.heap.size w1 w1.drew:=Below.drew (Below.refl _ _);refine (a5a (H1.out.later hdr) q1.1).mono ?_;rintro e w2 ⟨rfl,h3,h4⟩;have z0:w2.cell? ⟨W.heap.size,0,none⟩=some (.int .u8 0):=h4.cell (by simpa using lw1) Q8 Q8 Q6;have z1:w2.cell? ⟨W.heap.size,1,none⟩=some (.slice none 0 0):=h4.cell (by simpa using lw1) Q8 Q8 Q6;have g0:w2.frozen? ⟨W.heap.size,0,none⟩=false:=h4.frozen (by simpa using lw1) Q8 Q8 Q6
 have g1:w2.frozen? ⟨W.heap.size,1,none⟩=false:=h4.frozen (by simpa using lw1) Q8 Q8 Q6;have lw2:W.heap.size < w2.heap.size:=by have:=h4.size;simp at this;omega
 have hq2:(R5 bs q1.1 q1.2).1≤9223372036854775807:=by have:=a0v HRNG.out q1.1 q1.2;omega
 have HV:=hid (cI h3 _ hq2);have HVL:Hid ((N9 bs (R5 bs q1.1 q1.2).1 (R5 bs q1.1 q1.2).2).1.length≤20002):=by
  refine hid ?_;have:=jB (K4 bs) (bs.length+2) (R5 bs q1.1 q1.2).1 [] (R5 bs q1.1 q1.2).2;have:=HLEN.out;unfold N9;simp at *
  omega
 have H4:=hid ((H2.out.trans (A6.of_below hdr)).trans h4);generalize R5 bs q1.1 q1.2=q2 at *
 generalize N9 bs q2.1 q2.2=q3 at *
 clear h3 h4 hdr y0 y1 f0 f1 c7 H1 H2;go_wp2_with fail;refine HV.out.mono ?_;rintro e w3 ⟨v,⟨rfl,h5,h6⟩,hrow⟩;obtain⟨la,lc,rfl⟩:=B0 hrow;have t0:=h6.cell lw2 Q8 Q8 z0;have t1:=h6.cell lw2 Q8 Q8 z1;have r0:=h6.frozen lw2 Q8 Q8 g0;have r1:=h6.frozen lw2 Q8 Q8 g1;have lw3:W.heap.size < w3.heap.size:=Nat.lt_of_lt_of_le lw2 h6.size;have H5:=hid h5
 have H6:=hid (H4.out.trans h6);have HROW:=hid (C5 hrow (Nat.le_of_lt lw2));have hrlt:∀b,(Value.slice la q3.1.length lc).ownBlock=some b→w2.heap.size≤b:=fun b hb=>(hrow.lt b hb).1
 have HRLT:=hid hrlt;clear h5 h6 hrow hrlt z0 z1 g0 g1 HV H4;go_wp2_with fail;have hB3:Below w3.heap.size w3 (w3.alloc (Obj.cells #[.int .u8 q1.1,.slice la q3.1.length lc] 75)):=Below.alloc (Below.refl _ _) (Nat.le_refl _) _;have u0:(w3.alloc (Obj.cells #[.int .u8 q1.1,.slice la q3.1.length lc] 75)).cell? ⟨w3.heap.size,0,none⟩=some (.int .u8 q1.1):=by go_simp
 have u1:(w3.alloc (Obj.cells #[.int .u8 q1.1,.slice la q3.1.length lc] 75)).cell? ⟨w3.heap.size,1,none⟩=some (.slice la q3.1.length lc):=by go_simp
 have l34:w3.heap.size < (w3.alloc (Obj.cells #[.int .u8 q1.1,.slice la q3.1.length lc] 75)).heap.size:=by simp
 generalize w3.alloc (Obj.cells #[.int .u8 q1.1,.slice la q3.1.length lc] 75)=w4 at *
 have t0':w4.cell? ⟨W.heap.size,0,none⟩=some (.int .u8 0):=(hB3.cell (p:=⟨W.heap.size,0,none⟩) lw3).trans t0;have t1':w4.cell? ⟨W.heap.size,1,none⟩=some (.slice none 0 0):=(hB3.cell (p:=⟨W.heap.size,1,none⟩) lw3).trans t1;have r0':w4.frozen? ⟨W.heap.size,0,none⟩=false:=(hB3.frozen (p:=⟨W.heap.size,0,none⟩) lw3).trans r0;have r1':w4.frozen? ⟨W.heap.size,1,none⟩=false:=(hB3.frozen (p:=⟨W.heap.size,1,none⟩) lw3).trans r1
 have lw4:W.heap.size < w4.heap.size:=Nat.lt_of_lt_of_le lw3 hB3.size;have H7:=hid (H5.out.later hB3);have H8:=hid (H6.out.trans (A6.of_below hB3));have HR4:Hid (w4.ownsRow W.heap.size 73 2 (.slice la q3.1.length lc) q3.1.length (A5 q3.1)):=hid (A2 HROW.out fun b hb=>hB3.block b (HROW.out.lt b hb).2);clear hB3 t0 t1 r0 r1 H5 H6 HROW;have hne:W.heap.size≠w3.heap.size:=by omega
 by_cases hk:q1.1=3
 ·have HX:Hid (r=((q1.1,q3.1),E9 q3.2 (!q3.1.any isI))):=by
   refine hid ?_;rw[HE.out,hk];rfl
  have HK:=hid hk;rw[hk];rw[hk] at u0;clear hk HE hq;have HCI:Hid (∀V,Below w4.heap.size w4 V→Calls Tryz.prog 139 #[.slice la q3.1.length lc,.func (.func 140) #[] #[]] V fun e w'=>e=.returned (.bool (q3.1.any isI))∧Below V.heap.size V w'):=hid fun V hV=>oN (A2 HR4.out fun b hb=>hV.block b (HR4.out.lt b hb).2) (by have:=HVL.out;omega)
  have HMU:Hid (∀V,Below w4.heap.size w4 V→Calls Tryz.prog 82 #[.pointer (some ⟨rb,0,none⟩),.bool (!q3.1.any isI)] V fun e w'=>J1 rb a c bs (E9 q3.2 (!q3.1.any isI)) (.tuple #[]) V e w'):=hid fun V hV=>M5 (H7.out.later hV) _
  generalize q3.1.any isI=any at *
  go_region_with (first | (go_at_call 139;refine (HCI.out _ ?_).mono ?_;exact P5;rintro e w5 ⟨rfl,hb5⟩;have HB5:Hid (Below w4.heap.size w4 w5):=A1 hb5 P5;clear hb5) | (go_at_call 82;refine (HMU.out _ HB5.out).mono ?_;rintro e w6 ⟨rfl,h7,h8⟩;have H9:=hid h7;have H10:=hid h8;clear h7 h8))
  all_goals
   have p0:w6.cell? ⟨w3.heap.size,0,none⟩=some (.int .u8 3):=H10.out.cell (Nat.lt_of_lt_of_le l34 HB5.out.size) Q8 Q8 ((HB5.out.cell (p:=⟨w3.heap.size,0,none⟩) l34).trans u0);have p1:w6.cell? ⟨w3.heap.size,1,none⟩=some (.slice la q3.1.length lc):=H10.out.cell (Nat.lt_of_lt_of_le l34 HB5.out.size) Q8 Q8 ((HB5.out.cell (p:=⟨w3.heap.size,1,none⟩) l34).trans u1);have s0:w6.cell? ⟨W.heap.size,0,none⟩=some (.int .u8 0):=H10.out.cell (Nat.lt_of_lt_of_le lw4 HB5.out.size) Q8 Q8 ((HB5.out.cell (p:=⟨W.heap.size,0,none⟩) lw4).trans t0')
   have s1:w6.cell? ⟨W.heap.size,1,none⟩=some (.slice none 0 0):=H10.out.cell (Nat.lt_of_lt_of_le lw4 HB5.out.size) Q8 Q8 ((HB5.out.cell (p:=⟨W.heap.size,1,none⟩) lw4).trans t1');have m0:w6.frozen? ⟨W.heap.size,0,none⟩=false:=H10.out.frozen (Nat.lt_of_lt_of_le lw4 HB5.out.size) Q8 Q8 ((HB5.out.frozen (p:=⟨W.heap.size,0,none⟩) lw4).trans r0');have m1:w6.frozen? ⟨W.heap.size,1,none⟩=false:=H10.out.frozen (Nat.lt_of_lt_of_le lw4 HB5.out.size) Q8 Q8 ((HB5.out.frozen (p:=⟨W.heap.size,1,none⟩) lw4).trans r1')
   have HR6:Hid (w6.ownsRow W.heap.size 73 2 (.slice la q3.1.length lc) q3.1.length (A5 q3.1)):=hid (A2 HR4.out fun b hb=>(H10.out.block b (Nat.lt_of_lt_of_le (HR4.out.lt b hb).2 HB5.out.size) (by have:=HRLT.out b hb;omega) (by have:=HRLT.out b hb;omega)).trans (HB5.out.block b (HR4.out.lt b hb).2));have H11:=hid ((H8.out.trans (A6.of_below HB5.out)).trans H10.out);clear u0 u1 t0' t1' r0' r1' HCI HMU H10 HB5 H7 H8 HR4
   go_wp2_with fail;refine bodyPost_ret (v:=.agg #[.int .u8 3,.slice la q3.1.length lc]) (by simp [results,Tryz.results118,go_sem,s0,s1]) rfl ?_;rw[HX.out];refine⟨.slice la q3.1.length lc,⟨by rw [HK.out],?_,?_⟩,?_⟩
   ·repeat (first | exact H9.out | refine HW.out.setNew ?_ (Nat.le_refl _) _ _)
   ·repeat (first | exact H11.out | refine A6.setNew ?_ (Nat.le_refl _) _ _)
   ·repeat (first | exact HR6.out | refine ownsRow_setCell_other ?_ (by intro hb;have:=HRLT.out _ hb;simp at this;omega) _)
 ·have HX:Hid (r=((q1.1,q3.1),q3.2)):=by
   refine hid ?_;rw[HE.out,show (q1.1 != 3)=true by simpa using hk];rfl
  have hk3:q1.1=0∨q1.1=1∨q1.1=2:=by omega
  clear HE hk;rcases hk3 with hk | hk | hk
  ·have HK:=hid hk
   rw[hk];rw[hk] at u0;clear hk hq
   first | (go_region_with (go_at_call 82;refine (aM _ _).mono ?_;rintro e w' ⟨rfl,rfl⟩)) | fail
   go_wp2_with fail;refine bodyPost_ret (v:=.agg #[.int .u8 0,.slice la q3.1.length lc]) (by simp [results,Tryz.results118,go_sem,t0',t1']) rfl ?_;rw[HX.out];refine⟨.slice la q3.1.length lc,⟨by rw [HK.out],?_,?_⟩,?_⟩
   ·repeat (first | exact H7.out | refine HW.out.setNew ?_ (Nat.le_refl _) _ _ | refine F7.later ?_ (Below.drew (Below.refl _ _)))
   ·repeat (first | exact H8.out | refine A6.setNew ?_ (Nat.le_refl _) _ _ | refine A6.trans ?_ (A6.of_below (Below.drew (Below.refl _ _))))
   ·repeat (first | exact HR4.out | refine World.ownsRow.drew ?_ | refine ownsRow_setCell_other ?_ (by intro hb;have:=HRLT.out _ hb;simp at this;omega) _)
  ·have HK:=hid hk
   rw[hk];rw[hk] at u0;clear hk hq
   first | (go_region_with (go_at_call 82;refine (aM _ _).mono ?_;rintro e w' ⟨rfl,rfl⟩)) | fail
   go_wp2_with fail;refine bodyPost_ret (v:=.agg #[.int .u8 1,.slice la q3.1.length lc]) (by simp [results,Tryz.results118,go_sem,t0',t1']) rfl ?_;rw[HX.out];refine⟨.slice la q3.1.length lc,⟨by rw [HK.out],?_,?_⟩,?_⟩
   ·repeat (first | exact H7.out | refine HW.out.setNew ?_ (Nat.le_refl _) _ _ | refine F7.later ?_ (Below.drew (Below.refl _ _)))
   ·repeat (first | exact H8.out | refine A6.setNew ?_ (Nat.le_refl _) _ _ | refine A6.trans ?_ (A6.of_below (Below.drew (Below.refl _ _))))
   ·repeat (first | exact HR4.out | refine World.ownsRow.drew ?_ | refine ownsRow_setCell_other ?_ (by intro hb;have:=HRLT.out _ hb;simp at this;omega) _)
  ·have HK:=hid hk
   rw[hk];rw[hk] at u0;clear hk hq
   first | (go_region_with (go_at_call 82;refine (aM _ _).mono ?_;rintro e w' ⟨rfl,rfl⟩)) | fail
   go_wp2_with fail;refine bodyPost_ret (v:=.agg #[.int .u8 2,.slice la q3.1.length lc]) (by simp [results,Tryz.results118,go_sem,t0',t1']) rfl ?_;rw[HX.out];refine⟨.slice la q3.1.length lc,⟨by rw [HK.out],?_,?_⟩,?_⟩
   ·repeat (first | exact H7.out | refine HW.out.setNew ?_ (Nat.le_refl _) _ _ | refine F7.later ?_ (Below.drew (Below.refl _ _)))
   ·repeat (first | exact H8.out | refine A6.setNew ?_ (Nat.le_refl _) _ _ | refine A6.trans ?_ (A6.of_below (Below.drew (Below.refl _ _))))
   ·repeat (first | exact HR4.out | refine World.ownsRow.drew ?_ | refine ownsRow_setCell_other ?_ (by intro hb;have:=HRLT.out _ hb;simp at this;omega) _)
def ObR.l (o:ObR):ObL:=(o.kind,o.fl)
def a0t (bs:List Int) (n:Int) (s:Rs):List ObL × Rs:=D9 (bA bs) (bs.length+2) n [] s
structure pQ (w:World) (B:Nat) (vl:Value) (acc:List ObR):Prop where
 row:w.ownsRow B 75 2 vl acc.length (acc.flatMap ObR.cells)
 code:∀x,x∈acc→w.ownsRow B 73 2 x.fv x.fl.length (A5 x.fl)∧∀b,vl.ownBlock=some b→x.fv.ownBlock≠some b
 dis:∀(i j:Nat) (o o':ObR) (b:Nat),i < j→acc[i]?=some o→acc[j]?=some o'→o.fv.ownBlock=some b→o'.fv.ownBlock=some b→False
theorem a5U {acc:List ObR} {x:ObR} {B:Nat} (h:∀(i j:Nat) (o o':ObR) (b:Nat),i < j→acc[i]?=some o→acc[j]?=some o'→o.fv.ownBlock=some b→o'.fv.ownBlock=some b→False)
  (h1:∀o,o∈acc→∀b,o.fv.ownBlock=some b→b < B) (h2:∀b,x.fv.ownBlock=some b→B≤b):∀(i j:Nat) (o o':ObR) (b:Nat),i < j→(acc++[x])[i]?=some o→(acc++[x])[j]?=some o'→o.fv.ownBlock=some b→o'.fv.ownBlock=some b→False:=by
 intro i j o o' b hij hi hj ho ho';have hjl:j < (acc++[x]).length:=(List.getElem?_eq_some_iff.1 hj).1;rw[List.length_append] at hjl;simp at hjl;rw[List.getElem?_append_left Q8] at hi;by_cases hj2:j < acc.length
 ·rw [List.getElem?_append_left hj2] at hj
  exact h i j o o' b hij hi hj ho ho'
 ·obtain rfl:j=acc.length:=by omega
  rw[List.getElem?_append_right (Nat.le_refl _)] at hj;simp at hj;subst hj;have:=h1 o (List.mem_of_getElem? hi) b ho;have:=h2 b ho';omega
theorem zZ {W:World} {rb c:Nat} {a:Option Addr} {bs:List Int} {s:Rs} (h:F7 W rb a c bs s) (n:Int) (hn:n≤9223372036854775807) :
  Calls Tryz.prog 117 #[.pointer (some ⟨rb,0,none⟩),.int .i64 n,.func (.func 118) #[.pointer (some ⟨rb,0,none⟩)] #[]] W fun e w'=>∃v fl,J1 rb a c bs (a0t bs n s).2 v W e w'∧pQ w' W.heap.size v fl∧fl.map ObR.l=(a0t bs n s).1:=by
 obtain⟨i75,hi,hz,hsz,hby⟩:=info_parts a1F;have HI:=hid hi;have HZ:=hid hz;have HSZ:=hid hsz;have HBY:=hid hby;have HH:=hid h;have hlen:=h.len;unfold a0t;clear h hi hz hsz hby;go_enter Tryz.func117,Tryz.ntmps117;go_wp2_with fail;go_loopw [7] (fun vl wr=>∃(acc:List ObR) (la:Option Addr) (lc:Nat) (s':Rs),vl=.slice la acc.length lc∧pQ wr W.heap.size vl acc∧F7 wr rb a c bs s'∧Rd rb W wr∧(s'.f=true∨s.p+acc.length≤s'.p)∧acc.length≤bs.length+1∧D9 (bA bs) (bs.length+2) n [] s=D9 (bA bs) (bs.length+2 - acc.length) n (acc.map ObR.l) s') (fun vl _=>bs.length+2 - Z5 vl)
 case atStart=>exact ⟨[],none,0,s,rfl,⟨World.ownsRow_nil _ _ _ _,(fun x hx=>by cases hx),(fun i j o o' b _ h=>by cases h)⟩,HH.out,A6.refl _ _ _,Or.inr (Nat.le_refl _),Nat.zero_le _,rfl⟩
 case round =>
  obtain⟨acc,la,lc,s',rfl,hrow,hrd,hwr,hpp,hal,heq⟩:=hrel;have c2:=hrd.c2;have hlt:=hrd.lt;have hps:=hrd.pos;have HRD:=hid hrd;have HWR:=hid hwr;have HROW:=hid hrow;have hml:(acc.map ObR.l).length=acc.length:=by simp
  by_cases hgo:(acc.length:Int) < n∧s'.f=false
  ·obtain ⟨h1,h2⟩:=hgo
   have hal2:acc.length≤bs.length:=by
    rcases hpp with e | e
    ·rw [h2] at e;cases e
    ·omega
   have HEQ:Hid (D9 (bA bs) (bs.length+2) n [] s=D9 (bA bs) (bs.length+2 - (acc.length+1)) n (acc.map ObR.l++[(bA bs s').1]) (bA bs s').2):=by
    refine hid ?_;rw[heq,show bs.length+2 - acc.length=(bs.length+2 - (acc.length+1))+1 by omega];exact aT ⟨by rw [hml];exact h1,h2⟩
   have htk:=a5l bs s';have HPP:Hid ((bA bs s').2.f=true∨s.p+(acc.length+1)≤(bA bs s').2.p):=by
    refine hid ?_;rcases htk.2 with e | e
    ·exact Or.inl e
    ·rcases hpp with e' | e'
     ·rw [h2] at e';cases e'
     ·exact Or.inr Q8
   rw[h2] at c2;have HV:=hid (a0C hrd);generalize bA bs s'=r at *
   obtain⟨⟨x1,x2⟩,s2⟩:=r;simp only at HV HPP HEQ;clear hrd hwr hrow hpp heq htk h2 hml;generalize hk:acc.length=k at *
   have HK:=hid hk;clear hk;go_wp2_with fail;refine HV.out.mono ?_;rintro e w1 ⟨cv,⟨rfl,h3,h4⟩,hcode⟩;obtain⟨ca,cc,rfl⟩:=B0 hcode;have keep:∀b,W.heap.size≤b→b < wr.heap.size→w1.heap[b]?=wr.heap[b]?:=fun b h1 h2=>h4.block b h2 (by have:=HH.out.lt;omega) (by have:=HH.out.lt;omega)
   have hr1:w1.ownsRow W.heap.size 75 2 (.slice la k lc) k (acc.flatMap ObR.cells):=by
    have:=HROW.out.row;rw[HK.out] at this;exact A2 this fun b hb=>keep b (this.lt b hb).1 (this.lt b hb).2
   have hcod:∀x,x∈acc++[⟨x1,.slice ca x2.length cc,x2⟩]→w1.ownsRow W.heap.size 73 2 x.fv x.fl.length (A5 x.fl)∧∀b,(Value.slice la k lc).ownBlock=some b→x.fv.ownBlock≠some b:=fun x hx=>by
    rcases List.mem_append.1 hx with hx | hx
    ·obtain ⟨q1,q2⟩:=HROW.out.code x hx
     exact⟨A2 q1 fun b hb=>keep b (q1.lt b hb).1 (q1.lt b hb).2,fun b hb=>q2 b hb⟩
    ·rw [List.mem_singleton] at hx
     subst hx;refine⟨C5 hcode (by exact HWR.out.size),fun b hb e=>?_⟩;have h5:=(hcode.lt b e).1;have h6:=HROW.out.row.lt b hb;omega
   have H3:=hid h3;have H4:=hid (HWR.out.trans h4);have HR1:=hid hr1;have HCOD:=hid hcod;have HDIS:=hid (a5U (x:=⟨x1,.slice ca x2.length cc,x2⟩) (B:=wr.heap.size) HROW.out.dis (fun o ho b hb=>((HROW.out.code o ho).1.lt b hb).2) (fun b hb=>(hcode.lt b hb).1));have hz1:W.heap.size≤w1.heap.size:=H4.out.size;clear h3 h4 hr1 hcod hcode keep;go_wp2_with (at_builtin;go_must (refine C8 _ rfl (.tmp 20) (.tmp 23) 43 rfl W.heap.size 75 i75 _ 2 32 Tryz.underlying43 HI.out HZ.out HSZ.out HBY.out rfl Q7 (.slice la k lc) k (acc.flatMap ObR.cells) rfl (HR1.out.alloc _) (some ⟨w1.heap.size,0,none⟩) 1 1 [.int .u8 x1,.slice ca x2.length cc] rfl rfl (fun _=>⟨_,rfl,World.news_of_block (cs:=#[.int .u8 x1,.slice ca x2.length cc]) (t:=75) (fr:=(0,0)) (D8 Q9)⟩) (by intro u hu;simp at hu;rcases hu with rfl | rfl <;> rfl) Q0 Q8 Q5 ?_))
   intro v5 w5 hown5 hgrow5 hwhere;obtain⟨a5,c5,rfl⟩:=B0 hown5;have hlow:=cT HR1.out hz1 hgrow5;have H5:=hid (HH.out.low H3.out hlow.1 hlow.2.1);have H6:=hid (H4.out.low hlow);have hfn:pQ w5 W.heap.size (.slice a5 (k+1) c5) (acc++[⟨x1,.slice ca x2.length cc,x2⟩]):=by
    refine⟨?_,fun x hx=>?_,HDIS.out⟩
    ·rw [List.length_append,HK.out,List.flatMap_append]
     exact hown5
    ·obtain ⟨q1,q2⟩:=HCOD.out x hx
     have hb1:∀b,x.fv.ownBlock=some b→b < w1.heap.size:=fun b hb=>(q1.lt b hb).2
     refine⟨A2 q1 fun b hb=>?_,fun b hb e=>?_⟩
     ·rw [hgrow5.block b (by have:=hb1 b hb;simp;omega) (fun e=>q2 b e.symm hb)]
      exact (Below.alloc (Below.refl _ _) (Nat.le_refl _) _).block b (hb1 b hb)
     ·rcases hwhere b hb with e' | e'
      ·exact q2 b e' e
      ·have:=hb1 b e
       first | omega | (simp at e';omega)
   have HFN:=hid hfn;clear hown5 hgrow5 hlow hfn hwhere;go_wp2_with fail;go_roundw
   case rel=>exact ⟨acc++[⟨x1,.slice ca x2.length cc,x2⟩],a5,c5,s2,by rw [List.length_append,HK.out];rfl,HFN.out,H5.out,H6.out,by rw [List.length_append,HK.out];exact HPP.out,by rw [List.length_append,HK.out];simp;omega,by rw [List.length_append,HK.out,List.map_append];exact HEQ.out⟩
   case measure=>simp [Z5];omega
  ·have HEQ:Hid (D9 (bA bs) (bs.length+2) n [] s=(acc.map ObR.l,s')):=by
    refine hid ?_;rw[heq,show bs.length+2 - acc.length=(bs.length+1 - acc.length)+1 by omega];exact Y7 (by rw [hml];exact hgo)
   have HP:Hid (∀v,v=.slice la acc.length lc→∃fl,J1 rb a c bs (D9 (bA bs) (bs.length+2) n [] s).2 v W (.returned v) wr∧pQ wr W.heap.size v fl∧fl.map ObR.l=(D9 (bA bs) (bs.length+2) n [] s).1):=fun v hv=>by
    rw[HEQ.out,hv];exact⟨acc,⟨rfl,HRD.out,HWR.out⟩,HROW.out,rfl⟩
   clear hrd hwr hrow hpp heq hml;by_cases hn2:(acc.length:Int) < n
   ·have hf:s'.f=true:=by
     cases e:s'.f
     ·exact absurd ⟨hn2,e⟩ hgo
     ·rfl
    rw[hf] at c2;clear hgo;go_wp2_with fail;go_ret;obtain⟨fl,hq⟩:=HP.out _ rfl;exact⟨_,fl,hq⟩
   ·clear hgo
    go_wp2_with fail;go_ret;obtain⟨fl,hq⟩:=HP.out _ rfl;exact⟨_,hq.1,fl,hq.2⟩
def lX (bs:List Int) (s:Rs):List ObL × Rs:=a0t bs (D7 bs 40 s).1 (D7 bs 40 s).2
theorem xI {W:World} {rb c:Nat} {a:Option Addr} {bs:List Int} {s:Rs} (h:F7 W rb a c bs s) :
  Calls Tryz.prog 83 #[.pointer (some ⟨rb,0,none⟩)] W fun e w'=>∃v fl,J1 rb a c bs (lX bs s).2 v W e w'∧pQ w' W.heap.size v fl∧fl.map ObR.l=(lX bs s).1:=by
 have HN:=hid (aY h 40 Q7);have hq:(D7 bs 40 s).1≤9223372036854775807:=by have:=(T6 h.rng (most:=40) Q7 s).2;omega
 clear h;unfold lX;go_enter Tryz.func83,Tryz.ntmps83;go_wp2_with (go_at_call 80;refine HN.out.mono ?_;rintro e w1 ⟨rfl,h1,h2⟩)
 have HL:=hid (zZ h1 _ hq);have H2:=hid h2;clear h1 h2;go_wp2_with (go_at_call 117;refine HL.out.mono ?_;rintro e w2 ⟨v,fl,⟨rfl,h3,h4⟩,h5,h6⟩)
 go_ret;refine⟨v,fl,⟨rfl,h3,H2.out.trans h4⟩,⟨C5 h5.row H2.out.size,fun x hx=>⟨C5 (h5.code x hx).1 H2.out.size,(h5.code x hx).2⟩,h5.dis⟩,h6⟩
end Go.Proofs.YtbkmgoffiigdbabGreatDoor
