import Derived.Test.YtbkmgoffiigdbabGreatDoorVNk
import Derived.Test.YtbkmgoffiigdbabGreatDoorWMA
import Derived.Test.YtbkmgoffiigdbabGreatDoorWMQ
namespace Go.Proofs.YtbkmgoffiigdbabGreatDoor
open Go.RowKit Go.Sort
set_option maxHeartbeats 4000000
set_option maxRecDepth 100000
theorem a0I {g:PgR} {l:Nat} {L:List (Int × Int)} (h:gC g l L) (hl:l≤8) (h1:1≤L.length) (h60:L.length≤60) (Hs:Nat→Int) (h0:Hs 0=0) (hleg:∀(a:Nat) (x:Int × Int),L[a]?=some x→D3 1 l L.length x.1 x.2=true∧x.1≠14)
  (hsh:∀(a:Nat) (x:Int × Int),L[a]?=some x→G1 x.1 0≤Hs a∧Hs a - G1 x.1 0+J9 x.1≤10∧∀c,c∈D2 a x.1 x.2→c < L.length∧Hs c=Hs a - G1 x.1 0+J9 x.1):N6 g 0 0:=by
 have hget:∀j,j < L.length→∃x,L[j]?=some x:=fun j hj=>⟨_,List.getElem?_eq_getElem hj⟩
 have hi0:∀i,i < g.n→i=0:=fun i hi=>by rw [h.n] at hi;omega
 refine Or.inr ⟨Or.inl ⟨rfl,rfl,by rw [h.n];omega,by rw [h.n];omega,fun i hi=>?_⟩,Or.inr ⟨Or.inl ⟨rfl,rfl,fun i hi j hj=>?_⟩,Or.inr ⟨Or.inl ⟨rfl,rfl,fun i hi=>?_⟩,rfl,rfl⟩⟩⟩
 ·obtain rfl:=hi0 i hi
  rw[h.p,h.l,h.len];refine (a5d (r:=true) ?_).symm;exact⟨fun _=>rfl,fun _=>⟨by omega,by omega,by omega,Or.inr rfl⟩⟩
 ·obtain rfl:=hi0 i hi
  rw[h.len] at hj;obtain⟨x,hx⟩:=hget j hj;obtain⟨q1,q2⟩:=h.code j x hx;unfold Y5;rw[h.n,h.l,h.len,q1,q2];exact (hleg j x hx).1
 ·obtain rfl:=hi0 i hi
  have hp:∀a x,L[a]?=some x→(A7 g (g.f 0)).pop a=G1 x.1 0:=fun a x hx=>by
   obtain⟨q1,q2⟩:=h.code a x hx;have h14:=(hleg a x hx).2;show G1 ((g.f 0).op a) _=_;rw[q1];unfold G1;rw[if_neg h14,if_neg h14]
  refine E6.fits_of_shut (H:=Hs) (by show 0 < (g.f 0).n;rw [h.len];omega) h0 (fun a=>(M7 _).1) fun a ha _=>?_
  have ha':a < L.length:=by rw [← h.len];exact ha
  obtain⟨x,hx⟩:=hget a ha';obtain⟨q1,q2⟩:=h.code a x hx;obtain⟨s1,s2,s3⟩:=hsh a x hx;have hb:(A7 g (g.f 0)).behind a (Hs a)=Hs a - G1 x.1 0+J9 x.1:=by
   unfold E6.behind;rw[hp a x hx];show _+J9 ((g.f 0).op a)=_;rw[q1]
  refine⟨by rw [hp a x hx];exact s1,by rw [hb];exact s2,fun c hc=>?_⟩;have hc':c∈D2 a x.1 x.2:=by
   have:c∈D2 a ((g.f 0).op a) ((g.f 0).ar a):=hc;rwa [q1,q2] at this
  obtain⟨t1,t2⟩:=s3 c hc';exact⟨by show c < (g.f 0).n;rw [h.len];exact t1,by rw [hb];exact t2⟩
def V3:List (Int × Int):=[(0,7),(26,0),(27,0)]
theorem yP {g:PgR} (h:gC g 0 V3):N6 g 0 0:=by
 refine a0I h Q8 (by simp [V3]) (by simp [V3]) (fun a=>if a=1 then 1 else 0) rfl (fun a x hx=>?_) (fun a x hx=>?_)
 ·match a,hx with
  | 0,hx=>obtain rfl:(0,7)=x:=by simpa [V3] using hx
          simp[D3]
  | 1,hx=>obtain rfl:(26,0)=x:=by simpa [V3] using hx
          simp[D3,B9]
  | 2,hx=>obtain rfl:(27,0)=x:=by simpa [V3] using hx
          simp[D3,B9]
  | n+3,hx=>simp [V3] at hx
 ·match a,hx with
  | 0,hx=>obtain rfl:(0,7)=x:=by simpa [V3] using hx
          simp[G1,J9,D2,V3]
  | 1,hx=>obtain rfl:(26,0)=x:=by simpa [V3] using hx
          simp[G1,J9,D2,V3]
  | 2,hx=>obtain rfl:(27,0)=x:=by simpa [V3] using hx
          simp[G1,J9,D2]
  | n+3,hx=>simp [V3] at hx
theorem a4r {g:PgR} {L:List (Int × Int)} {cap:Nat} {R:McR} (h:gC g 0 L) (hb:xZ g cap R):Mid cap 0 [] [] R:=by
 obtain⟨lv,hf⟩:=hb.frs;have hl:(g.f 0).l=0:=h.l;rw[hl] at hf;exact⟨hb.st,hb.out,⟨lv,_,hf⟩,by rw [hb.obs];simp⟩
def a9g (cap:Nat):Nat→McR→Prop
 | 0=>Mid cap 0 [] []
 | 1=>Mid cap 1 [(1,7)] []
 | 2=>Mid cap 2 [] [7]
 | _=>a2T cap [7]
theorem a5b {own:Own} {mb:Nat} {g:PgR} {R:McR} {w:World} {cap:Nat} (h:A3 w own mb g R) (hg:gC g 0 V3) (hR:Mid cap 0 [] [] R) :
  Calls Tryz.prog 28 #[.pointer (some ⟨mb,0,none⟩),.int .i64 9] w fun e w'=>lA own mb g (a2T cap [7]) 3 w e w':=by
 have h60:V3.length≤60:=by simp [V3]
 refine a3q h (a9g cap) hR 3 9 Q8 Q8 (fun i R hi hs=>?_) (fun _ R hs=>?_) (fun i own R w hi hm hs=>?_)
 ·match i,hi,hs with
  | 0,_,hs=>exact hs.st
  | 1,_,hs=>exact hs.st
  | 2,_,hs=>exact hs.st
 ·have:R.st=1:=hs.st
  rw[this];decide
 ·match i,hi,hs with
  | 0,_,hs=>exact a7Z (stk:=[]) hg h60 hm hs rfl Q9
  | 1,_,hs=>exact a4s (stk:=[]) (out:=[]) hg h60 hm hs rfl Q9 Q9
  | 2,_,hs=>exact a6D hg h60 hm hs rfl Q9
def a9h (fb fc l cb cc:Nat) (L:List (Int × Int)):PgR :=
 ⟨some ⟨fb,0,none⟩,1,fc,fb,0,fun _=>⟨0,l,some ⟨cb,0,none⟩,L.length,cc,cb,0,fun j=>(L.getD j (0,0)).1,fun j=>(L.getD j (0,0)).2⟩⟩
theorem a8h {W:World} {fb fc l cb cc:Nat} {L:List (Int × Int)} {arr:Array Value} (hf:W.heap[fb]?=some (.cells #[.int .i64 0,.int .i64 (l:Int),.slice (some ⟨cb,0,none⟩) L.length cc] 68)) (hc:W.heap[cb]?=some (.cells arr 62)) (ha:arr.toList=C7 L) (hL:L.length≤1000) :
  M3 W.heap.size W (a9h fb fc l cb cc L)∧gC (a9h fb fc l cb cc L) l L:=by
 have hfb:=(Array.getElem?_eq_some_iff.1 hf).1;have hcb:=(Array.getElem?_eq_some_iff.1 hc).1;have len2:∀x:Int × Int,(([.int .i64 x.1,.int .i64 x.2]:List Value)).length=2:=fun _=>rfl
 refine⟨⟨by show (1:Nat)≤_;omega,fun _=>⟨rfl,hfb,fun i hi=>?_⟩,fun i hi=>⟨by show L.length≤_;omega,fun _=>⟨rfl,hcb,fun j hj=>?_⟩⟩⟩,⟨rfl,rfl,rfl,rfl,fun j x hx=>?_⟩⟩
 ·obtain rfl:i=0:=by have:i < 1:=hi;omega
  have:=cell_of_row W fb 0 _ _ _ hf;have h1:=cell_of_row W fb 1 _ _ _ hf;have h2:=cell_of_row W fb 2 _ _ _ hf;exact⟨this,h1,h2⟩
 ·have hj':j < L.length:=hj
  have hx:L[j]?=some L[j]:=List.getElem?_eq_getElem hj';have hcell:∀i,i < 2→W.cell? ⟨cb,j*2+i,none⟩=([.int .i64 (L[j]).1,.int .i64 (L[j]).2]:List Value)[i]?:=fun i hi=>by
   rw[cell_of_row W cb _ _ _ _ hc,← Array.getElem?_toList,ha];exact C3 len2 hx hi
  have e:L.getD j (0,0)=L[j]:=by simp [List.getD,hx]
  have h0:=hcell 0 Q8;have h1:=hcell 1 Q8;show W.cell? ⟨cb,0+j*2,none⟩=some (.int .i64 (L.getD j (0,0)).1)∧W.cell? ⟨cb,0+j*2+1,none⟩=some (.int .i64 (L.getD j (0,0)).2);rw[e,Nat.zero_add];exact⟨h0,h1⟩
 ·show (L.getD j (0,0)).1=x.1∧(L.getD j (0,0)).2=x.2
  have e:L.getD j (0,0)=x:=by simp [List.getD,hx]
  rw[e];exact ⟨rfl,rfl⟩
theorem vR {w:World} {o o':Obj} {n:Nat} (h:w.heap[n]?=some o'):(w.alloc o).heap[n]?=some o':=by
 rw[Below.heap_alloc _ _ _ (Array.getElem?_eq_some_iff.1 h).1];exact h
theorem a3X {own:Own} {mb cap:Nat} {g:PgR} {R:McR} {w:World} {z:Int} (h:A3 w own mb g R) (hR:a2T cap [z] R) :
  Calls Tryz.prog 32 #[.pointer (some ⟨mb,0,none⟩)] w fun e w'=>∃b c,e=.returned (.slice (some ⟨b,0,none⟩) 1 c)∧w'.cell? ⟨b,0,none⟩=some (.int .i64 z)∧w.heap.size≤b∧b < w'.heap.size∧Below w.heap.size w w':=by
 refine (pS h (by rw [hR.out];simp) (fun e=>by rw [hR.out] at e;simp at e)).mono ?_;rintro e w' ⟨hB,⟨h0,_⟩ | ⟨_,b,c,rfl,hown,_⟩⟩
 ·rw [hR.out] at h0;cases h0
 ·rw [hR.out] at hown
  have hc:=hown.cellAt 0 Q9;have hb:w.heap.size≤b∧b < w'.heap.size:=by
   rcases hown.2 with ⟨h0,_⟩ | ⟨_,_,_,hv,h1,hg,_⟩
   ·cases h0
   ·cases hv;exact ⟨h1,(Array.getElem?_eq_some_iff.1 hg).1⟩
  exact⟨b,c,by rw [hR.out];rfl,hc,hb.1,hb.2,hB⟩
theorem a4o (w:World) (ht:Tab w):Calls Tryz.prog 23 #[] w fun e w'=>e=.returned (.bool true)∧Below w.heap.size w w':=by
 have HT:=hid ht;clear ht;go_enter Tryz.func23,Tryz.ntmps23;go_wp2_with (go_at_call 27;refine (O2 _ _ _).mono ?_;rintro e w' ⟨rfl,hw⟩;rw [hw];clear hw w')
 obtain⟨h1,h2⟩:=a8h (l:=0) (fc:=1) (cc:=3) (L:=V3) (W:=((((((w.alloc (Obj.cells #[.int .i64 0,.int .i64 7] 62)).alloc (Obj.cells #[.int .i64 26,.int .i64 0] 62)).alloc (Obj.cells #[.int .i64 27,.int .i64 0] 62)).alloc (Obj.cells #[.int .i64 0,.int .i64 7,.int .i64 26,.int .i64 0,.int .i64 27,.int .i64 0] 62)).alloc (Obj.cells #[.int .i64 0,.int .i64 0,.slice (some { block:=w.heap.size+1+1+1,off:=0 }) 3 3] 68)).alloc (Obj.cells #[.slice (some { block:=w.heap.size+1+1+1+1,off:=0 }) 1 1] 27)))
  (vR (D8 (n:=w.heap.size+1+1+1+1) Q9)) (vR (vR (D8 (n:=w.heap.size+1+1+1) Q9))) rfl (by simp [V3])
 have hB:Below w.heap.size w ((((((w.alloc (Obj.cells #[.int .i64 0,.int .i64 7] 62)).alloc (Obj.cells #[.int .i64 26,.int .i64 0] 62)).alloc (Obj.cells #[.int .i64 27,.int .i64 0] 62)).alloc (Obj.cells #[.int .i64 0,.int .i64 7,.int .i64 26,.int .i64 0,.int .i64 27,.int .i64 0] 62)).alloc (Obj.cells #[.int .i64 0,.int .i64 0,.slice (some { block:=w.heap.size+1+1+1,off:=0 }) 3 3] 68)).alloc (Obj.cells #[.slice (some { block:=w.heap.size+1+1+1+1,off:=0 }) 1 1] 27)):=by repeat (first | exact Below.refl _ _ | refine Below.alloc ?_ P7 _)
 generalize ((((((w.alloc (Obj.cells #[.int .i64 0,.int .i64 7] 62)).alloc (Obj.cells #[.int .i64 26,.int .i64 0] 62)).alloc (Obj.cells #[.int .i64 27,.int .i64 0] 62)).alloc (Obj.cells #[.int .i64 0,.int .i64 7,.int .i64 26,.int .i64 0,.int .i64 27,.int .i64 0] 62)).alloc (Obj.cells #[.int .i64 0,.int .i64 0,.slice (some { block:=w.heap.size+1+1+1,off:=0 }) 3 3] 68)).alloc (Obj.cells #[.slice (some { block:=w.heap.size+1+1+1+1,off:=0 }) 1 1] 27))=W at *
 have HN:Hid (Calls Tryz.prog 24 #[.agg #[.slice (some ⟨w.heap.size+1+1+1+1,0,none⟩) 1 1],.int .i64 1] W fun e w'=>oY (a9h (w.heap.size+1+1+1+1) 1 0 (w.heap.size+1+1+1) 3 V3) 1 W e w'):=a7E _ W h1 (HT.out.held hB.size (hB.block 0 HT.out.1)) (yP h2) 1 Q8 Q8;refine HN.out.mono ?_;rintro e w2 ⟨own,mb,g',R,rfl,hm,hbg,hsame,hb,hnew⟩;have hmid:=a4r h2 hbg;have hsp:=h2.same hsame
 have HRUN:=hid (a2X (a5b hm hsp hmid));have HNEW:=hid hnew;have HB2:Hid (Below w.heap.size w w2):=A1 hb hB;have HBW:=hid hB;clear h1 h2 hB HN hm hbg hsame hb hnew hmid hsp;go_wp2_with (go_at_call 8;refine HRUN.out.mono ?_;rintro e w3 ⟨own3,R3,rfl,hm3,hend3,ht3⟩;have HM3:=hid hm3;have HE3:=hid hend3;have HT3:=hid ht3;clear hm3 hend3 ht3)
 refine (a3X HM3.out HE3.out).mono ?_;rintro e w4 ⟨b,c,rfl,hcell,hb4,hb4',hB4⟩;have HM4:Hid (A3 w4 own3 mb g' R3):=HM3.out.same hB4.size fun k hk=>hB4.block k hk
 have HST:Hid (∀U,Below w4.heap.size w4 U→Calls Tryz.prog 20 #[.pointer (some ⟨mb,0,none⟩)] U fun e w'=>e=.returned (.agg #[.int .i64 1,.int .i64 (taken R3.obs:Int),.int .i64 (R3.dr.length:Int)])∧Below U.heap.size U w'):=by
  intro U hU;have:=pW (HM4.out.same hU.size fun k hk=>hU.block k hk) (by rw [HE3.out.obs];omega) (by rw [HE3.out.obs];omega);rw[HE3.out.st] at this;exact this
 have HB4:=hid hB4;have HL4:=hid hb4;clear hB4 hb4;go_wp2_with (go_at_call 20;refine (HST.out _ ?_).mono ?_;exact P3;rintro e w5 ⟨rfl,hb5⟩;obtain ⟨hcc,hff⟩:=W9 hb5;have hl5:=Nat.lt_of_lt_of_le hb4' hb5.size;have HB5:=hid hb5;clear hb5)
 go_ret;have hB3:Below w.heap.size w w3:=HB2.out.trans (HT3.out.below HB2.out.size fun k hk=>by
  cases e:own k with
  | none=>rfl
  | some t=>have:=HNEW.out k t e;have:=HBW.out.size;omega)
 have hB5:Below w.heap.size w w5:=A1 HB5.out (A1 HB4.out hB3);exact⟨rfl,Below.alloc hB5 hB5.size _⟩
theorem kL (c:Int) (w:World) (h1 : -9223372036854775808≤c) (h2:c≤9223372036854775807) :
  Calls Tryz.prog 12 #[.int .i64 c,.int .i64 40] w fun e w'=>e=.returned (.int .i64 (D1 c 40))∧w'=w:=by
 by_cases hc:c < 0
 ·go_enter Tryz.func12,Tryz.ntmps12
  go_wp2
  go_ret;refine⟨jE ?_,rfl⟩;show -(c+1).tmod 40=D1 c 40;unfold D1;rw[if_pos hc,← Int.neg_tmod];exact Int.tmod_eq_emod_of_nonneg Q8
 ·go_enter Tryz.func12,Tryz.ntmps12
  go_wp2
  go_ret;refine⟨jE ?_,rfl⟩;show c % 40=D1 c 40;unfold D1;rw[if_neg Q8]
theorem fS (c:Int):0≤D1 c 40∧D1 c 40 < 40:=by
 unfold D1;split <;> omega
end Go.Proofs.YtbkmgoffiigdbabGreatDoor
