import Derived.Test.YtbkmgoffiigdbabGreatDoorVUq
import Derived.Test.YtbkmgoffiigdbabGreatDoorVUc
namespace Go.Proofs.YtbkmgoffiigdbabGreatDoor
open Go.RowKit Go.Sort
set_option maxHeartbeats 4000000
set_option maxRecDepth 100000
def a9o (p:List (Int × Int × Int)):Bool:=p.all fun t=>decide (-1000≤t.2.1∧t.2.1≤1000)
theorem a9q:(List.range 8).all (fun k=>(List.range 9).all fun n=>a9o (a7b k n))=true:=by decide +kernel
theorem a9p:(List.range 10).all (fun k=>(List.range 9).all fun n=>a9o (a7a k n))=true:=by decide +kernel
theorem a9C (c:Int):a9o (rel c)=true:=by
 have hb:0≤D1 c 1099511627776∧D1 c 1099511627776 < 1099511627776:=by unfold D1;split <;> omega
 have hn:(((D1 c 1099511627776 / 18 % 9).toNat:Nat):Int)=D1 c 1099511627776 / 18 % 9:=by omega
 unfold rel;split
 ·have h:=List.all_eq_true.1 a9q (D1 c 1099511627776 % 18).toNat (List.mem_range.2 Q8)
  have h':=List.all_eq_true.1 h (D1 c 1099511627776 / 18 % 9).toNat (List.mem_range.2 Q8);simp only[hn] at h';exact h'
 ·have h:=List.all_eq_true.1 a9p (D1 c 1099511627776 % 18 - 8).toNat (List.mem_range.2 Q8)
  have h':=List.all_eq_true.1 h (D1 c 1099511627776 / 18 % 9).toNat (List.mem_range.2 Q8);simp only[hn] at h';exact h'
def LI (L:List (Int × Int)):Prop:=∀x,x∈L→I64 x.2
theorem LI.app {L K:List (Int × Int)} (h:LI L) (k:LI K):LI (L++K):=fun x hx=>by
 rcases List.mem_append.1 hx with hx | hx
 ·exact h x hx
 ·exact k x hx
theorem LI.of_all {L:List (Int × Int)} (h:(L.all fun t=>decide (-1000≤t.2∧t.2≤1000))=true):LI L:=fun x hx=>by
 have:=of_decide_eq_true (List.all_eq_true.1 h x hx);unfold I64;omega
theorem a8r (c:Int) {len:Nat} (hl:len≤1000):LI (fB c len):=fun x hx=>by
 rw[uU] at hx;obtain⟨t,ht,rfl⟩:=List.mem_map.1 hx;have:=of_decide_eq_true (List.all_eq_true.1 (a9C c) t ht);unfold mP I64;simp only;split <;> omega
theorem a1d (R:Nat→Int):∀i,i≤6→LI (K9 R i)
 | 0,_=>LI.of_all (L:=[(0,0),(3,0)]) Q7
 | i+1,hi=>by
  have hl:=X3 R i;exact (a1d R i Q8).app (a8r _ Q8)
theorem a5L {L1 L2:List (Int × Int)} (h1:LI L1) (h2:LI L2) (pb b1 c1 sb b2 c2:Nat):ArI (lT pb b1 c1 sb b2 c2 L1 cJ L2):=by
 have key:∀(p l:Int) (b c:Nat) (L:List (Int × Int)),LI L→∀j,j < (Z1 p l b c L).n→I64 ((Z1 p l b c L).ar j):=fun p l b c L hL j hj=>by
  show I64 (L.getD j (0,0)).2;rw[List.getD_eq_getElem?_getD,List.getElem?_eq_getElem (show j < L.length from hj)];exact hL _ (List.getElem_mem _)
 have hs:LI cJ:=LI.of_all Q7;intro i hi;have hi3:i < 3:=hi
 match i,hi3 with
 | 0,_=>exact key _ _ _ _ _ h1
 | 1,_=>exact key _ _ _ _ _ hs
 | 2,_=>exact key _ _ _ _ _ h2
def mK (w:World) (e:Ending) (w':World):Prop :=
 ∃g:PgR,e=.returned (.agg #[.slice g.a g.n g.c])∧M3 w'.heap.size w' g∧N6 g 0 0∧Below w.heap.size w w'∧ArI g
theorem rR (a:Option Addr) (n c b o:Nat) (R:Nat→Int) (again:Bool) (w:World) (hr:W7 w.heap.size w a n b o R) (hc:n≤c) :
  Calls Tryz.prog 7 #[.slice a n c,.bool again] w fun e w'=>mK w e w':=by
 have hs1:=a0E R (min (n / 2) 6);have hs2:=a0E (fun i=>R (n / 2+i)) (min (n - n / 2) 6);have hl1:=X3 R (min (n / 2) 6);have hl2:=X3 (fun i=>R (n / 2+i)) (min (n - n / 2) 6);refine (a0s a n c b o R again w hr hc).mono ?_;rintro e w' ⟨pb,b1,c1,sb,b2,c2,he,hP,k1,k2,k3,k4,k5,_,_,k8,k9⟩;obtain⟨H1,hS1⟩:=hs1;obtain⟨H2,hS2⟩:=hs2;refine⟨_,he,hP,a1P hS1 Q8 hS2 Q8 again,k9,a5L ?_ ?_ _ _ _ _ _ _⟩
 ·exact (((a1d R _ Q8).app (LI.of_all Q7)).app (LI.of_all Q7)).app (LI.of_all (by cases again <;> decide))
 ·exact ((a1d _ _ Q8).app (LI.of_all Q7)).app (LI.of_all Q7)
theorem jS (a1 a2:Option Addr) (c1 c2:Nat) (l:List Int) (w:World) (hl:l.length≤20000) (h1:Y2 w a1 l) (h2:Y2 w a2 l) :
  Calls Tryz.prog 21 #[.slice a1 l.length c1,.slice a2 l.length c2] w fun e w'=>e=.returned (.bool true)∧Below w.heap.size w w':=by
 have H1:=hid h1;have H2:=hid h2;clear h1 h2;go_enter Tryz.func21,Tryz.ntmps21;go_wp2_with fail;go_loopw [5] (fun vi wr=>∃i:Nat,i≤l.length∧vi=.int .i64 i∧Below w.heap.size w wr) (fun vi _=>l.length - (intOf vi).toNat)
 case atStart=>exact ⟨0,Nat.zero_le _,rfl,Below.refl _ _⟩
 case round =>
  obtain⟨i,hi,rfl,hbel⟩:=hrel;have HBEL:=hid hbel;by_cases hlt:i < l.length
  ·obtain ⟨x,hx⟩:∃x,l[i]?=some x:=⟨_,List.getElem?_eq_getElem hlt⟩
   obtain⟨b1,o1,rfl,hb1,hc1⟩:=H1.out Q8;obtain⟨b2,o2,rfl,hb2,hc2⟩:=H2.out Q8;have k1:=(hbel.cell (p:=⟨b1,o1+i,none⟩) hb1).trans (hc1 i x hx);have k2:=(hbel.cell (p:=⟨b2,o2+i,none⟩) hb2).trans (hc2 i x hx);have l1:b1 < wr.heap.size:=Nat.lt_of_lt_of_le hb1 hbel.size;have l2:b2 < wr.heap.size:=Nat.lt_of_lt_of_le hb2 hbel.size;clear hc1 hc2 hbel hx;go_wp2_with fail;go_region
   all_goals
    go_wp2_with fail;go_roundw
    case rel=>exact ⟨i+1,by omega,by go_num,Below.drew HBEL.out⟩
    case measure=>simp [intOf];omega
  ·clear hbel
   go_wp2_with fail;go_ret;exact⟨rfl,HBEL.out⟩
structure TM (w0 w:World) (g:PgR) (oa ob:Own) (ma mb:Nat) (ga gb:PgR) (Ra Rb:McR) (s t:McA):Prop where
 two:Two w oa ob ma mb ga gb Ra Rb
 isa:Is ga s Ra
 isb:Is gb t Rb
 sa:aQ g ga
 sb:aQ g gb
 inva:C1 g s
 invb:C1 g t
 inta:G5 s
 intb:G5 t
 na:∀k t,oa k=some t→w0.heap.size≤k
 nb:∀k t,ob k=some t→w0.heap.size≤k
 bel:Below w0.heap.size w0 w
theorem TM.flip {w0 w:World} {g:PgR} {oa ob:Own} {ma mb:Nat} {ga gb:PgR} {Ra Rb:McR} {s t:McA} (h:TM w0 w g oa ob ma mb ga gb Ra Rb s t):TM w0 w g ob oa mb ma gb ga Rb Ra t s :=
 ⟨h.two.flip,h.isb,h.isa,h.sb,h.sa,h.invb,h.inva,h.intb,h.inta,h.nb,h.na,h.bel⟩
theorem TM.later {w0 w W:World} {g:PgR} {oa ob:Own} {ma mb:Nat} {ga gb:PgR} {Ra Rb:McR} {s t:McA} (h:TM w0 w g oa ob ma mb ga gb Ra Rb s t) (hB:Below w.heap.size w W):TM w0 W g oa ob ma mb ga gb Ra Rb s t :=
 ⟨h.two.later hB,h.isa,h.isb,h.sa,h.sb,h.inva,h.invb,h.inta,h.intb,h.na,h.nb,A1 hB h.bel⟩
theorem TM.touch {w0 w w':World} {g:PgR} {oa oa' ob:Own} {ma mb:Nat} {ga gb:PgR} {Ra Ra' Rb:McR} {s s' t:McA} (h:TM w0 w g oa ob ma mb ga gb Ra Rb s t) (hm:A3 w' oa' ma ga Ra') (his:Is ga s' Ra') (hi:C1 g s') (hz:G5 s') (ht:A8 oa w oa' w'):TM w0 w' g oa' ob ma mb ga gb Ra' Rb s' t:=by
 refine⟨h.two.runA hm ht,his,h.isb,h.sa,h.sb,hi,h.invb,hz,h.intb,fun k t hk=>?_,h.nb,h.bel.trans (ht.below h.bel.size fun k hk=>?_)⟩
 ·rcases Nat.lt_or_ge k w.heap.size with hl | hl
  ·rw [ht.old k hl] at hk;exact h.na k t hk
  ·exact Nat.le_trans h.bel.size hl
 ·cases e:oa k with
  | none=>rfl
  | some t=>have:=h.na k t e;omega
theorem TM.run {w0 w:World} {g:PgR} {oa ob:Own} {ma mb:Nat} {ga gb:PgR} {Ra Rb:McR} {s t:McA} (h:TM w0 w g oa ob ma mb ga gb Ra Rb s t) (hp:F2 g) (ha:ArI g) (f:Nat) (hf:f≤10000) :
  Calls Tryz.prog 8 #[.pointer (some ⟨ma,0,none⟩),.int .i64 (f:Int)] w fun e w'=>e=.returned (.tuple #[.int .i64 (G4 g f s:Int),.int .i64 0])∧∃oa' Ra',TM w0 w' g oa' ob ma mb ga gb Ra' Rb (runA g f s) t:=by
 have hs:=nK hp h.sa f h.inva;refine (nL (h.sa.pgOk hp) (h.sa.inv hp h.inva) h.isa h.two.a f hf).mono ?_;rintro e w' ⟨oa',Ra',rfl,hm,his,ht⟩;rw[hs.1] at his;rw[hs.2];exact⟨rfl,oa',Ra',h.touch hm his (lP hp f h.inva) (rM hp ha f h.inta h.inva) ht⟩
theorem TM.collect {w0 w:World} {g:PgR} {oa ob:Own} {ma mb:Nat} {ga gb:PgR} {Ra Rb:McR} {s t:McA} (h:TM w0 w g oa ob ma mb ga gb Ra Rb s t) (hp:F2 g) :
  Calls Tryz.prog 15 #[.pointer (some ⟨ma,0,none⟩)] w fun e w'=>(∃n:Int,e=.returned (.int .i64 n))∧∃oa' Ra',TM w0 w' g oa' ob ma mb ga gb Ra' Rb (G8 s) t:=by
 refine (pJ (h.sa.pgOk hp) h.two.a h.isa (h.sa.inv hp h.inva)).mono ?_;rintro e w' ⟨R',rfl,hm,his,ht⟩;exact⟨⟨_,rfl⟩,oa,R',h.touch hm his (aL h.inva) (lN h.inta) ht⟩
theorem TM.status {w0 w:World} {g:PgR} {oa ob:Own} {ma mb:Nat} {ga gb:PgR} {Ra Rb:McR} {s t:McA} (h:TM w0 w g oa ob ma mb ga gb Ra Rb s t) (hp:F2 g) :
  Calls Tryz.prog 20 #[.pointer (some ⟨ma,0,none⟩)] w fun e w'=>(∃n d:Nat,e=.returned (.agg #[.int .i64 s.st,.int .i64 (n:Int),.int .i64 (d:Int)]))∧Below w.heap.size w w':=by
 refine (HM.status (w0:=w0) ⟨h.two.a,h.isa,h.sa.inv hp h.inva,h.na,h.bel⟩).mono ?_;rintro e w' ⟨rfl,hb⟩;exact⟨⟨_,_,rfl⟩,hb⟩
theorem TM.output {w0 w:World} {g:PgR} {oa ob:Own} {ma mb:Nat} {ga gb:PgR} {Ra Rb:McR} {s t:McA} (h:TM w0 w g oa ob ma mb ga gb Ra Rb s t) (hp:F2 g) :
  Calls Tryz.prog 32 #[.pointer (some ⟨ma,0,none⟩)] w fun e w'=>(∃a c,e=.returned (.slice a s.out.length c)∧eE w' a s.out)∧Below w.heap.size w w' :=
 HM.output (w0:=w0) ⟨h.two.a,h.isa,h.sa.inv hp h.inva,h.na,h.bel⟩
theorem TM.save {w0 w:World} {g:PgR} {oa ob:Own} {ma mb:Nat} {ga gb:PgR} {Ra Rb:McR} {s t:McA} (h:TM w0 w g oa ob ma mb ga gb Ra Rb s t) (hp:F2 g) (ha:ArI g) :
  Calls Tryz.prog 10 #[.pointer (some ⟨ma,0,none⟩)] w fun e w'=>gS (imgB g (A9 s)) w e w':=by
 have hi:=h.sa.inv hp h.inva;have hz:=h.inta;obtain⟨e,_⟩:=h.isa;rw[← e] at hi hz;have:=a5G h.two.a (h.sa.pgOk hp) hi hz (h.sa.arI ha);rw[h.sa.imgB,e] at this;exact this
theorem mQ {w0 w:World} {g:PgR} {oa ob:Own} {ma mb:Nat} {ga gb:PgR} {Ra Rb:McR} {s t:McA} (h:TM w0 w g oa ob ma mb ga gb Ra Rb s t) (hp:F2 g) (ha:ArI g) {r:Nat→Nat} (hr:Rel r s t) :
  Calls Tryz.prog 14 #[.pointer (some ⟨ma,0,none⟩),.pointer (some ⟨mb,0,none⟩)] w fun e w'=>e=.returned (.bool true)∧Below w.heap.size w w':=by
 have hst:=hr.st;have hout:=hr.out;have hpk:=a6P hr h.inva h.invb;have hol:s.out.length≤1000:=by have:=h.inva.out;omega
 have hbl:=a7U (iA hp ha) (bL hp h.inva h.inta);have hb8:=a6n g (A9 s);have HSA:Hid (∀W,Below w.heap.size w W→Calls Tryz.prog 20 #[.pointer (some ⟨ma,0,none⟩)] W fun e w'=>(∃n d:Nat,e=.returned (.agg #[.int .i64 s.st,.int .i64 (n:Int),.int .i64 (d:Int)]))∧Below W.heap.size W w'):=fun W hW=>(h.later hW).status hp
 have HSB:Hid (∀W,Below w.heap.size w W→Calls Tryz.prog 20 #[.pointer (some ⟨mb,0,none⟩)] W fun e w'=>(∃n d:Nat,e=.returned (.agg #[.int .i64 s.st,.int .i64 (n:Int),.int .i64 (d:Int)]))∧Below W.heap.size W w'):=fun W hW=>by
  have:=(h.later hW).flip.status hp;rw[hst] at this;exact this
 have HOA:Hid (∀W,Below w.heap.size w W→Calls Tryz.prog 32 #[.pointer (some ⟨ma,0,none⟩)] W fun e w'=>(∃a c,e=.returned (.slice a s.out.length c)∧eE w' a s.out)∧Below W.heap.size W w'):=fun W hW=>(h.later hW).output hp
 have HOB:Hid (∀W,Below w.heap.size w W→Calls Tryz.prog 32 #[.pointer (some ⟨mb,0,none⟩)] W fun e w'=>(∃a c,e=.returned (.slice a s.out.length c)∧eE w' a s.out)∧Below W.heap.size W w'):=fun W hW=>by
  have:=(h.later hW).flip.output hp;rw[hout] at this;exact this
 have HVA:Hid (∀W,Below w.heap.size w W→Calls Tryz.prog 10 #[.pointer (some ⟨ma,0,none⟩)] W fun e w'=>gS (imgB g (A9 s)) W e w'):=fun W hW=>(h.later hW).save hp ha
 have HVB:Hid (∀W,Below w.heap.size w W→Calls Tryz.prog 10 #[.pointer (some ⟨mb,0,none⟩)] W fun e w'=>gS (imgB g (A9 s)) W e w'):=fun W hW=>by
  have:=(h.later hW).flip.save hp ha;rw[hpk] at this;exact this
 generalize imgB g (A9 s)=img at *
 generalize s.out=out at *
 generalize s.st=st at *
 clear h hp ha hr hst hout hpk;go_enter Tryz.func14,Tryz.ntmps14;go_wp2_with fail;refine (HSA.out _ (by repeat (first | exact Below.refl _ _ | refine Below.drew ?_ | refine Below.drewQ ?_ _ | refine Below.alloc ?_ P6 _))).mono ?_;rintro e w1 ⟨⟨n1,d1,rfl⟩,hb1⟩;have B1:=hid (A1 hb1 (by repeat (first | exact Below.refl _ _ | refine Below.drew ?_ | refine Below.drewQ ?_ _ | refine Below.alloc ?_ P6 _)):Below w.heap.size w w1)
 have s1:=B1.out.size;clear hb1;go_wp2_with fail;refine (HSB.out _ (by repeat (first | exact B1.out | refine Below.drew ?_ | refine Below.alloc ?_ P6 _))).mono ?_;rintro e w2 ⟨⟨n2,d2,rfl⟩,hb2⟩;have B2:=hid (A1 hb2 (by repeat (first | exact B1.out | refine Below.drew ?_ | refine Below.alloc ?_ P6 _)):Below w.heap.size w w2)
 have x2:w2.cell? ⟨w1.heap.size,0,none⟩=some (.int .i64 st):=(hb2.cell (p:=⟨w1.heap.size,0,none⟩) Q9).trans Q6;have l2:w1.heap.size < w2.heap.size:=Nat.lt_of_lt_of_le Q9 hb2.size;have s2:=B2.out.size;clear hb2;go_wp2_with fail;refine (HOA.out _ (by repeat (first | exact B2.out | refine Below.drew ?_ | refine Below.alloc ?_ P6 _))).mono ?_
 rintro e w3 ⟨⟨a3,c3,rfl,hi3⟩,hb3⟩;have B3:=hid (A1 hb3 (by repeat (first | exact B2.out | refine Below.drew ?_ | refine Below.alloc ?_ P6 _)):Below w.heap.size w w3);have x3:w3.cell? ⟨w1.heap.size,0,none⟩=some (.int .i64 st):=(hb3.cell (p:=⟨w1.heap.size,0,none⟩) Q5).trans Q6;have y3:w3.cell? ⟨w2.heap.size,0,none⟩=some (.int .i64 st):=(hb3.cell (p:=⟨w2.heap.size,0,none⟩) Q9).trans Q6
 have l3:w2.heap.size < w3.heap.size:=Nat.lt_of_lt_of_le Q9 hb3.size;have s3:=B3.out.size;have I3:=hid hi3;clear hb3 hi3 x2;go_wp2_with fail;refine (HOB.out _ B3.out).mono ?_;rintro e w4 ⟨⟨a4,c4,rfl,hi4⟩,hb4⟩;have B4:=hid (A1 hb4 B3.out);have x4:=(hb4.cell (p:=⟨w1.heap.size,0,none⟩) (show w1.heap.size < w3.heap.size by omega)).trans x3;have y4:=(hb4.cell (p:=⟨w2.heap.size,0,none⟩) (show w2.heap.size < w3.heap.size by omega)).trans y3
 have l4:=hb4.size;have I34:=hid (I3.out.later hb4);have I4:=hid hi4;clear hb4 hi4 x3 y3 I3;go_wp2_with fail;refine (xL a3 a4 c3 c4 out _ hol I34.out I4.out).mono ?_;rintro e w5 ⟨rfl,hb5⟩;have B5:=hid (A1 hb5 B4.out);have x5:=(hb5.cell (p:=⟨w1.heap.size,0,none⟩) (show w1.heap.size < w4.heap.size by omega)).trans x4;have y5:=(hb5.cell (p:=⟨w2.heap.size,0,none⟩) (show w2.heap.size < w4.heap.size by omega)).trans y4
 have l5:=hb5.size;clear hb5 x4 y4 I34 I4;go_wp2_with fail;refine (HVA.out _ B5.out).mono ?_;rintro e w6 ⟨g6,c6,rfl,hi6,hb6⟩;have B6:=hid (A1 hb6 B5.out);have x6:=(hb6.cell (p:=⟨w1.heap.size,0,none⟩) (show w1.heap.size < w5.heap.size by omega)).trans x5;have y6:=(hb6.cell (p:=⟨w2.heap.size,0,none⟩) (show w2.heap.size < w5.heap.size by omega)).trans y5;have l6:=hb6.size;have I6:=hid hi6;clear hb6 hi6 x5 y5
 go_wp2_with fail;refine (HVB.out _ B6.out).mono ?_;rintro e w7 ⟨g7,c7,rfl,hi7,hb7⟩;have B7:=hid (A1 hb7 B6.out);have x7:=(hb7.cell (p:=⟨w1.heap.size,0,none⟩) (show w1.heap.size < w6.heap.size by omega)).trans x6;have y7:=(hb7.cell (p:=⟨w2.heap.size,0,none⟩) (show w2.heap.size < w6.heap.size by omega)).trans y6;have l7:=hb7.size;have I67:=hid (I6.out.later hb7);have I7:=hid hi7;clear hb7 hi7 x6 y6 I6
 go_wp2_with fail;refine (jS (some ⟨g6,0,none⟩) (some ⟨g7,0,none⟩) c6 c7 img _ Q8 I67.out I7.out).mono ?_;rintro e w8 ⟨rfl,hb8'⟩;have B8:=hid (A1 hb8' B7.out);have x8:=(hb8'.cell (p:=⟨w1.heap.size,0,none⟩) (show w1.heap.size < w7.heap.size by omega)).trans x7;have y8:=(hb8'.cell (p:=⟨w2.heap.size,0,none⟩) (show w2.heap.size < w7.heap.size by omega)).trans y7;have l8:=hb8'.size
 have q1:w1.heap.size < w8.heap.size:=by omega
 have q2:w2.heap.size < w8.heap.size:=by omega
 clear hb8' x7 y7 I67 I7;have hb8i:(8:Int)≤(img.length:Int):=by omega
 go_wp2_with fail;go_ret;exact⟨rfl,B8.out⟩
end Go.Proofs.YtbkmgoffiigdbabGreatDoor
