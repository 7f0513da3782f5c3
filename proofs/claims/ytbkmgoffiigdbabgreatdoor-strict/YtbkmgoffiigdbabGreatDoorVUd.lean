import Derived.Test.YtbkmgoffiigdbabGreatDoorVUq
import Derived.Test.YtbkmgoffiigdbabGreatDoorVUc
namespace Go.Proofs.YtbkmgoffiigdbabGreatDoor
open Go.RowKit Go.Sort
set_option maxHeartbeats 2000000
set_option maxRecDepth 100000
def c2w (p:List (Int × Int × Int)):Bool:=p.all fun t=>decide (-1000≤t.2.1∧t.2.1≤1000)
theorem c2y:(List.range 8).all (fun k=>(List.range 9).all fun n=>c2w (c0f k n))=true:=by decide +kernel
theorem c2x:(List.range 10).all (fun k=>(List.range 9).all fun n=>c2w (c0e k n))=true:=by decide +kernel
theorem c2O (c:Int):c2w (rel c)=true:=by
 have hb:0≤i9 c 1099511627776∧i9 c 1099511627776 < 1099511627776:=by unfold i9;split <;> omega
 have hn:(((i9 c 1099511627776 / 18 % 9).toNat:Nat):Int)=i9 c 1099511627776 / 18 % 9:=by omega
 unfold rel;split
 ·have h:=List.all_eq_true.1 c2y (i9 c 1099511627776 % 18).toNat (List.mem_range.2 Q8)
  have h':=List.all_eq_true.1 h (i9 c 1099511627776 / 18 % 9).toNat (List.mem_range.2 Q8);simp only[hn] at h';exact h'
 ·have h:=List.all_eq_true.1 c2x (i9 c 1099511627776 % 18 - 8).toNat (List.mem_range.2 Q8)
  have h':=List.all_eq_true.1 h (i9 c 1099511627776 / 18 % 9).toNat (List.mem_range.2 Q8);simp only[hn] at h';exact h'
def LI (L:List (Int × Int)):Prop:=∀x,x∈L→I64 x.2
theorem LI.app {L K:List (Int × Int)} (h:LI L) (k:LI K):LI (L++K):=fun x hx=>by
 rcases List.mem_append.1 hx with hx | hx
 ·exact h x hx
 ·exact k x hx
theorem LI.of_all {L:List (Int × Int)} (h:(L.all fun t=>decide (-1000≤t.2∧t.2≤1000))=true):LI L:=fun x hx=>by
 have:=of_decide_eq_true (List.all_eq_true.1 h x hx);unfold I64;omega
theorem c1u (c:Int) {len:Nat} (hl:len≤1000):LI (a1r c len):=fun x hx=>by
 rw[a8S] at hx;obtain⟨t,ht,rfl⟩:=List.mem_map.1 hx;have:=of_decide_eq_true (List.all_eq_true.1 (c2O c) t ht);unfold a4W I64;simp only;split <;> omega
theorem b3s (R:Nat→Int):∀i,i≤6→LI (A5 R i)
 | 0,_=>LI.of_all (L:=[(0,0),(3,0)]) Q7
 | i+1,hi=>by
  have hl:=K9 R i;exact (b3s R i Q8).app (c1u _ Q8)
theorem b8N {L1 L2:List (Int × Int)} (h1:LI L1) (h2:LI L2) (pb b1 c1 sb b2 c2:Nat):ArI (a4r pb b1 c1 sb b2 c2 L1 Y0 L2):=by
 have key:∀(p l:Int) (b c:Nat) (L:List (Int × Int)),LI L→∀j,j < (M5 p l b c L).n→I64 ((M5 p l b c L).ar j):=fun p l b c L hL j hj=>by
  show I64 (L.getD j (0,0)).2;rw[List.getD_eq_getElem?_getD,List.getElem?_eq_getElem (show j < L.length from hj)];exact hL _ (List.getElem_mem _)
 have hs:LI Y0:=LI.of_all Q7;intro i hi;have hi3:i < 3:=hi
 match i,hi3 with
 | 0,_=>exact key _ _ _ _ _ h1
 | 1,_=>exact key _ _ _ _ _ hs
 | 2,_=>exact key _ _ _ _ _ h2
def a8v (w:World) (e:Ending) (w':World):Prop :=
 ∃g:PgR,e=.returned (.agg #[.slice g.a g.n g.c])∧A4 w'.heap.size w' g∧y5 g 0 0∧Below w.heap.size w w'∧ArI g
theorem b4f (a:Option Addr) (n c b o:Nat) (R:Nat→Int) (again:Bool) (w:World) (hr:M3 w.heap.size w a n b o R) (hc:n≤c) :
  Calls Tryz.prog 7 #[.slice a n c,.bool again] w fun e w'=>a8v w e w':=by
 have hs1:=b2O R (min (n / 2) 6);have hs2:=b2O (fun i=>R (n / 2+i)) (min (n - n / 2) 6);have hl1:=K9 R (min (n / 2) 6);have hl2:=K9 (fun i=>R (n / 2+i)) (min (n - n / 2) 6);refine (b2x a n c b o R again w hr hc).mono ?_;rintro e w' ⟨pb,b1,c1,sb,b2,c2,he,hP,k1,k2,k3,k4,k5,_,_,k8,k9⟩;obtain⟨H1,hS1⟩:=hs1;obtain⟨H2,hS2⟩:=hs2;refine⟨_,he,hP,b4h hS1 Q8 hS2 Q8 again,k9,b8N ?_ ?_ _ _ _ _ _ _⟩
 ·exact (((b3s R _ Q8).app (LI.of_all Q7)).app (LI.of_all Q7)).app (LI.of_all (by cases again <;> decide))
 ·exact ((b3s _ _ Q8).app (LI.of_all Q7)).app (LI.of_all Q7)
theorem a8n (a1 a2:Option Addr) (c1 c2:Nat) (l:List Int) (w:World) (hl:l.length≤20000) (h1:D9 w a1 l) (h2:D9 w a2 l) :
  Calls Tryz.prog 21 #[.slice a1 l.length c1,.slice a2 l.length c2] w fun e w'=>e=.returned (.bool true)∧Below w.heap.size w w':=by
 have H1:=hid h1;have H2:=hid h2;clear h1 h2;go_enter Tryz.func21,Tryz.ntmps21;go_wp2_with fail;go_loopw [5] (fun vi wr=>∃i:Nat,i≤l.length∧vi=.int .i64 i∧Below w.heap.size w wr) (fun vi _=>l.length - (intOf vi).toNat)
 case atStart=>exact ⟨0,Nat.zero_le _,rfl,Below.refl _ _⟩
 case round =>
  obtain⟨i,hi,rfl,hbel⟩:=hrel;have HBEL:=hid hbel;by_cases hlt:i < l.length
  ·obtain ⟨x,hx⟩:∃x,l[i]?=some x:=⟨_,List.getElem?_eq_getElem hlt⟩
   obtain⟨b1,o1,rfl,hb1,hc1⟩:=H1.out Q8;obtain⟨b2,o2,rfl,hb2,hc2⟩:=H2.out Q8;have k1:=(hbel.cell (p:=⟨b1,o1+i,none⟩) hb1).trans (hc1 i x hx);have k2:=(hbel.cell (p:=⟨b2,o2+i,none⟩) hb2).trans (hc2 i x hx);have l1:b1 < wr.heap.size:=Nat.lt_of_lt_of_le hb1 hbel.size;have l2:b2 < wr.heap.size:=Nat.lt_of_lt_of_le hb2 hbel.size;clear hc1 hc2 hbel hx;go_wp2_with fail;go_region
   all_goals
    go_wp2_with fail;go_roundw
    case rel=>exact ⟨i+1,by omega,by go_num,Below.drew HBEL.out⟩
    case measure=>simp [intOf];omega
  ·clear hbel
   go_wp2_with fail;go_ret;exact⟨rfl,HBEL.out⟩
structure TM (w0 w:World) (g:PgR) (oa ob:Own) (ma mb:Nat) (ga gb:PgR) (Ra Rb:McR) (s t:McA):Prop where
 two:Two w oa ob ma mb ga gb Ra Rb
 isa:Is ga s Ra
 isb:Is gb t Rb
 sa:R6 g ga
 sb:R6 g gb
 inva:e8 g s
 invb:e8 g t
 inta:o7 s
 intb:o7 t
 na:∀k t,oa k=some t→w0.heap.size≤k
 nb:∀k t,ob k=some t→w0.heap.size≤k
 bel:Below w0.heap.size w0 w
theorem TM.later {w0 w W:World} {g:PgR} {oa ob:Own} {ma mb:Nat} {ga gb:PgR} {Ra Rb:McR} {s t:McA} (h:TM w0 w g oa ob ma mb ga gb Ra Rb s t) (hB:Below w.heap.size w W):TM w0 W g oa ob ma mb ga gb Ra Rb s t :=
 ⟨h.two.later hB,h.isa,h.isb,h.sa,h.sb,h.inva,h.invb,h.inta,h.intb,h.na,h.nb,a0 hB h.bel⟩
theorem TM.touch {w0 w w':World} {g:PgR} {oa oa' ob:Own} {ma mb:Nat} {ga gb:PgR} {Ra Ra' Rb:McR} {s s' t:McA} (h:TM w0 w g oa ob ma mb ga gb Ra Rb s t) (hm:a8 w' oa' ma ga Ra') (his:Is ga s' Ra') (hi:e8 g s') (hz:o7 s') (ht:d7 oa w oa' w'):TM w0 w' g oa' ob ma mb ga gb Ra' Rb s' t:=by
 refine⟨h.two.runA hm ht,his,h.isb,h.sa,h.sb,hi,h.invb,hz,h.intb,fun k t hk=>?_,h.nb,h.bel.trans (ht.below h.bel.size fun k hk=>?_)⟩
 ·rcases Nat.lt_or_ge k w.heap.size with hl | hl
  ·rw [ht.old k hl] at hk;exact h.na k t hk
  ·exact Nat.le_trans h.bel.size hl
 ·cases e:oa k with
  | none=>rfl
  | some t=>have:=h.na k t e;omega
theorem TM.run {w0 w:World} {g:PgR} {oa ob:Own} {ma mb:Nat} {ga gb:PgR} {Ra Rb:McR} {s t:McA} (h:TM w0 w g oa ob ma mb ga gb Ra Rb s t) (hp:s7 g) (ha:ArI g) (f:Nat) (hf:f≤10000) :
  Calls Tryz.prog 8 #[.pointer (some ⟨ma,0,none⟩),.int .i64 (f:Int)] w fun e w'=>e=.returned (.tuple #[.int .i64 (z6 g f s:Int),.int .i64 0])∧∃oa' Ra',TM w0 w' g oa' ob ma mb ga gb Ra' Rb (runA g f s) t:=by
 have hs:=a5o hp h.sa f h.inva;refine (a5p (h.sa.pgOk hp) (h.sa.inv hp h.inva) h.isa h.two.a f hf).mono ?_;rintro e w' ⟨oa',Ra',rfl,hm,his,ht⟩;rw[hs.1] at his;rw[hs.2];exact⟨rfl,oa',Ra',h.touch hm his (a4l hp f h.inva) (a7j hp ha f h.inta h.inva) ht⟩
theorem TM.output {w0 w:World} {g:PgR} {oa ob:Own} {ma mb:Nat} {ga gb:PgR} {Ra Rb:McR} {s t:McA} (h:TM w0 w g oa ob ma mb ga gb Ra Rb s t) (hp:s7 g) :
  Calls Tryz.prog 32 #[.pointer (some ⟨ma,0,none⟩)] w fun e w'=>(∃a c,e=.returned (.slice a s.out.length c)∧a4R w' a s.out)∧Below w.heap.size w w' :=
 HM.output (w0:=w0) ⟨h.two.a,h.isa,h.sa.inv hp h.inva,h.na,h.bel⟩
end Go.Proofs.YtbkmgoffiigdbabGreatDoor
