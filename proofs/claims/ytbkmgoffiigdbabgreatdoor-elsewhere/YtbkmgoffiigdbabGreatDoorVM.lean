import Derived.Test.YtbkmgoffiigdbabGreatDoorVB
import Derived.Test.YtbkmgoffiigdbabGreatDoorWMB7
import Derived.Test.YtbkmgoffiigdbabGreatDoorWMQ
namespace Go.Proofs.YtbkmgoffiigdbabGreatDoor
open Go.RowKit
set_option maxHeartbeats 8000000
set_option maxRecDepth 100000
theorem a3i (n m:Int) (h:0≤n):n.tmod m=n % m:=Int.tmod_eq_emod_of_nonneg h
theorem a7B (n m:Int) (h:0≤n) (hm:m=2∨m=3):IntKind.wrap .i64 (1+n.tmod m)=1+n % m:=by
 rw[a3i n m h];exact Go.IntWalk.i64_in _ (by rcases hm with rfl | rfl <;> omega)
theorem a2K (mb:Nat) (l:List (Int × Int)) (k n:Int) (w:World) (hm:G6 w mb l) (hl:l.length≤800) (hl0:0 < l.length) (hk0:0≤k) (hk8:k < 8) (hn0:0≤n) :
  Calls Tryz.prog 39 #[.pointer (some ⟨mb,0,none⟩),.int .i64 k,.int .i64 n] w fun e w'=>I9 mb (l++iD k.toNat n l.length) w e w':=by
 have hk:k=0∨k=1∨k=2∨k=3∨k=4∨k=5∨k=6∨k=7:=by omega
 have hl':l.length≤1000:=by omega
 rcases hk with rfl | rfl | rfl | rfl | rfl | rfl | rfl | rfl
 ·exact a7r mb l n w hm hl'
 ·exact a7s mb l n w hm hl'
 ·exact a7t mb l n w hm hl'
 ·exact a7u mb l n w hm hl'
 ·exact a7v mb l n w hm hl'
 ·have h:=a7w mb l n w hm hl' (n.tmod 2) (IntKind.i64.wrap (1+n.tmod 2)) rfl rfl
  rw[a7B n 2 hn0 (Or.inl rfl)] at h;exact h
 ·exact a7x mb l n w hm hl'
 ·have h:=a7y mb l n w hm hl' hl0 (IntKind.i64.wrap ((l.length:Int)+6)) rfl
  rw[Go.IntWalk.i64_in ((l.length:Int)+6) Q8] at h;exact h
theorem a0g (mb:Nat) (l:List (Int × Int)) (k n:Int) (w:World) (hm:G6 w mb l) (hl:l.length≤800) (hk0:0≤k) (hk8:k < 10) (hn0:0≤n) (hn8:n≤8) :
  Calls Tryz.prog 40 #[.pointer (some ⟨mb,0,none⟩),.int .i64 k,.int .i64 n] w fun e w'=>I9 mb (l++iC k.toNat n l.length) w e w':=by
 have hk:k=0∨k=1∨k=2∨k=3∨k=4∨k=5∨k=6∨k=7∨k=8∨k=9:=by omega
 have hl':l.length≤1000:=by omega
 rcases hk with rfl | rfl | rfl | rfl | rfl | rfl | rfl | rfl | rfl | rfl
 ·exact a4y mb l n w hm hl'
 ·exact a4z mb l n w hm hl'
 ·exact a4A mb l n w hm hl'
 ·exact a4B mb l n w hm hl
 ·exact a4C mb l n w hm hl
 ·exact a4D mb l n w hm hl
 ·exact a4E mb l n w hm hl
 ·exact a4F mb l n w hm hl
 ·exact a4G mb l n w hm hl hn0 hn8
 ·have h:=a4H mb l n w hm hl' (n.tmod 3) (IntKind.i64.wrap (1+n.tmod 3)) rfl rfl
  rw[a7B n 3 hn0 (Or.inr rfl),a3i n 3 hn0] at h;exact h
theorem a2e (k:Nat) (n:Int) (len:Nat):1≤(iD k n len).length∧(iD k n len).length≤7:=by
 unfold iD;repeat' split
 all_goals simp
theorem a2c (k:Nat) (n:Int) (len:Nat):1≤(iC k n len).length∧(iC k n len).length≤7:=by
 unfold iC mZ;repeat' split
 all_goals simp
theorem a4Q (c:Int) (len:Nat):1≤(fB c len).length∧(fB c len).length≤7:=by
 unfold fB;split
 ·exact a2e _ _ _
 ·exact a2c _ _ _
theorem X3 (R:Nat→Int) (i:Nat):2≤(K9 R i).length∧(K9 R i).length≤2+7*i:=by
 induction i with
 | zero=>simp [K9]
 | succ i ih =>
  have:=a4Q (R i) (K9 R i).length;simp only[K9,List.length_append];omega
def W7 (B:Nat) (w:World) (a:Option Addr) (n b o:Nat) (R:Nat→Int):Prop :=
 n≤1152921504606846976∧(0 < n→a=some ⟨b,o,none⟩∧b < B∧∀i,i < n→w.cell? ⟨b,o+i,none⟩=some (.int .i64 (R i)))∧∀i, -9223372036854775808≤R i∧R i≤9223372036854775807
def yA (R:Nat→Int) (n:Nat) (w:World) (e:Ending) (w':World):Prop :=
 ∃mb,e=.returned (.pointer (some ⟨mb,0,none⟩))∧w.heap.size≤mb∧G6 w' mb (K9 R (min n 6))∧Below w.heap.size w w'
theorem uB {R:Nat→Int} {n mb i:Nat} {w:World} {e:Ending} {w':World} (he:e=.returned (.pointer (some ⟨mb,0,none⟩))) (hmb:w.heap.size≤mb) (hi:i≤n∧i≤6) (hx:¬(i < n∧i < 6)) (hM:G6 w' mb (K9 R i)) (hB:Below w.heap.size w w'):yA R n w e w':=by
 refine⟨mb,he,hmb,?_,hB⟩;rw[show min n 6=i by omega];exact hM
theorem a6Q (c:Int):0≤D1 c 1099511627776∧D1 c 1099511627776 < 1099511627776:=by unfold D1;split <;> omega
theorem a6T {c:Int} {len:Nat} (h:D1 c 1099511627776 % 18 < 8):fB c len=iD (D1 c 1099511627776 % 18).toNat (D1 c 1099511627776 / 18 % 9) len:=by unfold fB;rw [if_pos h]
theorem a6S {c:Int} {len:Nat} (h:¬D1 c 1099511627776 % 18 < 8):fB c len=iC (D1 c 1099511627776 % 18 - 8).toNat (D1 c 1099511627776 / 18 % 9) len:=by unfold fB;rw [if_neg h]
theorem lD (a:Option Addr) (n c b o:Nat) (R:Nat→Int) (w:World) (hr:W7 w.heap.size w a n b o R) :
  Calls Tryz.prog 25 #[.slice a n c] w fun e w'=>yA R n w e w':=by
 have HR:=(show Hid (W7 w.heap.size w a n b o R) from hr);clear hr;go_enter Tryz.func25,Tryz.ntmps25;go_wp2_with fail;have hcv0:∃cv,R8 (w.alloc (Obj.cells #[.slice none 0 0] 66)) w.heap.size [] cv:=⟨.slice none 0 0,by go_simp,by go_simp,World.ownsRow_nil _ _ _ _,by simp⟩
 have hB0:Below w.heap.size w (w.alloc (Obj.cells #[.slice none 0 0] 66)):=Below.alloc (Below.refl _ _) (Nat.le_refl _) _;generalize (w.alloc (Obj.cells #[.slice none 0 0] 66))=W at *
 obtain⟨mb,hmb⟩:∃mb,mb=w.heap.size:=⟨_,rfl⟩
 rw[← hmb] at hcv0;rw[← hmb];have hmb1:w.heap.size≤mb:=by omega
 clear hmb;obtain⟨cv,hcv⟩:=hcv0;obtain⟨h1,h2,h3,h4⟩:=id hcv;obtain⟨i37,hi37,hz37,hs37,hb37⟩:=info_parts O7;have h4a:mb < W.heap.size+1:=by omega
 have h4b:mb < W.heap.size+1+1:=by omega
 have h4c:mb < W.heap.size+1+1+1:=by omega
 go_region_law ((first | (refine step_append_lies _ rfl (.tmp 12) (.tmp 15) 64 rfl (mb+1) 62 i37 _ 2 16 Tryz.underlying64 hi37 hz37 hs37 hb37 rfl Q7 cv 0 (C7 []) (by rfl) (by repeat (first | exact h3 | exact h3.drew | refine World.ownsRow.alloc ?_ _ | refine World.ownsRow.drew ?_)) _ 2 2 (C7 [(0,0),(3,0)]) (by rfl) rfl (World.news_of_block (cs:=#[.int .i64 0,.int .i64 (0),.int .i64 3,.int .i64 (0)]) (t:=62) (fr:=(0,0)) (by first | exact G9 Q9 | (exact G9 rfl))) (J2 _) Q8 Q0 Q8 P6 _ rfl ?_;intro gq capq w5 hown5 hgrow5 hat5 hlt5;obtain ⟨y0,y1,y2,hM,hBl⟩:=L3 (l:=[]) (new:=[(0,0),(3,0)]) hcv P1 hgrow5 rfl hown5;clear hown5 hgrow5 hat5 hlt5) | (go_simp;go_at_call 27;refine (O2 _ _ _).mono ?_;rintro e w' ⟨rfl,rfl⟩)))
 all_goals
  have hM0:G6 (w5.setCell ⟨mb,0,none⟩ (.slice (some ⟨gq,0,none⟩) 2 capq)) mb (K9 R 0):=hM;have hBl0:Below w.heap.size w (w5.setCell ⟨mb,0,none⟩ (.slice (some ⟨gq,0,none⟩) 2 capq)):=hB0.trans (Below.mono hBl hmb1);clear hM hBl h1 h2 h3 h4 hcv h4a h4b h4c y0 y1 y2 hi37 hz37 hs37 hb37 hB0;generalize (w5.setCell ⟨mb,0,none⟩ (.slice (some ⟨gq,0,none⟩) 2 capq))=W2 at *
  go_wp2_with fail;go_loopw [4] (fun v wr=>∃i:Nat,(i≤n∧i≤6)∧v=.int .i64 i∧G6 wr mb (K9 R i)∧Below w.heap.size w wr) (fun v _=>6 - (intOf v).toNat)
  case atStart=>exact ⟨0,⟨Nat.zero_le _,Nat.zero_le _⟩,rfl,hM0,hBl0⟩
  case round =>
   clear hM0 hBl0;obtain⟨i,hi,rfl,hM,hbel⟩:=hrel;by_cases hlt:i < n∧i < 6
   ·obtain ⟨hin,hi6⟩:=hlt
    have HMX:=(show Hid _ from hi);clear hi;obtain⟨ha,hbz,hcell⟩:=HR.out.2.1 Q8;have hsz:=hbel.size;have hbw:b < wr.heap.size:=by omega
    have hci:wr.cell? ⟨b,o+i,none⟩=some (.int .i64 (R i)):=by
     rw[hbel.cell (p:=⟨b,o+i,none⟩) hbz];exact hcell i hin
    have hRi:=HR.out.2.2 i;have hlen:=X3 R i;clear hcell;subst ha;go_wp2_with (go_at_call 12;refine (a6R _ _ hRi.1 hRi.2).mono ?_;rintro e w7 ⟨rfl,hB7⟩)
    all_goals
     have hX:=a6Q (R i);have e2:(wrap64 ((D1 (R i) 1099511627776).tdiv 18)).tmod 9=D1 (R i) 1099511627776 / 18 % 9:=by
      rw[← Go.IntWalk.i64_left,Go.IntWalk.i64_quo _ _ Q8,a3i _ _ Q8]
     have e1:(D1 (R i) 1099511627776).tmod 18=D1 (R i) 1099511627776 % 18:=a3i _ _ hX.1;have hM7:G6 w7 mb (K9 R i):=by
      obtain⟨cv',hcv'⟩:=hM;exact⟨cv',hcv'.below hB7⟩
     have hbel7:Below w.heap.size w w7:=hbel.trans (hB7.mono hsz)
    ·have hlt8:(D1 (R i) 1099511627776).tmod 18 < 8:=by assumption
     rw[e2];simp only[e1] at hlt8 ⊢;refine (a2K mb (K9 R i) _ _ w7 hM7 Q8 Q8 Q8 hlt8 Q8).mono ?_;rintro e w8 ⟨rfl,hM8,hB8⟩;rw[← a6T hlt8] at hM8;have hbel8:Below w.heap.size w w8:=hbel7.trans (Below.mono hB8 hmb1);clear hM hM7 hB7 hB8 hbel7 hbel hci e1 e2 hX hlt8 hRi;go_wp2_with fail;go_roundw
     case rel=>exact ⟨i+1,by omega,by go_num,hM8,hbel8⟩
     case measure=>simp [intOf];omega
    ·have hlt8:¬(D1 (R i) 1099511627776).tmod 18 < 8:=by omega
     rw[e1] at hlt8;have e4:wrap64 (D1 (R i) 1099511627776 % 18 - 8)=D1 (R i) 1099511627776 % 18 - 8:=by
      rw[← Go.IntWalk.i64_left];exact Go.IntWalk.i64_in _ Q8
     rw[e2];simp only[e1,e4];refine (a0g mb (K9 R i) _ _ w7 hM7 Q8 Q8 Q8 Q8 Q8).mono ?_;rintro e w8 ⟨rfl,hM8,hB8⟩;rw[← a6S hlt8] at hM8;have hbel8:Below w.heap.size w w8:=hbel7.trans (Below.mono hB8 hmb1);clear hM hM7 hB7 hB8 hbel7 hbel hci e1 e2 e4 hX hlt8 hRi;go_wp2_with fail;go_roundw
     case rel=>exact ⟨i+1,by omega,by go_num,hM8,hbel8⟩
     case measure=>simp [intOf];omega
   ·have HLT:=(show Hid _ from hlt)
    by_cases hin:i < n
    ·have hi6:¬i < 6:=fun h=>hlt ⟨hin,h⟩
     clear hlt;go_wp2_with fail;go_ret;exact uB rfl hmb1 hi HLT.out hM hbel
    ·clear hlt
     go_wp2_with fail;go_ret;exact uB rfl hmb1 hi HLT.out hM hbel
def Z1 (p l:Int) (b c:Nat) (L:List (Int × Int)):FnR :=
 { p:=p,l:=l,a:=some ⟨b,0,none⟩,n:=L.length,c:=c,b:=b,o:=0,op:=fun j=>(L.getD j (0,0)).1,ar:=fun j=>(L.getD j (0,0)).2 }
def lT (pb b1 c1 sb b2 c2:Nat) (L1 S L2:List (Int × Int)):PgR :=
 { a:=some ⟨pb,0,none⟩,n:=3,c:=3,b:=pb,o:=0,f:=fun i=>if i=0 then Z1 0 3 b1 c1 L1 else if i=1 then Z1 2 3 sb 9 S else Z1 0 3 b2 c2 L2 }
def X8 (B:List (Int × Int)) (x:Int × Int):List (Int × Int):=B++[(14,2)]++[(5,0)]++[x]
def uP (again:Bool):Int × Int:=if again then (12,2) else (27,0)
def a0c (R:Nat→Int) (n:Nat) (again:Bool):List (Int × Int):=X8 (K9 R (min (n / 2) 6)) (uP again)
def a1X (R:Nat→Int) (n:Nat):List (Int × Int):=K9 (fun i=>R (n / 2+i)) (min (n - n / 2) 6)++[(2,1)]++[(15,0)]
def cJ:List (Int × Int):=[(16,1),(3,2),(2,2),(2,1),(20,0),(2,0),(0,1),(7,0),(15,0)]
theorem a1e (L:List (Int × Int)):∀j,j < L.length→(C7 L)[j*2]?=some (.int .i64 (L.getD j (0,0)).1)∧(C7 L)[j*2+1]?=some (.int .i64 (L.getD j (0,0)).2):=by
 induction L with
 | nil=>intro j hj;simp at hj
 | cons x r ih =>
  intro j hj;have hc:C7 (x::r)=.int .i64 x.1::.int .i64 x.2::C7 r:=rfl;rw[hc]
  cases j with
  | zero=>exact ⟨rfl,rfl⟩
  | succ j =>
   have:=ih j (by simpa using hj);rw[show (j+1)*2=j*2+1+1 by omega];simpa using this
theorem W5 {B:Nat} {w:World} {p l:Int} {b c:Nat} {L:List (Int × Int)} (hl:L.length≤1000) (hb:b < B)
  (h:∀j u,(C7 L)[j]?=some u→w.cell? ((⟨b,0,none⟩:Addr).add j)=some u):O0 B w (Z1 p l b c L):=by
 refine⟨by show L.length≤_;omega,fun _=>⟨rfl,hb,fun j hj=>?_⟩⟩;obtain⟨h1,h2⟩:=a1e L j hj;have k1:=h _ _ h1;have k2:=h _ _ h2;rw[Go.WideShapes.add_plain] at k1 k2;exact⟨k1,by rw [Nat.add_assoc];exact k2⟩
theorem oB {w:World} {base:Nat} {e:TypeId} {size b n c:Nat} {xs:List Value} (h:w.ownsRow base e size (.slice (some ⟨b,0,none⟩) n c) n xs) (j:Nat):w.frozen? ⟨b,j,none⟩=false:=by
 rcases h.2 with ⟨h0,_⟩ | ⟨g,cap,cur,hv,_,hh,hn,_,hs,ht⟩
 ·cases h0
 ·cases hv
  exact World.rowIs.frozen (w:=w) (b:=b) (t:=e) (n:=cur.size) (f:=fun k=>cur.getD k (.int .i64 0)) ⟨cur,hh,rfl,fun k hk=>by simp only [Array.getD_eq_getD_getElem?];rw [Array.getElem?_eq_getElem hk];rfl⟩ j
theorem a3h {B:Nat} {w:World} {pb b1 c1 sb b2 c2:Nat} {L1 S L2:List (Int × Int)} (hp:pb < B)
  (h0:w.cell? ⟨pb,0,none⟩=some (.int .i64 0)) (h1:w.cell? ⟨pb,1,none⟩=some (.int .i64 3)) (h2:w.cell? ⟨pb,2,none⟩=some (.slice (some ⟨b1,0,none⟩) L1.length c1))
  (h3:w.cell? ⟨pb,3,none⟩=some (.int .i64 2)) (h4:w.cell? ⟨pb,4,none⟩=some (.int .i64 3)) (h5:w.cell? ⟨pb,5,none⟩=some (.slice (some ⟨sb,0,none⟩) S.length 9))
  (h6:w.cell? ⟨pb,6,none⟩=some (.int .i64 0)) (h7:w.cell? ⟨pb,7,none⟩=some (.int .i64 3)) (h8:w.cell? ⟨pb,8,none⟩=some (.slice (some ⟨b2,0,none⟩) L2.length c2))
  (k1:O0 B w (Z1 0 3 b1 c1 L1)) (k2:O0 B w (Z1 2 3 sb 9 S)) (k3:O0 B w (Z1 0 3 b2 c2 L2)):M3 B w (lT pb b1 c1 sb b2 c2 L1 S L2):=by
 refine⟨by show 3≤_;omega,fun _=>⟨rfl,hp,fun i hi=>?_⟩,fun i hi=>?_⟩
 ·have hi':i=0∨i=1∨i=2:=by have:i < 3:=hi;omega
  rcases hi' with rfl | rfl | rfl
  ·exact ⟨h0,h1,h2⟩
  ·exact ⟨h3,h4,h5⟩
  ·exact ⟨h6,h7,h8⟩
 ·have hi':i=0∨i=1∨i=2:=by have:i < 3:=hi;omega
  rcases hi' with rfl | rfl | rfl
  ·exact k1
  ·exact k2
  ·exact k3
theorem W7.below {B:Nat} {w w':World} {a:Option Addr} {n b o:Nat} {R:Nat→Int} (h:W7 B w a n b o R) (hb:Below B w w'):W7 B w' a n b o R :=
 ⟨h.1,fun hn=>by
  obtain⟨h1,h2,h3⟩:=h.2.1 hn;refine⟨h1,h2,fun i hi=>?_⟩;rw[hb.cell (p:=⟨b,o+i,none⟩) h2];exact h3 i hi,h.2.2⟩
theorem W7.mono {B B':Nat} {w:World} {a:Option Addr} {n b o:Nat} {R:Nat→Int} (h:W7 B w a n b o R) (hb:B≤B'):W7 B' w a n b o R :=
 ⟨h.1,fun hn=>by obtain ⟨h1,h2,h3⟩:=h.2.1 hn;exact ⟨h1,by omega,h3⟩,h.2.2⟩
def gQ (R:Nat→Int) (n:Nat) (again:Bool) (w:World) (e:Ending) (w':World):Prop :=
 ∃pb b1 c1 sb b2 c2,e=.returned (.agg #[.slice (some ⟨pb,0,none⟩) 3 3])∧M3 w'.heap.size w' (lT pb b1 c1 sb b2 c2 (a0c R n again) cJ (a1X R n)) ∧
  w.heap.size≤b1∧b1 < b2∧b2 < sb∧sb < pb∧pb < w'.heap.size∧(a0c R n again).length≤47∧0 < (a0c R n again).length∧(∀j,w'.frozen? ⟨b1,j,none⟩=false)∧Below w.heap.size w w'
theorem tN (a:Option Addr) (n c b o:Nat) (R:Nat→Int) (w:World) (hr:W7 w.heap.size w a n b o R) (hc:n≤c) :
  Calls Tryz.prog 7 #[.slice a n c,.bool false] w fun e w'=>gQ R n false w e w':=by
 have HR:=(show Hid (W7 w.heap.size w a n b o R) from hr);clear hr;have hn:=HR.out.1;have hq:IntKind.i64.wrap ((n:Int).tdiv 2)=((n / 2:Nat):Int):=by rw [Go.IntWalk.i64_quo _ _ Q8];omega
 go_enter Tryz.func7,Tryz.ntmps7;go_wp2_with fail;have hl1:=X3 R (min (n / 2) 6);have hr0:W7 (w.alloc (Obj.cells #[.slice none 0 0] 27)).heap.size (w.alloc (Obj.cells #[.slice none 0 0] 27)) a (n / 2) b o R:=by
  refine W7.mono (W7.below (w:=w) (B:=w.heap.size) ?_ (Below.alloc (Below.refl _ _) (Nat.le_refl _) _)) Q9;exact⟨by omega,fun h=>by obtain ⟨h1,h2,h3⟩:=HR.out.2.1 Q8;exact ⟨h1,h2,fun i hi=>h3 i Q8⟩,HR.out.2.2⟩
 refine (lD a (n / 2) c b o R _ hr0).mono ?_;clear hr0;rintro e w1 ⟨mb1,rfl,hmb1,hM1,hB1⟩;have hbel1:Below w.heap.size w w1:=(Below.alloc (Below.refl _ _) (Nat.le_refl _) _).trans (Below.mono hB1 Q9);have hmb1':w.heap.size < mb1:=Nat.lt_of_succ_le (by simpa using hmb1);have hrs1:w1.cell? ⟨w.heap.size,0,none⟩=some (.slice none 0 0):=by rw [hB1.cell (p:=⟨w.heap.size,0,none⟩) Q9];go_simp
 have hrf1:w1.frozen? ⟨w.heap.size,0,none⟩=false:=by rw [hB1.frozen (p:=⟨w.heap.size,0,none⟩) Q9];go_simp
 clear hB1 hmb1;go_wp2_with fail;refine (eJ mb1 _ 14 2 w1 hM1 Q8).mono ?_;rintro e w2 ⟨rfl,hM2,hB2⟩;go_wp2_with fail;refine (eJ mb1 _ 5 0 w2 hM2 Q5).mono ?_;rintro e w3 ⟨rfl,hM3,hB3⟩;have hB13:=hB2.trans hB3;clear hM1 hM2 hB2 hB3
 all_goals
  go_wp2_with fail;refine (eJ mb1 _ _ _ w3 hM3 Q5).mono ?_;rintro e w4 ⟨rfl,hM4,hB4⟩;have hB14:=hB13.trans hB4;clear hM3 hB13 hB4;have hsz4:=hB14.size;have hbel4:Below w.heap.size w w4:=hbel1.trans (Below.mono hB14 Q8);have hrs4:w4.cell? ⟨w.heap.size,0,none⟩=some (.slice none 0 0):=by rw [hB14.cell (p:=⟨w.heap.size,0,none⟩) hmb1'];exact hrs1
  have hrf4:w4.frozen? ⟨w.heap.size,0,none⟩=false:=by rw [hB14.frozen (p:=⟨w.heap.size,0,none⟩) hmb1'];exact hrf1
  have hl2:=X3 (fun i=>R (n / 2+i)) (min (n - n / 2) 6);obtain⟨cv4,hcv4⟩:=hM4;have hmb14:mb1 < w4.heap.size:=hcv4.2.2.2;clear hrs1 hrf1 hB14 hbel1;go_wp2_with fail
 all_goals
  refine (lD _ (n - n / 2) _ b (o+n / 2) (fun i=>R (n / 2+i)) w4 ?_).mono ?_
  ·refine ⟨by omega,fun h=>?_,fun i=>HR.out.2.2 _⟩
   obtain⟨h1,h2,h3⟩:=HR.out.2.1 Q8;have hs:=hbel4.size
   first
    | (exfalso;omega)
    | (refine ⟨by rw [h1];simp [Go.WideShapes.add_plain],by omega,fun i hi=>?_⟩
       rw[hbel4.cell (p:=⟨b,o+n / 2+i,none⟩) h2,Nat.add_assoc]
       exact h3 _ Q8)
  rintro e w5 ⟨mb2,rfl,hmb2,hM5,hB5⟩;go_wp2_with fail;refine (eJ mb2 _ 2 1 w5 hM5 Q8).mono ?_;rintro e w6 ⟨rfl,hM6,hB6⟩;go_wp2_with fail;refine (eJ mb2 _ 15 0 w6 hM6 Q5).mono ?_;rintro e w7 ⟨rfl,⟨cv7,hcv7⟩,hB7⟩;have hB47:Below w4.heap.size w4 w7:=hB5.trans (Below.mono (hB6.trans hB7) hmb2);have hc1:=hcv4.below hB47;have hrs7:w7.cell? ⟨w.heap.size,0,none⟩=some (.slice none 0 0):=by rw [hB47.cell (p:=⟨w.heap.size,0,none⟩) (by show w.heap.size < _;omega)];exact hrs4
  have hrf7:w7.frozen? ⟨w.heap.size,0,none⟩=false:=by rw [hB47.frozen (p:=⟨w.heap.size,0,none⟩) (by show w.heap.size < _;omega)];exact hrf4
  have hbel7:Below w.heap.size w w7:=hbel4.trans (Below.mono hB47 hbel4.size);have hln1:∀x:Int × Int,0 < (K9 R (min (n / 2) 6)++[(14,2)]++[(5,0)]++[x]).length∧(K9 R (min (n / 2) 6)++[(14,2)]++[(5,0)]++[x]).length≤47:=fun x=>by simp;omega
  have hln2:0 < (K9 (fun i=>R (n / 2+i)) (min (n - n / 2) 6)++[(2,1)]++[(15,0)]).length∧(K9 (fun i=>R (n / 2+i)) (min (n - n / 2) 6)++[(2,1)]++[(15,0)]).length≤46:=by simp;omega
  obtain⟨L1,hL1⟩:∃L1,L1=a0c R n false:=⟨_,rfl⟩
  obtain⟨L2,hL2⟩:∃L2,L2=a1X R n:=⟨_,rfl⟩
  have hn1:0 < L1.length∧L1.length≤47:=by rw [hL1];exact hln1 _
  have hn2:0 < L2.length∧L2.length≤46:=by rw [hL2];exact hln2
  have hc1:R8 w7 mb1 L1 cv4:=by rw [hL1];exact hc1
  have hcv7:R8 w7 mb2 L2 cv7:=by rw [hL2];exact hcv7
  have HL1:=(show Hid _ from hL1);clear hL1;have HL2:=(show Hid _ from hL2);clear hL2 hln1 hln2;obtain⟨g1,cap1,rfl,hg1,hg1'⟩:=hc1.2.2.1.form hn1.1;obtain⟨g2,cap2,rfl,hg2,hg2'⟩:=hcv7.2.2.1.form hn2.1;have hg14:g1 < w4.heap.size:=(hcv4.2.2.1.lt g1 rfl).2;have h1a:=hc1.1;have h1b:=hc1.2.2.2;have h2a:=hcv7.1;have h2b:=hcv7.2.2.2;have hw7:w.heap.size < w7.heap.size:=by omega
  clear hM5 hM6 hB5 hB6 hB7 hrs4 hrf4 hbel4;go_wp2_with (go_at_call 27;refine (O2 _ _ _).mono ?_;rintro e w' ⟨rfl,rfl⟩)
  have hBk:Below w7.heap.size w7 ((((((((((w7.alloc (Obj.cells #[.int .i64 16,.int .i64 1] 62)).alloc (Obj.cells #[.int .i64 3,.int .i64 2] 62)).alloc (Obj.cells #[.int .i64 2,.int .i64 2] 62)).alloc (Obj.cells #[.int .i64 2,.int .i64 1] 62)).alloc (Obj.cells #[.int .i64 20,.int .i64 0] 62)).alloc (Obj.cells #[.int .i64 2,.int .i64 0] 62)).alloc (Obj.cells #[.int .i64 0,.int .i64 1] 62)).alloc (Obj.cells #[.int .i64 7,.int .i64 0] 62)).alloc (Obj.cells #[.int .i64 15,.int .i64 0] 62)).alloc (Obj.cells #[.int .i64 16,.int .i64 1,.int .i64 3,.int .i64 2,.int .i64 2,.int .i64 2,.int .i64 2,.int .i64 1,.int .i64 20,.int .i64 0,.int .i64 2,.int .i64 0,.int .i64 0,.int .i64 1,.int .i64 7,.int .i64 0,.int .i64 15,.int .i64 0] 62)):=by
   repeat (first | exact Below.refl _ _ | refine Below.drew ?_ | refine Below.alloc ?_ P6 _)
  have hsb:(((((((((((w7.alloc (Obj.cells #[.int .i64 16,.int .i64 1] 62)).alloc (Obj.cells #[.int .i64 3,.int .i64 2] 62)).alloc (Obj.cells #[.int .i64 2,.int .i64 2] 62)).alloc (Obj.cells #[.int .i64 2,.int .i64 1] 62)).alloc (Obj.cells #[.int .i64 20,.int .i64 0] 62)).alloc (Obj.cells #[.int .i64 2,.int .i64 0] 62)).alloc (Obj.cells #[.int .i64 0,.int .i64 1] 62)).alloc (Obj.cells #[.int .i64 7,.int .i64 0] 62)).alloc (Obj.cells #[.int .i64 15,.int .i64 0] 62)).alloc (Obj.cells #[.int .i64 16,.int .i64 1,.int .i64 3,.int .i64 2,.int .i64 2,.int .i64 2,.int .i64 2,.int .i64 1,.int .i64 20,.int .i64 0,.int .i64 2,.int .i64 0,.int .i64 0,.int .i64 1,.int .i64 7,.int .i64 0,.int .i64 15,.int .i64 0] 62))).heap[w7.heap.size+1+1+1+1+1+1+1+1+1]?=some (Obj.cells #[.int .i64 16,.int .i64 1,.int .i64 3,.int .i64 2,.int .i64 2,.int .i64 2,.int .i64 2,.int .i64 1,.int .i64 20,.int .i64 0,.int .i64 2,.int .i64 0,.int .i64 0,.int .i64 1,.int .i64 7,.int .i64 0,.int .i64 15,.int .i64 0] 62):=G9 Q9
  have hsz:(((((((((((w7.alloc (Obj.cells #[.int .i64 16,.int .i64 1] 62)).alloc (Obj.cells #[.int .i64 3,.int .i64 2] 62)).alloc (Obj.cells #[.int .i64 2,.int .i64 2] 62)).alloc (Obj.cells #[.int .i64 2,.int .i64 1] 62)).alloc (Obj.cells #[.int .i64 20,.int .i64 0] 62)).alloc (Obj.cells #[.int .i64 2,.int .i64 0] 62)).alloc (Obj.cells #[.int .i64 0,.int .i64 1] 62)).alloc (Obj.cells #[.int .i64 7,.int .i64 0] 62)).alloc (Obj.cells #[.int .i64 15,.int .i64 0] 62)).alloc (Obj.cells #[.int .i64 16,.int .i64 1,.int .i64 3,.int .i64 2,.int .i64 2,.int .i64 2,.int .i64 2,.int .i64 1,.int .i64 20,.int .i64 0,.int .i64 2,.int .i64 0,.int .i64 0,.int .i64 1,.int .i64 7,.int .i64 0,.int .i64 15,.int .i64 0] 62))).heap.size=w7.heap.size+10:=by simp
  generalize hWk:((((((((((w7.alloc (Obj.cells #[.int .i64 16,.int .i64 1] 62)).alloc (Obj.cells #[.int .i64 3,.int .i64 2] 62)).alloc (Obj.cells #[.int .i64 2,.int .i64 2] 62)).alloc (Obj.cells #[.int .i64 2,.int .i64 1] 62)).alloc (Obj.cells #[.int .i64 20,.int .i64 0] 62)).alloc (Obj.cells #[.int .i64 2,.int .i64 0] 62)).alloc (Obj.cells #[.int .i64 0,.int .i64 1] 62)).alloc (Obj.cells #[.int .i64 7,.int .i64 0] 62)).alloc (Obj.cells #[.int .i64 15,.int .i64 0] 62)).alloc (Obj.cells #[.int .i64 16,.int .i64 1,.int .i64 3,.int .i64 2,.int .i64 2,.int .i64 2,.int .i64 2,.int .i64 1,.int .i64 20,.int .i64 0,.int .i64 2,.int .i64 0,.int .i64 0,.int .i64 1,.int .i64 7,.int .i64 0,.int .i64 15,.int .i64 0] 62))=Wk at *
  obtain⟨sb,hsbq⟩:∃sb,sb=w7.heap.size+1+1+1+1+1+1+1+1+1:=⟨_,rfl⟩
  rw[← hsbq] at hsb;rw[← hsbq];have hsb1:w7.heap.size≤sb:=by omega
  have hsb2:sb < Wk.heap.size:=by omega
  clear hsbq hWk hsz;have hszk:=hBk.size;have k1:Wk.cell? ⟨mb1,0,none⟩=some (.slice (some ⟨g1,0,none⟩) L1.length cap1):=by rw [hBk.cell (p:=⟨mb1,0,none⟩) h1b];exact h1a
  have k2:Wk.cell? ⟨mb2,0,none⟩=some (.slice (some ⟨g2,0,none⟩) L2.length cap2):=by rw [hBk.cell (p:=⟨mb2,0,none⟩) h2b];exact h2a
  have k3:Wk.cell? ⟨w.heap.size,0,none⟩=some (.slice none 0 0):=by rw [hBk.cell (p:=⟨w.heap.size,0,none⟩) hw7];exact hrs7
  have k4:Wk.frozen? ⟨w.heap.size,0,none⟩=false:=by rw [hBk.frozen (p:=⟨w.heap.size,0,none⟩) hw7];exact hrf7
  have j1:mb1 < Wk.heap.size:=by omega
  have j2:mb2 < Wk.heap.size:=by omega
  have j3:w.heap.size < Wk.heap.size:=by omega
  have HC1:=(show Hid _ from hc1);clear hc1;have HC7:=(show Hid _ from hcv7);clear hcv7;clear hcv4 h1a h2a hrs7 hrf7;go_region
 all_goals
  have p0:(((Wk.setCell ⟨w.heap.size,0,none⟩ (.slice (some ⟨Wk.heap.size,0,none⟩) 3 3)).alloc (Obj.cells #[.int .i64 0,.int .i64 3,.slice (some ⟨g1,0,none⟩) L1.length cap1,.int .i64 2,.int .i64 3,.slice (some ⟨sb,0,none⟩) 9 9,.int .i64 0,.int .i64 3,.slice (some ⟨g2,0,none⟩) L2.length cap2] 68)).drew).cell? ⟨Wk.heap.size,0,none⟩=some (.int .i64 0):=by go_simp
  have p1:(((Wk.setCell ⟨w.heap.size,0,none⟩ (.slice (some ⟨Wk.heap.size,0,none⟩) 3 3)).alloc (Obj.cells #[.int .i64 0,.int .i64 3,.slice (some ⟨g1,0,none⟩) L1.length cap1,.int .i64 2,.int .i64 3,.slice (some ⟨sb,0,none⟩) 9 9,.int .i64 0,.int .i64 3,.slice (some ⟨g2,0,none⟩) L2.length cap2] 68)).drew).cell? ⟨Wk.heap.size,1,none⟩=some (.int .i64 3):=by go_simp
  have p2:(((Wk.setCell ⟨w.heap.size,0,none⟩ (.slice (some ⟨Wk.heap.size,0,none⟩) 3 3)).alloc (Obj.cells #[.int .i64 0,.int .i64 3,.slice (some ⟨g1,0,none⟩) L1.length cap1,.int .i64 2,.int .i64 3,.slice (some ⟨sb,0,none⟩) 9 9,.int .i64 0,.int .i64 3,.slice (some ⟨g2,0,none⟩) L2.length cap2] 68)).drew).cell? ⟨Wk.heap.size,2,none⟩=some (.slice (some ⟨g1,0,none⟩) L1.length cap1):=by go_simp
  have p3:(((Wk.setCell ⟨w.heap.size,0,none⟩ (.slice (some ⟨Wk.heap.size,0,none⟩) 3 3)).alloc (Obj.cells #[.int .i64 0,.int .i64 3,.slice (some ⟨g1,0,none⟩) L1.length cap1,.int .i64 2,.int .i64 3,.slice (some ⟨sb,0,none⟩) 9 9,.int .i64 0,.int .i64 3,.slice (some ⟨g2,0,none⟩) L2.length cap2] 68)).drew).cell? ⟨Wk.heap.size,3,none⟩=some (.int .i64 2):=by go_simp
  have p4:(((Wk.setCell ⟨w.heap.size,0,none⟩ (.slice (some ⟨Wk.heap.size,0,none⟩) 3 3)).alloc (Obj.cells #[.int .i64 0,.int .i64 3,.slice (some ⟨g1,0,none⟩) L1.length cap1,.int .i64 2,.int .i64 3,.slice (some ⟨sb,0,none⟩) 9 9,.int .i64 0,.int .i64 3,.slice (some ⟨g2,0,none⟩) L2.length cap2] 68)).drew).cell? ⟨Wk.heap.size,4,none⟩=some (.int .i64 3):=by go_simp
  have p5:(((Wk.setCell ⟨w.heap.size,0,none⟩ (.slice (some ⟨Wk.heap.size,0,none⟩) 3 3)).alloc (Obj.cells #[.int .i64 0,.int .i64 3,.slice (some ⟨g1,0,none⟩) L1.length cap1,.int .i64 2,.int .i64 3,.slice (some ⟨sb,0,none⟩) 9 9,.int .i64 0,.int .i64 3,.slice (some ⟨g2,0,none⟩) L2.length cap2] 68)).drew).cell? ⟨Wk.heap.size,5,none⟩=some (.slice (some ⟨sb,0,none⟩) 9 9):=by go_simp
  have p6:(((Wk.setCell ⟨w.heap.size,0,none⟩ (.slice (some ⟨Wk.heap.size,0,none⟩) 3 3)).alloc (Obj.cells #[.int .i64 0,.int .i64 3,.slice (some ⟨g1,0,none⟩) L1.length cap1,.int .i64 2,.int .i64 3,.slice (some ⟨sb,0,none⟩) 9 9,.int .i64 0,.int .i64 3,.slice (some ⟨g2,0,none⟩) L2.length cap2] 68)).drew).cell? ⟨Wk.heap.size,6,none⟩=some (.int .i64 0):=by go_simp
  have p7:(((Wk.setCell ⟨w.heap.size,0,none⟩ (.slice (some ⟨Wk.heap.size,0,none⟩) 3 3)).alloc (Obj.cells #[.int .i64 0,.int .i64 3,.slice (some ⟨g1,0,none⟩) L1.length cap1,.int .i64 2,.int .i64 3,.slice (some ⟨sb,0,none⟩) 9 9,.int .i64 0,.int .i64 3,.slice (some ⟨g2,0,none⟩) L2.length cap2] 68)).drew).cell? ⟨Wk.heap.size,7,none⟩=some (.int .i64 3):=by go_simp
  have p8:(((Wk.setCell ⟨w.heap.size,0,none⟩ (.slice (some ⟨Wk.heap.size,0,none⟩) 3 3)).alloc (Obj.cells #[.int .i64 0,.int .i64 3,.slice (some ⟨g1,0,none⟩) L1.length cap1,.int .i64 2,.int .i64 3,.slice (some ⟨sb,0,none⟩) 9 9,.int .i64 0,.int .i64 3,.slice (some ⟨g2,0,none⟩) L2.length cap2] 68)).drew).cell? ⟨Wk.heap.size,8,none⟩=some (.slice (some ⟨g2,0,none⟩) L2.length cap2):=by go_simp
  have pr:(((Wk.setCell ⟨w.heap.size,0,none⟩ (.slice (some ⟨Wk.heap.size,0,none⟩) 3 3)).alloc (Obj.cells #[.int .i64 0,.int .i64 3,.slice (some ⟨g1,0,none⟩) L1.length cap1,.int .i64 2,.int .i64 3,.slice (some ⟨sb,0,none⟩) 9 9,.int .i64 0,.int .i64 3,.slice (some ⟨g2,0,none⟩) L2.length cap2] 68)).drew).cell? ⟨w.heap.size,0,none⟩=some (.slice (some ⟨Wk.heap.size,0,none⟩) 3 3):=by go_simp
  have hpz:(((Wk.setCell ⟨w.heap.size,0,none⟩ (.slice (some ⟨Wk.heap.size,0,none⟩) 3 3)).alloc (Obj.cells #[.int .i64 0,.int .i64 3,.slice (some ⟨g1,0,none⟩) L1.length cap1,.int .i64 2,.int .i64 3,.slice (some ⟨sb,0,none⟩) 9 9,.int .i64 0,.int .i64 3,.slice (some ⟨g2,0,none⟩) L2.length cap2] 68)).drew).heap.size=Wk.heap.size+1:=by simp
  have hBut:But (fun k=>k=w.heap.size) Wk (((Wk.setCell ⟨w.heap.size,0,none⟩ (.slice (some ⟨Wk.heap.size,0,none⟩) 3 3)).alloc (Obj.cells #[.int .i64 0,.int .i64 3,.slice (some ⟨g1,0,none⟩) L1.length cap1,.int .i64 2,.int .i64 3,.slice (some ⟨sb,0,none⟩) 9 9,.int .i64 0,.int .i64 3,.slice (some ⟨g2,0,none⟩) L2.length cap2] 68)).drew):=But.drew (But.alloc (But.setCell (S:=fun k=>k=w.heap.size) (p:=⟨w.heap.size,0,none⟩) (But.refl _ _) (Or.inl rfl) _) _)
  have hBF:Below w.heap.size w (((Wk.setCell ⟨w.heap.size,0,none⟩ (.slice (some ⟨Wk.heap.size,0,none⟩) 3 3)).alloc (Obj.cells #[.int .i64 0,.int .i64 3,.slice (some ⟨g1,0,none⟩) L1.length cap1,.int .i64 2,.int .i64 3,.slice (some ⟨sb,0,none⟩) 9 9,.int .i64 0,.int .i64 3,.slice (some ⟨g2,0,none⟩) L2.length cap2] 68)).drew):=(Below.alloc (Below.setCell (p:=⟨w.heap.size,0,none⟩) (hbel7.trans (Below.mono hBk Q8)) (Nat.le_refl _) _) Q5 _).drew
  generalize (((Wk.setCell ⟨w.heap.size,0,none⟩ (.slice (some ⟨Wk.heap.size,0,none⟩) 3 3)).alloc (Obj.cells #[.int .i64 0,.int .i64 3,.slice (some ⟨g1,0,none⟩) L1.length cap1,.int .i64 2,.int .i64 3,.slice (some ⟨sb,0,none⟩) 9 9,.int .i64 0,.int .i64 3,.slice (some ⟨g2,0,none⟩) L2.length cap2] 68)).drew)=WF at *
  obtain⟨pb,hpb⟩:∃pb,pb=Wk.heap.size:=⟨_,rfl⟩
  rw[← hpb] at p0 p1 p2 p3 p4 p5 p6 p7 p8 pr;have hpb1:pb < WF.heap.size:=by omega
  have q1:O0 WF.heap.size WF (Z1 0 3 g1 cap1 L1):=W5 Q8 Q8 (fun j u hu=>by
   have:=HC1.out.2.2.1.cells (g:=g1) rfl j u hu;rw[Go.WideShapes.add_plain] at this ⊢;rw[hBut.cell (p:=⟨g1,0+j,none⟩) (by show g1 < _;omega) (by show ¬g1=_;omega),hBk.cell (p:=⟨g1,0+j,none⟩) (by show g1 < _;omega)];exact this)
  have q3:O0 WF.heap.size WF (Z1 0 3 g2 cap2 L2):=W5 Q8 Q8 (fun j u hu=>by
   have:=HC7.out.2.2.1.cells (g:=g2) rfl j u hu;rw[Go.WideShapes.add_plain] at this ⊢;rw[hBut.cell (p:=⟨g2,0+j,none⟩) (by show g2 < _;omega) (by show ¬g2=_;omega),hBk.cell (p:=⟨g2,0+j,none⟩) (by show g2 < _;omega)];exact this)
  have q2:O0 WF.heap.size WF (Z1 2 3 sb 9 cJ):=W5 Q7 Q8 (fun j u hu=>by
   have:=World.news_of_block hsb j u hu;rw[Go.WideShapes.add_plain] at this ⊢;rw[hBut.cell (p:=⟨sb,0+j,none⟩) (by show sb < _;omega) (by show ¬sb=_;omega)];exact this)
  have qf:∀j,WF.frozen? ⟨g1,j,none⟩=false:=fun j=>by
   have:=oB HC1.out.2.2.1 j;rw[hBut.frozen (p:=⟨g1,j,none⟩) (by show g1 < _;omega) (by show ¬g1=_;omega),hBk.frozen (p:=⟨g1,j,none⟩) (by show g1 < _;omega)];exact this
  have hpost:gQ R n false w (.returned (.agg #[.slice (some ⟨pb,0,none⟩) 3 3])) WF:=by
   refine⟨pb,g1,cap1,sb,g2,cap2,rfl,?_,by omega,by omega,by omega,by omega,by omega,by rw [← HL1.out];exact hn1.2,by rw [← HL1.out];exact hn1.1,qf,hBF⟩
   ·rw [← HL1.out,← HL2.out];exact a3h hpb1 p0 p1 p2 p3 p4 p5 p6 p7 p8 q1 q2 q3
  have HP:=(show Hid _ from hpost);clear hpost;clear p0 p1 p2 p3 p4 p5 p6 p7 p8 q1 q2 q3 qf hBut hBF hBk k1 k2 k3 k4;go_wp2_with fail;exact bodyPost_ret (v:=.agg #[.slice (some ⟨pb,0,none⟩) 3 3]) (by simp [results,Tryz.results7,go_sem,pr]) rfl HP.out
theorem xE (a:Option Addr) (n c b o:Nat) (R:Nat→Int) (w:World) (hr:W7 w.heap.size w a n b o R) (hc:n≤c) :
  Calls Tryz.prog 7 #[.slice a n c,.bool true] w fun e w'=>gQ R n true w e w':=by
 have HR:=(show Hid (W7 w.heap.size w a n b o R) from hr);clear hr;have hn:=HR.out.1;have hq:IntKind.i64.wrap ((n:Int).tdiv 2)=((n / 2:Nat):Int):=by rw [Go.IntWalk.i64_quo _ _ Q8];omega
 go_enter Tryz.func7,Tryz.ntmps7;go_wp2_with fail;have hl1:=X3 R (min (n / 2) 6);have hr0:W7 (w.alloc (Obj.cells #[.slice none 0 0] 27)).heap.size (w.alloc (Obj.cells #[.slice none 0 0] 27)) a (n / 2) b o R:=by
  refine W7.mono (W7.below (w:=w) (B:=w.heap.size) ?_ (Below.alloc (Below.refl _ _) (Nat.le_refl _) _)) Q9;exact⟨by omega,fun h=>by obtain ⟨h1,h2,h3⟩:=HR.out.2.1 Q8;exact ⟨h1,h2,fun i hi=>h3 i Q8⟩,HR.out.2.2⟩
 refine (lD a (n / 2) c b o R _ hr0).mono ?_;clear hr0;rintro e w1 ⟨mb1,rfl,hmb1,hM1,hB1⟩;have hbel1:Below w.heap.size w w1:=(Below.alloc (Below.refl _ _) (Nat.le_refl _) _).trans (Below.mono hB1 Q9);have hmb1':w.heap.size < mb1:=Nat.lt_of_succ_le (by simpa using hmb1);have hrs1:w1.cell? ⟨w.heap.size,0,none⟩=some (.slice none 0 0):=by rw [hB1.cell (p:=⟨w.heap.size,0,none⟩) Q9];go_simp
 have hrf1:w1.frozen? ⟨w.heap.size,0,none⟩=false:=by rw [hB1.frozen (p:=⟨w.heap.size,0,none⟩) Q9];go_simp
 clear hB1 hmb1;go_wp2_with fail;refine (eJ mb1 _ 14 2 w1 hM1 Q8).mono ?_;rintro e w2 ⟨rfl,hM2,hB2⟩;go_wp2_with fail;refine (eJ mb1 _ 5 0 w2 hM2 Q5).mono ?_;rintro e w3 ⟨rfl,hM3,hB3⟩;have hB13:=hB2.trans hB3;clear hM1 hM2 hB2 hB3
 all_goals
  go_wp2_with fail;refine (eJ mb1 _ _ _ w3 hM3 Q5).mono ?_;rintro e w4 ⟨rfl,hM4,hB4⟩;have hB14:=hB13.trans hB4;clear hM3 hB13 hB4;have hsz4:=hB14.size;have hbel4:Below w.heap.size w w4:=hbel1.trans (Below.mono hB14 Q8);have hrs4:w4.cell? ⟨w.heap.size,0,none⟩=some (.slice none 0 0):=by rw [hB14.cell (p:=⟨w.heap.size,0,none⟩) hmb1'];exact hrs1
  have hrf4:w4.frozen? ⟨w.heap.size,0,none⟩=false:=by rw [hB14.frozen (p:=⟨w.heap.size,0,none⟩) hmb1'];exact hrf1
  have hl2:=X3 (fun i=>R (n / 2+i)) (min (n - n / 2) 6);obtain⟨cv4,hcv4⟩:=hM4;have hmb14:mb1 < w4.heap.size:=hcv4.2.2.2;clear hrs1 hrf1 hB14 hbel1;go_wp2_with fail
 all_goals
  refine (lD _ (n - n / 2) _ b (o+n / 2) (fun i=>R (n / 2+i)) w4 ?_).mono ?_
  ·refine ⟨by omega,fun h=>?_,fun i=>HR.out.2.2 _⟩
   obtain⟨h1,h2,h3⟩:=HR.out.2.1 Q8;have hs:=hbel4.size
   first
    | (exfalso;omega)
    | (refine ⟨by rw [h1];simp [Go.WideShapes.add_plain],by omega,fun i hi=>?_⟩
       rw[hbel4.cell (p:=⟨b,o+n / 2+i,none⟩) h2,Nat.add_assoc]
       exact h3 _ Q8)
  rintro e w5 ⟨mb2,rfl,hmb2,hM5,hB5⟩;go_wp2_with fail;refine (eJ mb2 _ 2 1 w5 hM5 Q8).mono ?_;rintro e w6 ⟨rfl,hM6,hB6⟩;go_wp2_with fail;refine (eJ mb2 _ 15 0 w6 hM6 Q5).mono ?_;rintro e w7 ⟨rfl,⟨cv7,hcv7⟩,hB7⟩;have hB47:Below w4.heap.size w4 w7:=hB5.trans (Below.mono (hB6.trans hB7) hmb2);have hc1:=hcv4.below hB47;have hrs7:w7.cell? ⟨w.heap.size,0,none⟩=some (.slice none 0 0):=by rw [hB47.cell (p:=⟨w.heap.size,0,none⟩) (by show w.heap.size < _;omega)];exact hrs4
  have hrf7:w7.frozen? ⟨w.heap.size,0,none⟩=false:=by rw [hB47.frozen (p:=⟨w.heap.size,0,none⟩) (by show w.heap.size < _;omega)];exact hrf4
  have hbel7:Below w.heap.size w w7:=hbel4.trans (Below.mono hB47 hbel4.size);have hln1:∀x:Int × Int,0 < (K9 R (min (n / 2) 6)++[(14,2)]++[(5,0)]++[x]).length∧(K9 R (min (n / 2) 6)++[(14,2)]++[(5,0)]++[x]).length≤47:=fun x=>by simp;omega
  have hln2:0 < (K9 (fun i=>R (n / 2+i)) (min (n - n / 2) 6)++[(2,1)]++[(15,0)]).length∧(K9 (fun i=>R (n / 2+i)) (min (n - n / 2) 6)++[(2,1)]++[(15,0)]).length≤46:=by simp;omega
  obtain⟨L1,hL1⟩:∃L1,L1=a0c R n true:=⟨_,rfl⟩
  obtain⟨L2,hL2⟩:∃L2,L2=a1X R n:=⟨_,rfl⟩
  have hn1:0 < L1.length∧L1.length≤47:=by rw [hL1];exact hln1 _
  have hn2:0 < L2.length∧L2.length≤46:=by rw [hL2];exact hln2
  have hc1:R8 w7 mb1 L1 cv4:=by rw [hL1];exact hc1
  have hcv7:R8 w7 mb2 L2 cv7:=by rw [hL2];exact hcv7
  have HL1:=(show Hid _ from hL1);clear hL1;have HL2:=(show Hid _ from hL2);clear hL2 hln1 hln2;obtain⟨g1,cap1,rfl,hg1,hg1'⟩:=hc1.2.2.1.form hn1.1;obtain⟨g2,cap2,rfl,hg2,hg2'⟩:=hcv7.2.2.1.form hn2.1;have hg14:g1 < w4.heap.size:=(hcv4.2.2.1.lt g1 rfl).2;have h1a:=hc1.1;have h1b:=hc1.2.2.2;have h2a:=hcv7.1;have h2b:=hcv7.2.2.2;have hw7:w.heap.size < w7.heap.size:=by omega
  clear hM5 hM6 hB5 hB6 hB7 hrs4 hrf4 hbel4;go_wp2_with (go_at_call 27;refine (O2 _ _ _).mono ?_;rintro e w' ⟨rfl,rfl⟩)
  have hBk:Below w7.heap.size w7 ((((((((((w7.alloc (Obj.cells #[.int .i64 16,.int .i64 1] 62)).alloc (Obj.cells #[.int .i64 3,.int .i64 2] 62)).alloc (Obj.cells #[.int .i64 2,.int .i64 2] 62)).alloc (Obj.cells #[.int .i64 2,.int .i64 1] 62)).alloc (Obj.cells #[.int .i64 20,.int .i64 0] 62)).alloc (Obj.cells #[.int .i64 2,.int .i64 0] 62)).alloc (Obj.cells #[.int .i64 0,.int .i64 1] 62)).alloc (Obj.cells #[.int .i64 7,.int .i64 0] 62)).alloc (Obj.cells #[.int .i64 15,.int .i64 0] 62)).alloc (Obj.cells #[.int .i64 16,.int .i64 1,.int .i64 3,.int .i64 2,.int .i64 2,.int .i64 2,.int .i64 2,.int .i64 1,.int .i64 20,.int .i64 0,.int .i64 2,.int .i64 0,.int .i64 0,.int .i64 1,.int .i64 7,.int .i64 0,.int .i64 15,.int .i64 0] 62)):=by
   repeat (first | exact Below.refl _ _ | refine Below.drew ?_ | refine Below.alloc ?_ P6 _)
  have hsb:(((((((((((w7.alloc (Obj.cells #[.int .i64 16,.int .i64 1] 62)).alloc (Obj.cells #[.int .i64 3,.int .i64 2] 62)).alloc (Obj.cells #[.int .i64 2,.int .i64 2] 62)).alloc (Obj.cells #[.int .i64 2,.int .i64 1] 62)).alloc (Obj.cells #[.int .i64 20,.int .i64 0] 62)).alloc (Obj.cells #[.int .i64 2,.int .i64 0] 62)).alloc (Obj.cells #[.int .i64 0,.int .i64 1] 62)).alloc (Obj.cells #[.int .i64 7,.int .i64 0] 62)).alloc (Obj.cells #[.int .i64 15,.int .i64 0] 62)).alloc (Obj.cells #[.int .i64 16,.int .i64 1,.int .i64 3,.int .i64 2,.int .i64 2,.int .i64 2,.int .i64 2,.int .i64 1,.int .i64 20,.int .i64 0,.int .i64 2,.int .i64 0,.int .i64 0,.int .i64 1,.int .i64 7,.int .i64 0,.int .i64 15,.int .i64 0] 62))).heap[w7.heap.size+1+1+1+1+1+1+1+1+1]?=some (Obj.cells #[.int .i64 16,.int .i64 1,.int .i64 3,.int .i64 2,.int .i64 2,.int .i64 2,.int .i64 2,.int .i64 1,.int .i64 20,.int .i64 0,.int .i64 2,.int .i64 0,.int .i64 0,.int .i64 1,.int .i64 7,.int .i64 0,.int .i64 15,.int .i64 0] 62):=G9 Q9
  have hsz:(((((((((((w7.alloc (Obj.cells #[.int .i64 16,.int .i64 1] 62)).alloc (Obj.cells #[.int .i64 3,.int .i64 2] 62)).alloc (Obj.cells #[.int .i64 2,.int .i64 2] 62)).alloc (Obj.cells #[.int .i64 2,.int .i64 1] 62)).alloc (Obj.cells #[.int .i64 20,.int .i64 0] 62)).alloc (Obj.cells #[.int .i64 2,.int .i64 0] 62)).alloc (Obj.cells #[.int .i64 0,.int .i64 1] 62)).alloc (Obj.cells #[.int .i64 7,.int .i64 0] 62)).alloc (Obj.cells #[.int .i64 15,.int .i64 0] 62)).alloc (Obj.cells #[.int .i64 16,.int .i64 1,.int .i64 3,.int .i64 2,.int .i64 2,.int .i64 2,.int .i64 2,.int .i64 1,.int .i64 20,.int .i64 0,.int .i64 2,.int .i64 0,.int .i64 0,.int .i64 1,.int .i64 7,.int .i64 0,.int .i64 15,.int .i64 0] 62))).heap.size=w7.heap.size+10:=by simp
  generalize hWk:((((((((((w7.alloc (Obj.cells #[.int .i64 16,.int .i64 1] 62)).alloc (Obj.cells #[.int .i64 3,.int .i64 2] 62)).alloc (Obj.cells #[.int .i64 2,.int .i64 2] 62)).alloc (Obj.cells #[.int .i64 2,.int .i64 1] 62)).alloc (Obj.cells #[.int .i64 20,.int .i64 0] 62)).alloc (Obj.cells #[.int .i64 2,.int .i64 0] 62)).alloc (Obj.cells #[.int .i64 0,.int .i64 1] 62)).alloc (Obj.cells #[.int .i64 7,.int .i64 0] 62)).alloc (Obj.cells #[.int .i64 15,.int .i64 0] 62)).alloc (Obj.cells #[.int .i64 16,.int .i64 1,.int .i64 3,.int .i64 2,.int .i64 2,.int .i64 2,.int .i64 2,.int .i64 1,.int .i64 20,.int .i64 0,.int .i64 2,.int .i64 0,.int .i64 0,.int .i64 1,.int .i64 7,.int .i64 0,.int .i64 15,.int .i64 0] 62))=Wk at *
  obtain⟨sb,hsbq⟩:∃sb,sb=w7.heap.size+1+1+1+1+1+1+1+1+1:=⟨_,rfl⟩
  rw[← hsbq] at hsb;rw[← hsbq];have hsb1:w7.heap.size≤sb:=by omega
  have hsb2:sb < Wk.heap.size:=by omega
  clear hsbq hWk hsz;have hszk:=hBk.size;have k1:Wk.cell? ⟨mb1,0,none⟩=some (.slice (some ⟨g1,0,none⟩) L1.length cap1):=by rw [hBk.cell (p:=⟨mb1,0,none⟩) h1b];exact h1a
  have k2:Wk.cell? ⟨mb2,0,none⟩=some (.slice (some ⟨g2,0,none⟩) L2.length cap2):=by rw [hBk.cell (p:=⟨mb2,0,none⟩) h2b];exact h2a
  have k3:Wk.cell? ⟨w.heap.size,0,none⟩=some (.slice none 0 0):=by rw [hBk.cell (p:=⟨w.heap.size,0,none⟩) hw7];exact hrs7
  have k4:Wk.frozen? ⟨w.heap.size,0,none⟩=false:=by rw [hBk.frozen (p:=⟨w.heap.size,0,none⟩) hw7];exact hrf7
  have j1:mb1 < Wk.heap.size:=by omega
  have j2:mb2 < Wk.heap.size:=by omega
  have j3:w.heap.size < Wk.heap.size:=by omega
  have HC1:=(show Hid _ from hc1);clear hc1;have HC7:=(show Hid _ from hcv7);clear hcv7;clear hcv4 h1a h2a hrs7 hrf7;go_region
 all_goals
  have p0:(((Wk.setCell ⟨w.heap.size,0,none⟩ (.slice (some ⟨Wk.heap.size,0,none⟩) 3 3)).alloc (Obj.cells #[.int .i64 0,.int .i64 3,.slice (some ⟨g1,0,none⟩) L1.length cap1,.int .i64 2,.int .i64 3,.slice (some ⟨sb,0,none⟩) 9 9,.int .i64 0,.int .i64 3,.slice (some ⟨g2,0,none⟩) L2.length cap2] 68)).drew).cell? ⟨Wk.heap.size,0,none⟩=some (.int .i64 0):=by go_simp
  have p1:(((Wk.setCell ⟨w.heap.size,0,none⟩ (.slice (some ⟨Wk.heap.size,0,none⟩) 3 3)).alloc (Obj.cells #[.int .i64 0,.int .i64 3,.slice (some ⟨g1,0,none⟩) L1.length cap1,.int .i64 2,.int .i64 3,.slice (some ⟨sb,0,none⟩) 9 9,.int .i64 0,.int .i64 3,.slice (some ⟨g2,0,none⟩) L2.length cap2] 68)).drew).cell? ⟨Wk.heap.size,1,none⟩=some (.int .i64 3):=by go_simp
  have p2:(((Wk.setCell ⟨w.heap.size,0,none⟩ (.slice (some ⟨Wk.heap.size,0,none⟩) 3 3)).alloc (Obj.cells #[.int .i64 0,.int .i64 3,.slice (some ⟨g1,0,none⟩) L1.length cap1,.int .i64 2,.int .i64 3,.slice (some ⟨sb,0,none⟩) 9 9,.int .i64 0,.int .i64 3,.slice (some ⟨g2,0,none⟩) L2.length cap2] 68)).drew).cell? ⟨Wk.heap.size,2,none⟩=some (.slice (some ⟨g1,0,none⟩) L1.length cap1):=by go_simp
  have p3:(((Wk.setCell ⟨w.heap.size,0,none⟩ (.slice (some ⟨Wk.heap.size,0,none⟩) 3 3)).alloc (Obj.cells #[.int .i64 0,.int .i64 3,.slice (some ⟨g1,0,none⟩) L1.length cap1,.int .i64 2,.int .i64 3,.slice (some ⟨sb,0,none⟩) 9 9,.int .i64 0,.int .i64 3,.slice (some ⟨g2,0,none⟩) L2.length cap2] 68)).drew).cell? ⟨Wk.heap.size,3,none⟩=some (.int .i64 2):=by go_simp
  have p4:(((Wk.setCell ⟨w.heap.size,0,none⟩ (.slice (some ⟨Wk.heap.size,0,none⟩) 3 3)).alloc (Obj.cells #[.int .i64 0,.int .i64 3,.slice (some ⟨g1,0,none⟩) L1.length cap1,.int .i64 2,.int .i64 3,.slice (some ⟨sb,0,none⟩) 9 9,.int .i64 0,.int .i64 3,.slice (some ⟨g2,0,none⟩) L2.length cap2] 68)).drew).cell? ⟨Wk.heap.size,4,none⟩=some (.int .i64 3):=by go_simp
  have p5:(((Wk.setCell ⟨w.heap.size,0,none⟩ (.slice (some ⟨Wk.heap.size,0,none⟩) 3 3)).alloc (Obj.cells #[.int .i64 0,.int .i64 3,.slice (some ⟨g1,0,none⟩) L1.length cap1,.int .i64 2,.int .i64 3,.slice (some ⟨sb,0,none⟩) 9 9,.int .i64 0,.int .i64 3,.slice (some ⟨g2,0,none⟩) L2.length cap2] 68)).drew).cell? ⟨Wk.heap.size,5,none⟩=some (.slice (some ⟨sb,0,none⟩) 9 9):=by go_simp
  have p6:(((Wk.setCell ⟨w.heap.size,0,none⟩ (.slice (some ⟨Wk.heap.size,0,none⟩) 3 3)).alloc (Obj.cells #[.int .i64 0,.int .i64 3,.slice (some ⟨g1,0,none⟩) L1.length cap1,.int .i64 2,.int .i64 3,.slice (some ⟨sb,0,none⟩) 9 9,.int .i64 0,.int .i64 3,.slice (some ⟨g2,0,none⟩) L2.length cap2] 68)).drew).cell? ⟨Wk.heap.size,6,none⟩=some (.int .i64 0):=by go_simp
  have p7:(((Wk.setCell ⟨w.heap.size,0,none⟩ (.slice (some ⟨Wk.heap.size,0,none⟩) 3 3)).alloc (Obj.cells #[.int .i64 0,.int .i64 3,.slice (some ⟨g1,0,none⟩) L1.length cap1,.int .i64 2,.int .i64 3,.slice (some ⟨sb,0,none⟩) 9 9,.int .i64 0,.int .i64 3,.slice (some ⟨g2,0,none⟩) L2.length cap2] 68)).drew).cell? ⟨Wk.heap.size,7,none⟩=some (.int .i64 3):=by go_simp
  have p8:(((Wk.setCell ⟨w.heap.size,0,none⟩ (.slice (some ⟨Wk.heap.size,0,none⟩) 3 3)).alloc (Obj.cells #[.int .i64 0,.int .i64 3,.slice (some ⟨g1,0,none⟩) L1.length cap1,.int .i64 2,.int .i64 3,.slice (some ⟨sb,0,none⟩) 9 9,.int .i64 0,.int .i64 3,.slice (some ⟨g2,0,none⟩) L2.length cap2] 68)).drew).cell? ⟨Wk.heap.size,8,none⟩=some (.slice (some ⟨g2,0,none⟩) L2.length cap2):=by go_simp
  have pr:(((Wk.setCell ⟨w.heap.size,0,none⟩ (.slice (some ⟨Wk.heap.size,0,none⟩) 3 3)).alloc (Obj.cells #[.int .i64 0,.int .i64 3,.slice (some ⟨g1,0,none⟩) L1.length cap1,.int .i64 2,.int .i64 3,.slice (some ⟨sb,0,none⟩) 9 9,.int .i64 0,.int .i64 3,.slice (some ⟨g2,0,none⟩) L2.length cap2] 68)).drew).cell? ⟨w.heap.size,0,none⟩=some (.slice (some ⟨Wk.heap.size,0,none⟩) 3 3):=by go_simp
  have hpz:(((Wk.setCell ⟨w.heap.size,0,none⟩ (.slice (some ⟨Wk.heap.size,0,none⟩) 3 3)).alloc (Obj.cells #[.int .i64 0,.int .i64 3,.slice (some ⟨g1,0,none⟩) L1.length cap1,.int .i64 2,.int .i64 3,.slice (some ⟨sb,0,none⟩) 9 9,.int .i64 0,.int .i64 3,.slice (some ⟨g2,0,none⟩) L2.length cap2] 68)).drew).heap.size=Wk.heap.size+1:=by simp
  have hBut:But (fun k=>k=w.heap.size) Wk (((Wk.setCell ⟨w.heap.size,0,none⟩ (.slice (some ⟨Wk.heap.size,0,none⟩) 3 3)).alloc (Obj.cells #[.int .i64 0,.int .i64 3,.slice (some ⟨g1,0,none⟩) L1.length cap1,.int .i64 2,.int .i64 3,.slice (some ⟨sb,0,none⟩) 9 9,.int .i64 0,.int .i64 3,.slice (some ⟨g2,0,none⟩) L2.length cap2] 68)).drew):=But.drew (But.alloc (But.setCell (S:=fun k=>k=w.heap.size) (p:=⟨w.heap.size,0,none⟩) (But.refl _ _) (Or.inl rfl) _) _)
  have hBF:Below w.heap.size w (((Wk.setCell ⟨w.heap.size,0,none⟩ (.slice (some ⟨Wk.heap.size,0,none⟩) 3 3)).alloc (Obj.cells #[.int .i64 0,.int .i64 3,.slice (some ⟨g1,0,none⟩) L1.length cap1,.int .i64 2,.int .i64 3,.slice (some ⟨sb,0,none⟩) 9 9,.int .i64 0,.int .i64 3,.slice (some ⟨g2,0,none⟩) L2.length cap2] 68)).drew):=(Below.alloc (Below.setCell (p:=⟨w.heap.size,0,none⟩) (hbel7.trans (Below.mono hBk Q8)) (Nat.le_refl _) _) Q5 _).drew
  generalize (((Wk.setCell ⟨w.heap.size,0,none⟩ (.slice (some ⟨Wk.heap.size,0,none⟩) 3 3)).alloc (Obj.cells #[.int .i64 0,.int .i64 3,.slice (some ⟨g1,0,none⟩) L1.length cap1,.int .i64 2,.int .i64 3,.slice (some ⟨sb,0,none⟩) 9 9,.int .i64 0,.int .i64 3,.slice (some ⟨g2,0,none⟩) L2.length cap2] 68)).drew)=WF at *
  obtain⟨pb,hpb⟩:∃pb,pb=Wk.heap.size:=⟨_,rfl⟩
  rw[← hpb] at p0 p1 p2 p3 p4 p5 p6 p7 p8 pr;have hpb1:pb < WF.heap.size:=by omega
  have q1:O0 WF.heap.size WF (Z1 0 3 g1 cap1 L1):=W5 Q8 Q8 (fun j u hu=>by
   have:=HC1.out.2.2.1.cells (g:=g1) rfl j u hu;rw[Go.WideShapes.add_plain] at this ⊢;rw[hBut.cell (p:=⟨g1,0+j,none⟩) (by show g1 < _;omega) (by show ¬g1=_;omega),hBk.cell (p:=⟨g1,0+j,none⟩) (by show g1 < _;omega)];exact this)
  have q3:O0 WF.heap.size WF (Z1 0 3 g2 cap2 L2):=W5 Q8 Q8 (fun j u hu=>by
   have:=HC7.out.2.2.1.cells (g:=g2) rfl j u hu;rw[Go.WideShapes.add_plain] at this ⊢;rw[hBut.cell (p:=⟨g2,0+j,none⟩) (by show g2 < _;omega) (by show ¬g2=_;omega),hBk.cell (p:=⟨g2,0+j,none⟩) (by show g2 < _;omega)];exact this)
  have q2:O0 WF.heap.size WF (Z1 2 3 sb 9 cJ):=W5 Q7 Q8 (fun j u hu=>by
   have:=World.news_of_block hsb j u hu;rw[Go.WideShapes.add_plain] at this ⊢;rw[hBut.cell (p:=⟨sb,0+j,none⟩) (by show sb < _;omega) (by show ¬sb=_;omega)];exact this)
  have qf:∀j,WF.frozen? ⟨g1,j,none⟩=false:=fun j=>by
   have:=oB HC1.out.2.2.1 j;rw[hBut.frozen (p:=⟨g1,j,none⟩) (by show g1 < _;omega) (by show ¬g1=_;omega),hBk.frozen (p:=⟨g1,j,none⟩) (by show g1 < _;omega)];exact this
  have hpost:gQ R n true w (.returned (.agg #[.slice (some ⟨pb,0,none⟩) 3 3])) WF:=by
   refine⟨pb,g1,cap1,sb,g2,cap2,rfl,?_,by omega,by omega,by omega,by omega,by omega,by rw [← HL1.out];exact hn1.2,by rw [← HL1.out];exact hn1.1,qf,hBF⟩
   ·rw [← HL1.out,← HL2.out];exact a3h hpb1 p0 p1 p2 p3 p4 p5 p6 p7 p8 q1 q2 q3
  have HP:=(show Hid _ from hpost);clear hpost;clear p0 p1 p2 p3 p4 p5 p6 p7 p8 q1 q2 q3 qf hBut hBF hBk k1 k2 k3 k4;go_wp2_with fail;exact bodyPost_ret (v:=.agg #[.slice (some ⟨pb,0,none⟩) 3 3]) (by simp [results,Tryz.results7,go_sem,pr]) rfl HP.out
theorem a0s (a:Option Addr) (n c b o:Nat) (R:Nat→Int) (again:Bool) (w:World) (hr:W7 w.heap.size w a n b o R) (hc:n≤c) :
  Calls Tryz.prog 7 #[.slice a n c,.bool again] w fun e w'=>gQ R n again w e w':=by
 cases again
 ·exact tN a n c b o R w hr hc
 ·exact xE a n c b o R w hr hc
end Go.Proofs.YtbkmgoffiigdbabGreatDoor
namespace Go.Proofs.YtbkmgoffiigdbabGreatDoor
set_option maxHeartbeats 8000000
set_option maxRecDepth 100000
def rel (c:Int):List (Int × Int × Int) :=
 if D1 c 1099511627776 % 18 < 8 then a7b (D1 c 1099511627776 % 18).toNat (D1 c 1099511627776 / 18 % 9)
 else a7a (D1 c 1099511627776 % 18 - 8).toNat (D1 c 1099511627776 / 18 % 9)
def mP (len:Nat) (t:Int × Int × Int):Int × Int:=(t.1,if t.1=13 then t.2.1+len else t.2.1)
theorem a2f (k:Nat) (n:Int) (len:Nat):iD k n len=(a7b k n).map (mP len):=by
 unfold iD a7b;repeat' split
 all_goals simp [mP]
 all_goals omega
theorem a2d (k:Nat) (n:Int) (len:Nat):iC k n len=(a7a k n).map (mP len):=by
 unfold iC a7a mZ a6Z;repeat' split
 all_goals simp [mP]
 all_goals omega
theorem uU (c:Int) (len:Nat):fB c len=(rel c).map (mP len):=by
 unfold fB rel;split
 ·exact a2f _ _ _
 ·exact a2d _ _ _
theorem a9s (c:Int):a0y (rel c)=true:=by
 have hb:0≤D1 c 1099511627776∧D1 c 1099511627776 < 1099511627776:=by unfold D1;split <;> omega
 have hn:(((D1 c 1099511627776 / 18 % 9).toNat:Nat):Int)=D1 c 1099511627776 / 18 % 9:=by omega
 unfold rel;split
 ·have h:=List.all_eq_true.1 a8z (D1 c 1099511627776 % 18).toNat (List.mem_range.2 Q8)
  have h':=List.all_eq_true.1 h (D1 c 1099511627776 / 18 % 9).toNat (List.mem_range.2 Q8);simp only[hn] at h';exact h'
 ·have h:=List.all_eq_true.1 a8y (D1 c 1099511627776 % 18 - 8).toNat (List.mem_range.2 Q8)
  have h':=List.all_eq_true.1 h (D1 c 1099511627776 / 18 % 9).toNat (List.mem_range.2 Q8);simp only[hn] at h';exact h'
def mA (p:List (Int × Int × Int)) (c:Nat):Int:=if c < p.length then (p.getD c (0,0,0)).2.2 else 0
structure dP (op x:Int) (m:Nat) (h hn:Int) (H:Nat→Int):Prop where
 h0:0≤h
 hp:G1 op 2≤h
 ht:h - G1 op 2+J9 op≤10
 no:op≠12∧op≠15∧op≠27
 nx:hn=h - G1 op 2+J9 op
 jm:op=13→0≤x∧x≤m∧H x.toNat=h - G1 op 2+J9 op
 lg:op≠13→D3 3 3 0 op x=true
 cl:op=14→x=1
theorem a9r {p:List (Int × Int × Int)} (h:a0y p=true):1≤p.length∧p.length≤7∧mA p 0=0 ∧
  ∀j,j < p.length→dP (p.getD j (0,0,0)).1 (p.getD j (0,0,0)).2.1 p.length (mA p j) (mA p (j+1)) (mA p):=by
 simp only[a0y,Bool.and_eq_true,decide_eq_true_eq] at h;obtain⟨hl,ha⟩:=h;have hj:=fun j (hj:j < p.length)=>List.all_eq_true.1 ha j (List.mem_range.2 hj)
 refine⟨hl.1,hl.2,?_,fun j hjl=>?_⟩
 ·have:=hj 0 Q8
  simp only[Bool.and_eq_true,decide_eq_true_eq] at this;unfold mA;rw[if_pos Q8];exact this.1.1.2
 ·have:=hj j hjl
  simp only[Bool.and_eq_true,decide_eq_true_eq,beq_iff_eq] at this;obtain⟨⟨⟨⟨⟨⟨h1,h2⟩,h3⟩,h4⟩,h5⟩,h6⟩,h7⟩:=this;have hr:mA p j=(p.getD j (0,0,0)).2.2:=by unfold mA;rw [if_pos hjl]
  refine⟨by rw [hr];exact h1,by rw [hr];exact h2,by rw [hr];exact h3,h4,by rw [hr];exact h6,fun h13=>?_,fun h13=>?_,fun h14=>?_⟩
  ·rw [if_pos h13] at h7
   simp only[Bool.and_eq_true,decide_eq_true_eq,beq_iff_eq] at h7;rw[hr];exact⟨h7.1.1,h7.1.2,h7.2⟩
  ·rw [if_neg h13] at h7
   simp only[Bool.and_eq_true] at h7;exact h7.1
  ·rw [if_neg Q8] at h7
   simp only[Bool.and_eq_true,Bool.or_eq_true,decide_eq_true_eq,beq_iff_eq] at h7;rcases h7.2 with h | h
   ·exact absurd h14 h
   ·exact h
structure Seg (L:List (Int × Int)) (m:Nat) (H:Nat→Int):Prop where
 z0:H 0=0
 z2:H 2=0
 zm:H m=0
 m2:2≤m
 ok:∀a,a < m→dP (L.getD a (0,0)).1 (L.getD a (0,0)).2 m (H a) (H (a+1)) H
theorem a7g:Seg [(0,0),(3,0)] 2 (fun a=>if a=1 then 1 else 0):=by
 refine⟨rfl,rfl,rfl,Nat.le_refl _,fun a ha=>?_⟩;obtain rfl | rfl:a=0∨a=1:=by omega
 ·refine ⟨by decide,by decide,by decide,by decide,by decide,fun h=>by simp at h,fun _=>by decide,fun h=>by simp at h⟩
 ·refine ⟨by decide,by decide,by decide,by decide,by decide,fun h=>by simp at h,fun _=>by decide,fun h=>by simp at h⟩
theorem a7f {L:List (Int × Int)} {H:Nat→Int} (h:Seg L L.length H) (c:Int):∃H',Seg (L++fB c L.length) (L++fB c L.length).length H':=by
 obtain⟨hp1,hp7,hp0,hpk⟩:=a9r (a9s c);rw[uU];generalize rel c=p at *
 have hlen:(L++p.map (mP L.length)).length=L.length+p.length:=by simp
 rw[hlen];have hlo:∀c,c≤L.length→(if c < L.length then H c else mA p (c - L.length))=H c:=fun c hc=>by
  by_cases e:c < L.length
  ·rw [if_pos e]
  ·obtain rfl:c=L.length:=by omega
   rw[if_neg e,Nat.sub_self,hp0,h.zm]
 have hhi:∀j,(if L.length+j < L.length then H (L.length+j) else mA p (L.length+j - L.length))=mA p j:=fun j=>by
  rw[if_neg Q8,show L.length+j - L.length=j by omega]
 have h2:=h.m2;refine⟨fun c=>if c < L.length then H c else mA p (c - L.length),?_,?_,?_,by omega,fun a ha=>?_⟩
 ·show (if 0 < L.length then _ else _)=_;rw [hlo 0 Q8];exact h.z0
 ·show (if 2 < L.length then _ else _)=_;rw [hlo 2 Q8];exact h.z2
 ·show (if L.length+p.length < L.length then _ else _)=_
  rw[hhi p.length];unfold mA;rw [if_neg Q8]
 ·by_cases e:a < L.length
  ·have hk:=h.ok a e
   have hg:(L++p.map (mP L.length)).getD a (0,0)=L.getD a (0,0):=by
    simp only[List.getD_eq_getElem?_getD];rw [List.getElem?_append_left e]
   rw[hg];show dP _ _ _ (if a < L.length then _ else _) (if a+1 < L.length then _ else _) _;rw[hlo a Q8,hlo (a+1) Q8];refine⟨hk.h0,hk.hp,hk.ht,hk.no,hk.nx,fun h13=>?_,hk.lg,hk.cl⟩;obtain⟨k1,k2,k3⟩:=hk.jm h13;refine⟨k1,by omega,?_⟩;show (if _ < L.length then _ else _)=_;rw[hlo _ Q8];exact k3
  ·obtain ⟨j,rfl⟩:∃j,a=L.length+j:=⟨a - L.length,by omega⟩
   have hj:j < p.length:=by omega
   have hk:=hpk j hj;have hg:(L++p.map (mP L.length)).getD (L.length+j) (0,0)=mP L.length (p.getD j (0,0,0)):=by
    simp only[List.getD_eq_getElem?_getD];rw[List.getElem?_append_right Q8,show L.length+j - L.length=j by omega,List.getElem?_map,List.getElem?_eq_getElem hj];simp
   rw[hg];have hhi1:(if L.length+j+1 < L.length then H (L.length+j+1) else mA p (L.length+j+1 - L.length))=mA p (j+1):=hhi (j+1);show dP _ _ _ (if L.length+j < L.length then _ else _) (if L.length+j+1 < L.length then _ else _) _;rw[hhi j,hhi1];generalize p.getD j (0,0,0)=t at *
   refine⟨hk.h0,hk.hp,hk.ht,hk.no,hk.nx,fun h13=>?_,fun h13=>?_,fun h14=>?_⟩
   ·have h13':t.1=13:=h13
    obtain⟨k1,k2,k3⟩:=hk.jm h13';simp only[mP,if_pos h13'];refine⟨by omega,by omega,?_⟩;have ht:(t.2.1+(L.length:Int)).toNat=L.length+t.2.1.toNat:=by omega
    rw[ht,hhi];exact k3
   ·have h13':t.1≠13:=h13
    simp only[mP,if_neg h13'];exact hk.lg h13'
   ·have h14':t.1=14:=h14
    simp only[mP,if_neg (show ¬t.1=13 by omega)];exact hk.cl h14'
theorem a0E (R:Nat→Int) (i:Nat):∃H,Seg (K9 R i) (K9 R i).length H:=by
 induction i with
 | zero=>exact ⟨_,a7g⟩
 | succ i ih=>obtain ⟨H,h⟩:=ih;exact a7f h (R i)
theorem a8t {op q:Int} (h:op≠14):G1 op q=G1 op 2:=by
 unfold G1;repeat' split
 all_goals first | rfl | omega
theorem iU (B t:List (Int × Int)) (j:Nat):(B++t).getD (B.length+j) (0,0)=t.getD j (0,0):=by
 simp only[List.getD_eq_getElem?_getD];rw [List.getElem?_append_right Q8,show B.length+j - B.length=j by omega]
theorem a3c (B t:List (Int × Int)) {a:Nat} (h:a < B.length):(B++t).getD a (0,0)=B.getD a (0,0):=by
 simp only[List.getD_eq_getElem?_getD];rw [List.getElem?_append_left h]
theorem a9n {g:PgR} (h1:(g.f 1).p=2) {op x:Int} (hc:op=14→x=1):G1 op (g.f x.toNat).p=G1 op 2:=by
 by_cases e:op=14
 ·rw [hc e];show G1 op (g.f 1).p=_;rw [h1]
 ·exact a8t e
theorem a8b {a:Nat} {op x:Int} (h:op≠12∧op≠15∧op≠27) {c:Nat} (hc:c∈D2 a op x):c=a+1∨(op=13∧c=x.toNat):=by
 unfold D2 at hc;rw[if_neg Q8,if_neg h.1] at hc;split at hc
 ·next h13=>simp only [List.mem_cons,List.not_mem_nil,or_false] at hc;rcases hc with h | h
            ·exact Or.inr ⟨h13,h⟩
            ·exact Or.inl h
 ·simp only [List.mem_cons,List.not_mem_nil,or_false] at hc;exact Or.inl hc
theorem a8C {g:PgR} {p l:Int} {b c m:Nat} {L:List (Int × Int)} {HH:Nat→Int} (h1:(g.f 1).p=2) (hm:m < L.length) {a:Nat} (ha:a < m)
  (ok:dP (L.getD a (0,0)).1 (L.getD a (0,0)).2 m (HH a) (HH (a+1)) HH):(A7 g (Z1 p l b c L)).Shut HH a:=by
 have hp:(A7 g (Z1 p l b c L)).pop a=G1 (L.getD a (0,0)).1 2:=a9n h1 ok.cl;have hb:(A7 g (Z1 p l b c L)).behind a (HH a)=HH a - G1 (L.getD a (0,0)).1 2+J9 (L.getD a (0,0)).1:=by
  unfold E6.behind;rw [hp];rfl
 refine⟨by rw [hp];exact ok.hp,by rw [hb];exact ok.ht,fun d hd=>?_⟩;rw[hb];rcases a8b ok.no hd with rfl | ⟨h13,rfl⟩
 ·exact ⟨by show a+1 < L.length;omega,ok.nx⟩
 ·obtain ⟨k1,k2,k3⟩:=ok.jm h13
  exact⟨by show _ < L.length;have:(Z1 p l b c L).ar a=(L.getD a (0,0)).2:=rfl;omega,k3⟩
theorem a4h {op x:Int} {m:Nat} {h hn h' hn':Int} {H H':Nat→Int} (ok:dP op x m h hn H) (e1:h'=h) (e2:hn'=hn) (e3:∀c,c≤m→H' c=H c):dP op x m h' hn' H':=by
 subst e1 e2;exact⟨ok.h0,ok.hp,ok.ht,ok.no,ok.nx,fun h13=>by obtain ⟨k1,k2,k3⟩:=ok.jm h13;exact ⟨k1,k2,by rw [e3 _ Q8];exact k3⟩,ok.lg,ok.cl⟩
def HT (m:Nat) (H T:Nat→Int) (a:Nat):Int:=if a≤m then H a else T (a - m)
theorem nR {m:Nat} {H T:Nat→Int} {a:Nat} (h:a≤m):HT m H T a=H a:=by unfold HT;rw [if_pos h]
theorem pN {m:Nat} {H T:Nat→Int} {j:Nat} (h:0 < j):HT m H T (m+j)=T j:=by unfold HT;rw [if_neg Q8,show m+j - m=j by omega]
theorem uC {g:PgR} {p l:Int} {b c:Nat} {B t:List (Int × Int)} {H T:Nat→Int} (h1:(g.f 1).p=2) (hs:Seg B B.length H) (ht:0 < t.length) {a:Nat} (ha:a < B.length) :
  (A7 g (Z1 p l b c (B++t))).Shut (HT B.length H T) a:=by
 refine a8C (m:=B.length) h1 Q5 ha ?_;rw[a3c B t ha];exact a4h (hs.ok a ha) (nR Q8) (nR Q8) (fun c hc=>nR hc)
theorem a6z {nc:Nat} {op x:Int} {m:Nat} {h hn:Int} {H:Nat→Int} (ok:dP op x m h hn H) (hm:m < nc):D3 3 3 nc op x=true:=by
 by_cases e:op=13
 ·obtain ⟨k1,k2,_⟩:=ok.jm e
  unfold D3;rw[if_neg Q8,if_neg Q8,if_pos (Or.inr e)];exact F8 k1 Q8
 ·have h:=ok.lg e
  have hno:=ok.no;unfold D3 at h ⊢;by_cases e0:op=0
  ·rw [if_pos e0]
  ·rw [if_neg e0] at h ⊢
   by_cases e1:op=2∨op=3
   ·rw [if_pos e1] at h ⊢;exact h
   ·rw [if_neg e1] at h ⊢
    rw[if_neg Q8] at h ⊢;exact h
theorem rO {B t:List (Int × Int)} {H:Nat→Int} (hs:Seg B B.length H) (ht0:0 < t.length) (k:Nat) (ht:∀j,j < k→D3 3 3 (B++t).length (t.getD j (0,0)).1 (t.getD j (0,0)).2=true) (j:Nat) (hj:j < B.length+k) :
  D3 3 3 (B++t).length ((B++t).getD j (0,0)).1 ((B++t).getD j (0,0)).2=true:=by
 by_cases e:j < B.length
 ·rw [a3c B t e];exact a6z (hs.ok j e) Q5
 ·obtain ⟨i,rfl⟩:∃i,j=B.length+i:=⟨j - B.length,by omega⟩
  rw[iU B t i];exact ht i Q8
theorem hD (B:List (Int × Int)) (x:Int × Int):X8 B x=B++[(14,2),(5,0),x]:=by simp [X8]
theorem iY (B:List (Int × Int)) (x:Int × Int):(X8 B x).length=B.length+3:=by simp [X8]
theorem a1O {pb b1 c1 sb b2 c2:Nat} {B:List (Int × Int)} {C:List (Int × Int)} {x:Int × Int} {H:Nat→Int} (hB:Seg B B.length H) (hB2:B.length≤44) (hC2:C.length≤44) :
  aR (lT pb b1 c1 sb b2 c2 (X8 B x) cJ (C++[(2,1)]++[(15,0)])) 0 true:=by
 have h2:=hB.m2;refine Or.inl ⟨rfl,rfl,by show 1≤3;omega,by show 3≤8;omega,fun i hi=>?_⟩;have hi':i=0∨i=1∨i=2:=by have:i < 3:=hi;omega
 rcases hi' with rfl | rfl | rfl
 ·show aG 0 0 3 (X8 B x).length=true
  rw[iY];unfold aG;rw[F8 Q8 Q8]
  decide
 ·show aG 1 2 3 cJ.length=true
  decide
 ·show aG 2 0 3 (C++[(2,1)]++[(15,0)]).length=true
  unfold aG;rw[F8 Q5 Q5]
  decide
theorem a2A (j:Nat) (hj:j < 9):D3 3 3 9 (cJ.getD j (0,0)).1 (cJ.getD j (0,0)).2=true:=by
 have:∀j:Fin 9,D3 3 3 9 (cJ.getD j (0,0)).1 (cJ.getD j (0,0)).2=true:=by decide
 exact this ⟨j,hj⟩
theorem a0k {C:List (Int × Int)} {K:Nat→Int} (hC:Seg C C.length K) (j:Nat) (hj:j < (C++[(2,1)]++[(15,0)]).length) :
  D3 3 3 (C++[(2,1)]++[(15,0)]).length ((C++[(2,1)]++[(15,0)]).getD j (0,0)).1 ((C++[(2,1)]++[(15,0)]).getD j (0,0)).2=true:=by
 rw[List.append_assoc] at *
 refine rO hC Q9 2 (fun j hj=>?_) j (by simpa using hj);obtain rfl | rfl:j=0∨j=1:=by omega
 ·rfl
 ·rfl
theorem a1Q {B:List (Int × Int)} {x:Int × Int} {H:Nat→Int} (hB:Seg B B.length H) (j:Nat) (hj:j < B.length+2):D3 3 3 (X8 B x).length ((X8 B x).getD j (0,0)).1 ((X8 B x).getD j (0,0)).2=true:=by
 rw[hD];refine rO hB Q9 2 (fun j hj=>?_) j hj;obtain rfl | rfl:j=0∨j=1:=by omega
 ·rfl
 ·rfl
theorem nF (B:List (Int × Int)) (x:Int × Int):(X8 B x).getD (B.length+2) (0,0)=x:=by
 rw[hD,iU];rfl
theorem a1N {pb b1 c1 sb b2 c2:Nat} {B:List (Int × Int)} {C:List (Int × Int)} {x:Int × Int} {H:Nat→Int} {K:Nat→Int} (hB:Seg B B.length H) (hC:Seg C C.length K) (hx:D3 3 3 (X8 B x).length x.1 x.2=true) :
  bR (lT pb b1 c1 sb b2 c2 (X8 B x) cJ (C++[(2,1)]++[(15,0)])) 0 true:=by
 refine Or.inl ⟨rfl,rfl,fun i hi j hj=>?_⟩;have hi':i=0∨i=1∨i=2:=by have:i < 3:=hi;omega
 rcases hi' with rfl | rfl | rfl
 ·have hj':j < (X8 B x).length:=hj
  rw[iY] at hj';show D3 3 3 (X8 B x).length ((X8 B x).getD j (0,0)).1 ((X8 B x).getD j (0,0)).2=true;by_cases e:j < B.length+2
  ·exact a1Q hB j e
  ·obtain rfl:j=B.length+2:=by omega
   rw[nF];exact hx
 ·exact a2A j hj
 ·exact a0k hC j hj
theorem V4 {g:PgR} {p l:Int} {b c:Nat} {L:List (Int × Int)} {HH:Nat→Int} {a:Nat} {op x h q:Int} (hg:L.getD a (0,0)=(op,x)) (hh:HH a=h) (hq:(g.f x.toNat).p=q)
  (h1:G1 op q≤h) (h2:h - G1 op q+J9 op≤10) (h3:∀d,d∈D2 a op x→d < L.length∧HH d=h - G1 op q+J9 op):(A7 g (Z1 p l b c L)).Shut HH a:=by
 have hop:(Z1 p l b c L).op a=op:=by show (L.getD a (0,0)).1=_;rw [hg]
 have har:(Z1 p l b c L).ar a=x:=by show (L.getD a (0,0)).2=_;rw [hg]
 have hp:(A7 g (Z1 p l b c L)).pop a=G1 op q:=by show G1 ((Z1 p l b c L).op a) (g.f ((Z1 p l b c L).ar a).toNat).p=_;rw [hop,har,hq]
 have hb:(A7 g (Z1 p l b c L)).behind a (HH a)=h - G1 op q+J9 op:=by
  unfold E6.behind;rw [hp,hh];show _+J9 ((Z1 p l b c L).op a)=_;rw [hop]
 refine⟨by rw [hp,hh];exact h1,by rw [hb];exact h2,fun d hd=>?_⟩;rw[hb];refine h3 d ?_;have:d∈D2 a ((Z1 p l b c L).op a) ((Z1 p l b c L).ar a):=hd;rwa [hop,har] at this
theorem a4q {pb b1 c1 sb b2 c2:Nat} {B:List (Int × Int)} {C:List (Int × Int)} {H:Nat→Int} (hB:Seg B B.length H) (again:Bool):(A7 (lT pb b1 c1 sb b2 c2 (X8 B (uP again)) cJ (C++[(2,1)]++[(15,0)])) (Z1 0 3 b1 c1 (X8 B (uP again)))).Fits:=by
 have h2:=hB.m2;have hlen:=iY B (uP again);refine E6.fits_of_shut (H:=HT B.length H (fun j=>if j=1 then 1 else 0)) (by show 0 < (X8 B (uP again)).length;omega) (by rw [nR Q8];exact hB.z0) (fun a=>(M7 _).1) (fun a ha _=>?_);have ha':a < B.length+3:=by rw [← hlen];exact ha
 by_cases e:a < B.length
 ·rw [hD];exact uC rfl hB Q9 e
 ·have hcase:a=B.length+0∨a=B.length+1∨a=B.length+2:=by omega
  rcases hcase with rfl | rfl | rfl
  ·refine V4 (op:=14) (x:=2) (h:=0) (q:=0) (by rw [hD,iU];rfl) (by rw [nR Q8];exact hB.zm) rfl Q7 Q7 (fun d hd=>?_)
   have:d=B.length+0+1:=by simpa [D2] using hd
   subst this;exact⟨by omega,by rw [show B.length+0+1=B.length+1 from rfl,pN Q8];decide⟩
  ·refine V4 (op:=5) (x:=0) (h:=1) (q:=0) (by rw [hD,iU];rfl) (by rw [pN Q8];rfl) rfl Q7 Q7 (fun d hd=>?_)
   have:d=B.length+1+1:=by simpa [D2] using hd
   subst this;exact⟨by omega,by rw [show B.length+1+1=B.length+2 from rfl,pN Q8];decide⟩
  ·cases again
   ·refine V4 (op:=27) (x:=0) (h:=0) (q:=0) (by rw [nF];rfl) (by rw [pN Q8];rfl) rfl Q7 Q7 (fun d hd=>?_)
    simp[D2] at hd
   ·refine V4 (op:=12) (x:=2) (h:=0) (q:=0) (by rw [nF];rfl) (by rw [pN Q8];rfl) rfl Q7 Q7 (fun d hd=>?_)
    have:d=2:=by simpa [D2] using hd
    subst this;exact⟨by omega,by rw [nR Q8,hB.z2];decide⟩
theorem a1Y {pb b1 c1 sb b2 c2:Nat} {B:List (Int × Int)} {C:List (Int × Int)} {x:Int × Int} {K:Nat→Int} (hC:Seg C C.length K):(A7 (lT pb b1 c1 sb b2 c2 (X8 B x) cJ (C++[(2,1)]++[(15,0)])) (Z1 0 3 b2 c2 (C++[(2,1)]++[(15,0)]))).Fits:=by
 have h2:=hC.m2;have hlen:(C++[(2,1)]++[(15,0)]:List (Int × Int)).length=C.length+2:=by simp
 have heq:(C++[(2,1)]++[(15,0)]:List (Int × Int))=C++[(2,1),(15,0)]:=by simp
 refine E6.fits_of_shut (H:=HT C.length K (fun _=>1)) (by show 0 < (C++[(2,1)]++[(15,0)]).length;omega) (by rw [nR Q8];exact hC.z0) (fun a=>(M7 _).1) (fun a ha _=>?_);have ha':a < C.length+2:=by rw [← hlen];exact ha
 by_cases e:a < C.length
 ·rw [heq];exact uC rfl hC Q9 e
 ·have hcase:a=C.length+0∨a=C.length+1:=by omega
  rcases hcase with rfl | rfl
  ·refine V4 (op:=2) (x:=1) (h:=0) (q:=2) (by rw [heq,iU];rfl) (by rw [nR Q8];exact hC.zm) rfl Q7 Q7 (fun d hd=>?_)
   have:d=C.length+0+1:=by simpa [D2] using hd
   subst this;exact⟨by omega,by rw [show C.length+0+1=C.length+1 from rfl,pN Q8];decide⟩
  ·refine V4 (op:=15) (x:=0) (h:=1) (q:=0) (by rw [heq,iU];rfl) (by rw [pN Q8]) rfl Q7 Q7 (fun d hd=>?_)
   simp[D2] at hd
def a9D (a:Nat):Int:=([0,1,0,1,2,0,1,2,1]:List Int).getD a 0
theorem a5f {pb b1 c1 sb b2 c2:Nat} {B:List (Int × Int)} {C:List (Int × Int)} {x:Int × Int} : (A7 (lT pb b1 c1 sb b2 c2 (X8 B x) cJ (C++[(2,1)]++[(15,0)])) (Z1 2 3 sb 9 cJ)).Fits:=by
 refine E6.fits_of_shut (H:=a9D) (by show 0 < 9;omega) rfl (fun a=>(M7 _).1) (fun a ha _=>?_);have ha':a < 9:=ha;have hcase:a=0∨a=1∨a=2∨a=3∨a=4∨a=5∨a=6∨a=7∨a=8:=by omega
 rcases hcase with rfl | rfl | rfl | rfl | rfl | rfl | rfl | rfl | rfl
 ·exact V4 (op:=16) (x:=1) (h:=0) (q:=2) rfl rfl rfl Q7 Q7 (fun d hd=>by have:d=1:=by simpa [D2] using hd
                                                                         subst this;decide)
 ·exact V4 (op:=3) (x:=2) (h:=1) (q:=0) rfl rfl rfl Q7 Q7 (fun d hd=>by have:d=2:=by simpa [D2] using hd
                                                                        subst this;decide)
 ·exact V4 (op:=2) (x:=2) (h:=0) (q:=0) rfl rfl rfl Q7 Q7 (fun d hd=>by have:d=3:=by simpa [D2] using hd
                                                                        subst this;decide)
 ·exact V4 (op:=2) (x:=1) (h:=1) (q:=2) rfl rfl rfl Q7 Q7 (fun d hd=>by have:d=4:=by simpa [D2] using hd
                                                                        subst this;decide)
 ·exact V4 (op:=20) (x:=0) (h:=2) (q:=0) rfl rfl rfl Q7 Q7 (fun d hd=>by have:d=5:=by simpa [D2] using hd
                                                                         subst this;decide)
 ·exact V4 (op:=2) (x:=0) (h:=0) (q:=0) rfl rfl rfl Q7 Q7 (fun d hd=>by have:d=6:=by simpa [D2] using hd
                                                                        subst this;decide)
 ·exact V4 (op:=0) (x:=1) (h:=1) (q:=2) rfl rfl rfl Q7 Q7 (fun d hd=>by have:d=7:=by simpa [D2] using hd
                                                                        subst this;decide)
 ·exact V4 (op:=7) (x:=0) (h:=2) (q:=0) rfl rfl rfl Q7 Q7 (fun d hd=>by have:d=8:=by simpa [D2] using hd
                                                                        subst this;decide)
 ·exact V4 (op:=15) (x:=0) (h:=1) (q:=0) rfl rfl rfl Q7 Q7 (fun d hd=>by simp [D2] at hd)
theorem a1P {pb b1 c1 sb b2 c2:Nat} {B:List (Int × Int)} {C:List (Int × Int)} {H:Nat→Int} {K:Nat→Int} (hB:Seg B B.length H) (hB2:B.length≤44) (hC:Seg C C.length K) (hC2:C.length≤44) (again:Bool) :
  N6 (lT pb b1 c1 sb b2 c2 (X8 B (uP again)) cJ (C++[(2,1)]++[(15,0)])) 0 0:=by
 have h2:=hB.m2;refine Or.inr ⟨a1O hB hB2 hC2,Or.inr ⟨a1N hB hC ?_,Or.inr ⟨Or.inl ⟨rfl,rfl,fun i hi=>?_⟩,rfl,rfl⟩⟩⟩
 ·rw [iY]
  cases again
  ·rfl
  ·show D3 3 3 (B.length+3) 12 2=true
   unfold D3;rw[if_neg Q7,if_neg Q7,if_pos Q7];exact F8 Q8 Q8
 ·have hi':i=0∨i=1∨i=2:=by have:i < 3:=hi;omega
  rcases hi' with rfl | rfl | rfl
  ·exact a4q hB again
  ·exact a5f
  ·exact a1Y hC
open Go.RowKit
end Go.Proofs.YtbkmgoffiigdbabGreatDoor
