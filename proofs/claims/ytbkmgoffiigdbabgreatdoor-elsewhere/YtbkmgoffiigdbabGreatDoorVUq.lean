import Derived.Test.YtbkmgoffiigdbabGreatDoorVQa
import Derived.Test.YtbkmgoffiigdbabGreatDoorVM
namespace Go.Proofs.YtbkmgoffiigdbabGreatDoor
open Go.RowKit Go.Sort
set_option maxHeartbeats 1000000
def gO (w:World) (a:Option Addr) (l:List Int):Prop:=0 < l.length→∃b o,a=some ⟨b,o,none⟩∧b < w.heap.size∧∀(i:Nat) (x:Int),l[i]?=some x→w.cell? ⟨b,o+i,none⟩=some (.int .i64 x)
theorem yC {own:Own} {mb:Nat} {g:PgR} {R:McR} {w:World} (h:A3 w own mb g R) (ho:Z0 R) (hal:(A0 R.abs).length≤1000) :
  Calls Tryz.prog 15 #[.pointer (some ⟨mb,0,none⟩)] w fun e w'=>gL own mb g R w e w':=by
 have HA:=hid (nW h ho hal);have hmb:mb < w.heap.size:=h.lt mb _ h.me;clear h;go_enter Tryz.func15,Tryz.ntmps15;go_wp2_with (go_at_call 33;refine HA.out.mono ?_;rintro e w2 ⟨rfl,hm,ht⟩)
 go_ret;exact⟨rfl,hm,ht⟩
end Go.Proofs.YtbkmgoffiigdbabGreatDoor
namespace Go.Proofs.YtbkmgoffiigdbabGreatDoor
set_option maxHeartbeats 1000000
open Go.RowKit Go.Sort
end Go.Proofs.YtbkmgoffiigdbabGreatDoor
namespace Go.Proofs.YtbkmgoffiigdbabGreatDoor
open Go.RowKit Go.Sort
set_option maxHeartbeats 1000000
def a8Q (B:Nat) (w:World) (a:Option Addr) (n b o:Nat) (R:Nat→Int):Prop :=
 n≤1152921504606846976∧(0 < n→a=some ⟨b,o,none⟩∧b < B∧∀i,i < n→w.cell? ⟨b,o+i,none⟩=some (.int .i64 (R i)))
theorem a0H (a:Option Addr) (n c:Nat) (w:World) (h:¬200 < n):Calls Tryz.prog 13 #[.slice a n c,.int .i64 200] w fun e w'=>e=.returned (.slice a n c)∧w'=w:=by
 have h':¬(200:Int) < (n:Int):=by omega
 go_enter Tryz.func13,Tryz.ntmps13;go_wp2
 go_ret;exact⟨rfl,rfl⟩
theorem xP (b o n c:Nat) (w:World) (h:200 < n) (hc:n≤c):Calls Tryz.prog 13 #[.slice (some ⟨b,o,none⟩) n c,.int .i64 200] w fun e w'=>e=.returned (.slice (some ⟨b,o,none⟩) 200 c)∧w'=w:=by
 have h':(200:Int) < (n:Int):=by omega
 have h6:200≤c:=by omega
 go_enter Tryz.func13,Tryz.ntmps13;go_wp2
 go_ret;exact⟨rfl,rfl⟩
theorem oE {B:Nat} {w:World} {a:Option Addr} {n c b o:Nat} {R:Nat→Int} (hr:a8Q B w a n b o R) (hB:B≤w.heap.size) (hc:n≤c) :
  ∃l:List Int,l.length=min n 200∧gO w a l∧∀W,Calls Tryz.prog 13 #[.slice a n c,.int .i64 200] W fun e w'=>e=.returned (.slice a l.length c)∧w'=W:=by
 refine⟨(List.range (min n 200)).map R,by simp,fun h0=>?_,fun W=>?_⟩
 ·have h0':0 < n:=by simp at h0;omega
  obtain⟨h1,h2,h3⟩:=hr.2 h0';refine⟨b,o,h1,by omega,fun i x hx=>?_⟩;have hi:=(List.getElem?_eq_some_iff.1 hx).1;simp at hi;rw[List.getElem?_map,List.getElem?_range Q8] at hx
  cases hx;exact h3 i Q8
 ·rw [List.length_map,List.length_range]
  by_cases h:200 < n
  ·obtain ⟨rfl,_⟩:=hr.2 Q8
   rw[show min n 200=200 by omega];exact xP b o n c W h hc
  ·rw [show min n 200=n by omega]
   exact a0H a n c W h
theorem pJ {own:Own} {mb:Nat} {g:PgR} {R:McR} {s:McA} {w:World} (hp:F2 g) (h:A3 w own mb g R) (his:Is g s R) (hi:C1 g s) :
  Calls Tryz.prog 15 #[.pointer (some ⟨mb,0,none⟩)] w fun e w'=>∃(R':McR),e=.returned (.int .i64 ((K8 s.obs:Int) - (K8 (G8 s).obs:Int)))∧A3 w' own mb g R'∧Is g (G8 s) R'∧A8 own w own w':=by
 obtain⟨rfl,hq⟩:=his;refine (yC h (hi.heapOk hp) hi.alive_len).mono ?_;rintro e w' ⟨he,hm,ht⟩;have e1:taken R.obs=K8 R.abs.obs:=T7 R.obs;have e2:taken (Y0 R.obs (A0 R.abs))=K8 (G8 R.abs).obs:=by
  rw[← jF R];exact T7 (J4 R).obs
 rw[e1,e2] at he;exact⟨J4 R,he,hm,⟨jF R,hq⟩,ht.touched⟩
structure HM (w0 w:World) (own:Own) (ma:Nat) (g:PgR) (R:McR) (s:McA):Prop where
 m:A3 w own ma g R
 is:Is g s R
 inv:C1 g s
 no:∀k t,own k=some t→w0.heap.size≤k
 bel:Below w0.heap.size w0 w
theorem HM.later {w0 w W:World} {own:Own} {ma:Nat} {g:PgR} {R:McR} {s:McA} (h:HM w0 w own ma g R s) (hB:Below w.heap.size w W):HM w0 W own ma g R s :=
 ⟨h.m.same hB.size fun k hk=>hB.block k hk,h.is,h.inv,h.no,A1 hB h.bel⟩
theorem HM.touched {w0 w w':World} {own own':Own} {ma:Nat} {g:PgR} {R R':McR} {s s':McA} (h:HM w0 w own ma g R s) (hm:A3 w' own' ma g R') (his:Is g s' R') (hi:C1 g s') (ht:A8 own w own' w'):HM w0 w' own' ma g R' s':=by
 refine⟨hm,his,hi,fun k t hk=>?_,h.bel.trans (ht.below h.bel.size fun k hk=>?_)⟩
 ·rcases Nat.lt_or_ge k w.heap.size with hl | hl
  ·rw [ht.old k hl] at hk;exact h.no k t hk
  ·exact Nat.le_trans h.bel.size hl
 ·cases e:own k with
  | none=>rfl
  | some t=>have:=h.no k t e;omega
def mO (own:Own) (w w':World):Prop:=w.heap.size≤w'.heap.size∧∀k,k < w.heap.size→own k=none→w'.heap[k]?=w.heap[k]?
theorem HM.run {w0 w:World} {own:Own} {ma:Nat} {g:PgR} {R:McR} {s:McA} (h:HM w0 w own ma g R s) (hp:F2 g) (f:Nat) (hf:f≤10000) :
  Calls Tryz.prog 8 #[.pointer (some ⟨ma,0,none⟩),.int .i64 (f:Int)] w fun e w'=>e=.returned (.tuple #[.int .i64 (G4 g f s:Int),.int .i64 0])∧(∃own' R',HM w0 w' own' ma g R' (runA g f s))∧mO own w w':=by
 refine (nL hp h.inv h.is h.m f hf).mono ?_;rintro e w' ⟨own',R',rfl,hm,his,ht⟩;exact⟨rfl,⟨own',R',h.touched hm his (lP hp f h.inv) ht⟩,ht.size,ht.block⟩
theorem HM.status {w0 w:World} {own:Own} {ma:Nat} {g:PgR} {R:McR} {s:McA} (h:HM w0 w own ma g R s) :
  Calls Tryz.prog 20 #[.pointer (some ⟨ma,0,none⟩)] w fun e w'=>e=.returned (.agg #[.int .i64 s.st,.int .i64 (K8 s.obs:Int),.int .i64 (s.dr.length:Int)])∧Below w.heap.size w w':=by
 obtain⟨rfl,_⟩:=h.is;have hl:R.abs.obs.length=R.obs.length:=by simp [McR.abs]
 have hcp:=h.inv.cap;have:=pW h.m Q8 Q8;rw[T7] at this;exact this
theorem HM.output {w0 w:World} {own:Own} {ma:Nat} {g:PgR} {R:McR} {s:McA} (h:HM w0 w own ma g R s) :
  Calls Tryz.prog 32 #[.pointer (some ⟨ma,0,none⟩)] w fun e w'=>(∃a c,e=.returned (.slice a s.out.length c)∧eE w' a s.out)∧Below w.heap.size w w':=by
 obtain⟨rfl,hnil⟩:=h.is;have ho:=h.inv.out;have e:R.abs.out=R.out:=rfl;rw[e] at ho;exact (pS h.m Q8 hnil).mono fun _ _ h=>xA h
theorem HM.collect {w0 w:World} {own:Own} {ma:Nat} {g:PgR} {R:McR} {s:McA} (h:HM w0 w own ma g R s) (hp:F2 g) :
  Calls Tryz.prog 15 #[.pointer (some ⟨ma,0,none⟩)] w fun e w'=>e=.returned (.int .i64 ((K8 s.obs:Int) - (K8 (G8 s).obs:Int)))∧(∃R',HM w0 w' own ma g R' (G8 s))∧mO own w w':=by
 refine (pJ hp h.m h.is h.inv).mono ?_;rintro e w' ⟨R',rfl,hm,his,ht⟩;exact⟨rfl,⟨R',h.touched hm his (aL h.inv) ht⟩,ht.size,ht.block⟩
theorem gO.later {w W:World} {a:Option Addr} {l:List Int} (h:gO w a l) (hB:Below w.heap.size w W):gO W a l:=fun h0=>by
 obtain⟨b,o,e,hb,hc⟩:=h h0;exact⟨b,o,e,Nat.lt_of_lt_of_le hb hB.size,fun i x hx=>(hB.cell (p:=⟨b,o+i,none⟩) hb).trans (hc i x hx)⟩
theorem mO.cell {own:Own} {w w':World} (h:mO own w w') {b i:Nat} {v:Value} (hb:b < w.heap.size) (ho:own b=none) (hc:w.cell? ⟨b,i,none⟩=some v):w'.cell? ⟨b,i,none⟩=some v:=by
 rw[World.cell?_of_block (w:=w) (a:=⟨b,i,none⟩) (h.2 b hb ho)];exact hc
end Go.Proofs.YtbkmgoffiigdbabGreatDoor
