import Derived.Test.YtbkmgoffiigdbabGreatDoorVQa
import Derived.Test.YtbkmgoffiigdbabGreatDoorVM
namespace Go.Proofs.YtbkmgoffiigdbabGreatDoor
open Go.RowKit Go.Sort
def a5B (w:World) (a:Option Addr) (l:List Int):Prop:=0 < l.length→∃b o,a=some ⟨b,o,none⟩∧b < w.heap.size∧∀(i:Nat) (x:Int),l[i]?=some x→w.cell? ⟨b,o+i,none⟩=some (.int .i64 x)
end Go.Proofs.YtbkmgoffiigdbabGreatDoor
namespace Go.Proofs.YtbkmgoffiigdbabGreatDoor

open Go.RowKit Go.Sort
open Go.RowKit Go.Sort
end Go.Proofs.YtbkmgoffiigdbabGreatDoor
namespace Go.Proofs.YtbkmgoffiigdbabGreatDoor
open Go.RowKit Go.Sort
structure HM (w0 w:World) (own:Own) (ma:Nat) (g:PgR) (R:McR) (s:McA):Prop where
 m:a8 w own ma g R
 is:Is g s R
 inv:e8 g s
 no:∀k t,own k=some t→w0.heap.size≤k
 bel:Below w0.heap.size w0 w
theorem HM.later {w0 w W:World} {own:Own} {ma:Nat} {g:PgR} {R:McR} {s:McA} (h:HM w0 w own ma g R s) (hB:Below w.heap.size w W):HM w0 W own ma g R s :=
 ⟨h.m.same hB.size fun k hk=>hB.block k hk,h.is,h.inv,h.no,a0 hB h.bel⟩
theorem HM.touched {w0 w w':World} {own own':Own} {ma:Nat} {g:PgR} {R R':McR} {s s':McA} (h:HM w0 w own ma g R s) (hm:a8 w' own' ma g R') (his:Is g s' R') (hi:e8 g s') (ht:d7 own w own' w'):HM w0 w' own' ma g R' s':=by
 refine⟨hm,his,hi,fun k t hk=>?_,h.bel.trans (ht.below h.bel.size fun k hk=>?_)⟩
 ·rcases Nat.lt_or_ge k w.heap.size with hl | hl
  ·rw [ht.old k hl] at hk;exact h.no k t hk
  ·exact Nat.le_trans h.bel.size hl
 ·cases e:own k with
  | none=>rfl
  | some t=>have:=h.no k t e;omega
def b3k (own:Own) (w w':World):Prop:=w.heap.size≤w'.heap.size∧∀k,k < w.heap.size→own k=none→w'.heap[k]?=w.heap[k]?
theorem HM.run {w0 w:World} {own:Own} {ma:Nat} {g:PgR} {R:McR} {s:McA} (h:HM w0 w own ma g R s) (hp:s7 g) (f:Nat) (hf:f≤10000) :
  Calls Tryz.prog 8 #[.pointer (some ⟨ma,0,none⟩),.int .i64 (f:Int)] w fun e w'=>e=.returned (.tuple #[.int .i64 (z6 g f s:Int),.int .i64 0])∧(∃own' R',HM w0 w' own' ma g R' (runA g f s))∧b3k own w w':=by
 refine (a5p hp h.inv h.is h.m f hf).mono ?_;rintro e w' ⟨own',R',rfl,hm,his,ht⟩;exact⟨rfl,⟨own',R',h.touched hm his (a4l hp f h.inv) ht⟩,ht.size,ht.block⟩
theorem HM.output {w0 w:World} {own:Own} {ma:Nat} {g:PgR} {R:McR} {s:McA} (h:HM w0 w own ma g R s) :
  Calls Tryz.prog 32 #[.pointer (some ⟨ma,0,none⟩)] w fun e w'=>(∃a c,e=.returned (.slice a s.out.length c)∧a4R w' a s.out)∧Below w.heap.size w w':=by
 obtain⟨rfl,hnil⟩:=h.is;have ho:=h.inv.out;have e:R.abs.out=R.out:=rfl;rw[e] at ho;exact (a6z h.m Q8 hnil).mono fun _ _ h=>b0j h
theorem a5B.later {w W:World} {a:Option Addr} {l:List Int} (h:a5B w a l) (hB:Below w.heap.size w W):a5B W a l:=fun h0=>by
 obtain⟨b,o,e,hb,hc⟩:=h h0;exact⟨b,o,e,Nat.lt_of_lt_of_le hb hB.size,fun i x hx=>(hB.cell (p:=⟨b,o+i,none⟩) hb).trans (hc i x hx)⟩
theorem b3k.cell {own:Own} {w w':World} (h:b3k own w w') {b i:Nat} {v:Value} (hb:b < w.heap.size) (ho:own b=none) (hc:w.cell? ⟨b,i,none⟩=some v):w'.cell? ⟨b,i,none⟩=some v:=by
 rw[World.cell?_of_block (w:=w) (a:=⟨b,i,none⟩) (h.2 b hb ho)];exact hc
end Go.Proofs.YtbkmgoffiigdbabGreatDoor
