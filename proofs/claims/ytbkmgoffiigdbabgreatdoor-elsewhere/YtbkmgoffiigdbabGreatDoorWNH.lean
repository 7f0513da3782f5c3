import Derived.Test.YtbkmgoffiigdbabGreatDoorWNG
import Derived.Deep.RegionLaw
namespace Go.Proofs.YtbkmgoffiigdbabGreatDoor
open Go.RowKit
set_option maxHeartbeats 4000000
set_option maxRecDepth 100000
theorem A3.setOut {w w':World} {own:Own} {mb:Nat} {g:PgR} {R:McR} {v:Value} {l:List Int} (h:A3 w own mb g R) (hsize:w.heap.size≤w'.heap.size)
  (hk:∀k,k < w.heap.size→k≠mb→own k≠some .out→w'.heap[k]?=w.heap[k]?)
  (hc:∀j,j≠2→w'.cell? ⟨mb,j,none⟩=w.cell? ⟨mb,j,none⟩) (hc2:w'.cell? ⟨mb,2,none⟩=some v) (hfz:∀j,w'.frozen? ⟨mb,j,none⟩=false)
  (hrow:w'.ownsRow 0 3 1 v l.length (l.map fun n=>.int .i64 n)) (hon:M2 w own v .out) :
  A3 w' (own.upd v.ownBlock .out) mb g { R with ov:=v,out:=l }:=by
 have hlt:=h.lt;have keep:∀t,t≠.mach→t≠.out→∀k,own k=some t→w'.heap[k]?=w.heap[k]?:=fun t h1 h2 k hk' =>
  hk k (hlt k t hk') (fun e=>by rw [e,h.me] at hk';exact h1 (Option.some.inj hk').symm) (by rw [hk'];exact fun e=>h2 (Option.some.inj e))
 have hro:∀k,k < w.heap.size→own k=none→w'.heap[k]?=w.heap[k]?:=fun k hk1 hk2=>hk k hk1 (fun e=>by rw [e,h.me] at hk2;cases hk2) (by rw [hk2];simp)
 refine⟨Own.upd_lt hlt hsize hrow,?_,?_,?_,hc2,?_,?_,hfz,⟨hrow,fun b hb=>by simp [Own.upd,hb]⟩,h.called.upd hlt hon (keep _ Q9 Q9),h.slots.upd hlt hon (keep _ Q9 Q9),
  fun i x hx=>(h.loc i x hx).upd hlt hon (keep _ Q9 Q9),fun i x hx=>(h.stk i x hx).upd hlt hon (keep _ Q9 Q9),fun j o ho=>(h.fld j o ho).upd hlt hon (keep _ Q9 Q9),?_,?_,?_,?_,?_,h.draws.upd hlt hon (keep _ Q9 Q9)⟩
 ·rw [Own.upd_old hon (hlt mb _ h.me)];exact h.me
 ·rw [hc 0 Q8];exact h.c0
 ·rw [hc 1 Q8];exact h.c1
 ·rw [hc 3 Q8];exact h.c3
 ·rw [hc 4 Q8];exact h.c4
 ·exact h.pg.held hsize fun k hb=>hro k (h.pg.blk_lt hb) (h.ro k hb)
 ·intro k hb;rw [Own.upd_old hon (h.pg.blk_lt hb)];exact h.ro k hb
 ·exact h.tab.held hsize (hro 0 h.tab.1 h.ro0)
 ·rw [Own.upd_old hon h.tab.1];exact h.ro0
 ·rw [hc 5 Q8];exact h.c5
theorem lK:(Tryz.prog.info? 3).map (fun i=>(i.zero,i.size,i.bytes))=some (some (.int .i64 0),1,8):=by kernel_rfl
def aP (own:Own) (mb:Nat) (g:PgR) (P:McR→Prop) (st:Int) (w:World) (e:Ending) (w':World):Prop :=
 ∃own' R',e=.returned (.int .i64 st)∧A3 w' own' mb g R'∧P R'∧A8 own w own' w'
def a2W (R:McR) (fs:List FrR) (f:FrR) (rest:List Val) (n:Int) (R':McR):Prop:=∃ov' sv',R'={ R with ov:=ov',out:=R.out++[n],frs:=fs++[{ f with pc:=f.pc+1,sv:=sv',stk:=rest }] }
theorem a4R {own:Own} {mb:Nat} {g:PgR} {R:McR} {fs:List FrR} {f:FrR} {rest:List Val} {va:Option Addr} {sb:Nat} {w W w5:World} {n:Int} {gb cap:Nat} (h:C9 w own mb g R fs f rest [(1,n)] va sb) (hB:Below w.heap.size w W) (hgrow:W.grownBy w5 R.ov.ownBlock)
  (hown:w5.ownsRow 0 3 1 (.slice (some ⟨gb,0,none⟩) (R.out.length+1) cap) (R.out.length+1) ((R.out.map fun n=>.int .i64 n)++[.int .i64 n])) (hat:R.ov.ownBlock=some gb∨gb=W.heap.size) :
  w5.frozen? ⟨mb,2,none⟩=false∧w5.cell? ⟨mb,2,none⟩=some R.ov∧mb < w5.heap.size ∧
   C9 (w5.setCell ⟨mb,2,none⟩ (.slice (some ⟨gb,0,none⟩) (R.out.length+1) cap)) (own.upd (some gb) .out) mb g { R with ov:=.slice (some ⟨gb,0,none⟩) (R.out.length+1) cap,out:=R.out++[n] } fs f rest [(1,n)] va sb ∧
   A8 own w (own.upd (some gb) .out) (w5.setCell ⟨mb,2,none⟩ (.slice (some ⟨gb,0,none⟩) (R.out.length+1) cap)):=by
 have hm:=h.m;have hmb:mb < w.heap.size:=hm.lt mb _ hm.me;have hob:∀b,R.ov.ownBlock=some b→own b=some .out:=hm.out.2
 have hnm:R.ov.ownBlock≠some mb:=fun e=>by have:=hob mb e;rw [hm.me] at this;cases this
 have hgm:gb≠mb:=fun e=>by
  rcases hat with h1 | h1
  ·exact hnm (e▸h1)
  ·have:=hB.size;omega
 have hsz:w.heap.size≤w5.heap.size:=Nat.le_trans hB.size hgrow.size;have hon:M2 w own (.slice (some ⟨gb,0,none⟩) (R.out.length+1) cap) .out:=fun b hb=>by
  obtain rfl:gb=b:=by simpa [Value.ownBlock] using hb
  rcases hat with h1 | h1
  ·exact Or.inl (hob gb h1)
  ·exact Or.inr (by have:=hB.size;omega)
 have hblk:∀k,k < w.heap.size→own k≠some .out→w5.heap[k]?=w.heap[k]?:=fun k hk ho=>by
  rw[hgrow.block k (Nat.lt_of_lt_of_le hk hB.size) (fun e=>ho (hob k e.symm)),hB.block k hk]
 have hmblk:=hblk mb hmb (by rw [hm.me];simp);have hfz:∀j,w5.frozen? ⟨mb,j,none⟩=false:=fun j=>by rw [World.frozen?_of_block (w:=w) (a:=⟨mb,j,none⟩) hmblk];exact hm.fz j
 have hc2:w5.cell? ⟨mb,2,none⟩=some R.ov:=by rw [World.cell?_of_block (w:=w) (a:=⟨mb,2,none⟩) hmblk];exact hm.c2
 have hmb5:mb < w5.heap.size:=by omega
 have hM:A3 (w5.setCell ⟨mb,2,none⟩ (.slice (some ⟨gb,0,none⟩) (R.out.length+1) cap)) (own.upd (some gb) .out) mb g { R with ov:=.slice (some ⟨gb,0,none⟩) (R.out.length+1) cap,out:=R.out++[n] }:=by
  refine A3.setOut (v:=.slice (some ⟨gb,0,none⟩) (R.out.length+1) cap) (l:=R.out++[n]) hm (by simpa using hsz) (fun k hk h1 h2=>?_) (fun j hj=>?_) ?_ (fun j=>?_) ?_ hon
  ·rw [heap_setCell_other _ _ _ _ h1];exact hblk k hk h2
  ·rw [← World.cell?_of_block (w:=w) (w':=w5) (a:=⟨mb,j,none⟩) hmblk]
   go_simp
  ·go_simp
  ·have:=hfz j
   go_simp
  ·have:=ownsRow_setCell_other hown (a:=⟨mb,2,none⟩) (by simpa [Value.ownBlock] using hgm) (.slice (some ⟨gb,0,none⟩) (R.out.length+1) cap)
   simpa using this
 refine⟨hfz 2,hc2,hmb5,⟨hM,h.hf,h.hst,fun h0=>?_,h.hn,h.hs,h.hpc⟩,⟨?_,?_,?_,by simpa using hsz,fun k hk hno=>?_,fun k hk=>Own.upd_old hon hk⟩⟩
 ·obtain ⟨q1,q2,q3⟩:=h.hva h0
  have hsb:sb < w.heap.size:=hm.lt sb _ q2;have hsm:sb≠mb:=fun e=>by rw [e,hm.me] at q2;cases q2
  refine⟨q1,(Own.upd_old hon hsb).trans q2,fun j x hx=>?_⟩;have e:(w5.setCell ⟨mb,2,none⟩ (.slice (some ⟨gb,0,none⟩) (R.out.length+1) cap)).heap[sb]?=w.heap[sb]?:=by
   rw[heap_setCell_other _ _ _ _ hsm];exact hblk sb hsb (by rw [q2];simp)
  rw[World.cell?_of_block (w:=w) (a:=⟨sb,rest.length*2+j*2,none⟩) e,World.cell?_of_block (w:=w) (a:=⟨sb,rest.length*2+j*2+1,none⟩) e];exact q3 j x hx
 ·exact hgrow.os.trans hB.os
 ·exact hgrow.tape.trans hB.tape
 ·exact hgrow.output.trans hB.output
 ·rw [heap_setCell_other _ _ _ _ (fun e=>by rw [e,hm.me] at hno;cases hno)]
  exact hblk k hk (by rw [hno];simp)
theorem nX {own:Own} {mb:Nat} {g:PgR} {R:McR} {fs:List FrR} {f:FrR} {rest:List Val} {va:Option Addr} {sb:Nat} {w:World} {n:Int} (h:C9 w own mb g R fs f rest [(1,n)] va sb) (hl:R.out.length < 40) (a:Int) (vc:Nat) :
  Calls Tryz.prog 203 #[.pointer (some ⟨mb,0,none⟩),.int .i64 a,.slice va 1 vc] w fun e w'=>aP own mb g (a2W R fs f rest n) 0 w e w':=by
 obtain⟨o,rfl,hsb,c0,c1⟩:=h.one;simp only at c0 c1;have d2:=h.m.c2;have hmb:mb < w.heap.size:=h.m.lt mb _ h.m.me;have hlen:∃va' cc,R.ov=.slice va' R.out.length cc:=by
  rcases h.m.out.1.2 with ⟨e,e0⟩ | ⟨gb,cap,_,e,_⟩
  ·exact ⟨none,0,by rw [e,e0]⟩
  ·exact ⟨_,_,e⟩
 obtain⟨va',cc,hov⟩:=hlen;have HO:=hid h.m.out.1;rw[hov] at d2;have HOV:=hid hov;have HH:=hid h;clear h hov;go_enter Tryz.func203,Tryz.ntmps203;go_wp2_with (go_at_call 140;refine (D4 _ _ _).mono ?_;rintro e w' ⟨rfl,o4,rfl⟩)
 obtain⟨i3,hi,hz,hsz,hby⟩:=info_parts lK;have HI:=hid hi;have HZ:=hid hz;have HSZ:=hid hsz;have HBY:=hid hby;clear hi hz hsz hby;go_region_law ((first | (refine step_append_lies _ rfl (.tmp 22) (.tmp 27) 22 rfl 0 3 i3 _ 1 8 Tryz.underlying22 HI.out HZ.out HSZ.out HBY.out rfl Q7 R.ov R.out.length (R.out.map fun n=>.int .i64 n) (by rw [HOV.out];first | rfl | simp [Act.eval]) (by repeat (first | exact HO.out | exact HO.out.drew | refine World.ownsRow.alloc ?_ _ | refine World.ownsRow.drew ?_)) _ 1 1 [.int .i64 n] P8 rfl (World.news_of_block (cs:=#[.int .i64 n]) (t:=3) (fr:=(0,0)) (by first | exact D8 Q9 | exact O5 Q9)) (by simp [Value.oneCell']) Q8 Q0 Q8 (Nat.zero_le _) _ rfl ?_;intro gq capq w5 hown5 hgrow5 hat5 hlt5;obtain ⟨y0,y1,y2,hM,hT⟩:=a4R HH.out P1 hgrow5 hown5 hat5;clear hown5 hgrow5 hat5 hlt5)))
 all_goals
  have HM:=hid hM;have HT:=hid hT;clear hM hT y0 y1 y2;go_wp2_with (go_at_call 205;refine (HM.out.answer (Below.refl _ _) vc _ [] (aE _ _) Q9 1 rfl).mono ?_;rintro e w' ⟨own',sv',rfl,hm,ht⟩)
  go_ret;exact⟨own',_,rfl,hm,⟨_,sv',by rw [List.append_nil]⟩,HT.out.trans ht⟩
theorem zB {own:Own} {mb:Nat} {g:PgR} {R:McR} {fs:List FrR} {f:FrR} {rest:List Val} {va:Option Addr} {sb:Nat} {w:World} {x:Val} (h:C9 w own mb g R fs f rest [x] va sb) (hk:x.1≠1) (a:Int) (vc:Nat) :
  Calls Tryz.prog 203 #[.pointer (some ⟨mb,0,none⟩),.int .i64 a,.slice va 1 vc] w fun e w'=>G7 2 w e w':=by
 obtain⟨o,rfl,hsb,c0,c1⟩:=h.one;have h1:(x.1 == 1)=false:=beq_eq_false_iff_ne.2 hk;clear h hk;go_enter Tryz.func203,Tryz.ntmps203;go_wp2_with (go_at_call 140;refine (D4 _ _ _).mono ?_;rintro e w' ⟨rfl,o4,rfl⟩)
 go_ret;exact⟨rfl,P0⟩
theorem vY {own:Own} {mb:Nat} {g:PgR} {R:McR} {fs:List FrR} {f:FrR} {rest:List Val} {va:Option Addr} {sb:Nat} {w:World} {n:Int} (h:C9 w own mb g R fs f rest [(1,n)] va sb) (hl:40≤R.out.length) (a:Int) (vc:Nat) :
  Calls Tryz.prog 203 #[.pointer (some ⟨mb,0,none⟩),.int .i64 a,.slice va 1 vc] w fun e w'=>G7 7 w e w':=by
 obtain⟨o,rfl,hsb,c0,c1⟩:=h.one;simp only at c0 c1;have d2:=h.m.c2;have hmb:mb < w.heap.size:=h.m.lt mb _ h.m.me;have hlen:∃va' cc,R.ov=.slice va' R.out.length cc:=by
  rcases h.m.out.1.2 with ⟨e,e0⟩ | ⟨gb,cap,_,e,_⟩
  ·exact ⟨none,0,by rw [e,e0]⟩
  ·exact ⟨_,_,e⟩
 obtain⟨va',cc,hov⟩:=hlen;rw[hov] at d2;clear h hov;go_enter Tryz.func203,Tryz.ntmps203;go_wp2_with (go_at_call 140;refine (D4 _ _ _).mono ?_;rintro e w' ⟨rfl,o4,rfl⟩)
 go_ret;exact⟨rfl,P0⟩
end Go.Proofs.YtbkmgoffiigdbabGreatDoor
