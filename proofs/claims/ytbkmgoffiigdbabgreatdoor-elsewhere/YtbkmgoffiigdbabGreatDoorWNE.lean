import Derived.Test.YtbkmgoffiigdbabGreatDoorWND
namespace Go.Proofs.YtbkmgoffiigdbabGreatDoor
open Go.RowKit
set_option maxHeartbeats 1000000
structure C9 (w:World) (own:Own) (mb:Nat) (g:PgR) (R:McR) (fs:List FrR) (f:FrR) (rest args:List Val) (va:Option Addr) (sb:Nat):Prop where
 m:A3 w own mb g R
 hf:R.frs=fs++[f]
 hst:f.stk=rest++args
 hva:0 < args.length→va=some ⟨sb,rest.length*2,none⟩∧own sb=some (.stk fs.length)∧∀j x,args[j]?=some x→w.cell? ⟨sb,rest.length*2+j*2,none⟩=some (.int .u8 x.1)∧w.cell? ⟨sb,rest.length*2+j*2+1,none⟩=some (.int .i64 x.2)
 hn:fs.length≤1000
 hs:f.stk.length≤1000
 hpc:f.pc≤1000
theorem A3.same {w w':World} {own:Own} {mb:Nat} {g:PgR} {R:McR} (h:A3 w own mb g R) (hs:w.heap.size≤w'.heap.size) (hb:∀k,k < w.heap.size→w'.heap[k]?=w.heap[k]?):A3 w' own mb g R:=by
 have hmb:=hb mb (h.lt mb _ h.me);have keep:∀t k,own k=some t→w'.heap[k]?=w.heap[k]?∧own k=some t:=fun t k hk=>⟨hb k (h.lt k t hk),hk⟩
 refine⟨fun k t hk=>Nat.lt_of_lt_of_le (h.lt k t hk) hs,h.me,?_,?_,?_,?_,?_,?_,h.out.kept (keep _),h.called.kept (keep _),h.slots.kept (keep _),fun i f hf=>(h.loc i f hf).kept (keep _),fun i f hf=>(h.stk i f hf).kept (keep _),
  fun j o ho=>(h.fld j o ho).kept (keep _),h.pg.held hs fun k hk=>hb k (h.pg.blk_lt hk),h.ro,h.tab.held hs (hb 0 h.tab.1),h.ro0,?_,h.draws.kept (keep _)⟩
 ·rw [World.cell?_of_block (w:=w) (a:=⟨mb,0,none⟩) hmb];exact h.c0
 ·rw [World.cell?_of_block (w:=w) (a:=⟨mb,1,none⟩) hmb];exact h.c1
 ·rw [World.cell?_of_block (w:=w) (a:=⟨mb,2,none⟩) hmb];exact h.c2
 ·rw [World.cell?_of_block (w:=w) (a:=⟨mb,3,none⟩) hmb];exact h.c3
 ·rw [World.cell?_of_block (w:=w) (a:=⟨mb,4,none⟩) hmb];exact h.c4
 ·intro j;rw [World.frozen?_of_block (w:=w) (a:=⟨mb,j,none⟩) hmb];exact h.fz j
 ·rw [World.cell?_of_block (w:=w) (a:=⟨mb,5,none⟩) hmb];exact h.c5
theorem A3.new {w:World} {own:Own} {mb:Nat} {g:PgR} {R:McR} (h:A3 w own mb g R) {k:Nat} (hk:w.heap.size≤k):own k=none:=by
 cases e:own k with
 | none=>rfl
 | some t=>have:=h.lt k t e;omega
theorem A8.of_below {own:Own} {w W:World} (h:Below w.heap.size w W):A8 own w own W:=⟨h.os,h.tape,h.output,h.size,fun k hk _=>h.block k hk,fun _ _=>rfl⟩
theorem C9.answer {w W:World} {own:Own} {mb:Nat} {g:PgR} {R:McR} {fs:List FrR} {f:FrR} {rest args:List Val} {va:Option Addr} {sb:Nat} (h:C9 w own mb g R fs f rest args va sb) (hB:Below w.heap.size w W) (vc:Nat) (pv:Value) (ps:List Val) (hp:gR W own pv ps) (hpl:ps.length≤100) (k:Nat) (hk:args.length=k) :
  Calls Tryz.prog 205 #[.pointer (some ⟨mb,0,none⟩),.slice va k vc,pv] W fun e w'=>D0 own mb g R fs f (f.pc+1) (rest++ps) (.int .i64 0) w e w':=by
 subst hk;have hm:=h.m.same hB.size fun k hk=>hB.block k hk
 have hl:args.length≤f.stk.length:=by rw [h.hst];simp
 refine (a0Z hm h.hf va args.length vc hl pv ps hp h.hn h.hs hpl h.hpc).mono ?_;rintro e w' ⟨own',sv',rfl,hm',ht⟩;have he:f.stk.take (f.stk.length - args.length)=rest:=by rw [h.hst];simp
 rw[he] at hm';exact⟨own',sv',rfl,hm',(A8.of_below hB).trans ht⟩
theorem D8 {w:World} {o:Obj} {n:Nat} (h:w.heap.size=n):(w.alloc o).heap[n]?=some o:=by subst h;exact Go.Deep.blk_alloc_new w o
theorem O5 {w:World} {o:Obj} {n:Nat} (h:w.heap.size=n):(w.alloc o).drew.heap[n]?=some o:=D8 h
theorem T2 {w:World} {o:Obj} {n q:Nat} (h:w.heap.size=n):((w.alloc o).drewN q).heap[n]?=some o:=D8 h
theorem Below.drewQ {B:Nat} {w w':World} (h:Below B w w') (q:Nat):Below B w (w'.drewN q):=⟨h.os,h.tape,h.output,h.size,h.block⟩
theorem aE (W:World) (own:Own):gR W own (.slice none 0 0) []:=Or.inl ⟨rfl,rfl⟩
theorem J6 {w W:World} {own:Own} {mb:Nat} {g:PgR} {R:McR} (h:A3 w own mb g R) {pb:Nat} {a b:Int} {c:Nat} (hp:w.heap.size≤pb) (hW:W.heap[pb]?=some (.cells #[.int .u8 a,.int .i64 b] 73)):gR W own (.slice (some ⟨pb,0,none⟩) 1 c) [(a,b)]:=by
 refine Or.inr ⟨by simp,pb,c,rfl,h.new hp,(Array.getElem?_eq_some_iff.1 hW).1,fun j u hj=>?_⟩;have:=World.news_of_block hW j u;rw[X1] at this;exact this (by simpa [A5,N0] using hj)
theorem sB {w W:World} {own:Own} {mb:Nat} {g:PgR} {R:McR} (h:A3 w own mb g R) {pb:Nat} {a b a' b':Int} {c:Nat} (hp:w.heap.size≤pb) (hW:W.heap[pb]?=some (.cells #[.int .u8 a,.int .i64 b,.int .u8 a',.int .i64 b'] 73)):gR W own (.slice (some ⟨pb,0,none⟩) 2 c) [(a,b),(a',b')]:=by
 refine Or.inr ⟨by simp,pb,c,rfl,h.new hp,(Array.getElem?_eq_some_iff.1 hW).1,fun j u hj=>?_⟩;have:=World.news_of_block hW j u;rw[X1] at this;exact this (by simpa [A5,N0] using hj)
theorem C9.one {w:World} {own:Own} {mb:Nat} {g:PgR} {R:McR} {fs:List FrR} {f:FrR} {rest:List Val} {x:Val} {va:Option Addr} {sb:Nat} (h:C9 w own mb g R fs f rest [x] va sb) :
  ∃o,va=some ⟨sb,o,none⟩∧sb < w.heap.size∧w.cell? ⟨sb,o,none⟩=some (.int .u8 x.1)∧w.cell? ⟨sb,o+1,none⟩=some (.int .i64 x.2):=by
 obtain⟨h1,h2,h3⟩:=h.hva Q9;obtain⟨h4,h5⟩:=h3 0 x rfl;exact⟨_,h1,h.m.lt sb _ h2,by simpa using h4,by simpa using h5⟩
theorem C9.two {w:World} {own:Own} {mb:Nat} {g:PgR} {R:McR} {fs:List FrR} {f:FrR} {rest:List Val} {x y:Val} {va:Option Addr} {sb:Nat} (h:C9 w own mb g R fs f rest [x,y] va sb) :
  ∃o,va=some ⟨sb,o,none⟩∧sb < w.heap.size∧w.cell? ⟨sb,o,none⟩=some (.int .u8 x.1)∧w.cell? ⟨sb,o+1,none⟩=some (.int .i64 x.2)∧w.cell? ⟨sb,o+2,none⟩=some (.int .u8 y.1)∧w.cell? ⟨sb,o+3,none⟩=some (.int .i64 y.2):=by
 obtain⟨h1,h2,h3⟩:=h.hva Q9;obtain⟨h4,h5⟩:=h3 0 x rfl;obtain⟨h6,h7⟩:=h3 1 y rfl;exact⟨_,h1,h.m.lt sb _ h2,by simpa using h4,by simpa using h5,by simpa using h6,by simpa using h7⟩
theorem uF {own:Own} {mb:Nat} {g:PgR} {R:McR} {fs:List FrR} {f:FrR} {rest:List Val} {va:Option Addr} {sb:Nat} {w:World} (h:C9 w own mb g R fs f rest [] va sb) (a:Int) (vc:Nat) :
  Calls Tryz.prog 171 #[.pointer (some ⟨mb,0,none⟩),.int .i64 a,.slice va 0 vc] w fun e w'=>D0 own mb g R fs f (f.pc+1) (rest++[(1,a)]) (.int .i64 0) w e w':=by
 have HH:=hid h;clear h;go_enter Tryz.func171,Tryz.ntmps171;go_wp2_with (go_at_call 152;refine (N4 _ _).mono ?_;rintro e w' ⟨rfl,o,rfl⟩)
 refine (HH.out.answer P2 vc _ [(1,a)] (J6 HH.out.m Q8 (D8 Q9)) Q9 0 rfl).mono ?_;rintro e w' ⟨own',sv',rfl,hm,ht⟩;go_wp2_with fail;go_ret;exact⟨own',sv',rfl,hm,ht⟩
end Go.Proofs.YtbkmgoffiigdbabGreatDoor
