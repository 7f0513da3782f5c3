import Derived.Test.YtbkmgoffiigdbabGreatDoorWS
import Derived.Deep.RegionLaw
import Derived.Deep.Heap
import Derived.Deep.DeepMust
namespace Go.Proofs.YtbkmgoffiigdbabGreatDoor
open Go.RowKit
set_option maxHeartbeats 1000000
set_option maxRecDepth 100000
theorem O2 (op x:Int) (w:World) :
  Calls Tryz.prog 27 #[.int .i64 op,.int .i64 x] w fun e w'=>e=.returned (.agg #[.int .i64 op,.int .i64 x])∧w'=w.alloc (.cells #[.int .i64 op,.int .i64 x] 62):=by
 go_enter Tryz.func27,Tryz.ntmps27;go_wp2
 exact bodyPost_ret (v:=.agg #[.int .i64 op,.int .i64 x]) (by simp [results,Tryz.results27,go_sem]) rfl ⟨rfl,rfl⟩
def C7 (l:List (Int × Int)):List Value:=l.flatMap fun x=>[.int .i64 x.1,.int .i64 x.2]
theorem eH (l m:List (Int × Int)):C7 (l++m)=C7 l++C7 m:=by simp [C7]
theorem sZ (l:List (Int × Int)):(C7 l).length=l.length*2:=by
 induction l with
 | nil=>rfl
 | cons a r ih=>rw [show a::r=[a]++r from rfl,eH,List.length_append,ih];simp [C7];omega
theorem J2 (l:List (Int × Int)):∀u∈C7 l,u.oneCell'=true:=by
 intro u hu;simp only[C7,List.mem_flatMap,List.mem_cons,List.not_mem_nil,or_false] at hu;obtain⟨x,_,rfl | rfl⟩:=hu <;> rfl
def R8 (w:World) (mb:Nat) (l:List (Int × Int)) (cv:Value):Prop :=
 w.cell? ⟨mb,0,none⟩=some cv∧w.frozen? ⟨mb,0,none⟩=false∧w.ownsRow (mb+1) 62 2 cv l.length (C7 l)∧mb < w.heap.size
def G6 (w:World) (mb:Nat) (l:List (Int × Int)):Prop:=∃cv,R8 w mb l cv
theorem L3 {w W w5:World} {mb:Nat} {l new:List (Int × Int)} {cv:Value} {g cap n:Nat} (hm:R8 w mb l cv) (hB:Below w.heap.size w W) (hgrow:W.grownBy w5 cv.ownBlock)
  (hn:n=l.length+new.length) (hown5:w5.ownsRow (mb+1) 62 2 (.slice (some ⟨g,0,none⟩) n cap) n (C7 l++C7 new)) :
  w5.cell? ⟨mb,0,none⟩=some cv∧w5.frozen? ⟨mb,0,none⟩=false∧mb < w5.heap.size∧G6 (w5.setCell ⟨mb,0,none⟩ (.slice (some ⟨g,0,none⟩) n cap)) mb (l++new)∧Below mb w (w5.setCell ⟨mb,0,none⟩ (.slice (some ⟨g,0,none⟩) n cap)):=by
 obtain⟨h1,h2,h3,h4⟩:=hm;have hs:=hB.size;have hs5:=hgrow.size;have hne:some mb≠cv.ownBlock:=fun e=>by have:=(h3.lt mb e.symm).1;omega
 have y0:w5.cell? ⟨mb,0,none⟩=some cv:=by
  rw[hgrow.cell_far ⟨mb,0,none⟩ (by show mb < _;omega) hne,hB.cell (p:=⟨mb,0,none⟩) h4];exact h1
 have y1:w5.frozen? ⟨mb,0,none⟩=false:=by
  rw[hgrow.frozen_far ⟨mb,0,none⟩ (by show mb < _;omega) hne,hB.frozen (p:=⟨mb,0,none⟩) h4];exact h2
 have hz:mb < w5.heap.size:=by omega
 refine⟨y0,y1,hz,⟨.slice (some ⟨g,0,none⟩) n cap,by go_simp,by go_simp,?_,by simpa using hz⟩,?_⟩
 ·subst hn
  rw[List.length_append,eH];exact ownsRow_setCell_below hown5 (a:=⟨mb,0,none⟩) (by show mb < mb+1;omega) _
 ·have hb0:Below mb w w5:=(hB.mono Q8).grown hgrow Q8 (fun k hk=>by have:=(h3.lt k hk).1;omega)
  exact Below.setCell (p:=⟨mb,0,none⟩) hb0 (Nat.le_refl _) _
theorem G9 {w:World} {o:Obj} {n:Nat} (h:w.heap.size=n):(w.alloc o).heap[n]?=some o:=by subst h;exact Go.Deep.blk_alloc_new w o
def I9 (mb:Nat) (l:List (Int × Int)) (w:World) (e:Ending) (w':World):Prop:=e=.returned (.tuple #[])∧G6 w' mb l∧Below mb w w'
theorem J8 {mb:Nat} {l:List (Int × Int)} {w:World} {e:Ending} {w':World} (he:e=.returned (.tuple #[])) (hm:G6 w' mb l) (hb:Below mb w w'):I9 mb l w e w':=⟨he,hm,hb⟩
theorem O7:(Tryz.prog.info? 62).map (fun i=>(i.zero,i.size,i.bytes))=some (some (.agg #[.int .i64 0,.int .i64 0]),2,16):=by kernel_rfl
theorem eJ (mb:Nat) (l:List (Int × Int)) (op x:Int) (w:World) (hm:G6 w mb l) (hl:l.length≤1000) :
  Calls Tryz.prog 26 #[.pointer (some ⟨mb,0,none⟩),.int .i64 op,.int .i64 x] w fun e w'=>I9 mb (l++[(op,x)]) w e w':=by
 obtain⟨cv,hcv⟩:=hm;obtain⟨h1,h2,h3,h4⟩:=id hcv;obtain⟨i37,hi37,hz37,hs37,hb37⟩:=info_parts O7;go_enter Tryz.func26,Tryz.ntmps26;go_wp2_with (at_builtin;go_must (refine wpList_append_lies _ rfl (.tmp 10) (.tmp 14) 64 rfl (mb+1) 62 i37 _ 2 16 Tryz.underlying64 hi37 hz37 hs37 hb37 rfl Q7 cv l.length (C7 l) rfl (h3.alloc _) ⟨w.heap.size,0,none⟩ 1 1 (C7 [(op,x)]) rfl rfl (World.news_of_block (cs:=#[.int .i64 op,.int .i64 x]) (t:=62) (fr:=(0,0)) (G9 rfl)) (J2 _) Q8 Q0 Q8 Q5 (w.heap.size+1) Q9 ?_))
 intro g cap w5 hown5 hgrow5 hat5 hlt5;obtain⟨y0,y1,y2,hM,hBl⟩:=L3 hcv ((Below.refl _ _).alloc (Nat.le_refl _) _) hgrow5 rfl hown5;clear hown5 hgrow5 hat5 hlt5;go_wp2_with fail;go_end0
 exact J8 rfl hM hBl
end Go.Proofs.YtbkmgoffiigdbabGreatDoor
