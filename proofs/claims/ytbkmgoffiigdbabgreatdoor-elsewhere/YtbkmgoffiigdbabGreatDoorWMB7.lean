import Derived.Test.YtbkmgoffiigdbabGreatDoorWMA
namespace Go.Proofs.YtbkmgoffiigdbabGreatDoor
open Go.RowKit
set_option maxHeartbeats 4000000
set_option maxRecDepth 100000
theorem a7y (mb:Nat) (l:List (Int × Int)) (n:Int) (w:World) (hm:G6 w mb l) (hl:l.length≤1000) (hl0:0 < l.length) (y:Int) (hy:IntKind.i64.wrap ((l.length:Int)+6)=y) :
  Calls Tryz.prog 39 #[.pointer (some ⟨mb,0,none⟩),.int .i64 7,.int .i64 n] w fun e w'=>I9 mb (l++[(2,0),(0,n),(10,0),(13,y),(16,1),(3,1)]) w e w':=by
 obtain⟨cv,hcv⟩:=hm;obtain⟨g0,cap0,hcvq,_,_⟩:=hcv.2.2.1.form hl0;subst hcvq;obtain⟨h1,h2,h3,h4⟩:=id hcv;obtain⟨i37,hi37,hz37,hs37,hb37⟩:=info_parts O7;have h4a:mb < w.heap.size+1:=by omega
 have h4b:mb < w.heap.size+1+1:=by omega
 have h4c:mb < w.heap.size+1+1+1:=by omega
 have h4d:mb < w.heap.size+1+1+1+1:=by omega
 have h4e:mb < w.heap.size+1+1+1+1+1:=by omega
 have h4f:mb < w.heap.size+1+1+1+1+1+1:=by omega
 have h4g:mb < w.heap.size+1+1+1+1+1+1+1:=by omega
 go_enter Tryz.func39,Tryz.ntmps39;go_wp2_with fail;go_region_law ((first | (go_simp;go_at_call 27;refine (O2 _ _ _).mono ?_;rintro e w' ⟨rfl,rfl⟩) | (refine step_append_lies _ rfl (.tmp 11) (.tmp 25) 64 rfl (mb+1) 62 i37 _ 2 16 Tryz.underlying64 hi37 hz37 hs37 hb37 rfl Q7 (.slice (some ⟨g0,0,none⟩) l.length cap0) l.length (C7 l) (by (try (simp only [Act.put,List.setIfInBounds_toArray,List.set_cons_zero,List.set_cons_succ]));rfl) (by repeat (first | exact h3 | exact h3.drew | refine World.ownsRow.alloc ?_ _ | refine World.ownsRow.drew ?_)) _ 6 6 (C7 [(2,0),(0,n),(10,0),(13,y),(16,1),(3,1)]) (by (try (simp only [Act.put,List.setIfInBounds_toArray,List.set_cons_zero,List.set_cons_succ]));rfl) rfl (World.news_of_block (cs:=#[.int .i64 2,.int .i64 (0),.int .i64 0,.int .i64 (n),.int .i64 10,.int .i64 (0),.int .i64 13,.int .i64 (y),.int .i64 16,.int .i64 (1),.int .i64 3,.int .i64 (1)]) (t:=62) (fr:=(0,0)) (by first | exact G9 Q9 | (exact G9 rfl))) (J2 _) Q8 Q0 Q8 P6 _ rfl ?_;intro gq capq w5 hown5 hgrow5 hat5 hlt5;obtain ⟨y0,y1,y2,hM,hBl⟩:=L3 (new:=[(2,0),(0,n),(10,0),(13,y),(16,1),(3,1)]) hcv P1 hgrow5 rfl hown5;clear hown5 hgrow5 hat5 hlt5)))
 all_goals
  go_wp2_with fail;go_end0
  exact J8 rfl hM hBl
end Go.Proofs.YtbkmgoffiigdbabGreatDoor
