import Derived.Test.YtbkmgoffiigdbabGreatDoorWMA
namespace Go.Proofs.YtbkmgoffiigdbabGreatDoor
open Go.RowKit
set_option maxHeartbeats 4000000
set_option maxRecDepth 100000
def a5E (mb:Nat) (l:List (Int × Int)) (cv:Value) (w:World) (e:Ending) (w':World):Prop :=
 e=.returned (.tuple #[])∧∃cv',R8 w' mb l cv'∧But (fun k=>k=mb∨cv.ownBlock=some k) w w'∧(∀k,cv'.ownBlock=some k→cv.ownBlock=some k∨w.heap.size≤k)
theorem a9i {mb:Nat} {l:List (Int × Int)} {cv:Value} {w:World} {e:Ending} {w':World} (he:e=.returned (.tuple #[])) (cv':Value) (hm:R8 w' mb l cv') (hb:But (fun k=>k=mb∨cv.ownBlock=some k) w w') (ho:∀k,cv'.ownBlock=some k→cv.ownBlock=some k∨w.heap.size≤k):a5E mb l cv w e w':=⟨he,cv',hm,hb,ho⟩
theorem a6K (mb:Nat) (l:List (Int × Int)) (op x:Int) (cv:Value) (w:World) (hcv:R8 w mb l cv) (hl:l.length≤1000) :
  Calls Tryz.prog 26 #[.pointer (some ⟨mb,0,none⟩),.int .i64 op,.int .i64 x] w fun e w'=>a5E mb (l++[(op,x)]) cv w e w':=by
 obtain⟨h1,h2,h3,h4⟩:=id hcv;obtain⟨i37,hi37,hz37,hs37,hb37⟩:=info_parts O7;go_enter Tryz.func26,Tryz.ntmps26;go_wp2_with (at_builtin;go_must (refine wpList_append_lies _ rfl (.tmp 10) (.tmp 14) 64 rfl (mb+1) 62 i37 _ 2 16 Tryz.underlying64 hi37 hz37 hs37 hb37 rfl Q7 cv l.length (C7 l) rfl (h3.alloc _) ⟨w.heap.size,0,none⟩ 1 1 (C7 [(op,x)]) rfl rfl (World.news_of_block (cs:=#[.int .i64 op,.int .i64 x]) (t:=62) (fr:=(0,0)) (G9 rfl)) (J2 _) Q8 Q0 Q8 Q5 (w.heap.size+1) Q9 ?_))
 intro g cap w5 hown5 hgrow5 hat5 hlt5;have hsz5:w.heap.size+1≤w5.heap.size:=by have:=hgrow5.size;simpa using this
 have hne:some mb≠cv.ownBlock:=fun e=>by have:=(h3.lt mb e.symm).1;omega
 have y0:w5.cell? ⟨mb,0,none⟩=some cv:=by rw [hgrow5.cell_far ⟨mb,0,none⟩ Q5 hne];go_simp
 have y1:w5.frozen? ⟨mb,0,none⟩=false:=by rw [hgrow5.frozen_far ⟨mb,0,none⟩ Q5 hne];go_simp
 have y2:mb < w5.heap.size:=by omega
 have hM:R8 (w5.setCell ⟨mb,0,none⟩ (.slice (some ⟨g,0,none⟩) (l.length+1) cap)) mb (l++[(op,x)]) (.slice (some ⟨g,0,none⟩) (l.length+1) cap):=by
  refine⟨by go_light;go_simp,by go_light;go_simp,?_,by simpa using y2⟩;rw[List.length_append,eH];exact ownsRow_setCell_below hown5 (a:=⟨mb,0,none⟩) (by show mb < mb+1;omega) _
 have hBt:But (fun k=>k=mb∨cv.ownBlock=some k) w (w5.setCell ⟨mb,0,none⟩ (.slice (some ⟨g,0,none⟩) (l.length+1) cap)):=by
  refine But.setCell (p:=⟨mb,0,none⟩) ?_ (Or.inl (Or.inl rfl)) _;refine ((But.refl _ w).alloc (Obj.cells #[.int .i64 op,.int .i64 x] 62)).trans ⟨hgrow5.os,hgrow5.tape,hgrow5.output,hgrow5.size,fun k hk hs=>hgrow5.block k hk (fun e=>hs (Or.inr e.symm))⟩
 have hO:∀k,(Value.slice (some ⟨g,0,none⟩) (l.length+1) cap).ownBlock=some k→cv.ownBlock=some k∨w.heap.size≤k:=fun k hk=>by
  have:g=k:=by simpa [Value.ownBlock] using hk
  subst this;rcases hat5 with h | h
  ·exact Or.inl h
  ·exact Or.inr Q8
 have HO:=(show Hid _ from hO);clear hO;clear hown5 hgrow5 hat5 hlt5;go_wp2_with fail;go_end0
 exact a9i rfl _ hM hBt HO.out
def yM (w:World) (b:Nat) (new:List (Int × Int)):Prop:=b < w.heap.size∧∀j u,(C7 new)[j]?=some u→w.cell? ((⟨b,0,none⟩:Addr).add j)=some u
theorem aK (mb lb:Nat) (l new:List (Int × Int)) (x:Int) (cv:Value) (w:World) (hcv:R8 w mb l cv) (hnew0:0 < new.length) (hl:l.length+new.length≤900) (hrow:yM w lb new) (hlb:mb < lb) (hlc:∀k,cv.ownBlock=some k→k < lb) :
  Calls Tryz.prog 63 #[.pointer (some ⟨mb,0,none⟩),.int .i64 x,.slice (some ⟨lb,0,none⟩) new.length new.length] w fun e w'=>I9 mb (l++((2,x)::(25,0)::(13,((l.length+3+new.length:Nat):Int))::new)) w e w':=by
 have hBl:∀{w w':World} {cv:Value} {l:List (Int × Int)},R8 w mb l cv→But (fun k=>k=mb∨cv.ownBlock=some k) w w'→Below mb w w':=fun hc hb =>
  hb.below (Nat.le_of_lt hc.2.2.2) (fun k hk h=>by rcases h with h | h;omega;have:=(hc.2.2.1.lt k h).1;omega)
 go_enter Tryz.func63,Tryz.ntmps63;go_wp2_with fail;refine (a6K mb l 2 x cv w hcv Q8).mono ?_;rintro e w1 ⟨rfl,cv1,hc1,hb1,ho1⟩;have hB1:=hBl hcv hb1;have hr1:yM w1 lb new:=⟨Nat.lt_of_lt_of_le hrow.1 hb1.size,fun j u hu=>by
  rw[Go.WideShapes.add_plain,hb1.cell (p:=⟨lb,0+j,none⟩) hrow.1 (fun h=>by rcases h with h | h;(have:lb=mb:=h;omega);(have:=hlc lb h;omega)),← Go.WideShapes.add_plain];exact hrow.2 j u hu⟩
 have hlc1:∀k,cv1.ownBlock=some k→k≠lb:=fun k hk e=>by rcases ho1 k hk with h | h;(have:=hlc k h;omega);(have:=hrow.1;omega)
 have HLC1:=(show Hid _ from hlc1);clear hlc1;go_wp2_with fail;refine (a6K mb _ 25 0 cv1 w1 hc1 Q5).mono ?_;rintro e w2 ⟨rfl,cv2,hc2,hb2,ho2⟩;have hB2:=hB1.trans (hBl hc1 hb2);have hr2:yM w2 lb new:=⟨Nat.lt_of_lt_of_le hr1.1 hb2.size,fun j u hu=>by
  rw[Go.WideShapes.add_plain,hb2.cell (p:=⟨lb,0+j,none⟩) hr1.1 (fun h=>by rcases h with h | h;(have:lb=mb:=h;omega);exact HLC1.out lb h rfl),← Go.WideShapes.add_plain];exact hr1.2 j u hu⟩
 have hlc2:∀k,cv2.ownBlock=some k→k≠lb:=fun k hk e=>by rcases ho2 k hk with h | h;exact HLC1.out k h e;(have:=hr1.1;omega)
 have HLC2:=(show Hid _ from hlc2);clear hlc2;obtain⟨g2,cap2,hcv2,_,_⟩:=hc2.2.2.1.form Q9;have hln2:(l++[(2,x)]++[(25,0)]).length=l.length+2:=by simp
 rw[hln2] at hcv2;have k2:=hc2.1;rw[hcv2] at k2;have HCV2:=(show Hid _ from hcv2);clear hcv2;go_wp2_with fail;refine (a6K mb _ 13 ((l.length:Int)+2+1+(new.length:Int)) cv2 w2 hc2 Q5).mono ?_;rintro e w3 ⟨rfl,cv3,hc3,hb3,ho3⟩;have hB3:=hB2.trans (hBl hc2 hb3);have hr3:yM w3 lb new:=⟨Nat.lt_of_lt_of_le hr2.1 hb3.size,fun j u hu=>by
  rw[Go.WideShapes.add_plain,hb3.cell (p:=⟨lb,0+j,none⟩) hr2.1 (fun h=>by rcases h with h | h;(have:lb=mb:=h;omega);exact HLC2.out lb h rfl),← Go.WideShapes.add_plain];exact hr2.2 j u hu⟩
 rw[show l++[(2,x)]++[(25,0)]++[(13,(l.length:Int)+2+1+(new.length:Int))]=l++[(2,x),(25,0),(13,(l.length:Int)+2+1+(new.length:Int))] by simp] at hc3;have hln3:(l++[(2,x),(25,0),(13,(l.length:Int)+2+1+(new.length:Int))]).length=l.length+3:=by simp
 obtain⟨h1,h2,h3,h4⟩:=id hc3;rw[hln3] at h3;obtain⟨i37,hi37,hz37,hs37,hb37⟩:=info_parts O7;have HR3:=(show Hid (yM w3 lb new) from hr3);clear hr3 hr2 hr1 hb1 hb2 hb3 ho1 ho2 ho3 k2;go_wp2_with (at_builtin;go_must (refine wpList_append_lies _ rfl (.tmp 26) (.tmp 27) 64 rfl (mb+1) 62 i37 _ 2 16 Tryz.underlying64 hi37 hz37 hs37 hb37 rfl Q7 cv3 (l.length+3) (C7 (l++[(2,x),(25,0),(13,(l.length:Int)+2+1+(new.length:Int))])) rfl h3 ⟨lb,0,none⟩ new.length new.length (C7 new) rfl (sZ _) HR3.out.2 (J2 _) hnew0 Q0 Q8 Q8 w3.heap.size rfl ?_))
 intro g cap w5 hown5 hgrow5 hat5 hlt5;obtain⟨y0,y1,y2,hM,hBm⟩:=L3 (new:=new) hc3 (Below.refl _ _) hgrow5 (by rw [hln3]) hown5;have hfin:l++[(2,x),(25,0),(13,(l.length:Int)+2+1+(new.length:Int))]++new=l++((2,x)::(25,0)::(13,((l.length+3+new.length:Nat):Int))::new):=by
  rw[show ((l.length+3+new.length:Nat):Int)=(l.length:Int)+2+1+(new.length:Int) by omega];simp
 rw[hfin] at hM;have hB5:=hB3.trans hBm;clear hown5 hgrow5 hat5 hlt5 hfin hln3;go_wp2_with fail;go_end0
 exact J8 rfl hM hB5
theorem R8.below {w W:World} {mb:Nat} {l:List (Int × Int)} {cv:Value} (h:R8 w mb l cv) (hb:Below w.heap.size w W):R8 W mb l cv:=by
 obtain⟨h1,h2,h3,h4⟩:=h;refine⟨by rw [hb.cell (p:=⟨mb,0,none⟩) h4];exact h1,by rw [hb.frozen (p:=⟨mb,0,none⟩) h4];exact h2,?_,Nat.lt_of_lt_of_le h4 hb.size⟩;refine h3.kept (row:=none) ⟨hb.os,hb.tape,hb.output,hb.size,fun k hk _=>hb.block k hk⟩ ?_
 cases hv:cv.ownBlock with
 | none=>exact Or.inl rfl
 | some k=>exact Or.inr Q9
theorem a4B (mb:Nat) (l:List (Int × Int)) (n:Int) (w:World) (hm:G6 w mb l) (hl:l.length≤800) :
  Calls Tryz.prog 40 #[.pointer (some ⟨mb,0,none⟩),.int .i64 3,.int .i64 n] w fun e w'=>I9 mb (l++((2,1)::(25,0)::(13,((l.length+3+3:Nat):Int))::[(2,1),(19,0),(3,1)])) w e w':=by
 obtain⟨cv,hcv⟩:=hm;obtain⟨h1,h2,h3,h4⟩:=id hcv;have hBW:Below w.heap.size w ((((w.alloc (.cells #[.int .i64 2,.int .i64 (1)] 62)).alloc (.cells #[.int .i64 19,.int .i64 (0)] 62)).alloc (.cells #[.int .i64 3,.int .i64 (1)] 62)).alloc (.cells #[.int .i64 2,.int .i64 (1),.int .i64 19,.int .i64 (0),.int .i64 3,.int .i64 (1)] 62)):=P1
 have hg:=aK mb (w.heap.size+1+1+1) l [(2,1),(19,0),(3,1)] 1 cv ((((w.alloc (.cells #[.int .i64 2,.int .i64 (1)] 62)).alloc (.cells #[.int .i64 19,.int .i64 (0)] 62)).alloc (.cells #[.int .i64 3,.int .i64 (1)] 62)).alloc (.cells #[.int .i64 2,.int .i64 (1),.int .i64 19,.int .i64 (0),.int .i64 3,.int .i64 (1)] 62)) (hcv.below hBW) Q9 Q5 ⟨by simp,World.news_of_block (cs:=#[.int .i64 2,.int .i64 (1),.int .i64 19,.int .i64 (0),.int .i64 3,.int .i64 (1)]) (t:=62) (fr:=(0,0)) (G9 Q9)⟩ Q8 (fun k hk=>by have:=(h3.lt k hk).2;omega)
 have HG:=(show Hid _ from hg);clear hg;go_enter Tryz.func40,Tryz.ntmps40;go_wp2_with (go_at_call 27;refine (O2 _ _ _).mono ?_;rintro e w' ⟨rfl,rfl⟩)
 refine Calls.mono HG.out ?_;rintro e w2 ⟨rfl,hM,hB⟩;have hB2:Below mb w w2:=(hBW.mono Q8).trans hB;clear hB;go_wp2_with fail;go_end0
 exact J8 rfl hM hB2
theorem a4C (mb:Nat) (l:List (Int × Int)) (n:Int) (w:World) (hm:G6 w mb l) (hl:l.length≤800) :
  Calls Tryz.prog 40 #[.pointer (some ⟨mb,0,none⟩),.int .i64 4,.int .i64 n] w fun e w'=>I9 mb (l++((2,1)::(25,0)::(13,((l.length+3+3:Nat):Int))::[(2,1),(18,0),(3,2)])) w e w':=by
 obtain⟨cv,hcv⟩:=hm;obtain⟨h1,h2,h3,h4⟩:=id hcv;have hBW:Below w.heap.size w ((((w.alloc (.cells #[.int .i64 2,.int .i64 (1)] 62)).alloc (.cells #[.int .i64 18,.int .i64 (0)] 62)).alloc (.cells #[.int .i64 3,.int .i64 (2)] 62)).alloc (.cells #[.int .i64 2,.int .i64 (1),.int .i64 18,.int .i64 (0),.int .i64 3,.int .i64 (2)] 62)):=P1
 have hg:=aK mb (w.heap.size+1+1+1) l [(2,1),(18,0),(3,2)] 1 cv ((((w.alloc (.cells #[.int .i64 2,.int .i64 (1)] 62)).alloc (.cells #[.int .i64 18,.int .i64 (0)] 62)).alloc (.cells #[.int .i64 3,.int .i64 (2)] 62)).alloc (.cells #[.int .i64 2,.int .i64 (1),.int .i64 18,.int .i64 (0),.int .i64 3,.int .i64 (2)] 62)) (hcv.below hBW) Q9 Q5 ⟨by simp,World.news_of_block (cs:=#[.int .i64 2,.int .i64 (1),.int .i64 18,.int .i64 (0),.int .i64 3,.int .i64 (2)]) (t:=62) (fr:=(0,0)) (G9 Q9)⟩ Q8 (fun k hk=>by have:=(h3.lt k hk).2;omega)
 have HG:=(show Hid _ from hg);clear hg;go_enter Tryz.func40,Tryz.ntmps40;go_wp2_with (go_at_call 27;refine (O2 _ _ _).mono ?_;rintro e w' ⟨rfl,rfl⟩)
 refine Calls.mono HG.out ?_;rintro e w2 ⟨rfl,hM,hB⟩;have hB2:Below mb w w2:=(hBW.mono Q8).trans hB;clear hB;go_wp2_with fail;go_end0
 exact J8 rfl hM hB2
theorem a4D (mb:Nat) (l:List (Int × Int)) (n:Int) (w:World) (hm:G6 w mb l) (hl:l.length≤800) :
  Calls Tryz.prog 40 #[.pointer (some ⟨mb,0,none⟩),.int .i64 5,.int .i64 n] w fun e w'=>I9 mb (l++((2,1)::(25,0)::(13,((l.length+3+3:Nat):Int))::[(2,1),(18,0),(3,2)])) w e w':=by
 obtain⟨cv,hcv⟩:=hm;obtain⟨h1,h2,h3,h4⟩:=id hcv;have hBW:Below w.heap.size w ((((w.alloc (.cells #[.int .i64 2,.int .i64 (1)] 62)).alloc (.cells #[.int .i64 18,.int .i64 (0)] 62)).alloc (.cells #[.int .i64 3,.int .i64 (2)] 62)).alloc (.cells #[.int .i64 2,.int .i64 (1),.int .i64 18,.int .i64 (0),.int .i64 3,.int .i64 (2)] 62)):=P1
 have hg:=aK mb (w.heap.size+1+1+1) l [(2,1),(18,0),(3,2)] 1 cv ((((w.alloc (.cells #[.int .i64 2,.int .i64 (1)] 62)).alloc (.cells #[.int .i64 18,.int .i64 (0)] 62)).alloc (.cells #[.int .i64 3,.int .i64 (2)] 62)).alloc (.cells #[.int .i64 2,.int .i64 (1),.int .i64 18,.int .i64 (0),.int .i64 3,.int .i64 (2)] 62)) (hcv.below hBW) Q9 Q5 ⟨by simp,World.news_of_block (cs:=#[.int .i64 2,.int .i64 (1),.int .i64 18,.int .i64 (0),.int .i64 3,.int .i64 (2)]) (t:=62) (fr:=(0,0)) (G9 Q9)⟩ Q8 (fun k hk=>by have:=(h3.lt k hk).2;omega)
 have HG:=(show Hid _ from hg);clear hg;go_enter Tryz.func40,Tryz.ntmps40;go_wp2_with (go_at_call 27;refine (O2 _ _ _).mono ?_;rintro e w' ⟨rfl,rfl⟩)
 refine Calls.mono HG.out ?_;rintro e w2 ⟨rfl,hM,hB⟩;have hB2:Below mb w w2:=(hBW.mono Q8).trans hB;clear hB;go_wp2_with fail;go_end0
 exact J8 rfl hM hB2
theorem a4E (mb:Nat) (l:List (Int × Int)) (n:Int) (w:World) (hm:G6 w mb l) (hl:l.length≤800) :
  Calls Tryz.prog 40 #[.pointer (some ⟨mb,0,none⟩),.int .i64 6,.int .i64 n] w fun e w'=>I9 mb (l++((2,2)::(25,0)::(13,((l.length+3+4:Nat):Int))::[(2,2),(24,0),(25,0),(26,0)])) w e w':=by
 obtain⟨cv,hcv⟩:=hm;obtain⟨h1,h2,h3,h4⟩:=id hcv;have hBW:Below w.heap.size w (((((w.alloc (.cells #[.int .i64 2,.int .i64 (2)] 62)).alloc (.cells #[.int .i64 24,.int .i64 (0)] 62)).alloc (.cells #[.int .i64 25,.int .i64 (0)] 62)).alloc (.cells #[.int .i64 26,.int .i64 (0)] 62)).alloc (.cells #[.int .i64 2,.int .i64 (2),.int .i64 24,.int .i64 (0),.int .i64 25,.int .i64 (0),.int .i64 26,.int .i64 (0)] 62)):=P1
 have hg:=aK mb (w.heap.size+1+1+1+1) l [(2,2),(24,0),(25,0),(26,0)] 2 cv (((((w.alloc (.cells #[.int .i64 2,.int .i64 (2)] 62)).alloc (.cells #[.int .i64 24,.int .i64 (0)] 62)).alloc (.cells #[.int .i64 25,.int .i64 (0)] 62)).alloc (.cells #[.int .i64 26,.int .i64 (0)] 62)).alloc (.cells #[.int .i64 2,.int .i64 (2),.int .i64 24,.int .i64 (0),.int .i64 25,.int .i64 (0),.int .i64 26,.int .i64 (0)] 62)) (hcv.below hBW) Q9 Q5 ⟨by simp,World.news_of_block (cs:=#[.int .i64 2,.int .i64 (2),.int .i64 24,.int .i64 (0),.int .i64 25,.int .i64 (0),.int .i64 26,.int .i64 (0)]) (t:=62) (fr:=(0,0)) (G9 Q9)⟩ Q8 (fun k hk=>by have:=(h3.lt k hk).2;omega)
 have HG:=(show Hid _ from hg);clear hg;go_enter Tryz.func40,Tryz.ntmps40;go_wp2_with (go_at_call 27;refine (O2 _ _ _).mono ?_;rintro e w' ⟨rfl,rfl⟩)
 refine Calls.mono HG.out ?_;rintro e w2 ⟨rfl,hM,hB⟩;have hB2:Below mb w w2:=(hBW.mono Q8).trans hB;clear hB;go_wp2_with fail;go_end0
 exact J8 rfl hM hB2
theorem a4F (mb:Nat) (l:List (Int × Int)) (n:Int) (w:World) (hm:G6 w mb l) (hl:l.length≤800) :
  Calls Tryz.prog 40 #[.pointer (some ⟨mb,0,none⟩),.int .i64 7,.int .i64 n] w fun e w'=>I9 mb (l++((2,2)::(25,0)::(13,((l.length+3+4:Nat):Int))::[(2,2),(24,0),(25,0),(26,0)])) w e w':=by
 obtain⟨cv,hcv⟩:=hm;obtain⟨h1,h2,h3,h4⟩:=id hcv;have hBW:Below w.heap.size w (((((w.alloc (.cells #[.int .i64 2,.int .i64 (2)] 62)).alloc (.cells #[.int .i64 24,.int .i64 (0)] 62)).alloc (.cells #[.int .i64 25,.int .i64 (0)] 62)).alloc (.cells #[.int .i64 26,.int .i64 (0)] 62)).alloc (.cells #[.int .i64 2,.int .i64 (2),.int .i64 24,.int .i64 (0),.int .i64 25,.int .i64 (0),.int .i64 26,.int .i64 (0)] 62)):=P1
 have hg:=aK mb (w.heap.size+1+1+1+1) l [(2,2),(24,0),(25,0),(26,0)] 2 cv (((((w.alloc (.cells #[.int .i64 2,.int .i64 (2)] 62)).alloc (.cells #[.int .i64 24,.int .i64 (0)] 62)).alloc (.cells #[.int .i64 25,.int .i64 (0)] 62)).alloc (.cells #[.int .i64 26,.int .i64 (0)] 62)).alloc (.cells #[.int .i64 2,.int .i64 (2),.int .i64 24,.int .i64 (0),.int .i64 25,.int .i64 (0),.int .i64 26,.int .i64 (0)] 62)) (hcv.below hBW) Q9 Q5 ⟨by simp,World.news_of_block (cs:=#[.int .i64 2,.int .i64 (2),.int .i64 24,.int .i64 (0),.int .i64 25,.int .i64 (0),.int .i64 26,.int .i64 (0)]) (t:=62) (fr:=(0,0)) (G9 Q9)⟩ Q8 (fun k hk=>by have:=(h3.lt k hk).2;omega)
 have HG:=(show Hid _ from hg);clear hg;go_enter Tryz.func40,Tryz.ntmps40;go_wp2_with (go_at_call 27;refine (O2 _ _ _).mono ?_;rintro e w' ⟨rfl,rfl⟩)
 refine Calls.mono HG.out ?_;rintro e w2 ⟨rfl,hM,hB⟩;have hB2:Below mb w w2:=(hBW.mono Q8).trans hB;clear hB;go_wp2_with fail;go_end0
 exact J8 rfl hM hB2
theorem a4G (mb:Nat) (l:List (Int × Int)) (n:Int) (w:World) (hm:G6 w mb l) (hl:l.length≤800) (hn0:0≤n) (hn8:n≤8) :
  Calls Tryz.prog 40 #[.pointer (some ⟨mb,0,none⟩),.int .i64 8,.int .i64 n] w fun e w'=>I9 mb (l++((2,1)::(25,0)::(13,((l.length+3+3:Nat):Int))::[(2,1),(2,n % 3),(20,1)])) w e w':=by
 obtain⟨cv,hcv⟩:=hm;obtain⟨h1,h2,h3,h4⟩:=id hcv;have hBW:Below w.heap.size w ((((w.alloc (.cells #[.int .i64 2,.int .i64 (1)] 62)).alloc (.cells #[.int .i64 2,.int .i64 (n % 3)] 62)).alloc (.cells #[.int .i64 20,.int .i64 (1)] 62)).alloc (.cells #[.int .i64 2,.int .i64 (1),.int .i64 2,.int .i64 (n % 3),.int .i64 20,.int .i64 (1)] 62)):=P1
 have hg:=aK mb (w.heap.size+1+1+1) l [(2,1),(2,n % 3),(20,1)] 1 cv ((((w.alloc (.cells #[.int .i64 2,.int .i64 (1)] 62)).alloc (.cells #[.int .i64 2,.int .i64 (n % 3)] 62)).alloc (.cells #[.int .i64 20,.int .i64 (1)] 62)).alloc (.cells #[.int .i64 2,.int .i64 (1),.int .i64 2,.int .i64 (n % 3),.int .i64 20,.int .i64 (1)] 62)) (hcv.below hBW) Q9 Q5 ⟨by simp,World.news_of_block (cs:=#[.int .i64 2,.int .i64 (1),.int .i64 2,.int .i64 (n % 3),.int .i64 20,.int .i64 (1)]) (t:=62) (fr:=(0,0)) (G9 Q9)⟩ Q8 (fun k hk=>by have:=(h3.lt k hk).2;omega)
 have HG:=(show Hid _ from hg);clear hg;go_enter Tryz.func40,Tryz.ntmps40;go_wp2_with (go_at_call 27;refine (O2 _ _ _).mono ?_;rintro e w' ⟨rfl,rfl⟩)
 refine Calls.mono HG.out ?_;rintro e w2 ⟨rfl,hM,hB⟩;have hB2:Below mb w w2:=(hBW.mono Q8).trans hB;clear hB;go_wp2_with fail;go_end0
 exact J8 rfl hM hB2
theorem a7r (mb:Nat) (l:List (Int × Int)) (n:Int) (w:World) (hm:G6 w mb l) (hl:l.length≤1000) :
  Calls Tryz.prog 39 #[.pointer (some ⟨mb,0,none⟩),.int .i64 0,.int .i64 n] w fun e w'=>I9 mb (l++[(2,0),(0,n),(7,0),(3,0)]) w e w':=by
 obtain⟨cv,hcv⟩:=hm;obtain⟨h1,h2,h3,h4⟩:=id hcv;obtain⟨i37,hi37,hz37,hs37,hb37⟩:=info_parts O7;have h4a:mb < w.heap.size+1:=by omega
 have h4b:mb < w.heap.size+1+1:=by omega
 have h4c:mb < w.heap.size+1+1+1:=by omega
 have h4d:mb < w.heap.size+1+1+1+1:=by omega
 have h4e:mb < w.heap.size+1+1+1+1+1:=by omega
 go_enter Tryz.func39,Tryz.ntmps39;go_wp2_with fail;go_region_law ((first | (refine step_append_lies _ rfl (.tmp 35) (.tmp 41) 64 rfl (mb+1) 62 i37 _ 2 16 Tryz.underlying64 hi37 hz37 hs37 hb37 rfl Q7 cv l.length (C7 l) P8 (by repeat (first | exact h3 | exact h3.drew | refine World.ownsRow.alloc ?_ _ | refine World.ownsRow.drew ?_)) _ 4 4 (C7 [(2,0),(0,n),(7,0),(3,0)]) P8 rfl (World.news_of_block (cs:=#[.int .i64 2,.int .i64 (0),.int .i64 0,.int .i64 (n),.int .i64 7,.int .i64 (0),.int .i64 3,.int .i64 (0)]) (t:=62) (fr:=(0,0)) (by first | exact G9 Q9 | (exact G9 rfl))) (J2 _) Q8 Q0 Q8 P6 _ rfl ?_;intro gq capq w5 hown5 hgrow5 hat5 hlt5;obtain ⟨y0,y1,y2,hM,hBl⟩:=L3 (new:=[(2,0),(0,n),(7,0),(3,0)]) hcv P1 hgrow5 rfl hown5;clear hown5 hgrow5 hat5 hlt5) | (go_simp;go_at_call 27;refine (O2 _ _ _).mono ?_;rintro e w' ⟨rfl,rfl⟩)))
 all_goals
  go_wp2_with fail;go_end0
  exact J8 rfl hM hBl
theorem a7s (mb:Nat) (l:List (Int × Int)) (n:Int) (w:World) (hm:G6 w mb l) (hl:l.length≤1000) :
  Calls Tryz.prog 39 #[.pointer (some ⟨mb,0,none⟩),.int .i64 1,.int .i64 n] w fun e w'=>I9 mb (l++[(2,0),(26,0)]) w e w':=by
 obtain⟨cv,hcv⟩:=hm;obtain⟨h1,h2,h3,h4⟩:=id hcv;obtain⟨i37,hi37,hz37,hs37,hb37⟩:=info_parts O7;have h4a:mb < w.heap.size+1:=by omega
 have h4b:mb < w.heap.size+1+1:=by omega
 have h4c:mb < w.heap.size+1+1+1:=by omega
 go_enter Tryz.func39,Tryz.ntmps39;go_wp2_with fail;go_region_law ((first | (refine step_append_lies _ rfl (.tmp 51) (.tmp 54) 64 rfl (mb+1) 62 i37 _ 2 16 Tryz.underlying64 hi37 hz37 hs37 hb37 rfl Q7 cv l.length (C7 l) P8 (by repeat (first | exact h3 | exact h3.drew | refine World.ownsRow.alloc ?_ _ | refine World.ownsRow.drew ?_)) _ 2 2 (C7 [(2,0),(26,0)]) P8 rfl (World.news_of_block (cs:=#[.int .i64 2,.int .i64 (0),.int .i64 26,.int .i64 (0)]) (t:=62) (fr:=(0,0)) (by first | exact G9 Q9 | (exact G9 rfl))) (J2 _) Q8 Q0 Q8 P6 _ rfl ?_;intro gq capq w5 hown5 hgrow5 hat5 hlt5;obtain ⟨y0,y1,y2,hM,hBl⟩:=L3 (new:=[(2,0),(26,0)]) hcv P1 hgrow5 rfl hown5;clear hown5 hgrow5 hat5 hlt5) | (go_simp;go_at_call 27;refine (O2 _ _ _).mono ?_;rintro e w' ⟨rfl,rfl⟩)))
 all_goals
  go_wp2_with fail;go_end0
  exact J8 rfl hM hBl
theorem a7t (mb:Nat) (l:List (Int × Int)) (n:Int) (w:World) (hm:G6 w mb l) (hl:l.length≤1000) :
  Calls Tryz.prog 39 #[.pointer (some ⟨mb,0,none⟩),.int .i64 2,.int .i64 n] w fun e w'=>I9 mb (l++[(0,n),(17,0),(5,0)]) w e w':=by
 obtain⟨cv,hcv⟩:=hm;obtain⟨h1,h2,h3,h4⟩:=id hcv;obtain⟨i37,hi37,hz37,hs37,hb37⟩:=info_parts O7;have h4a:mb < w.heap.size+1:=by omega
 have h4b:mb < w.heap.size+1+1:=by omega
 have h4c:mb < w.heap.size+1+1+1:=by omega
 have h4d:mb < w.heap.size+1+1+1+1:=by omega
 go_enter Tryz.func39,Tryz.ntmps39;go_wp2_with fail;go_region_law ((first | (refine step_append_lies _ rfl (.tmp 64) (.tmp 69) 64 rfl (mb+1) 62 i37 _ 2 16 Tryz.underlying64 hi37 hz37 hs37 hb37 rfl Q7 cv l.length (C7 l) P8 (by repeat (first | exact h3 | exact h3.drew | refine World.ownsRow.alloc ?_ _ | refine World.ownsRow.drew ?_)) _ 3 3 (C7 [(0,n),(17,0),(5,0)]) P8 rfl (World.news_of_block (cs:=#[.int .i64 0,.int .i64 (n),.int .i64 17,.int .i64 (0),.int .i64 5,.int .i64 (0)]) (t:=62) (fr:=(0,0)) (by first | exact G9 Q9 | (exact G9 rfl))) (J2 _) Q8 Q0 Q8 P6 _ rfl ?_;intro gq capq w5 hown5 hgrow5 hat5 hlt5;obtain ⟨y0,y1,y2,hM,hBl⟩:=L3 (new:=[(0,n),(17,0),(5,0)]) hcv P1 hgrow5 rfl hown5;clear hown5 hgrow5 hat5 hlt5) | (go_simp;go_at_call 27;refine (O2 _ _ _).mono ?_;rintro e w' ⟨rfl,rfl⟩)))
 all_goals
  go_wp2_with fail;go_end0
  exact J8 rfl hM hBl
theorem a7u (mb:Nat) (l:List (Int × Int)) (n:Int) (w:World) (hm:G6 w mb l) (hl:l.length≤1000) :
  Calls Tryz.prog 39 #[.pointer (some ⟨mb,0,none⟩),.int .i64 3,.int .i64 n] w fun e w'=>I9 mb (l++[(2,1),(2,2),(11,0),(26,0)]) w e w':=by
 obtain⟨cv,hcv⟩:=hm;obtain⟨h1,h2,h3,h4⟩:=id hcv;obtain⟨i37,hi37,hz37,hs37,hb37⟩:=info_parts O7;have h4a:mb < w.heap.size+1:=by omega
 have h4b:mb < w.heap.size+1+1:=by omega
 have h4c:mb < w.heap.size+1+1+1:=by omega
 have h4d:mb < w.heap.size+1+1+1+1:=by omega
 have h4e:mb < w.heap.size+1+1+1+1+1:=by omega
 go_enter Tryz.func39,Tryz.ntmps39;go_wp2_with fail;go_region_law ((first | (refine step_append_lies _ rfl (.tmp 79) (.tmp 84) 64 rfl (mb+1) 62 i37 _ 2 16 Tryz.underlying64 hi37 hz37 hs37 hb37 rfl Q7 cv l.length (C7 l) P8 (by repeat (first | exact h3 | exact h3.drew | refine World.ownsRow.alloc ?_ _ | refine World.ownsRow.drew ?_)) _ 4 4 (C7 [(2,1),(2,2),(11,0),(26,0)]) P8 rfl (World.news_of_block (cs:=#[.int .i64 2,.int .i64 (1),.int .i64 2,.int .i64 (2),.int .i64 11,.int .i64 (0),.int .i64 26,.int .i64 (0)]) (t:=62) (fr:=(0,0)) (by first | exact G9 Q9 | (exact G9 rfl))) (J2 _) Q8 Q0 Q8 P6 _ rfl ?_;intro gq capq w5 hown5 hgrow5 hat5 hlt5;obtain ⟨y0,y1,y2,hM,hBl⟩:=L3 (new:=[(2,1),(2,2),(11,0),(26,0)]) hcv P1 hgrow5 rfl hown5;clear hown5 hgrow5 hat5 hlt5) | (go_simp;go_at_call 27;refine (O2 _ _ _).mono ?_;rintro e w' ⟨rfl,rfl⟩)))
 all_goals
  go_wp2_with fail;go_end0
  exact J8 rfl hM hBl
theorem a7v (mb:Nat) (l:List (Int × Int)) (n:Int) (w:World) (hm:G6 w mb l) (hl:l.length≤1000) :
  Calls Tryz.prog 39 #[.pointer (some ⟨mb,0,none⟩),.int .i64 4,.int .i64 n] w fun e w'=>I9 mb (l++[(2,0),(2,1),(14,1),(3,0)]) w e w':=by
 obtain⟨cv,hcv⟩:=hm;obtain⟨h1,h2,h3,h4⟩:=id hcv;obtain⟨i37,hi37,hz37,hs37,hb37⟩:=info_parts O7;have h4a:mb < w.heap.size+1:=by omega
 have h4b:mb < w.heap.size+1+1:=by omega
 have h4c:mb < w.heap.size+1+1+1:=by omega
 have h4d:mb < w.heap.size+1+1+1+1:=by omega
 have h4e:mb < w.heap.size+1+1+1+1+1:=by omega
 go_enter Tryz.func39,Tryz.ntmps39;go_wp2_with fail;go_region_law ((first | (refine step_append_lies _ rfl (.tmp 94) (.tmp 99) 64 rfl (mb+1) 62 i37 _ 2 16 Tryz.underlying64 hi37 hz37 hs37 hb37 rfl Q7 cv l.length (C7 l) P8 (by repeat (first | exact h3 | exact h3.drew | refine World.ownsRow.alloc ?_ _ | refine World.ownsRow.drew ?_)) _ 4 4 (C7 [(2,0),(2,1),(14,1),(3,0)]) P8 rfl (World.news_of_block (cs:=#[.int .i64 2,.int .i64 (0),.int .i64 2,.int .i64 (1),.int .i64 14,.int .i64 (1),.int .i64 3,.int .i64 (0)]) (t:=62) (fr:=(0,0)) (by first | exact G9 Q9 | (exact G9 rfl))) (J2 _) Q8 Q0 Q8 P6 _ rfl ?_;intro gq capq w5 hown5 hgrow5 hat5 hlt5;obtain ⟨y0,y1,y2,hM,hBl⟩:=L3 (new:=[(2,0),(2,1),(14,1),(3,0)]) hcv P1 hgrow5 rfl hown5;clear hown5 hgrow5 hat5 hlt5) | (go_simp;go_at_call 27;refine (O2 _ _ _).mono ?_;rintro e w' ⟨rfl,rfl⟩)))
 all_goals
  go_wp2_with fail;go_end0
  exact J8 rfl hM hBl
theorem a7w (mb:Nat) (l:List (Int × Int)) (n:Int) (w:World) (hm:G6 w mb l) (hl:l.length≤1000) (x y:Int) (hx:n.tmod 2=x) (hy:IntKind.i64.wrap (1+x)=y) :
  Calls Tryz.prog 39 #[.pointer (some ⟨mb,0,none⟩),.int .i64 5,.int .i64 n] w fun e w'=>I9 mb (l++[(1,0),(3,y)]) w e w':=by
 obtain⟨cv,hcv⟩:=hm;obtain⟨h1,h2,h3,h4⟩:=id hcv;obtain⟨i37,hi37,hz37,hs37,hb37⟩:=info_parts O7;have h4a:mb < w.heap.size+1:=by omega
 have h4b:mb < w.heap.size+1+1:=by omega
 have h4c:mb < w.heap.size+1+1+1:=by omega
 go_enter Tryz.func39,Tryz.ntmps39;go_wp2_with fail;go_region_law ((first | (go_simp;go_at_call 27;refine (O2 _ _ _).mono ?_;rintro e w' ⟨rfl,rfl⟩) | (refine step_append_lies _ rfl (.tmp 109) (.tmp 115) 64 rfl (mb+1) 62 i37 _ 2 16 Tryz.underlying64 hi37 hz37 hs37 hb37 rfl Q7 cv l.length (C7 l) (by (try (simp only [Act.put,List.setIfInBounds_toArray,List.set_cons_zero,List.set_cons_succ]));rfl) (by repeat (first | exact h3 | exact h3.drew | refine World.ownsRow.alloc ?_ _ | refine World.ownsRow.drew ?_)) _ 2 2 (C7 [(1,0),(3,y)]) (by (try (simp only [Act.put,List.setIfInBounds_toArray,List.set_cons_zero,List.set_cons_succ]));rfl) rfl (World.news_of_block (cs:=#[.int .i64 1,.int .i64 (0),.int .i64 3,.int .i64 (y)]) (t:=62) (fr:=(0,0)) (by first | exact G9 Q9 | (exact G9 rfl))) (J2 _) Q8 Q0 Q8 P6 _ rfl ?_;intro gq capq w5 hown5 hgrow5 hat5 hlt5;obtain ⟨y0,y1,y2,hM,hBl⟩:=L3 (new:=[(1,0),(3,y)]) hcv P1 hgrow5 rfl hown5;clear hown5 hgrow5 hat5 hlt5)))
 all_goals
  go_wp2_with fail;go_end0
  exact J8 rfl hM hBl
theorem a7x (mb:Nat) (l:List (Int × Int)) (n:Int) (w:World) (hm:G6 w mb l) (hl:l.length≤1000) :
  Calls Tryz.prog 39 #[.pointer (some ⟨mb,0,none⟩),.int .i64 6,.int .i64 n] w fun e w'=>I9 mb (l++[(16,n),(23,0),(26,0)]) w e w':=by
 obtain⟨cv,hcv⟩:=hm;obtain⟨h1,h2,h3,h4⟩:=id hcv;obtain⟨i37,hi37,hz37,hs37,hb37⟩:=info_parts O7;have h4a:mb < w.heap.size+1:=by omega
 have h4b:mb < w.heap.size+1+1:=by omega
 have h4c:mb < w.heap.size+1+1+1:=by omega
 have h4d:mb < w.heap.size+1+1+1+1:=by omega
 go_enter Tryz.func39,Tryz.ntmps39;go_wp2_with fail;go_region_law ((first | (refine step_append_lies _ rfl (.tmp 125) (.tmp 130) 64 rfl (mb+1) 62 i37 _ 2 16 Tryz.underlying64 hi37 hz37 hs37 hb37 rfl Q7 cv l.length (C7 l) P8 (by repeat (first | exact h3 | exact h3.drew | refine World.ownsRow.alloc ?_ _ | refine World.ownsRow.drew ?_)) _ 3 3 (C7 [(16,n),(23,0),(26,0)]) P8 rfl (World.news_of_block (cs:=#[.int .i64 16,.int .i64 (n),.int .i64 23,.int .i64 (0),.int .i64 26,.int .i64 (0)]) (t:=62) (fr:=(0,0)) (by first | exact G9 Q9 | (exact G9 rfl))) (J2 _) Q8 Q0 Q8 P6 _ rfl ?_;intro gq capq w5 hown5 hgrow5 hat5 hlt5;obtain ⟨y0,y1,y2,hM,hBl⟩:=L3 (new:=[(16,n),(23,0),(26,0)]) hcv P1 hgrow5 rfl hown5;clear hown5 hgrow5 hat5 hlt5) | (go_simp;go_at_call 27;refine (O2 _ _ _).mono ?_;rintro e w' ⟨rfl,rfl⟩)))
 all_goals
  go_wp2_with fail;go_end0
  exact J8 rfl hM hBl
theorem a4y (mb:Nat) (l:List (Int × Int)) (n:Int) (w:World) (hm:G6 w mb l) (hl:l.length≤1000) :
  Calls Tryz.prog 40 #[.pointer (some ⟨mb,0,none⟩),.int .i64 0,.int .i64 n] w fun e w'=>I9 mb (l++[(16,2),(4,0),(2,1),(20,0),(3,1)]) w e w':=by
 obtain⟨cv,hcv⟩:=hm;obtain⟨h1,h2,h3,h4⟩:=id hcv;obtain⟨i37,hi37,hz37,hs37,hb37⟩:=info_parts O7;have h4a:mb < w.heap.size+1:=by omega
 have h4b:mb < w.heap.size+1+1:=by omega
 have h4c:mb < w.heap.size+1+1+1:=by omega
 have h4d:mb < w.heap.size+1+1+1+1:=by omega
 have h4e:mb < w.heap.size+1+1+1+1+1:=by omega
 have h4f:mb < w.heap.size+1+1+1+1+1+1:=by omega
 go_enter Tryz.func40,Tryz.ntmps40;go_wp2_with fail;go_region_law ((first | (refine step_append_lies _ rfl (.tmp 36) (.tmp 42) 64 rfl (mb+1) 62 i37 _ 2 16 Tryz.underlying64 hi37 hz37 hs37 hb37 rfl Q7 cv l.length (C7 l) P8 (by repeat (first | exact h3 | exact h3.drew | refine World.ownsRow.alloc ?_ _ | refine World.ownsRow.drew ?_)) _ 5 5 (C7 [(16,2),(4,0),(2,1),(20,0),(3,1)]) P8 rfl (World.news_of_block (cs:=#[.int .i64 16,.int .i64 (2),.int .i64 4,.int .i64 (0),.int .i64 2,.int .i64 (1),.int .i64 20,.int .i64 (0),.int .i64 3,.int .i64 (1)]) (t:=62) (fr:=(0,0)) (by first | exact G9 Q9 | (exact G9 rfl))) (J2 _) Q8 Q0 Q8 P6 _ rfl ?_;intro gq capq w5 hown5 hgrow5 hat5 hlt5;obtain ⟨y0,y1,y2,hM,hBl⟩:=L3 (new:=[(16,2),(4,0),(2,1),(20,0),(3,1)]) hcv P1 hgrow5 rfl hown5;clear hown5 hgrow5 hat5 hlt5) | (go_simp;go_at_call 27;refine (O2 _ _ _).mono ?_;rintro e w' ⟨rfl,rfl⟩)))
 all_goals
  go_wp2_with fail;go_end0
  exact J8 rfl hM hBl
theorem a4z (mb:Nat) (l:List (Int × Int)) (n:Int) (w:World) (hm:G6 w mb l) (hl:l.length≤1000) :
  Calls Tryz.prog 40 #[.pointer (some ⟨mb,0,none⟩),.int .i64 1,.int .i64 n] w fun e w'=>I9 mb (l++[(16,2),(4,0),(2,1),(20,0),(3,1)]) w e w':=by
 obtain⟨cv,hcv⟩:=hm;obtain⟨h1,h2,h3,h4⟩:=id hcv;obtain⟨i37,hi37,hz37,hs37,hb37⟩:=info_parts O7;have h4a:mb < w.heap.size+1:=by omega
 have h4b:mb < w.heap.size+1+1:=by omega
 have h4c:mb < w.heap.size+1+1+1:=by omega
 have h4d:mb < w.heap.size+1+1+1+1:=by omega
 have h4e:mb < w.heap.size+1+1+1+1+1:=by omega
 have h4f:mb < w.heap.size+1+1+1+1+1+1:=by omega
 go_enter Tryz.func40,Tryz.ntmps40;go_wp2_with fail;go_region_law ((first | (refine step_append_lies _ rfl (.tmp 36) (.tmp 42) 64 rfl (mb+1) 62 i37 _ 2 16 Tryz.underlying64 hi37 hz37 hs37 hb37 rfl Q7 cv l.length (C7 l) P8 (by repeat (first | exact h3 | exact h3.drew | refine World.ownsRow.alloc ?_ _ | refine World.ownsRow.drew ?_)) _ 5 5 (C7 [(16,2),(4,0),(2,1),(20,0),(3,1)]) P8 rfl (World.news_of_block (cs:=#[.int .i64 16,.int .i64 (2),.int .i64 4,.int .i64 (0),.int .i64 2,.int .i64 (1),.int .i64 20,.int .i64 (0),.int .i64 3,.int .i64 (1)]) (t:=62) (fr:=(0,0)) (by first | exact G9 Q9 | (exact G9 rfl))) (J2 _) Q8 Q0 Q8 P6 _ rfl ?_;intro gq capq w5 hown5 hgrow5 hat5 hlt5;obtain ⟨y0,y1,y2,hM,hBl⟩:=L3 (new:=[(16,2),(4,0),(2,1),(20,0),(3,1)]) hcv P1 hgrow5 rfl hown5;clear hown5 hgrow5 hat5 hlt5) | (go_simp;go_at_call 27;refine (O2 _ _ _).mono ?_;rintro e w' ⟨rfl,rfl⟩)))
 all_goals
  go_wp2_with fail;go_end0
  exact J8 rfl hM hBl
theorem a4A (mb:Nat) (l:List (Int × Int)) (n:Int) (w:World) (hm:G6 w mb l) (hl:l.length≤1000) :
  Calls Tryz.prog 40 #[.pointer (some ⟨mb,0,none⟩),.int .i64 2,.int .i64 n] w fun e w'=>I9 mb (l++[(16,2),(4,0),(2,1),(20,0),(3,1)]) w e w':=by
 obtain⟨cv,hcv⟩:=hm;obtain⟨h1,h2,h3,h4⟩:=id hcv;obtain⟨i37,hi37,hz37,hs37,hb37⟩:=info_parts O7;have h4a:mb < w.heap.size+1:=by omega
 have h4b:mb < w.heap.size+1+1:=by omega
 have h4c:mb < w.heap.size+1+1+1:=by omega
 have h4d:mb < w.heap.size+1+1+1+1:=by omega
 have h4e:mb < w.heap.size+1+1+1+1+1:=by omega
 have h4f:mb < w.heap.size+1+1+1+1+1+1:=by omega
 go_enter Tryz.func40,Tryz.ntmps40;go_wp2_with fail;go_region_law ((first | (refine step_append_lies _ rfl (.tmp 36) (.tmp 42) 64 rfl (mb+1) 62 i37 _ 2 16 Tryz.underlying64 hi37 hz37 hs37 hb37 rfl Q7 cv l.length (C7 l) P8 (by repeat (first | exact h3 | exact h3.drew | refine World.ownsRow.alloc ?_ _ | refine World.ownsRow.drew ?_)) _ 5 5 (C7 [(16,2),(4,0),(2,1),(20,0),(3,1)]) P8 rfl (World.news_of_block (cs:=#[.int .i64 16,.int .i64 (2),.int .i64 4,.int .i64 (0),.int .i64 2,.int .i64 (1),.int .i64 20,.int .i64 (0),.int .i64 3,.int .i64 (1)]) (t:=62) (fr:=(0,0)) (by first | exact G9 Q9 | (exact G9 rfl))) (J2 _) Q8 Q0 Q8 P6 _ rfl ?_;intro gq capq w5 hown5 hgrow5 hat5 hlt5;obtain ⟨y0,y1,y2,hM,hBl⟩:=L3 (new:=[(16,2),(4,0),(2,1),(20,0),(3,1)]) hcv P1 hgrow5 rfl hown5;clear hown5 hgrow5 hat5 hlt5) | (go_simp;go_at_call 27;refine (O2 _ _ _).mono ?_;rintro e w' ⟨rfl,rfl⟩)))
 all_goals
  go_wp2_with fail;go_end0
  exact J8 rfl hM hBl
theorem a4H (mb:Nat) (l:List (Int × Int)) (n:Int) (w:World) (hm:G6 w mb l) (hl:l.length≤1000) (x y:Int) (hx:n.tmod 3=x) (hy:IntKind.i64.wrap (1+x)=y) :
  Calls Tryz.prog 40 #[.pointer (some ⟨mb,0,none⟩),.int .i64 9,.int .i64 n] w fun e w'=>I9 mb (l++[(0,y),(17,0),(4,0),(0,x),(2,1),(22,0),(5,0)]) w e w':=by
 obtain⟨cv,hcv⟩:=hm;obtain⟨h1,h2,h3,h4⟩:=id hcv;obtain⟨i37,hi37,hz37,hs37,hb37⟩:=info_parts O7;have h4a:mb < w.heap.size+1:=by omega
 have h4b:mb < w.heap.size+1+1:=by omega
 have h4c:mb < w.heap.size+1+1+1:=by omega
 have h4d:mb < w.heap.size+1+1+1+1:=by omega
 have h4e:mb < w.heap.size+1+1+1+1+1:=by omega
 have h4f:mb < w.heap.size+1+1+1+1+1+1:=by omega
 have h4g:mb < w.heap.size+1+1+1+1+1+1+1:=by omega
 have h4h:mb < w.heap.size+1+1+1+1+1+1+1+1:=by omega
 go_enter Tryz.func40,Tryz.ntmps40;go_wp2_with fail;go_region_law ((first | (go_simp;go_at_call 27;refine (O2 _ _ _).mono ?_;rintro e w' ⟨rfl,rfl⟩) | (refine step_append_lies _ rfl (.tmp 11) (.tmp 24) 64 rfl (mb+1) 62 i37 _ 2 16 Tryz.underlying64 hi37 hz37 hs37 hb37 rfl Q7 cv l.length (C7 l) (by (try (simp only [Act.put,List.setIfInBounds_toArray,List.set_cons_zero,List.set_cons_succ]));rfl) (by repeat (first | exact h3 | exact h3.drew | refine World.ownsRow.alloc ?_ _ | refine World.ownsRow.drew ?_)) _ 7 7 (C7 [(0,y),(17,0),(4,0),(0,x),(2,1),(22,0),(5,0)]) (by (try (simp only [Act.put,List.setIfInBounds_toArray,List.set_cons_zero,List.set_cons_succ]));rfl) rfl (World.news_of_block (cs:=#[.int .i64 0,.int .i64 (y),.int .i64 17,.int .i64 (0),.int .i64 4,.int .i64 (0),.int .i64 0,.int .i64 (x),.int .i64 2,.int .i64 (1),.int .i64 22,.int .i64 (0),.int .i64 5,.int .i64 (0)]) (t:=62) (fr:=(0,0)) (by first | exact G9 Q9 | (exact G9 rfl))) (J2 _) Q8 Q0 Q8 P6 _ rfl ?_;intro gq capq w5 hown5 hgrow5 hat5 hlt5;obtain ⟨y0,y1,y2,hM,hBl⟩:=L3 (new:=[(0,y),(17,0),(4,0),(0,x),(2,1),(22,0),(5,0)]) hcv P1 hgrow5 rfl hown5;clear hown5 hgrow5 hat5 hlt5)))
 all_goals
  go_wp2_with fail;go_end0
  exact J8 rfl hM hBl
end Go.Proofs.YtbkmgoffiigdbabGreatDoor
