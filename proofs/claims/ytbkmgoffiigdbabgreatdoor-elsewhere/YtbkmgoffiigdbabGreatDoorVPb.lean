import Derived.Test.YtbkmgoffiigdbabGreatDoorVPa
namespace Go.Proofs.YtbkmgoffiigdbabGreatDoor
open Go.RowKit Go.Sort
set_option maxHeartbeats 4000000
set_option maxRecDepth 100000
def DoA (own:Own) (mb:Nat) (g:PgR) (s:McA) (w:World) (e:Ending) (w':World):Prop :=
 aP own mb g (fun R'=>McR.abs { R' with st:=s.st }=s∧F1 R') s.st w e w'
theorem D0.doA {own:Own} {mb:Nat} {g:PgR} {R:McR} {fs:List FrR} {f:FrR} {pc:Nat} {l:List Val} {w:World} {e:Ending} {w':World} (h:D0 own mb g R fs f pc l (.int .i64 0) w e w') (hq:F1 R):DoA own mb g (goA R.abs (fs.map FrR.abs) f.abs pc l) w e w':=by
 obtain⟨own',sv',he,hm,ht⟩:=h;exact⟨own',_,he,hm,⟨a7S R fs f pc l sv',hq⟩,ht⟩
theorem G7.doA {own:Own} {mb:Nat} {g:PgR} {R:McR} {st:Int} {w:World} {e:Ending} {w':World} (h:G7 st w e w') (hm:A3 w own mb g R) (hq:F1 R):DoA own mb g (F4 R.abs st) w e w':=by
 obtain⟨he,hb⟩:=h;exact⟨own,R,he,hm.same hb.size fun k hk=>hb.block k hk,⟨rfl,hq⟩,A8.of_below hb⟩
theorem a0i {own:Own} {mb:Nat} {g:PgR} {R:McR} {fs:List FrR} {f:FrR} {rest:List Val} {va:Option Addr} {sb:Nat} {w:World} (hq:F1 R) {k:Nat} (hk:k=0∨k=1) (h:C9 w own mb g R fs f rest [] va sb) (a:Int) (vc:Nat) :
  Calls Tryz.prog (doT k) #[.pointer (some ⟨mb,0,none⟩),.int .i64 a,.slice va 0 vc] w fun e w'=>DoA own mb g (doA g k a R.abs (fs.map FrR.abs) f.abs rest []) w e w':=by
 rcases hk with rfl | rfl
 ·exact (uF h a vc).mono fun _ _ h=>h.doA hq
 ·exact (a3O h a vc).mono fun _ _ h=>h.doA hq
theorem a8l {own:Own} {mb:Nat} {g:PgR} {R:McR} {fs:List FrR} {f:FrR} {rest:List Val} {va:Option Addr} {sb:Nat} {w:World} (hq:F1 R) (h:C9 w own mb g R fs f rest [] va sb) (a:Int) (h0:0≤a) (hl:a < f.loc.length) (vc:Nat) :
  Calls Tryz.prog (doT 2) #[.pointer (some ⟨mb,0,none⟩),.int .i64 a,.slice va 0 vc] w fun e w'=>DoA own mb g (doA g 2 a R.abs (fs.map FrR.abs) f.abs rest []) w e w':=by
 obtain⟨n,rfl⟩:=Int.eq_ofNat_of_zero_le h0;obtain⟨x,hx⟩:∃x,f.loc[n]?=some x:=⟨_,List.getElem?_eq_getElem Q8⟩
 refine (a1p h n x hx vc).mono fun _ _ h=>?_
 have e:f.abs.loc.getD (n:Int).toNat (0,0)=x:=by rw [Int.toNat_natCast,List.getD_eq_getElem?_getD];show (f.loc[n]?).getD (0,0)=x;rw [hx];rfl
 have:=h.doA hq;show DoA own mb g (goA R.abs (fs.map FrR.abs) f.abs (f.abs.pc+1) (rest++[f.abs.loc.getD (n:Int).toNat (0,0)])) _ _ _;rw[e];exact this
theorem a6M {own:Own} {mb:Nat} {g:PgR} {R:McR} {fs:List FrR} {f:FrR} {rest:List Val} {x:Val} {va:Option Addr} {sb:Nat} {w:World} (hq:F1 R) (h:C9 w own mb g R fs f rest [x] va sb) (a:Int) (h0:0≤a) (hl:a < f.loc.length) (vc:Nat) :
  Calls Tryz.prog (doT 3) #[.pointer (some ⟨mb,0,none⟩),.int .i64 a,.slice va 1 vc] w fun e w'=>DoA own mb g (doA g 3 a R.abs (fs.map FrR.abs) f.abs rest [x]) w e w':=by
 obtain⟨n,rfl⟩:=Int.eq_ofNat_of_zero_le h0;refine (zC h n Q8 vc).mono ?_;rintro e w' ⟨own',R',he,hm,⟨sv',rfl⟩,ht⟩;exact⟨own',_,he,hm,⟨by simp [doA,McR.abs,FrR.abs],hq⟩,ht⟩
theorem a1W {own:Own} {mb:Nat} {g:PgR} {R:McR} {fs:List FrR} {f:FrR} {rest:List Val} {x:Val} {va:Option Addr} {sb:Nat} {w:World} (hq:F1 R) {k:Nat} (hk:k=4∨k=5∨k=25) (h:C9 w own mb g R fs f rest [x] va sb) (a:Int) (vc:Nat) :
  Calls Tryz.prog (doT k) #[.pointer (some ⟨mb,0,none⟩),.int .i64 a,.slice va 1 vc] w fun e w'=>DoA own mb g (doA g k a R.abs (fs.map FrR.abs) f.abs rest [x]) w e w':=by
 rcases hk with rfl | rfl | rfl
 ·exact (a3L h a vc).mono fun _ _ h=>h.doA hq
 ·refine (a3P h a vc).mono fun _ _ h=>?_
  rw[List.append_nil] at h;exact h.doA hq
 ·exact (zA h a vc).mono fun _ _ h=>h.doA hq
theorem nG {own:Own} {mb:Nat} {g:PgR} {R:McR} {fs:List FrR} {f:FrR} {rest:List Val} {x y:Val} {va:Option Addr} {sb:Nat} {w:World} (hq:F1 R) {k:Nat} (hk:k=6∨k=7∨k=8∨k=9∨k=10∨k=11) (h:C9 w own mb g R fs f rest [x,y] va sb) (a:Int) (vc:Nat) :
  Calls Tryz.prog (doT k) #[.pointer (some ⟨mb,0,none⟩),.int .i64 a,.slice va 2 vc] w fun e w'=>DoA own mb g (doA g k a R.abs (fs.map FrR.abs) f.abs rest [x,y]) w e w':=by
 obtain⟨x1,x2⟩:=x;obtain⟨y1,y2⟩:=y;by_cases hc:x1=1∧y1=1
 ·rcases hk with rfl | rfl | rfl | rfl | rfl | rfl
  ·exact (qQ h a vc).mono fun _ _ h=>h.doA hq
  ·obtain ⟨rfl,rfl⟩:=hc
   exact (a8V h a vc).mono fun _ _ h=>h.doA hq
  ·obtain ⟨rfl,rfl⟩:=hc
   exact (a8Z h a vc).mono fun _ _ h=>h.doA hq
  ·obtain ⟨rfl,rfl⟩:=hc
   exact (a8X h a vc).mono fun _ _ h=>h.doA hq
  ·obtain ⟨rfl,rfl⟩:=hc
   exact (a7L h a vc).mono fun _ _ h=>h.doA hq
  ·exact (qP h a vc).mono fun _ _ h=>h.doA hq
 ·have e:∀z,L8 R.abs (fs.map FrR.abs) f.abs rest (x1,x2) (y1,y2) z=F4 R.abs 2:=fun z=>if_neg hc
  rcases hk with rfl | rfl | rfl | rfl | rfl | rfl
  ·exact (qQ h a vc).mono fun _ _ h=>h.doA hq
  ·refine (a1q h hc a vc).mono fun _ _ ht=>?_
   show DoA own mb g (L8 _ _ _ _ _ _ _) _ _ _;rw[e];exact ht.doA h.m hq
  ·refine (a1s h hc a vc).mono fun _ _ ht=>?_
   show DoA own mb g (L8 _ _ _ _ _ _ _) _ _ _;rw[e];exact ht.doA h.m hq
  ·refine (a1r h hc a vc).mono fun _ _ ht=>?_
   show DoA own mb g (L8 _ _ _ _ _ _ _) _ _ _;rw[e];exact ht.doA h.m hq
  ·refine (zF h hc a vc).mono fun _ _ ht=>?_
   show DoA own mb g (L8 _ _ _ _ _ _ _) _ _ _;rw[e];exact ht.doA h.m hq
  ·exact (qP h a vc).mono fun _ _ h=>h.doA hq
theorem a8k {own:Own} {mb:Nat} {g:PgR} {R:McR} {fs:List FrR} {f:FrR} {rest:List Val} {va:Option Addr} {sb:Nat} {w:World} (hq:F1 R) (h:C9 w own mb g R fs f rest [] va sb) (a:Int) (h0:0≤a) (vc:Nat) :
  Calls Tryz.prog (doT 12) #[.pointer (some ⟨mb,0,none⟩),.int .i64 a,.slice va 0 vc] w fun e w'=>DoA own mb g (doA g 12 a R.abs (fs.map FrR.abs) f.abs rest []) w e w':=by
 obtain⟨n,rfl⟩:=Int.eq_ofNat_of_zero_le h0;exact (qO h n vc).mono fun _ _ h=>h.doA hq
theorem a1V {own:Own} {mb:Nat} {g:PgR} {R:McR} {fs:List FrR} {f:FrR} {rest:List Val} {x:Val} {va:Option Addr} {sb:Nat} {w:World} (hq:F1 R) (h:C9 w own mb g R fs f rest [x] va sb) (a:Int) (h0:0≤a) (vc:Nat) :
  Calls Tryz.prog (doT 13) #[.pointer (some ⟨mb,0,none⟩),.int .i64 a,.slice va 1 vc] w fun e w'=>DoA own mb g (doA g 13 a R.abs (fs.map FrR.abs) f.abs rest [x]) w e w':=by
 obtain⟨n,rfl⟩:=Int.eq_ofNat_of_zero_le h0
 cases hg:aC x
 ·refine (tF h hg n vc).mono fun _ _ h=>?_
  show DoA own mb g (if aC x=true then _ else _) _ _ _;rw[hg];exact h.doA hq
 ·refine (vX h hg n vc).mono fun _ _ h=>?_
  show DoA own mb g (if aC x=true then _ else _) _ _ _;rw[hg];exact h.doA hq
theorem a6L {own:Own} {mb:Nat} {g:PgR} {R:McR} {fs:List FrR} {f:FrR} {rest:List Val} {x:Val} {va:Option Addr} {sb:Nat} {w:World} (hq:F1 R) (h:C9 w own mb g R fs f rest [x] va sb) (a:Int) (vc:Nat) :
  Calls Tryz.prog (doT 26) #[.pointer (some ⟨mb,0,none⟩),.int .i64 a,.slice va 1 vc] w fun e w'=>DoA own mb g (doA g 26 a R.abs (fs.map FrR.abs) f.abs rest [x]) w e w':=by
 obtain⟨x1,x2⟩:=x;by_cases h1:x1=1
 ·subst h1
  by_cases hl:40≤R.out.length
  ·refine (vY h hl a vc).mono fun _ _ ht=>?_
   have e:doA g 26 a R.abs (fs.map FrR.abs) f.abs rest [(1,x2)]=F4 R.abs 7:=by
    have hl':40≤R.abs.out.length:=hl;simp[doA,hl']
   rw[e];exact ht.doA h.m hq
  ·refine (nX h Q8 a vc).mono ?_
   rintro e w' ⟨own',R',he,hm,⟨ov',sv',rfl⟩,ht⟩;have e:doA g 26 a R.abs (fs.map FrR.abs) f.abs rest [(1,x2)]=⟨0,R.out++[x2],fs.map FrR.abs++[⟨f.fn,f.pc+1,f.loc,rest⟩],R.obs.map ObR.abs,R.dr⟩:=by
    have hl':¬40≤R.abs.out.length:=hl;simp only[doA,hl'];rfl
   rw[e];exact⟨own',_,he,hm,⟨by simp [McR.abs,FrR.abs],fun e=>by simp at e⟩,ht⟩
 ·refine (zB h h1 a vc).mono fun _ _ ht=>?_
  have e:doA g 26 a R.abs (fs.map FrR.abs) f.abs rest [(x1,x2)]=F4 R.abs 2:=if_pos h1;rw[e];exact ht.doA h.m hq
theorem a8j {own:Own} {mb:Nat} {g:PgR} {R:McR} {fs:List FrR} {f:FrR} {rest:List Val} {va:Option Addr} {sb:Nat} {w:World} (hq:F1 R) (h:C9 w own mb g R fs f rest [] va sb) (a:Int) (vc:Nat) :
  Calls Tryz.prog (doT 27) #[.pointer (some ⟨mb,0,none⟩),.int .i64 a,.slice va 0 vc] w fun e w'=>DoA own mb g (doA g 27 a R.abs (fs.map FrR.abs) f.abs rest []) w e w':=by
 refine (qN h.m a _).mono ?_;rintro e w' ⟨own',R',he,hm,rfl,ht⟩;exact⟨own',_,he,hm,⟨by simp [doA,McR.abs],hq⟩,ht⟩
theorem jR (p:Option Addr) (v1 v2:Int) (h2:(v1 == 2)=false) (w:World) :
  Calls Tryz.prog 122 #[.pointer p,.agg #[.int .u8 v1,.int .i64 v2]] w fun e w'=>e=.returned (.agg #[.int .u8 0,.slice none 0 0])∧Below w.heap.size w w':=by
 go_enter Tryz.func122,Tryz.ntmps122;go_wp2
 all_goals exact bodyPost_ret (v:=.agg #[.int .u8 0,.slice none 0 0]) (by simp [results,Tryz.results122,go_sem]) rfl ⟨rfl,P0⟩
theorem uY (k kind:Int) (fa:Option Addr) (n fc:Nat) (i1 i2:Int) (hn:n≤1000) (w:World) :
  Calls Tryz.prog 221 #[.agg #[.int .u8 k,.slice fa n fc],.int .u8 kind,.agg #[.int .u8 i1,.int .i64 i2]] w fun e w'=>e=.returned (.int .i64 (M1 k kind n i1 i2))∧Below w.heap.size w w':=by
 by_cases h1:k=kind
 rotate_left
 ·have hr:M1 k kind n i1 i2=2:=if_neg (fun e=>h1 e.1)
  rw[hr];clear hr;go_enter Tryz.func221,Tryz.ntmps221;go_wp2_with (first | (go_at_call 140;refine (D4 _ _ _).mono ?_;rintro e w' ⟨rfl,o4,rfl⟩) | (go_at_call 41;refine (C2 _ _ _ _).mono ?_;rintro e w' ⟨rfl,rfl⟩))
  go_ret;exact⟨rfl,P0⟩
 ·subst h1
  cases h2:(i1 == 1)
  ·have hr:M1 k k n i1 i2=2:=if_neg (fun e=>by rw [e.2] at h2;simp at h2)
   rw[hr];clear hr;go_enter Tryz.func221,Tryz.ntmps221;go_wp2_with (first | (go_at_call 140;refine (D4 _ _ _).mono ?_;rintro e w' ⟨rfl,o4,rfl⟩) | (go_at_call 41;refine (C2 _ _ _ _).mono ?_;rintro e w' ⟨rfl,rfl⟩))
   go_ret;exact⟨rfl,P0⟩
  ·have e1:k=k∧i1=1:=⟨rfl,beq_iff_eq.1 h2⟩
   cases hin:B9 i2 0 ((n:Int) - 1)
   ·have hr:M1 k k n i1 i2=3:=by
     unfold M1;rw[if_pos e1,if_neg];rintro⟨q1,q2⟩;have:B9 i2 0 ((n:Int) - 1)=true:=F8 q1 Q8;rw[this] at hin;cases hin
    rw[hr];clear hr e1;go_enter Tryz.func221,Tryz.ntmps221;go_wp2_with (first | (go_at_call 140;refine (D4 _ _ _).mono ?_;rintro e w' ⟨rfl,o4,rfl⟩) | (go_at_call 41;refine (C2 _ _ _ _).mono ?_;rintro e w' ⟨rfl,rfl⟩))
    go_ret;exact⟨rfl,P0⟩
   ·have hr:M1 k k n i1 i2=0:=by
     unfold M1;rw[L6] at hin;rw[if_pos e1,if_pos Q8]
    rw[hr];clear hr e1;go_enter Tryz.func221,Tryz.ntmps221;go_wp2_with (first | (go_at_call 140;refine (D4 _ _ _).mono ?_;rintro e w' ⟨rfl,o4,rfl⟩) | (go_at_call 41;refine (C2 _ _ _ _).mono ?_;rintro e w' ⟨rfl,rfl⟩))
    go_ret;exact⟨rfl,P0⟩
def kA (w:World) (mb:Nat) (x:Val) (kd:Int) (fa:Option Addr) (n fc:Nat):Prop :=
 ∀W,Below w.heap.size w W→Calls Tryz.prog 122 #[.pointer (some ⟨mb,4,none⟩),.agg #[.int .u8 x.1,.int .i64 x.2]] W fun e w'=>e=.returned (.agg #[.int .u8 kd,.slice fa n fc])∧Below W.heap.size W w'
theorem bO {own:Own} {mb:Nat} {g:PgR} {R:McR} {w:World} (h:A3 w own mb g R) (x:Val) (hx:VOk (R.obs.map ObR.abs) x) :
  ∃kd fa n fc,kA w mb x kd fa n fc∧(A4 (R.obs.map ObR.abs) x).1=kd∧(A4 (R.obs.map ObR.abs) x).2.length=n:=by
 by_cases h2:x.1=2
 ·obtain ⟨h0,o',ho',_⟩:=hx.ref h2
  rw[List.getElem?_map] at ho';obtain⟨o,ho,rfl⟩:=Option.map_eq_some_iff.1 ho';obtain⟨j,hj⟩:=Int.eq_ofNat_of_zero_le h0;obtain⟨x1,x2⟩:=x;simp only at h2 hj ho;subst h2 hj;rw[Int.toNat_natCast] at ho;obtain⟨fa,fc,hfv⟩:=C6 (h.fld j o ho);have e:A4 (R.obs.map ObR.abs) (2,(j:Int))=o.abs:=by
   unfold A4;rw[if_pos rfl,List.getD_eq_getElem?_getD,List.getElem?_map];simp only[Int.toNat_natCast,ho];rfl
  rw[e];refine⟨o.kind,fa,o.fl.length,fc,fun W hW=>?_,rfl,rfl⟩;have:=aN (h.same hW.size fun k hk=>hW.block k hk) ho;rw[hfv] at this;exact this
 ·have e:A4 (R.obs.map ObR.abs) x=(0,[]):=if_neg h2
  rw[e];exact⟨0,none,0,0,fun W _=>jR _ _ _ (beq_eq_false_iff_ne.2 h2) W,rfl,rfl⟩
theorem cG (o:Ob) (kind:Int) (ix:Val):J7 o kind ix=M1 o.1 kind o.2.length ix.1 ix.2:=by
 unfold J7 M1;by_cases h:o.1=kind∧ix.1=1
 ·rw [if_neg Q8,if_pos h]
 ·rw [if_pos Q8,if_neg h]
theorem gE {own:Own} {mb:Nat} {g:PgR} {R:McR} {fs:List FrR} {f:FrR} {rest more:List Val} {x:Val} {va:Option Addr} {sb:Nat} {w:World} (h:C9 w own mb g R fs f rest (x::more) va sb) {kd:Int} {fa:Option Addr} {n fc:Nat} (hr:kA w mb x kd fa n fc) (hn:n≤1000) (kind:Int) (ix:Val) (k:Nat) (hk:more.length+1=k) (hk3:k≤3) (hb:M1 kd kind n ix.1 ix.2≠0) (vc:Nat) :
  Calls Tryz.prog 216 #[.pointer (some ⟨mb,0,none⟩),.slice va k vc,.int .u8 kind,.agg #[.int .u8 ix.1,.int .i64 ix.2]] w fun e w'=>G7 (M1 kd kind n ix.1 ix.2) w e w':=by
 obtain⟨rfl,hsb,_,s0,s1⟩:=h.first
 obtain⟨x1,x2⟩:=x;simp only at s0 s1;have hmb:mb < w.heap.size:=h.m.lt mb _ h.m.me;have HREF:Hid (∀W,Below w.heap.size w W→Calls Tryz.prog 122 #[.pointer (some ⟨mb,4,none⟩),.agg #[.int .u8 x1,.int .i64 x2]] W fun e w'=>e=.returned (.agg #[.int .u8 kd,.slice fa n fc])∧Below W.heap.size W w'):=hr;have HRE:Hid (∀W,Calls Tryz.prog 221 #[.agg #[.int .u8 kd,.slice fa n fc],.int .u8 kind,.agg #[.int .u8 ix.1,.int .i64 ix.2]] W fun e w'=>e=.returned (.int .i64 (M1 kd kind n ix.1 ix.2))∧Below W.heap.size W w'):=fun W=>uY kd kind fa n fc ix.1 ix.2 hn W
 generalize M1 kd kind n ix.1 ix.2=t at *
 have hb':(t != 0)=true:=bne_iff_ne.2 hb;have hne2:sb≠w.heap.size+1:=by omega
 clear h hr hb;go_enter Tryz.func216,Tryz.ntmps216;go_wp2_with fail;go_region_with (first | (go_at_call 122;refine (HREF.out _ ?_).mono ?_;exact P0;rintro e w2 ⟨rfl,hb2⟩;obtain ⟨hcc,hff⟩:=W9 hb2;have hs2:=hb2.size;have hz2:w.heap.size < w2.heap.size:=(by simp at hs2;omega);have hz2c:sb < w2.heap.size:=Q8;have hz2d:mb < w2.heap.size:=Q8;(try (have hz2e:w.heap.size+1 < w2.heap.size:=(by simp at hs2;omega)));have HB2:Hid (Below w.heap.size w w2):=A1 hb2 P0;clear hb2))
 all_goals
  go_wp2_with (go_at_call 221;refine (HRE.out _).mono ?_;rintro e w3 ⟨rfl,hb3⟩;have HB3:Hid (Below w.heap.size w w3):=A1 hb3 (by have hq:=HB2.out.size;repeat (first | exact HB2.out | refine Below.drew ?_ | refine Below.setCell ?_ P6 _ | refine Below.alloc ?_ P6 _));clear hb3)
  go_ret;exact⟨rfl,HB3.out⟩
theorem mC {own:Own} {mb:Nat} {g:PgR} {R:McR} {fs:List FrR} {f:FrR} {rest more:List Val} {x:Val} {va:Option Addr} {sb:Nat} {w:World} (h:C9 w own mb g R fs f rest (x::more) va sb) {kd:Int} {fa:Option Addr} {n fc:Nat} (hr:kA w mb x kd fa n fc) (hn:n≤1000) (kind:Int) (ix:Val) (k:Nat) (hk:more.length+1=k) (hk3:k≤3) (hb:M1 kd kind n ix.1 ix.2≠0) (vc:Nat) :
  Calls Tryz.prog 217 #[.pointer (some ⟨mb,0,none⟩),.slice va k vc,.int .u8 kind,.agg #[.int .u8 ix.1,.int .i64 ix.2]] w fun e w'=>G7 (M1 kd kind n ix.1 ix.2) w e w':=by
 obtain⟨rfl,hsb,_,s0,s1⟩:=h.first
 obtain⟨x1,x2⟩:=x;simp only at s0 s1;have hmb:mb < w.heap.size:=h.m.lt mb _ h.m.me;have HREF:Hid (∀W,Below w.heap.size w W→Calls Tryz.prog 122 #[.pointer (some ⟨mb,4,none⟩),.agg #[.int .u8 x1,.int .i64 x2]] W fun e w'=>e=.returned (.agg #[.int .u8 kd,.slice fa n fc])∧Below W.heap.size W w'):=hr;have HRE:Hid (∀W,Calls Tryz.prog 221 #[.agg #[.int .u8 kd,.slice fa n fc],.int .u8 kind,.agg #[.int .u8 ix.1,.int .i64 ix.2]] W fun e w'=>e=.returned (.int .i64 (M1 kd kind n ix.1 ix.2))∧Below W.heap.size W w'):=fun W=>uY kd kind fa n fc ix.1 ix.2 hn W
 generalize M1 kd kind n ix.1 ix.2=t at *
 have hb':(t != 0)=true:=bne_iff_ne.2 hb;have hne2:sb≠w.heap.size+1:=by omega
 clear h hr hb;go_enter Tryz.func217,Tryz.ntmps217;go_wp2_with fail;go_region_with (first | (go_at_call 122;refine (HREF.out _ ?_).mono ?_;exact P0;rintro e w2 ⟨rfl,hb2⟩;obtain ⟨hcc,hff⟩:=W9 hb2;have hs2:=hb2.size;have hz2:w.heap.size < w2.heap.size:=(by simp at hs2;omega);have hz2c:sb < w2.heap.size:=Q8;have hz2d:mb < w2.heap.size:=Q8;(try (have hz2e:w.heap.size+1 < w2.heap.size:=(by simp at hs2;omega)));have HB2:Hid (Below w.heap.size w w2):=A1 hb2 P0;clear hb2))
 all_goals
  go_wp2_with (go_at_call 221;refine (HRE.out _).mono ?_;rintro e w3 ⟨rfl,hb3⟩;have HB3:Hid (Below w.heap.size w w3):=A1 hb3 (by have hq:=HB2.out.size;repeat (first | exact HB2.out | refine Below.drew ?_ | refine Below.setCell ?_ P6 _ | refine Below.alloc ?_ P6 _));clear hb3)
  go_ret;exact⟨rfl,HB3.out⟩
theorem C9.three {w:World} {own:Own} {mb:Nat} {g:PgR} {R:McR} {fs:List FrR} {f:FrR} {rest:List Val} {x y z:Val} {va:Option Addr} {sb:Nat} (h:C9 w own mb g R fs f rest [x,y,z] va sb) :
  ∃o,va=some ⟨sb,o,none⟩∧sb < w.heap.size∧w.cell? ⟨sb,o,none⟩=some (.int .u8 x.1)∧w.cell? ⟨sb,o+1,none⟩=some (.int .i64 x.2)∧w.cell? ⟨sb,o+2,none⟩=some (.int .u8 y.1)∧w.cell? ⟨sb,o+3,none⟩=some (.int .i64 y.2)∧w.cell? ⟨sb,o+4,none⟩=some (.int .u8 z.1)∧w.cell? ⟨sb,o+5,none⟩=some (.int .i64 z.2):=by
 obtain⟨h1,h2,h3⟩:=h.hva Q9;obtain⟨h4,h5⟩:=h3 0 x rfl;obtain⟨h6,h7⟩:=h3 1 y rfl;obtain⟨h8,h9⟩:=h3 2 z rfl;exact⟨_,h1,h.m.lt sb _ h2,by simpa using h4,by simpa using h5,by simpa using h6,by simpa using h7,by simpa using h8,by simpa using h9⟩
theorem sR {own:Own} {mb:Nat} {g:PgR} {R:McR} {fs:List FrR} {f:FrR} {rest:List Val} {va:Option Addr} {sb:Nat} {w:World} {j i:Nat} {o:ObR} {y z:Val} (h:C9 w own mb g R fs f rest [(2,(j:Int)),z,y] va sb) (hj:R.obs[j]?=some o) (hi:i < o.fl.length) (hfn:o.fl.length≤1000) (vc:Nat) :
  Calls Tryz.prog 217 #[.pointer (some ⟨mb,0,none⟩),.slice va 3 vc,.int .u8 o.kind,.agg #[.int .u8 1,.int .i64 (i:Int)]] w fun e w'=>aP own mb g (pV R fs f rest j i o y) 0 w e w':=by
 obtain⟨so,rfl,hsb,s0,s1,_,_,s2,s3⟩:=h.three;obtain⟨y1,y2⟩:=y;simp only at s0 s1 s2 s3;obtain⟨x,hx⟩:∃x,o.fl[i]?=some x:=⟨_,List.getElem?_eq_getElem hi⟩
 obtain⟨fb,fc,hfv,_,hfb⟩:=(h.m.fld j o hj).1.form Q8;have hofb:own fb=some (.fld j):=(h.m.fld j o hj).2 fb (by rw [hfv];rfl);have hrow:=(h.m.fld j o hj).1;rw[hfv] at hrow;have hcell:∀t,t < 2→w.cell? ⟨fb,i*2+t,none⟩=(N0 x)[t]?:=fun t ht=>by
  rw[hrow.cellAt _ Q8];exact C3 E7 hx ht
 have y0:w.cell? ⟨fb,i*2,none⟩=some (.int .u8 x.1):=hcell 0 Q8;have yy:w.cell? ⟨fb,i*2+1,none⟩=some (.int .i64 x.2):=hcell 1 Q8;have z0:=hrow.frozenAt (i*2);have z1:=hrow.frozenAt (i*2+1);have hmb:mb < w.heap.size:=h.m.lt mb _ h.m.me;have HREF:Hid (∀W,Below w.heap.size w W→Calls Tryz.prog 122 #[.pointer (some ⟨mb,4,none⟩),.agg #[.int .u8 2,.int .i64 (j:Int)]] W fun e w'=>e=.returned (.agg #[.int .u8 o.kind,.slice (some ⟨fb,0,none⟩) o.fl.length fc])∧Below W.heap.size W w'):=by
  intro W hW;have:=aN (h.m.same hW.size fun k hk=>hW.block k hk) hj;rw[hfv] at this;exact this
 have hsf:sb≠fb:=fun e=>by
  obtain⟨_,q2,_⟩:=h.hva Q9;rw[e,hofb] at q2;cases q2
 have HH:=hid h;have HJ:=hid hj;have HX:=hid hx;have HFV:=hid hfv;have HOFB:=hid hofb;have hne1:fb≠w.heap.size+1:=by omega
 have hne2:sb≠w.heap.size+1:=by omega
 have hf1:fb < w.heap.size+1:=by omega
 have hf2:fb < w.heap.size+1+1:=by omega
 have hs1:sb < w.heap.size+1:=by omega
 have hs2':sb < w.heap.size+1+1:=by omega
 clear h hj hx hfv hrow hcell hofb;go_enter Tryz.func217,Tryz.ntmps217;go_wp2_with fail;go_region_with (first | (go_at_call 122;refine (HREF.out _ ?_).mono ?_;exact P0;rintro e w2 ⟨rfl,hb2⟩;obtain ⟨hcc,hff⟩:=W9 hb2;have hs2:=hb2.size;have hz2:w.heap.size < w2.heap.size:=(by simp at hs2;omega);have hz2b:fb < w2.heap.size:=Q8;have hz2c:sb < w2.heap.size:=Q8;have hz2d:mb < w2.heap.size:=Q8;(try (have hz2e:w.heap.size+1 < w2.heap.size:=(by simp at hs2;omega)));have HB2:Hid (Below w.heap.size w w2):=A1 hb2 P0;clear hb2))
 all_goals
  go_wp2_with (first | (go_at_call 221;refine (sJ _ _ _ _ _ hi hfn _).mono ?_;rintro e w3 ⟨rfl,hb3⟩;obtain ⟨hcc3,hff3⟩:=W9 hb3;have hs3:=hb3.size;have hq3:w2.heap.size≤w3.heap.size:=(by simp at hs3;omega);(try (have hz3a:w2.heap.size < w3.heap.size:=(by simp at hs3;omega)));have hz3:w.heap.size < w3.heap.size:=Q8;have hz3b:fb < w3.heap.size:=Q8;have hz3c:sb < w3.heap.size:=Q8;have hz3d:mb < w3.heap.size:=Q8;(try (have hz3e:w.heap.size+1 < w3.heap.size:=Q8));have HB3:Hid (Below w.heap.size w w3):=A1 hb3 (by have hq:=HB2.out.size;repeat (first | exact HB2.out | refine Below.drew ?_ | refine Below.setCell ?_ P6 _ | refine Below.alloc ?_ P6 _));clear hb3))
  have g0:=(HB3.out.frozen (p:=⟨fb,i*2,none⟩) hfb).trans z0;have g1:=(HB3.out.frozen (p:=⟨fb,i*2+1,none⟩) hfb).trans z1;clear hff hff3;go_region
  all_goals
   obtain⟨hA,hT⟩:=a3o (y:=(y1,y2)) HH.out (Below.drew HB3.out) HJ.out HX.out HFV.out HOFB.out;have HA:=hid hA;have HT:=hid hT;clear hA hT hcc hcc3 g0 g1;go_wp2_with (go_at_call 205;refine (HA.out.answer (Below.refl _ _) vc _ [] (aE _ _) Q9 3 rfl).mono ?_;rintro e w' ⟨own',sv',rfl,hm,ht⟩)
   go_ret;exact⟨own',_,rfl,hm,⟨sv',by rw [List.append_nil]⟩,HT.out.trans ht⟩
theorem a3M {own:Own} {mb:Nat} {g:PgR} {R:McR} {fs:List FrR} {f:FrR} {rest:List Val} {va:Option Addr} {sb:Nat} {w:World} {x:Val} (h:C9 w own mb g R fs f rest [x] va sb) {kd:Int} {fa:Option Addr} {n fc:Nat} (hr:kA w mb x kd fa n fc) (hn:n≤1000) (a:Int) (hb:M1 kd 1 n 1 a≠0) (vc:Nat) :
  Calls Tryz.prog 196 #[.pointer (some ⟨mb,0,none⟩),.int .i64 a,.slice va 1 vc] w fun e w'=>G7 (M1 kd 1 n 1 a) w e w':=by
 have HA:Hid (∀W,Below w.heap.size w W→Calls Tryz.prog 216 #[.pointer (some ⟨mb,0,none⟩),.slice va 1 vc,.int .u8 1,.agg #[.int .u8 1,.int .i64 a]] W fun e w'=>G7 (M1 kd 1 n 1 a) W e w'):=fun W hW=>gE (h.later hW) (fun V hV=>hr V (A1 hV hW)) hn 1 (1,a) 1 rfl Q8 hb vc
 clear h hr hb;generalize M1 kd 1 n 1 a=t at *
 go_enter Tryz.func196,Tryz.ntmps196;go_wp2_with (first | (go_at_call 152;refine (N4 _ _).mono ?_;rintro e w' ⟨rfl,o,rfl⟩) | (go_at_call 216;refine (HA.out _ ?_).mono ?_;exact P0;rintro e w2 ⟨rfl,hb2⟩;have HB2:Hid (Below w.heap.size w w2):=A1 hb2 P0;clear hb2))
 go_ret;exact⟨rfl,HB2.out⟩
theorem a3Q {own:Own} {mb:Nat} {g:PgR} {R:McR} {fs:List FrR} {f:FrR} {rest:List Val} {va:Option Addr} {sb:Nat} {w:World} {x y:Val} (h:C9 w own mb g R fs f rest [x,y] va sb) {kd:Int} {fa:Option Addr} {n fc:Nat} (hr:kA w mb x kd fa n fc) (hn:n≤1000) (a:Int) (hb:M1 kd 1 n 1 a≠0) (vc:Nat) :
  Calls Tryz.prog 197 #[.pointer (some ⟨mb,0,none⟩),.int .i64 a,.slice va 2 vc] w fun e w'=>G7 (M1 kd 1 n 1 a) w e w':=by
 have HA:Hid (∀W,Below w.heap.size w W→Calls Tryz.prog 217 #[.pointer (some ⟨mb,0,none⟩),.slice va 2 vc,.int .u8 1,.agg #[.int .u8 1,.int .i64 a]] W fun e w'=>G7 (M1 kd 1 n 1 a) W e w'):=fun W hW=>mC (h.later hW) (fun V hV=>hr V (A1 hV hW)) hn 1 (1,a) 2 rfl Q8 hb vc
 clear h hr hb;generalize M1 kd 1 n 1 a=t at *
 go_enter Tryz.func197,Tryz.ntmps197;go_wp2_with (first | (go_at_call 152;refine (N4 _ _).mono ?_;rintro e w' ⟨rfl,o,rfl⟩) | (go_at_call 217;refine (HA.out _ ?_).mono ?_;exact P0;rintro e w2 ⟨rfl,hb2⟩;have HB2:Hid (Below w.heap.size w w2):=A1 hb2 P0;clear hb2))
 go_ret;exact⟨rfl,HB2.out⟩
def a9v (Q:World→Ending→World→Prop) (w:World) (e:Ending) (w':World):Prop:=Q w e w'
theorem a5W {own:Own} {mb:Nat} {g:PgR} {R:McR} {fs:List FrR} {f:FrR} {rest:List Val} {va:Option Addr} {sb:Nat} {w:World} {x y:Val} (h:C9 w own mb g R fs f rest [x,y] va sb) (a:Int) (vc:Nat) (Q:World→Ending→World→Prop) (hQ:∀W e w',Below w.heap.size w W→Q W e w'→Q w e w') (hret:∀W e w',Q W e w'→∃t,e=.returned (.int .i64 t))
  (HA:Hid (∀W,Below w.heap.size w W→Calls Tryz.prog 216 #[.pointer (some ⟨mb,0,none⟩),.slice va 2 vc,.int .u8 2,.agg #[.int .u8 y.1,.int .i64 y.2]] W fun e w'=>Q W e w')) :
  Calls Tryz.prog 198 #[.pointer (some ⟨mb,0,none⟩),.int .i64 a,.slice va 2 vc] w fun e w'=>a9v Q w e w':=by
 obtain⟨o,rfl,hsb,c0,c1,c2,c3⟩:=h.two;have HQ:=hid hQ;have HRET:=hid hret;clear h hQ hret;go_enter Tryz.func198,Tryz.ntmps198;go_wp2_with (first | (go_at_call 216;refine (HA.out _ ?_).mono ?_;exact P0;intro e w2 hq2;obtain ⟨t,rfl⟩:=HRET.out _ _ _ hq2;have HQ2:Hid (Q w (.returned (.int .i64 t)) w2):=HQ.out _ _ _ P0 hq2;clear hq2))
 go_ret;exact HQ2.out
theorem a3R {own:Own} {mb:Nat} {g:PgR} {R:McR} {fs:List FrR} {f:FrR} {rest:List Val} {va:Option Addr} {sb:Nat} {w:World} {x y z:Val} (h:C9 w own mb g R fs f rest [x,y,z] va sb) (a:Int) (vc:Nat) (Q:World→Ending→World→Prop) (hQ:∀W e w',Below w.heap.size w W→Q W e w'→Q w e w') (hret:∀W e w',Q W e w'→∃t,e=.returned (.int .i64 t))
  (HA:Hid (∀W,Below w.heap.size w W→Calls Tryz.prog 217 #[.pointer (some ⟨mb,0,none⟩),.slice va 3 vc,.int .u8 2,.agg #[.int .u8 y.1,.int .i64 y.2]] W fun e w'=>Q W e w')) :
  Calls Tryz.prog 199 #[.pointer (some ⟨mb,0,none⟩),.int .i64 a,.slice va 3 vc] w fun e w'=>a9v Q w e w':=by
 obtain⟨o,rfl,hsb,c0,c1,c2,c3,_,_⟩:=h.three;have HQ:=hid hQ;have HRET:=hid hret;clear h hQ hret;go_enter Tryz.func199,Tryz.ntmps199;go_wp2_with (first | (go_at_call 217;refine (HA.out _ ?_).mono ?_;exact P0;intro e w2 hq2;obtain ⟨t,rfl⟩:=HRET.out _ _ _ hq2;have HQ2:Hid (Q w (.returned (.int .i64 t)) w2):=HQ.out _ _ _ P0 hq2;clear hq2))
 go_ret;exact HQ2.out
theorem DoA.of_top {own:Own} {mb:Nat} {g:PgR} {R:McR} {fs:List FrR} {f:FrR} {l:List Val} {s:McA} {w:World} {e:Ending} {w':World} (hs:s=goA R.abs (fs.map FrR.abs) f.abs (f.pc+1) l) (hq:F1 R) (h:D0 own mb g R fs f (f.pc+1) l (.int .i64 0) w e w'):DoA own mb g s w e w':=by
 rw[hs];exact h.doA hq
theorem DoA.later {own:Own} {mb:Nat} {g:PgR} {s:McA} {w W:World} {e:Ending} {w':World} (hB:Below w.heap.size w W) (h:DoA own mb g s W e w'):DoA own mb g s w e w':=by
 obtain⟨own',R',he,hm,hp,ht⟩:=h;exact⟨own',R',he,hm,hp,(A8.of_below hB).trans ht⟩
theorem DoA.ret {own:Own} {mb:Nat} {g:PgR} {s:McA} {w:World} {e:Ending} {w':World} (h:DoA own mb g s w e w'):∃t,e=.returned (.int .i64 t):=by
 obtain⟨_,_,he,_⟩:=h;exact⟨_,he⟩
theorem fT {R:McR} {x ix:Val} {kind:Int} (hk:kind≠0) (hx:VOk (R.obs.map ObR.abs) x) (hr:J7 (A4 (R.obs.map ObR.abs) x) kind ix=0) :
  ∃(j i:Nat) (o:ObR) (y:Val),x=(2,(j:Int))∧ix=(1,(i:Int))∧R.obs[j]?=some o∧o.kind=kind∧o.fl[i]?=some y∧A4 (R.obs.map ObR.abs) x=o.abs:=by
 obtain⟨h1,h2,h3,h4⟩:=fC hr;obtain⟨hx2,hg⟩:=fU (obs:=R.obs.map ObR.abs) (v:=x) (by rw [h1];exact hk);obtain⟨h0,_⟩:=hx.ref hx2;obtain⟨j,hj⟩:=Int.eq_ofNat_of_zero_le h0;obtain⟨i,hi⟩:=Int.eq_ofNat_of_zero_le h3;rw[List.getElem?_map] at hg;obtain⟨o,ho,hoa⟩:=Option.map_eq_some_iff.1 hg;rw[hj,Int.toNat_natCast] at ho;rw[← hoa] at h1 h4;rw[hi,Int.toNat_natCast] at h4;refine⟨j,i,o,o.fl[i]'h4,?_,?_,ho,h1,List.getElem?_eq_getElem h4,hoa.symm⟩
 ·rw [← hx2,← hj]
 ·rw [← h2,← hi]
theorem a9j {own:Own} {mb:Nat} {g:PgR} {R:McR} {fs:List FrR} {f:FrR} {rest:List Val} {x:Val} {va:Option Addr} {sb:Nat} {w:World} (hq:F1 R) (h:C9 w own mb g R fs f rest [x] va sb) (hx:VOk (R.obs.map ObR.abs) x) (hl:(A4 (R.obs.map ObR.abs) x).2.length≤1000) (a:Int) (vc:Nat) :
  Calls Tryz.prog (doT 19) #[.pointer (some ⟨mb,0,none⟩),.int .i64 a,.slice va 1 vc] w fun e w'=>DoA own mb g (doA g 19 a R.abs (fs.map FrR.abs) f.abs rest [x]) w e w':=by
 show Calls _ _ _ _ fun e w'=>DoA own mb g (eS R.abs (fs.map FrR.abs) f.abs rest x 1 (1,a)) w e w'
 by_cases hr:J7 (A4 (R.obs.map ObR.abs) x) 1 (1,a)=0
 ·obtain ⟨j,i,o,y,rfl,hix,ho,hk,hy,hre⟩:=fT Q7 hx hr
  obtain rfl:a=(i:Int):=congrArg Prod.snd hix;have hl':o.fl.length≤1000:=by rw [hre] at hl;exact hl
  refine (a5X h ho hk hy hl' vc).mono fun _ _ hp=>DoA.of_top ?_ hq hp
  unfold eS;rw[if_pos (show J7 (A4 R.abs.obs _) 1 (1,(i:Int))=0 from hr)];have:(A4 R.abs.obs (2,(j:Int))).2.getD (i:Int).toNat (0,0)=y:=by
   rw[show A4 R.abs.obs (2,(j:Int))=o.abs from hre,Int.toNat_natCast,List.getD_eq_getElem?_getD];show (o.fl[i]?).getD (0,0)=y;rw[hy];rfl
  simp only[this];rfl
 ·obtain ⟨kd,fa,n,fc,hR,rfl,rfl⟩:=bO h.m x hx
  refine (a3M h hR hl a (by rw [cG] at hr;exact hr) vc).mono fun _ _ hp=>?_
  have e:eS R.abs (fs.map FrR.abs) f.abs rest x 1 (1,a)=F4 R.abs (J7 (A4 (R.obs.map ObR.abs) x) 1 (1,a)):=if_neg hr;rw[e,cG];exact hp.doA h.m hq
theorem a9A {own:Own} {mb:Nat} {g:PgR} {R:McR} {fs:List FrR} {f:FrR} {rest:List Val} {x z:Val} {va:Option Addr} {sb:Nat} {w:World} (hq:F1 R) (h:C9 w own mb g R fs f rest [x,z] va sb) (hx:VOk (R.obs.map ObR.abs) x) (hl:(A4 (R.obs.map ObR.abs) x).2.length≤1000) (a:Int) (vc:Nat) :
  Calls Tryz.prog (doT 21) #[.pointer (some ⟨mb,0,none⟩),.int .i64 a,.slice va 2 vc] w fun e w'=>DoA own mb g (doA g 21 a R.abs (fs.map FrR.abs) f.abs rest [x,z]) w e w':=by
 show Calls _ _ _ _ fun e w'=>DoA own mb g (eS R.abs (fs.map FrR.abs) f.abs rest x 2 z) w e w'
 refine a5W h a vc (fun W e w'=>DoA own mb g (eS R.abs (fs.map FrR.abs) f.abs rest x 2 z) W e w') (fun W e w' hB hd=>hd.later hB) (fun W e w' hd=>hd.ret) (hid fun W hW=>?_);have hA:=h.later hW;by_cases hr:J7 (A4 (R.obs.map ObR.abs) x) 2 z=0
 ·obtain ⟨j,i,o,y,rfl,rfl,ho,hk,hy,hre⟩:=fT Q7 hx hr
  have hl':o.fl.length≤1000:=by rw [hre] at hl;exact hl
  have:=gU hA ho hy hl' 2 rfl Q8 vc;rw[hk] at this;refine this.mono fun _ _ hp=>DoA.of_top ?_ hq hp
  unfold eS;rw[if_pos (show J7 (A4 R.abs.obs _) 2 (1,(i:Int))=0 from hr)];have:(A4 R.abs.obs (2,(j:Int))).2.getD (i:Int).toNat (0,0)=y:=by
   rw[show A4 R.abs.obs (2,(j:Int))=o.abs from hre,Int.toNat_natCast,List.getD_eq_getElem?_getD];show (o.fl[i]?).getD (0,0)=y;rw[hy];rfl
  simp only[this];rfl
 ·obtain ⟨kd,fa,n,fc,hR,rfl,rfl⟩:=bO h.m x hx
  refine (gE hA (fun V hV=>hR V (A1 hV hW)) hl 2 z 2 rfl Q8 (by rw [cG] at hr;exact hr) vc).mono fun _ _ hp=>?_
  have e:eS R.abs (fs.map FrR.abs) f.abs rest x 2 z=F4 R.abs (J7 (A4 (R.obs.map ObR.abs) x) 2 z):=if_neg hr;rw[e,cG];exact hp.doA hA.m hq
theorem sC {own:Own} {mb:Nat} {g:PgR} {R:McR} {fs:List FrR} {f:FrR} {rest:List Val} {j i:Nat} {o:ObR} {y:Val} {kind:Int} {w:World} {e:Ending} {w':World} (hq:F1 R) (hr:J7 (A4 (R.obs.map ObR.abs) (2,(j:Int))) kind (1,(i:Int))=0) (hre:A4 (R.obs.map ObR.abs) (2,(j:Int))=o.abs)
  (h:aP own mb g (pV R fs f rest j i o y) 0 w e w'):DoA own mb g (dN R.abs (fs.map FrR.abs) f.abs rest (2,(j:Int)) kind (1,(i:Int)) y) w e w':=by
 have es:dN R.abs (fs.map FrR.abs) f.abs rest (2,(j:Int)) kind (1,(i:Int)) y=⟨0,R.out,fs.map FrR.abs++[⟨f.fn,f.pc+1,f.loc,rest⟩],(R.obs.map ObR.abs).set j (o.kind,o.fl.set i y),R.dr⟩:=by
  unfold dN;rw[if_pos (show J7 (A4 R.abs.obs _) kind (1,(i:Int))=0 from hr),show A4 R.abs.obs (2,(j:Int))=o.abs from hre];rfl
 rw[es];obtain⟨own',R',he,hm,⟨sv',rfl⟩,ht⟩:=h;exact⟨own',_,he,hm,⟨by simp [McR.abs,FrR.abs,ObR.abs,List.map_set],hq⟩,ht⟩
theorem a9l {own:Own} {mb:Nat} {g:PgR} {R:McR} {fs:List FrR} {f:FrR} {rest:List Val} {x y:Val} {va:Option Addr} {sb:Nat} {w:World} (hq:F1 R) (h:C9 w own mb g R fs f rest [x,y] va sb) (hx:VOk (R.obs.map ObR.abs) x) (hl:(A4 (R.obs.map ObR.abs) x).2.length≤1000) (a:Int) (vc:Nat) :
  Calls Tryz.prog (doT 20) #[.pointer (some ⟨mb,0,none⟩),.int .i64 a,.slice va 2 vc] w fun e w'=>DoA own mb g (doA g 20 a R.abs (fs.map FrR.abs) f.abs rest [x,y]) w e w':=by
 show Calls _ _ _ _ fun e w'=>DoA own mb g (dN R.abs (fs.map FrR.abs) f.abs rest x 1 (1,a) y) w e w'
 by_cases hr:J7 (A4 (R.obs.map ObR.abs) x) 1 (1,a)=0
 ·obtain ⟨j,i,o,u,rfl,hix,ho,hk,hu,hre⟩:=fT Q7 hx hr
  obtain rfl:a=(i:Int):=congrArg Prod.snd hix;have hl':o.fl.length≤1000:=by rw [hre] at hl;exact hl
  exact (a5Y h ho hk (List.getElem?_eq_some_iff.1 hu).1 hl' vc).mono fun _ _ hp=>sC hq hr hre hp
 ·obtain ⟨kd,fa,n,fc,hR,rfl,rfl⟩:=bO h.m x hx
  refine (a3Q h hR hl a (by rw [cG] at hr;exact hr) vc).mono fun _ _ hp=>?_
  have e:dN R.abs (fs.map FrR.abs) f.abs rest x 1 (1,a) y=F4 R.abs (J7 (A4 (R.obs.map ObR.abs) x) 1 (1,a)):=if_neg hr;rw[e,cG];exact hp.doA h.m hq
theorem a9m {own:Own} {mb:Nat} {g:PgR} {R:McR} {fs:List FrR} {f:FrR} {rest:List Val} {x z y:Val} {va:Option Addr} {sb:Nat} {w:World} (hq:F1 R) (h:C9 w own mb g R fs f rest [x,z,y] va sb) (hx:VOk (R.obs.map ObR.abs) x) (hl:(A4 (R.obs.map ObR.abs) x).2.length≤1000) (a:Int) (vc:Nat) :
  Calls Tryz.prog (doT 22) #[.pointer (some ⟨mb,0,none⟩),.int .i64 a,.slice va 3 vc] w fun e w'=>DoA own mb g (doA g 22 a R.abs (fs.map FrR.abs) f.abs rest [x,z,y]) w e w':=by
 show Calls _ _ _ _ fun e w'=>DoA own mb g (dN R.abs (fs.map FrR.abs) f.abs rest x 2 z y) w e w'
 refine a3R h a vc (fun W e w'=>DoA own mb g (dN R.abs (fs.map FrR.abs) f.abs rest x 2 z y) W e w') (fun W e w' hB hd=>hd.later hB) (fun W e w' hd=>hd.ret) (hid fun W hW=>?_);have hA:=h.later hW;by_cases hr:J7 (A4 (R.obs.map ObR.abs) x) 2 z=0
 ·obtain ⟨j,i,o,u,rfl,rfl,ho,hk,hu,hre⟩:=fT Q7 hx hr
  have hl':o.fl.length≤1000:=by rw [hre] at hl;exact hl
  have:=sR hA ho (List.getElem?_eq_some_iff.1 hu).1 hl' vc;rw[hk] at this;exact this.mono fun _ _ hp=>sC hq hr hre hp
 ·obtain ⟨kd,fa,n,fc,hR,rfl,rfl⟩:=bO h.m x hx
  refine (mC hA (fun V hV=>hR V (A1 hV hW)) hl 2 z 3 rfl Q8 (by rw [cG] at hr;exact hr) vc).mono fun _ _ hp=>?_
  have e:dN R.abs (fs.map FrR.abs) f.abs rest x 2 z y=F4 R.abs (J7 (A4 (R.obs.map ObR.abs) x) 2 z):=if_neg hr;rw[e,cG];exact hp.doA hA.m hq
theorem a2x (w:World) (cs cs':Array Value) (t:TypeId):(w.alloc (.cells cs t)).setRow w.heap.size cs'=w.alloc (.cells cs' t):=by
 unfold World.setRow World.alloc;congr 1
 apply Array.ext_getElem?
 intro i;rw[Array.getElem?_modify];by_cases h:w.heap.size=i
 ·subst h;simp
 ·rw [if_neg h]
  simp only[Array.getElem?_push];rw[if_neg (Ne.symm h),if_neg (Ne.symm h)]
theorem tS {P:Program} (w:World) (dT sT ty elem:TypeId) (a:Addr) (dLen dCap c:Nat) (hu:P.underlying dT=some (.slice elem)) (hs:((P.info? elem).map (·.size)).isSome=true) :
  (Builtin.copy_ #[dT,sT] ty #[.slice (some a) dLen dCap,.slice none 0 c]).run P w=.ok (goInt 0) w:=by
 cases hq:P.info? elem with
 | none=>simp [hq] at hs
 | some i=>simp [Builtin.copy_,run_underlying hu,Builtin.lenOf,Builtin.firstCells,sizeOf,typeInfo,hq,storeCells]
theorem a2L (l k:Nat) (h:k≤l) (x:Val):(A5 (List.replicate l x)).drop (k*2)=A5 (List.replicate (l - k) x):=by
 have e:List.replicate l x=List.replicate k x++List.replicate (l - k) x:=by rw [List.replicate_append_replicate];congr 1;omega
 rw[e,V5];exact List.drop_left' (by rw [K1];simp)
def a8O (w:World) (va:Option Addr) (l:List Val):Prop:=0 < l.length→∃sb o,va=some ⟨sb,o,none⟩∧sb < w.heap.size∧∀j u,(A5 l)[j]?=some u→w.cell? ⟨sb,o+j,none⟩=some u
theorem a4p (l:Nat):madeCells #[.int .u8 0,.int .i64 0] (l*2)=(A5 (List.replicate l (0,0))).toArray:=by
 rw[← eX]
theorem a3J {w:World} {va:Option Addr} {vc l:Nat} {args:List Val} (hal:args.length≤l) (hs:a8O w va args) (o1:Obj) :
  (Builtin.copy_ #[45,45] 3 #[.slice (some ⟨w.heap.size+1,0,none⟩) l l,.slice va args.length vc]).run Tryz.prog ((w.alloc o1).alloc (.cells (madeCells #[.int .u8 0,.int .i64 0] (l*2)) 73)) =
   .ok (goInt args.length) ((w.alloc o1).alloc (.cells (A5 (args++List.replicate (l - args.length) (0,0))).toArray 73)):=by
 obtain⟨i101,hi,hz,hsz,hby⟩:=info_parts Z7;have hsize:(w.alloc o1).heap.size=w.heap.size+1:=by simp
 have hblk:((w.alloc o1).alloc (Obj.cells (madeCells #[.int .u8 0,.int .i64 0] (l*2)) 73)).heap[w.heap.size+1]?=some (Obj.cells (madeCells #[.int .u8 0,.int .i64 0] (l*2)) 73 (0,0)):=D8 hsize
 cases va with
 | none =>
  have h0:args=[]:=by
   rcases Nat.eq_zero_or_pos args.length with h | h
   ·exact List.length_eq_zero_iff.1 h
   ·obtain ⟨_,_,h1,_⟩:=hs h;cases h1
  subst h0;rw[List.nil_append,List.length_nil,Nat.sub_zero,← a4p];exact tS (P:=Tryz.prog) ((w.alloc o1).alloc (.cells (madeCells #[.int .u8 0,.int .i64 0] (l*2)) 73)) 45 45 3 73 ⟨w.heap.size+1,0,none⟩ l l vc Tryz.underlying45 (by rw [hi];rfl)
 | some a =>
  have hsrc:∀j u,(A5 args)[j]?=some u→((w.alloc o1).alloc (Obj.cells (madeCells #[.int .u8 0,.int .i64 0] (l*2)) 73)).cell? (a.add j)=some u:=fun j u hu=>by
   have hj:=(List.getElem?_eq_some_iff.1 hu).1;rw[K1] at hj;obtain⟨sb,o,h1,h2,h3⟩:=hs Q8
   cases h1;have e:(⟨sb,o,none⟩:Addr).add j=⟨sb,o+j,none⟩:=by unfold Addr.add;split <;> simp_all
   rw[e];have hb:Below w.heap.size w ((w.alloc o1).alloc (Obj.cells (madeCells #[.int .u8 0,.int .i64 0] (l*2)) 73)):=Below.alloc (Below.alloc (Below.refl _ _) (Nat.le_refl _) _) Q9 _;rw[hb.cell (p:=⟨sb,o+j,none⟩) h2];exact h3 j u hu
  have hm:Nat.min args.length l=args.length:=Nat.min_eq_left hal;have:=tT (P:=Tryz.prog) ((w.alloc o1).alloc (.cells (madeCells #[.int .u8 0,.int .i64 0] (l*2)) 73)) 45 45 3 73 (w.heap.size+1) 0 l l a args.length vc 2 (madeCells #[.int .u8 0,.int .i64 0] (l*2)) 73 (A5 args) Tryz.underlying45 (by rw [hi];simp [hsz]) hblk (by rw [K1,hm]) hsrc (by rw [K1,size_madeCells];omega) (bQ args)
  rw[this,hm];have e2:(madeCells #[.int .u8 0,.int .i64 0] (l*2)).toList.drop (0+(A5 args).length)=A5 (List.replicate (l - args.length) (0,0)):=by
   rw[eX,Nat.zero_add,K1];exact a2L l args.length hal (0,0)
  rw[e2,List.take_zero,List.nil_append,← V5];have e3:=a2x (w.alloc o1) (madeCells #[.int .u8 0,.int .i64 0] (l*2)) (A5 (args++List.replicate (l - args.length) (0,0))).toArray 73;rw[hsize] at e3;rw[e3]
def a3v (own:Own) (mb:Nat) (g:PgR) (R:McR) (fn:Nat) (loc:List Val) (w:World) (e:Ending) (w':World):Prop :=
 ∃own' cv lv,e=.returned (.tuple #[])∧A3 w' own' mb g { R with cv:=cv,frs:=R.frs++[⟨fn,0,lv,.slice none 0 0,loc,[]⟩] }∧A8 own w own' w'
theorem a3Y {own:Own} {mb:Nat} {g:PgR} {R:McR} {w:World} (h:A3 w own mb g R) (fn l:Nat) (p:Int) (ca:Option Addr) (cn cc:Nat) (hl:l≤8) (hn:R.frs.length≤1000) (args:List Val) (hal:args.length≤l) (va:Option Addr) (vc:Nat) (hs:a8O w va args) :
  Calls Tryz.prog 62 #[.pointer (some ⟨mb,3,none⟩),.int .i64 (fn:Int),.agg #[.int .i64 p,.int .i64 (l:Int),.slice ca cn cc],.slice va args.length vc] w fun e w'=>a3v own mb g R fn (args++List.replicate (l - args.length) (0,0)) w e w':=by
 have c3:=h.c3;have hfz:=h.fz 3;have hmb:mb < w.heap.size:=h.lt mb _ h.me;obtain⟨i101,hi,hz,hsz,hby⟩:=info_parts Z7;have HMK:Hid (∀W:World,(Instr.makeSlice 45 (.int .i64 (l:Int)) (.int .i64 (l:Int))).run Tryz.prog W=.ok (.slice (some ⟨W.heap.size,0,none⟩) l l) (W.alloc (.cells (madeCells #[.int .u8 0,.int .i64 0] (l*2)) 73))):=by
  intro W;have hr:=run_make (P:=Tryz.prog) W 45 73 i101 _ Tryz.underlying45 hi hz .i64 .i64 l l Q8 (Int.le_refl _) (by rw [hby];omega) Q8;simpa [hsz,Value.cells] using hr
 have hmk:=HMK.out;have hcp:=a3J (w:=w) (va:=va) (vc:=vc) hal hs (.cells #[.int .i64 p,.int .i64 (l:Int),.slice ca cn cc] 68);have hlen:(args++List.replicate (l - args.length) ((0,0):Val)).length=l:=by simp;omega
 have HH:=hid h;generalize args++List.replicate (l - args.length) ((0,0):Val)=loc at *
 clear h hi hz hsz hby HMK hs hal;go_enter Tryz.func62,Tryz.ntmps62;obtain⟨i98,ji,jz,jsz,jby⟩:=info_parts wE;have JI:=hid ji;have JZ:=hid jz;have JSZ:=hid jsz;have JBY:=hid jby;have HO:=hid HH.out.called.1;clear ji jz jsz jby;go_wp2_with (at_builtin;go_must (refine wpList_append_lies _ rfl (.tmp 19) (.tmp 23) 47 rfl 0 83 i98 _ 4 64 Tryz.underlying47 JI.out JZ.out JSZ.out JBY.out rfl Q7 R.cv R.frs.length (R.frs.flatMap FrR.cells) rfl (((HO.out.alloc _).alloc _).alloc _) ⟨w.heap.size+1+1,0,none⟩ 1 1 (FrR.cells ⟨fn,0,.slice (some ⟨w.heap.size+1,0,none⟩) l l,.slice none 0 0,loc,[]⟩) rfl rfl (World.news_of_block (cs:=#[.int .i64 (fn:Int),.int .i64 0,.slice (some ⟨w.heap.size+1,0,none⟩) l l,.slice none 0 0]) (t:=83) (fr:=(0,0)) (D8 Q9)) (by intro u hu;simp only [FrR.cells,List.mem_cons,List.not_mem_nil,or_false] at hu;rcases hu with rfl | rfl | rfl | rfl <;> rfl) Q8 Q0 Q8 (Nat.zero_le _) _ rfl ?_))
 intro gb cap w5 hown hgrow hat hlt;obtain⟨y0,y1,y2,own',hM,hT⟩:=uG (fr:=⟨fn,0,.slice (some ⟨w.heap.size+1,0,none⟩) l l,.slice none 0 0,loc,[]⟩) (lb:=w.heap.size+1) (lc:=l) HH.out P3 hgrow hown (hat.imp id fun e=>e.trans Q9) (by rw [hlen]) Q8 Q9 (by
  refine World.ownsRow.alloc ?_ _;have:=World.ownsRow_lit (base:=0) (e:=73) (size:=2) (w.alloc (Obj.cells #[.int .i64 p,.int .i64 (l:Int),.slice ca cn cc] 68)) (A5 loc).toArray l (Nat.zero_le _) Q0 (by simp [K1,hlen]);rw[hlen];simpa using this) ⟨rfl,rfl⟩
 have HM:=hid hM;have HT:=hid hT;clear hM hT hown hgrow hat hlt hmk hcp;go_wp2_with fail;go_end0
 exact⟨own',_,_,rfl,HM.out,HT.out⟩
theorem a1z {fs:List FrR} {f:FrR} (v:Value) (l:List Val):(fs++[{ f with sv:=v,stk:=l }]).flatMap FrR.cells=((fs++[f]).flatMap FrR.cells).set (fs.length*4+3) v:=by
 rw[← L5 FrR.cells_len (l:=fs++[f]) (i:=fs.length) (j:=3) (x:=f) (y:={ f with sv:=v,stk:=l }) (u:=v) Q9 Q8 rfl];simp
def yF (own:Own) (mb:Nat) (g:PgR) (R:McR) (fs:List FrR) (f:FrR) (l:List Val) (w:World) (e:Ending) (w':World):Prop :=
 ∃sv1,e=.returned (.tuple #[])∧A3 w' own mb g { R with frs:=fs++[{ f with sv:=sv1,stk:=l }] }∧A8 own w own w'∧∀b,own b≠some .called→w'.heap[b]?=w.heap[b]?
theorem a3W {own:Own} {mb:Nat} {g:PgR} {R:McR} {fs:List FrR} {f:FrR} {w:World} (h:A3 w own mb g R) (hf:R.frs=fs++[f]) (k:Nat) (hk:k≤f.stk.length) (hn:fs.length≤1000) (hs:f.stk.length≤1000) :
  Calls Tryz.prog 213 #[.pointer (some ⟨mb,3,none⟩),.int .i64 (k:Int)] w fun e w'=>yF own mb g R fs f (f.stk.take (f.stk.length - k)) w e w':=by
 obtain⟨cb,cc,hv,hocb,hcb,hfz,x0,x1,x2,x3⟩:=h.top hf;have hc:=h.c3;rw[hv] at hc;have hrow:=h.topRow hf hv;have hstk:=h.stk fs.length f (by rw [hf];simp);have hsb:∀b,f.sv.ownBlock=some b→b≠cb∧own b=some (.stk fs.length):=fun b hb=>by
  have hb':=hstk.2 b hb;exact⟨fun e=>(by rw [e,hocb] at hb';cases hb'),hb'⟩
 refine (qR mb cb fs.length cc f.sv f.stk.length k _ w hn hs hk hc x3 (hfz _) hstk.1).mono ?_;rintro e w1 ⟨m1,sv1,rfl,rfl,hb1,hown1⟩;have hne1:sv1.ownBlock≠some cb:=fun e=>(hsb cb (hb1▸e)).1 rfl
 have hon:M2 w own sv1 (.stk fs.length):=fun b hb=>Or.inl (hsb b (hb1▸hb)).2
 have hblk:∀b,b≠cb→((w.drewN m1).setCell ⟨cb,fs.length*4+3,none⟩ sv1).heap[b]?=w.heap[b]?:=fun b hb=>heap_setCell_other _ _ _ _ hb
 have hlen:(f.stk.take (f.stk.length - k)).length=f.stk.length - k:=by simp
 have r1:((w.drewN m1).setCell ⟨cb,fs.length*4+3,none⟩ sv1).ownsRow 0 83 4 (.slice (some ⟨cb,0,none⟩) (fs.length+1) cc) (fs.length+1) (((fs++[f]).flatMap FrR.cells).set (fs.length*4+3) sv1):=(World.ownsRow.stored (dF hrow m1) _ sv1).1;rw[← a1z sv1 (f.stk.take (f.stk.length - k))] at r1;have hM:=A3.setTop (w':=(w.drewN m1).setCell ⟨cb,fs.length*4+3,none⟩ sv1) (f':={ f with sv:=sv1,stk:=f.stk.take (f.stk.length - k) }) h hf rfl rfl Q9 (fun j hj h1 h2=>hblk j (fun e=>h1 (by rw [e];exact hocb))) (by rw [hv];exact r1) (by
  rw[hlen];have:=ownsRow_setCell_other (dF hown1 m1) (a:=⟨cb,fs.length*4+3,none⟩) hne1 sv1;rwa [A5,iT E7]) hon
 have hup:own.upd sv1.ownBlock (.stk fs.length)=own:=by
  cases e:sv1.ownBlock with
  | none=>exact Own.upd_none _ _
  | some b=>exact Own.upd_same (hsb b (hb1▸e)).2
 have hM':A3 ((w.drewN m1).setCell ⟨cb,fs.length*4+3,none⟩ sv1) (own.upd sv1.ownBlock (.stk fs.length)) mb g { R with frs:=fs++[{ f with sv:=sv1,stk:=f.stk.take (f.stk.length - k) }] }:=hM;rw[hup] at hM';exact⟨sv1,rfl,hM',⟨rfl,rfl,rfl,by simp,fun j hj hno=>hblk j (fun e=>by rw [e,hocb] at hno;cases hno),fun _ _=>rfl⟩,fun b hb=>hblk b (fun e=>hb (by rw [e];exact hocb))⟩
theorem C9.lies {w:World} {own:Own} {mb:Nat} {g:PgR} {R:McR} {fs:List FrR} {f:FrR} {rest args:List Val} {va:Option Addr} {sb:Nat} (h:C9 w own mb g R fs f rest args va sb) {w':World} (hs:w.heap.size≤w'.heap.size) (hk:own sb=some (.stk fs.length)→w'.heap[sb]?=w.heap[sb]?):a8O w' va args:=fun h0=>by
 obtain⟨q1,q2,q3⟩:=h.hva h0;have e:=hk q2;refine⟨sb,rest.length*2,q1,Nat.lt_of_lt_of_le (h.m.lt sb _ q2) hs,fun j u hu=>?_⟩;have hj:=(List.getElem?_eq_some_iff.1 hu).1;rw[K1] at hj;obtain⟨x,hx⟩:∃x,args[j / 2]?=some x:=⟨_,List.getElem?_eq_getElem Q8⟩
 obtain⟨c0,c1⟩:=q3 (j / 2) x hx;have hfg:(A5 args)[j / 2*2+j % 2]?=(N0 x)[j % 2]?:=C3 E7 hx (Nat.mod_lt _ Q8);rw[show j / 2*2+j % 2=j by omega,hu] at hfg;rw[World.cell?_of_block (w:=w) (a:=⟨sb,_,none⟩) e];rcases Nat.mod_two_eq_zero_or_one j with hm | hm
 ·rw [hm] at hfg
  rw[show rest.length*2+j=rest.length*2+j / 2*2 by omega,c0,hfg];rfl
 ·rw [hm] at hfg
  rw[show rest.length*2+j=rest.length*2+j / 2*2+1 by omega,c1,hfg];rfl
theorem yZ {own:Own} {mb:Nat} {g:PgR} {R:McR} {fs:List FrR} {f:FrR} {rest args:List Val} {va:Option Addr} {sb:Nat} {w:World} (h:C9 w own mb g R fs f rest args va sb) (h12:12≤fs.length+1) (a:Int) (k vc:Nat) :
  Calls Tryz.prog 189 #[.pointer (some ⟨mb,0,none⟩),.int .i64 a,.slice va k vc] w fun e w'=>G7 5 w e w':=by
 obtain⟨cb,cc,hv,_⟩:=h.m.top h.hf;have c3:=h.m.c3;rw[hv] at c3;have hn:=h.hn;have hmb:mb < w.heap.size:=h.m.lt mb _ h.m.me;have h12':(12:Int)≤(fs.length:Int)+1:=by omega
 clear h hv;go_enter Tryz.func189,Tryz.ntmps189;go_wp2_with fail;go_ret;exact⟨rfl,P0⟩
def a5y (R:McR) (fs:List FrR) (f:FrR) (rest:List Val) (fn:Nat) (loc:List Val) (R':McR):Prop :=
 ∃sv1 cv lv,R'={ R with cv:=cv,frs:=fs++[{ f with sv:=sv1,stk:=rest }]++[⟨fn,0,lv,.slice none 0 0,loc,[]⟩] }
theorem a3K {own:Own} {mb:Nat} {g:PgR} {R:McR} {fs:List FrR} {f:FrR} {rest args:List Val} {va:Option Addr} {sb:Nat} {w:World} (h:C9 w own mb g R fs f rest args va sb) (h12:fs.length+1 < 12) (a l:Nat) (ha:a < g.n) (hgn:g.n≤1000) (hl:(g.f a).l=(l:Int)) (hl8:l≤8) (hal:args.length≤l) (vc:Nat) :
  Calls Tryz.prog 189 #[.pointer (some ⟨mb,0,none⟩),.int .i64 (a:Int),.slice va args.length vc] w fun e w'=>aP own mb g (a5y R fs f rest a (args++List.replicate (l - args.length) (0,0))) 0 w e w':=by
 obtain⟨cb,cc,hv,_⟩:=h.m.top h.hf;have c3:=h.m.c3;rw[hv] at c3;have hmb:mb < w.heap.size:=h.m.lt mb _ h.m.me;obtain⟨ga,hgb,hfun⟩:=h.m.pg.2.1 Q8;obtain⟨q0,q1,q2⟩:=hfun a ha;rw[hl] at q1;have c0:=h.m.c0;rw[ga] at c0;have hog:own g.b=none:=h.m.ro g.b (Or.inl ⟨by omega,rfl⟩);have htake:f.stk.take (f.stk.length - args.length)=rest:=by rw [h.hst];simp
 have HDR:Hid (∀U,Below w.heap.size w U→Calls Tryz.prog 213 #[.pointer (some ⟨mb,3,none⟩),.int .i64 (args.length:Int)] U fun e w'=>yF own mb g R fs f rest U e w'):=fun U hU=>by
  have:=a3W (h.m.same hU.size fun k hk=>hU.block k hk) h.hf args.length (by rw [h.hst];simp) h.hn h.hs;rwa [htake] at this
 have HEN:Hid (∀U w1 V sv1,Below w.heap.size w U→A3 w1 own mb g { R with frs:=fs++[{ f with sv:=sv1,stk:=rest }] }→A8 own U own w1→(∀b,own b≠some .called→w1.heap[b]?=U.heap[b]?)→Below w1.heap.size w1 V→Calls Tryz.prog 62 #[.pointer (some ⟨mb,3,none⟩),.int .i64 (a:Int),.agg #[.int .i64 (g.f a).p,.int .i64 (l:Int),.slice (g.f a).a (g.f a).n (g.f a).c],.slice va args.length vc] V fun e w'=>e=.returned (.tuple #[])∧∃own' R',A3 w' own' mb g R'∧a5y R fs f rest a (args++List.replicate (l - args.length) (0,0)) R'∧A8 own w own' w'):=by
  intro U w1 V sv1 hU hm1 ht1 hk1 hV;have hmV:=hm1.same hV.size fun k hk=>hV.block k hk
  refine (a3Y hmV a l (g.f a).p (g.f a).a (g.f a).n (g.f a).c hl8 (by simp;have:=h.hn;omega) args hal va vc (h.lies (Nat.le_trans hU.size (Nat.le_trans ht1.size hV.size)) fun q2=>?_)).mono ?_
  ·have hsb:=h.m.lt sb _ q2
   rw[hV.block sb (Nat.lt_of_lt_of_le (Nat.lt_of_lt_of_le hsb hU.size) ht1.size),hk1 sb (by rw [q2];simp),hU.block sb hsb]
  ·rintro e w' ⟨own',cv,lv,rfl,hm,ht⟩
   exact⟨rfl,own',_,hm,⟨sv1,cv,lv,rfl⟩,((A8.of_below hU).trans ht1).trans ((A8.of_below hV).trans ht)⟩
 have hlt12:(fs.length:Int)+1 < 12:=by omega
 have hn12:¬(12:Int)≤(fs.length:Int)+1:=by omega
 have GA:=hid ga;clear h hv ga hfun htake hal;go_enter Tryz.func189,Tryz.ntmps189;go_wp2_with (go_at_call 213;refine (HDR.out _ ?_).mono ?_;exact P0;rintro e w1 ⟨sv1,rfl,hm1,ht1,hk1⟩;have HM1:=hid hm1;have HT1:=hid ht1;have HK1:=hid hk1;have d0:=hm1.c0;rw [GA.out] at d0;have e0:=(World.cell?_of_block (w:=_) (a:=⟨g.b,g.o+a*3,none⟩) (hk1 g.b (by rw [hog];simp))).trans q0;have e1:=(World.cell?_of_block (w:=_) (a:=⟨g.b,g.o+a*3+1,none⟩) (hk1 g.b (by rw [hog];simp))).trans q1;have e2:=(World.cell?_of_block (w:=_) (a:=⟨g.b,g.o+a*3+2,none⟩) (hk1 g.b (by rw [hog];simp))).trans q2;have hmb1:mb < w1.heap.size:=hm1.lt mb _ hm1.me;have hgb1:g.b < w1.heap.size:=Nat.lt_of_lt_of_le hgb ht1.size;clear hm1 ht1 hk1)
 go_region_with (first | (go_at_call 62;refine (HEN.out w w1 _ sv1 (Below.refl _ _) HM1.out HT1.out HK1.out ?_).mono ?_;exact P0;rintro e w2 ⟨rfl,own',R',hm2,hp2,ht2⟩;have HM2:=hid hm2;have HP2:=hid hp2;have HT2:=hid ht2;clear hm2 hp2 ht2))
 all_goals
  go_wp2_with fail;go_ret;exact⟨own',R',rfl,HM2.out,HP2.out,HT2.out⟩
theorem a8i {own:Own} {mb:Nat} {g:PgR} {R:McR} {fs:List FrR} {f:FrR} {rest args:List Val} {va:Option Addr} {sb:Nat} {w:World} (hq:F1 R) (h:C9 w own mb g R fs f rest args va sb) (hp:F2 g) (a:Int) (h0:0≤a) (ha:a < g.n) (hal:(g.f a.toNat).p=args.length) (vc:Nat) :
  Calls Tryz.prog (doT 14) #[.pointer (some ⟨mb,0,none⟩),.int .i64 a,.slice va args.length vc] w fun e w'=>DoA own mb g (doA g 14 a R.abs (fs.map FrR.abs) f.abs rest args) w e w':=by
 have e0:doA g 14 a R.abs (fs.map FrR.abs) f.abs rest args=bD g a R.abs (fs.map FrR.abs) f.abs rest args:=by cases args <;> rfl
 rw[e0];by_cases h12:12≤fs.length+1
 ·refine (yZ h h12 a args.length vc).mono fun _ _ ht=>?_
  have e:bD g a R.abs (fs.map FrR.abs) f.abs rest args=F4 R.abs 5:=if_pos (by simpa using h12);rw[e];exact ht.doA h.m hq
 ·obtain ⟨n,rfl⟩:=Int.eq_ofNat_of_zero_le h0
  rw[Int.toNat_natCast] at hal;have hbd:=hp.sized.bd (show n < g.n by omega);obtain⟨l,hl⟩:=Int.eq_ofNat_of_zero_le hbd.2.2.1;have hg8:=hp.sized.2.1;refine (a3K h Q8 n l Q8 Q8 hl Q8 Q8 vc).mono ?_;rintro e w' ⟨own',R',he,hm,⟨sv1,cv,lv,rfl⟩,ht⟩;have e:bD g (n:Int) R.abs (fs.map FrR.abs) f.abs rest args=⟨0,R.out,fs.map FrR.abs++[⟨f.fn,f.pc,f.loc,rest⟩]++[⟨n,0,args++List.replicate (l - args.length) (0,0),[]⟩],R.obs.map ObR.abs,R.dr⟩:=by
   unfold bD;rw[if_neg (by simpa using h12),Int.toNat_natCast,hl];rfl
  rw[e];exact⟨own',_,he,hm,⟨by simp [McR.abs,FrR.abs],hq⟩,ht⟩
theorem A3.popFrame {w W:World} {own:Own} {mb:Nat} {g:PgR} {R:McR} {fs:List FrR} {f:FrR} {cb cc:Nat} (h:A3 w own mb g R) (hB:Below w.heap.size w W) (hf:R.frs=fs++[f]) (hv:R.cv=.slice (some ⟨cb,0,none⟩) (fs.length+1) cc) :
  A3 (W.setCell ⟨mb,3,none⟩ (.slice (some ⟨cb,0,none⟩) fs.length cc)) own mb g { R with cv:=.slice (some ⟨cb,0,none⟩) fs.length cc,frs:=fs }∧A8 own w own (W.setCell ⟨mb,3,none⟩ (.slice (some ⟨cb,0,none⟩) fs.length cc))∧∀k,k < w.heap.size→k≠mb→(W.setCell ⟨mb,3,none⟩ (.slice (some ⟨cb,0,none⟩) fs.length cc)).heap[k]?=w.heap[k]?:=by
 have hW:=h.same hB.size fun k hk=>hB.block k hk
 have hlt:=hW.lt;have hmb:mb < W.heap.size:=hlt mb _ h.me;have hblk:∀k,k≠mb→(W.setCell ⟨mb,3,none⟩ (.slice (some ⟨cb,0,none⟩) fs.length cc)).heap[k]?=W.heap[k]?:=fun k hk=>heap_setCell_other _ _ _ _ hk
 have keep:∀t,t≠.mach→∀k,own k=some t→(W.setCell ⟨mb,3,none⟩ (.slice (some ⟨cb,0,none⟩) fs.length cc)).heap[k]?=W.heap[k]?∧own k=some t:=fun t ht k hk=>⟨hblk k (fun e=>by rw [e,h.me] at hk;exact ht (Option.some.inj hk).symm),hk⟩
 have hcell:∀j,j≠3→(W.setCell ⟨mb,3,none⟩ (.slice (some ⟨cb,0,none⟩) fs.length cc)).cell? ⟨mb,j,none⟩=W.cell? ⟨mb,j,none⟩:=fun j hj=>by go_simp
 have hc3:=hW.c3;have hfz:∀j,(W.setCell ⟨mb,3,none⟩ (.slice (some ⟨cb,0,none⟩) fs.length cc)).frozen? ⟨mb,j,none⟩=false:=fun j=>by have:=hW.fz j;go_simp
 have hro:∀k,own k=none→(W.setCell ⟨mb,3,none⟩ (.slice (some ⟨cb,0,none⟩) fs.length cc)).heap[k]?=W.heap[k]?:=fun k hk=>hblk k (fun e=>by rw [e,h.me] at hk;cases hk)
 have hsz:W.heap.size≤(W.setCell ⟨mb,3,none⟩ (.slice (some ⟨cb,0,none⟩) fs.length cc)).heap.size:=by simp
 have hcal:Row (W.setCell ⟨mb,3,none⟩ (.slice (some ⟨cb,0,none⟩) fs.length cc)) own .called 83 4 (.slice (some ⟨cb,0,none⟩) fs.length cc) fs.length (fs.flatMap FrR.cells):=by
  have h1:=hW.called;rw[hv,hf,List.length_append] at h1;have h2:=(Row.cut h1 (m:=fs.length) Q9).kept (own':=own) (keep _ Q9);rw[← iT FrR.cells_len] at h2;simpa using h2
 have hget:∀i x,fs[i]?=some x→R.frs[i]?=some x:=fun i x hx=>by
  rw[hf,List.getElem?_append_left (List.getElem?_eq_some_iff.1 hx).1];exact hx
 refine⟨⟨fun k t hk=>Nat.lt_of_lt_of_le (hlt k t hk) hsz,h.me,?_,?_,?_,by go_simp,?_,hfz,hW.out.kept (keep _ Q9),hcal,hW.slots.kept (keep _ Q9),fun i x hx=>(hW.loc i x (hget i x hx)).kept (keep _ Q9),fun i x hx=>(hW.stk i x (hget i x hx)).kept (keep _ Q9),
  fun j o ho=>(hW.fld j o ho).kept (keep _ Q9),hW.pg.held hsz fun k hk=>hro k (h.ro k hk),h.ro,hW.tab.held hsz (hro 0 h.ro0),h.ro0,?_,hW.draws.kept (keep _ Q9)⟩,?_,fun k hk hne=>(hblk k hne).trans (hB.block k hk)⟩
 ·rw [hcell 0 Q8];exact hW.c0
 ·rw [hcell 1 Q8];exact hW.c1
 ·rw [hcell 2 Q8];exact hW.c2
 ·rw [hcell 4 Q8];exact hW.c4
 ·rw [hcell 5 Q8];exact hW.c5
 ·exact (A8.of_below hB).trans (A8.setMb h.me _ _)
def a0V (own:Own) (mb:Nat) (g:PgR) (R:McR) (s:McA) (w:World) (e:Ending) (w':World):Prop :=
 ∃own' R',e=.returned (.tuple #[])∧A3 w' own' mb g R'∧R'.st=R.st∧R'.ov=R.ov∧McR.abs { R' with st:=s.st }=s∧A8 own w own' w'
theorem a1I {own:Own} {mb:Nat} {g:PgR} {R:McR} {f:FrR} {w:World} (h:A3 w own mb g R) (hf:R.frs=[f]) (x:Val) :
  Calls Tryz.prog 214 #[.pointer (some ⟨mb,3,none⟩),.agg #[.int .u8 x.1,.int .i64 x.2]] w fun e w'=>a0V own mb g R (E5 R.abs [] x) w e w':=by
 obtain⟨cb,cc,hv,hocb,hcb,_⟩:=h.top (fs:=[]) hf;have c3:=h.c3;rw[hv] at c3;simp only[List.length_nil,Nat.zero_add] at c3;have fz:=h.fz 3;have hmb:mb < w.heap.size:=h.lt mb _ h.me;obtain⟨h1,h2,_⟩:=h.popFrame (fs:=[]) (Below.refl _ _) hf hv;have HP:Hid (∀V,Below (w.setCell ⟨mb,3,none⟩ (.slice (some ⟨cb,0,none⟩) 0 cc)).heap.size (w.setCell ⟨mb,3,none⟩ (.slice (some ⟨cb,0,none⟩) 0 cc)) V→a0V own mb g R (E5 R.abs [] x) w (.returned (.tuple #[])) V):=fun V hV =>
  ⟨own,_,rfl,h1.same hV.size fun k hk=>hV.block k hk,rfl,rfl,by simp [E5,McR.abs],h2.trans (A8.of_below hV)⟩
 clear h hf hv hocb h1 h2;go_enter Tryz.func214,Tryz.ntmps214;go_wp2_with fail;go_region
 all_goals
  go_wp2_with fail;go_end0
  exact HP.out _ P0
theorem a1J {own:Own} {mb:Nat} {g:PgR} {R:McR} {fs:List FrR} {c f:FrR} {w:World} (h:A3 w own mb g R) (hf:R.frs=(fs++[c])++[f]) (hn:fs.length≤1000) (hs:c.stk.length≤1000) (hpc:c.pc≤1000) (x:Val) :
  Calls Tryz.prog 214 #[.pointer (some ⟨mb,3,none⟩),.agg #[.int .u8 x.1,.int .i64 x.2]] w fun e w'=>a0V own mb g R (E5 R.abs ((fs++[c]).map FrR.abs) x) w e w':=by
 obtain⟨cb,cc,hv,hocb,hcb,_⟩:=h.top hf;have c3:=h.c3;rw[hv,List.length_append] at c3;simp only[List.length_cons,List.length_nil,Nat.zero_add] at c3;have fz:=h.fz 3;have hmb:mb < w.heap.size:=h.lt mb _ h.me;have hcc:fs.length+1+1≤cc:=by
  have:=h.called.1;rw[hv,hf] at this;simp only[List.length_append,List.length_cons,List.length_nil,Nat.zero_add] at this;exact (M6 this).1
 have hcc1:fs.length+1≤cc:=by omega
 obtain⟨h1,h2,h3⟩:=h.popFrame (Below.refl _ _) hf hv;have hl:(fs++[c]).length=fs.length+1:=by simp
 rw[hl] at h1 h2 h3;have HGO:Hid (∀V pb cp,Below (w.setCell ⟨mb,3,none⟩ (.slice (some ⟨cb,0,none⟩) (fs.length+1) cc)).heap.size (w.setCell ⟨mb,3,none⟩ (.slice (some ⟨cb,0,none⟩) (fs.length+1) cc)) V→w.heap.size≤pb→V.heap[pb]?=some (.cells #[.int .u8 x.1,.int .i64 x.2] 73) →
   Calls Tryz.prog 219 #[.pointer (some ⟨mb,3,none⟩),.int .i64 0,.slice (some ⟨pb,0,none⟩) 1 cp] V fun e w'=>a0V own mb g R (E5 R.abs ((fs++[c]).map FrR.abs) x) w e w'):=by
  intro V pb cp hV hpb hblk;have hmV:=h1.same hV.size fun k hk=>hV.block k hk
  have hp:gR V own (.slice (some ⟨pb,0,none⟩) 1 cp) [x]:=J6 (a:=x.1) (b:=x.2) h1 (by simpa using hpb) hblk;refine (zK hmV rfl 0 (Nat.zero_le _) _ [x] hp hn hs Q9 hpc).mono ?_;rintro e w' ⟨own',sv',rfl,hm,ht⟩;refine⟨own',_,rfl,hm,rfl,rfl,?_,h2.trans ((A8.of_below hV).trans ht)⟩;have e1:E5 R.abs ((fs++[c]).map FrR.abs) x=goA R.abs (fs.map FrR.abs) c.abs (c.abs.pc+1) (c.abs.stk++[x]):=by
   unfold E5;have q1:((fs++[c]).map FrR.abs).getLast?=some c.abs:=by simp
   have q2:((fs++[c]).map FrR.abs).dropLast=fs.map FrR.abs:=by simp
   rw[q1,q2]
  rw[e1,Nat.sub_zero,List.take_length];simp[McR.abs,goA,FrR.abs]
 clear h hf hv hocb h1 h2 h3;go_enter Tryz.func214,Tryz.ntmps214;go_wp2_with fail;go_region
 all_goals
  go_wp2_with (go_at_call 219;refine (HGO.out _ _ _ ?_ ?_ ?_).mono ?_;exact P0;exact P9;exact (by first | exact D8 Q9 | exact O5 Q9 | exact T2 Q9);rintro e w2 ⟨own',R',rfl,hm2,hq1,hq2,hq3,ht2⟩;have HL:Hid (a0V own mb g R (E5 R.abs ((fs++[c]).map FrR.abs) x) w (.returned (.tuple #[])) w2):=⟨own',R',rfl,hm2,hq1,hq2,hq3,ht2⟩;clear hm2 hq1 hq2 hq3 ht2)
  go_end0
  exact HL.out
theorem a1H {own:Own} {mb:Nat} {g:PgR} {R:McR} {fs:List FrR} {f:FrR} {w:World} (h:A3 w own mb g R) (hf:R.frs=fs++[f]) (hn:fs.length≤1000) (hc:∀c,c∈fs→c.stk.length≤1000∧c.pc≤1000) (x:Val) :
  Calls Tryz.prog 214 #[.pointer (some ⟨mb,3,none⟩),.agg #[.int .u8 x.1,.int .i64 x.2]] w fun e w'=>a0V own mb g R (E5 R.abs (fs.map FrR.abs) x) w e w':=by
 rcases List.eq_nil_or_concat fs with rfl | ⟨r,c,rfl⟩
 ·exact a1I h hf x
 ·rw [List.concat_eq_append] at hf hn hc ⊢
  have:=hc c Q9;exact a1J h hf (by simp at hn;omega) this.1 this.2 x
theorem a4J {own:Own} {mb:Nat} {g:PgR} {R:McR} {fs:List FrR} {f:FrR} {rest:List Val} {x:Val} {va:Option Addr} {sb:Nat} {w:World} (hq:F1 R) (h:C9 w own mb g R fs f rest [x] va sb) (hc:∀c,c∈fs→c.stk.length≤1000∧c.pc≤1000) (a:Int) (vc:Nat) :
  Calls Tryz.prog 190 #[.pointer (some ⟨mb,0,none⟩),.int .i64 a,.slice va 1 vc] w fun e w'=>DoA own mb g (E5 R.abs (fs.map FrR.abs) x) w e w':=by
 obtain⟨o,rfl,hsb,c0,c1⟩:=h.one;have hmb:mb < w.heap.size:=h.m.lt mb _ h.m.me;have HL:Hid (∀U,Below w.heap.size w U→Calls Tryz.prog 214 #[.pointer (some ⟨mb,3,none⟩),.agg #[.int .u8 x.1,.int .i64 x.2]] U fun e w'=>a0V own mb g R (E5 R.abs (fs.map FrR.abs) x) U e w'):=fun U hU=>a1H (h.m.same hU.size fun k hk=>hU.block k hk) h.hf h.hn hc x
 have hst:(fs=[]∧(E5 R.abs (fs.map FrR.abs) x).st=1∧(E5 R.abs (fs.map FrR.abs) x).frs.length=0)∨(0 < fs.length∧(E5 R.abs (fs.map FrR.abs) x).st=0∧(E5 R.abs (fs.map FrR.abs) x).frs.length=fs.length):=by
  rcases List.eq_nil_or_concat fs with rfl | ⟨r,c,rfl⟩
  ·exact Or.inl ⟨rfl,rfl,rfl⟩
  ·refine Or.inr ⟨by simp,?_⟩
   rw[List.concat_eq_append];unfold E5;have q1:((r++[c]).map FrR.abs).getLast?=some c.abs:=by simp
   have q2:((r++[c]).map FrR.abs).dropLast=r.map FrR.abs:=by simp
   rw[q1,q2];exact⟨rfl,by simp [goA]⟩
 have hn:=h.hn;have HEND:Hid (∀U w2 own' R',Below w.heap.size w U→A3 w2 own' mb g R'→R'.st=R.st→R'.ov=R.ov→McR.abs { R' with st:=(E5 R.abs (fs.map FrR.abs) x).st }=E5 R.abs (fs.map FrR.abs) x→A8 own U own' w2 →
   (∃ca cc,w2.cell? ⟨mb,3,none⟩=some (.slice ca (E5 R.abs (fs.map FrR.abs) x).frs.length cc))∧∀V,Below w2.heap.size w2 V→DoA own mb g (E5 R.abs (fs.map FrR.abs) x) w (.returned (.int .i64 (E5 R.abs (fs.map FrR.abs) x).st)) V):=by
  intro U w2 own' R' hU hm _ hov he ht;have hfl:R'.frs.length=(E5 R.abs (fs.map FrR.abs) x).frs.length:=by
   rw[← he];simp [McR.abs]
  have hout:R'.out=R.out:=by
   have h1:R'.out=(E5 R.abs (fs.map FrR.abs) x).out:=by rw [← he];rfl
   rw[h1];unfold E5;split <;> rfl
  refine⟨?_,fun V hV=>⟨own',R',rfl,hm.same hV.size fun k hk=>hV.block k hk,⟨he,fun e=>?_⟩,((A8.of_below hU).trans ht).trans (A8.of_below hV)⟩⟩
  ·obtain ⟨ca,cc,hcv⟩:=C6 hm.called
   refine⟨ca,cc,?_⟩;rw[← hfl,← hcv];exact hm.c3
  ·rw [hov];exact hq (by rw [← hout];exact e)
 generalize E5 R.abs (fs.map FrR.abs) x=s at *
 clear h hc hq;go_enter Tryz.func190,Tryz.ntmps190;go_wp2_with fail;go_region_with (first | (go_at_call 214;refine (HL.out _ ?_).mono ?_;exact P0;rintro e w2 ⟨own',R',rfl,hm2,hq1,hq2,hq3,ht2⟩;obtain ⟨⟨ca,cc,d3⟩,hfin⟩:=HEND.out _ w2 own' R' P0 hm2 hq1 hq2 hq3 ht2;have HF:=hid hfin;have hmb2:mb < w2.heap.size:=hm2.lt mb _ hm2.me;clear hfin hm2 hq1 hq2 hq3 ht2))
 all_goals
  rcases hst with ⟨rfl,hs1,hs2⟩ | ⟨hpos,hs1,hs2⟩
  ·rw [hs2] at d3
   rw[hs1] at HF;go_wp2_with fail;go_ret;exact HF.out _ P0
  ·rw [hs2] at d3
   rw[hs1] at HF;go_wp2_with fail;go_ret;exact HF.out _ P0
theorem a3N {own:Own} {mb:Nat} {g:PgR} {R:McR} {fs:List FrR} {f:FrR} {rest:List Val} {x:Val} {va:Option Addr} {sb:Nat} {w:World} (hq:F1 R) (h:C9 w own mb g R fs f rest [x] va sb) {kd:Int} {fa:Option Addr} {n fc:Nat} (hr:kA w mb x kd fa n fc) (a:Int) (vc:Nat) :
  Calls Tryz.prog 200 #[.pointer (some ⟨mb,0,none⟩),.int .i64 a,.slice va 1 vc] w fun e w'=>DoA own mb g (if kd=1∨kd=2 then goA R.abs (fs.map FrR.abs) f.abs (f.abs.pc+1) (rest++[(1,(n:Int))]) else F4 R.abs 2) w e w':=by
 obtain⟨o,rfl,hsb,c0,c1⟩:=h.one;obtain⟨x1,x2⟩:=x;simp only at c0 c1;have hmb:mb < w.heap.size:=h.m.lt mb _ h.m.me;have HREF:Hid (∀W,Below w.heap.size w W→Calls Tryz.prog 122 #[.pointer (some ⟨mb,4,none⟩),.agg #[.int .u8 x1,.int .i64 x2]] W fun e w'=>e=.returned (.agg #[.int .u8 kd,.slice fa n fc])∧Below W.heap.size W w'):=hr;have HH:=hid h;have HQ:=hid hq;clear h hr hq;by_cases h12:kd=1∨kd=2
 ·rw [if_pos h12]
  have HPOST:Hid (∀e w',D0 own mb g R fs f (f.pc+1) (rest++[(1,(n:Int))]) (.int .i64 0) w e w'→DoA own mb g (goA R.abs (fs.map FrR.abs) f.abs (f.abs.pc+1) (rest++[(1,(n:Int))])) w e w'):=fun e w' hp=>hp.doA HQ.out
  rcases h12 with rfl | rfl
  all_goals
   go_enter Tryz.func200,Tryz.ntmps200;go_wp2_with fail;go_region_with (first | (go_at_call 122;refine (HREF.out _ ?_).mono ?_;exact P0;rintro e w2 ⟨rfl,hb2⟩;obtain ⟨hcc,hff⟩:=W9 hb2;have hs2:=hb2.size;have hz2:w.heap.size≤w2.heap.size:=(by simp at hs2;omega);have hz2c:sb < w2.heap.size:=Q8;have hz2d:mb < w2.heap.size:=Q8;(try (have hz2e:w.heap.size+1 < w2.heap.size:=(by simp at hs2;omega)));have HB2:Hid (Below w.heap.size w w2):=A1 hb2 P0;clear hb2))
   all_goals
    go_wp2_with (first | (go_at_call 152;refine (N4 _ _).mono ?_;rintro e w' ⟨rfl,o4,rfl⟩) | (go_at_call 205;refine (HH.out.answer (by have hq:=HB2.out.size;repeat (first | exact HB2.out | refine Below.drew ?_ | refine Below.setCell ?_ P6 _ | refine Below.alloc ?_ P6 _)) vc _ [(1,(n:Int))] (J6 HH.out.m (by have hq:=HB2.out.size;first | omega | (simp;omega)) (by first | exact D8 Q9 | exact O5 Q9 | exact T2 Q9)) Q9 1 rfl).mono ?_;rintro e w' ⟨own',sv',rfl,hm,ht⟩;have HP:Hid (DoA own mb g _ w _ w'):=HPOST.out _ w' ⟨own',sv',rfl,hm,ht⟩;clear hm ht))
    go_ret;exact HP.out
 ·rw [if_neg h12]
  have h1:(kd != 1)=true:=bne_iff_ne.2 fun e=>h12 (Or.inl e)
  have h2:(kd != 2)=true:=bne_iff_ne.2 fun e=>h12 (Or.inr e)
  clear h12;go_enter Tryz.func200,Tryz.ntmps200;go_wp2_with fail;go_region_with (first | (go_at_call 122;refine (HREF.out _ ?_).mono ?_;exact P0;rintro e w2 ⟨rfl,hb2⟩;obtain ⟨hcc,hff⟩:=W9 hb2;have hs2:=hb2.size;have hz2:w.heap.size≤w2.heap.size:=(by simp at hs2;omega);have hz2c:sb < w2.heap.size:=Q8;have hz2d:mb < w2.heap.size:=Q8;(try (have hz2e:w.heap.size+1 < w2.heap.size:=(by simp at hs2;omega)));have HB2:Hid (Below w.heap.size w w2):=A1 hb2 P0;clear hb2))
  all_goals
   go_wp2_with fail;go_ret;exact G7.doA ⟨rfl,by have hq:=HB2.out.size;repeat (first | exact HB2.out | refine Below.drew ?_ | refine Below.setCell ?_ P6 _ | refine Below.alloc ?_ P6 _)⟩ HH.out.m HQ.out
theorem a9k {own:Own} {mb:Nat} {g:PgR} {R:McR} {fs:List FrR} {f:FrR} {rest:List Val} {x:Val} {va:Option Addr} {sb:Nat} {w:World} (hq:F1 R) (h:C9 w own mb g R fs f rest [x] va sb) (hx:VOk (R.obs.map ObR.abs) x) (a:Int) (vc:Nat) :
  Calls Tryz.prog (doT 23) #[.pointer (some ⟨mb,0,none⟩),.int .i64 a,.slice va 1 vc] w fun e w'=>DoA own mb g (doA g 23 a R.abs (fs.map FrR.abs) f.abs rest [x]) w e w':=by
 obtain⟨kd,fa,n,fc,hR,rfl,rfl⟩:=bO h.m x hx;exact a3N hq h hR a vc
end Go.Proofs.YtbkmgoffiigdbabGreatDoor
