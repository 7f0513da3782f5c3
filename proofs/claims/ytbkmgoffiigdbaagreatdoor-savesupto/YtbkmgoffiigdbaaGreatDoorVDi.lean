import Derived.Test.YtbkmgoffiigdbaaGreatDoorVEf
namespace Go.Proofs.YtbkmgoffiigdbaaGreatDoor
open Go.RowKit Go.Sort Go.Proofs.Tryz
set_option maxHeartbeats 4000000
set_option maxRecDepth 100000
section
variable {R:McR} {e:Ending} {f:FrR} {fs:List FrR} {g:PgR} {mb sb:Nat} {own:Own} {rest:List Val} {va:Option Addr} {w w':World} {x:Val}
def DoA (own:Own) (mb:Nat) (g:PgR) (s:McA) (w:World) (e:Ending) (w':World):Prop :=
 aW own mb g (fun R'=>McR.abs { R' with st:=s.st }=s/\F4 R') s.st w e w'
theorem C3.doA {pc:Nat} {l:List Val} (h:C3 own mb g R fs f pc l (J 0) w e w') (hq:F4 R):DoA own mb g (goA R.abs (fs.map FrR.abs) f.abs pc l) w e w':=by
 obtain⟨xa,xb,he,hm,ht⟩:=h;exact⟨xa,_,he,hm,⟨a7q R fs f pc l xb,hq⟩,ht⟩
theorem F7.doA {st:Int} (h:F7 st w e w') (hm:A4 w own mb g R) (hq:F4 R):DoA own mb g (D4 R.abs st) w e w':=by
 obtain⟨he,hb⟩:=h;exact⟨own,R,he,hm.same hb.size fun k hk=>hb.block k hk,⟨rfl,hq⟩,A2.of_below hb⟩
theorem wX (hq:F4 R) {k:Nat} (hk:k=0\/k=1) (h:C0 w own mb g R fs f rest [] va sb) (a:Int) (vc:Nat) :
  Calls prog (doT k) #[zB mb,J a,.slice va 0 vc] w fun e w'=>DoA own mb g (doA g k a R.abs (fs.map FrR.abs) f.abs rest []) w e w':=by
 rcases hk with rfl | rfl
 ·exact (a2o h a vc).mono fun _ _ h=>h.doA hq
 ·exact (a2q h a vc).mono fun _ _ h=>h.doA hq
theorem a7G (hq:F4 R) (h:C0 w own mb g R fs f rest [] va sb) (a:Int) (h0:0<=a) (hl:a < f.loc.length) (vc:Nat) :
  Calls prog (doT 2) #[zB mb,J a,.slice va 0 vc] w fun e w'=>DoA own mb g (doA g 2 a R.abs (fs.map FrR.abs) f.abs rest []) w e w':=by
 obtain⟨n,rfl⟩:=L5c h0;obtain⟨x,hx⟩:∃x,f.loc[n]?=some x:=⟨_,L1b R5⟩
 refine (zK h n x hx vc).mono fun _ _ h=>?_
 have e:f.abs.loc.getD (n:Int).toNat (0,0)=x:=by rw [Int.toNat_natCast,List.getD_eq_getElem?_getD];show (f.loc[n]?).getD (0,0)=x;rw [hx];rfl
 have:=h.doA hq;show DoA own mb g (goA R.abs (fs.map FrR.abs) f.abs (f.abs.pc+1) (rest++[f.abs.loc.getD (n:Int).toNat (0,0)])) _ _ _;rw[e];exact this
theorem a5B (hq:F4 R) (h:C0 w own mb g R fs f rest [x] va sb) (a:Int) (h0:0<=a) (hl:a < f.loc.length) (vc:Nat) :
  Calls prog (doT 3) #[zB mb,J a,.slice va 1 vc] w fun e w'=>DoA own mb g (doA g 3 a R.abs (fs.map FrR.abs) f.abs rest [x]) w e w':=by
 obtain⟨n,rfl⟩:=L5c h0;refine (vV h n R5 vc).mono ?_;rintro e w' ⟨xa,R',he,hm,⟨xb,rfl⟩,ht⟩;exact⟨xa,_,he,hm,⟨by simp [doA,McR.abs,FrR.abs],hq⟩,ht⟩
theorem a0r (hq:F4 R) {k:Nat} (hk:k=4\/k=5\/k=25) (h:C0 w own mb g R fs f rest [x] va sb) (a:Int) (vc:Nat) :
  Calls prog (doT k) #[zB mb,J a,.slice va 1 vc] w fun e w'=>DoA own mb g (doA g k a R.abs (fs.map FrR.abs) f.abs rest [x]) w e w':=by
 rcases hk with rfl | rfl | rfl
 ·exact (a2m h a vc).mono fun _ _ h=>h.doA hq
 ·refine (a2r h a vc).mono fun _ _ h=>?_
  rw[List.append_nil] at h;exact h.doA hq
 ·exact (vS h a vc).mono fun _ _ h=>h.doA hq
theorem lQ {y:Val} (hq:F4 R) {k:Nat} (hk:k=6\/k=7\/k=8\/k=9\/k=10\/k=11) (h:C0 w own mb g R fs f rest [x,y] va sb) (a:Int) (vc:Nat) :
  Calls prog (doT k) #[zB mb,J a,.slice va 2 vc] w fun e w'=>DoA own mb g (doA g k a R.abs (fs.map FrR.abs) f.abs rest [x,y]) w e w':=by
 obtain⟨x1,x2⟩:=x;obtain⟨y1,y2⟩:=y;by_cases hc:x1=1/\y1=1
 ·rcases hk with rfl | rfl | rfl | rfl | rfl | rfl
  ·exact (oE h a vc).mono fun _ _ h=>h.doA hq
  ·obtain ⟨rfl,rfl⟩:=hc
   exact (a8P h a vc).mono fun _ _ h=>h.doA hq
  ·obtain ⟨rfl,rfl⟩:=hc
   exact (a8R h a vc).mono fun _ _ h=>h.doA hq
  ·obtain ⟨rfl,rfl⟩:=hc
   exact (a8Q h a vc).mono fun _ _ h=>h.doA hq
  ·obtain ⟨rfl,rfl⟩:=hc
   exact (a7l h a vc).mono fun _ _ h=>h.doA hq
  ·exact (oD h a vc).mono fun _ _ h=>h.doA hq
 ·have e:∀z,J6 R.abs (fs.map FrR.abs) f.abs rest (x1,x2) (y1,y2) z=D4 R.abs 2:=fun z=>if_neg hc
  rcases hk with rfl | rfl | rfl | rfl | rfl | rfl
  ·exact (oE h a vc).mono fun _ _ h=>h.doA hq
  ·refine (zL h hc a vc).mono fun _ _ ht=>?_
   show DoA own mb g (J6 _ _ _ _ _ _ _) _ _ _;rw[e];exact ht.doA h.m hq
  ·refine (zN h hc a vc).mono fun _ _ ht=>?_
   show DoA own mb g (J6 _ _ _ _ _ _ _) _ _ _;rw[e];exact ht.doA h.m hq
  ·refine (zM h hc a vc).mono fun _ _ ht=>?_
   show DoA own mb g (J6 _ _ _ _ _ _ _) _ _ _;rw[e];exact ht.doA h.m hq
  ·refine (vY h hc a vc).mono fun _ _ ht=>?_
   show DoA own mb g (J6 _ _ _ _ _ _ _) _ _ _;rw[e];exact ht.doA h.m hq
  ·exact (oD h a vc).mono fun _ _ h=>h.doA hq
theorem a7F (hq:F4 R) (h:C0 w own mb g R fs f rest [] va sb) (a:Int) (h0:0<=a) (vc:Nat) :
  Calls prog (doT 12) #[zB mb,J a,.slice va 0 vc] w fun e w'=>DoA own mb g (doA g 12 a R.abs (fs.map FrR.abs) f.abs rest []) w e w':=by
 obtain⟨n,rfl⟩:=L5c h0;exact (oC h n vc).mono fun _ _ h=>h.doA hq
theorem a0q (hq:F4 R) (h:C0 w own mb g R fs f rest [x] va sb) (a:Int) (h0:0<=a) (vc:Nat) :
  Calls prog (doT 13) #[zB mb,J a,.slice va 1 vc] w fun e w'=>DoA own mb g (doA g 13 a R.abs (fs.map FrR.abs) f.abs rest [x]) w e w':=by
 obtain⟨n,rfl⟩:=L5c h0
 cases hg:M7 x
 ·refine (qI h hg n vc).mono fun _ _ h=>?_
  show DoA own mb g (if M7 x=true then _ else _) _ _ _;rw[hg];exact h.doA hq
 ·refine (sQ h hg n vc).mono fun _ _ h=>?_
  show DoA own mb g (if M7 x=true then _ else _) _ _ _;rw[hg];exact h.doA hq
theorem a5A (hq:F4 R) (h:C0 w own mb g R fs f rest [x] va sb) (a:Int) (vc:Nat) :
  Calls prog (doT 26) #[zB mb,J a,.slice va 1 vc] w fun e w'=>DoA own mb g (doA g 26 a R.abs (fs.map FrR.abs) f.abs rest [x]) w e w':=by
 obtain⟨x1,x2⟩:=x;by_cases h1:x1=1
 ·subst h1
  by_cases hl:40<=R.out.length
  ·refine (sR h hl a vc).mono fun _ _ ht=>?_
   have e:doA g 26 a R.abs (fs.map FrR.abs) f.abs rest [(1,x2)]=D4 R.abs 7:=by
    have xa:40<=R.abs.out.length:=hl;simp[doA,xa]
   rw[e];exact ht.doA h.m hq
  ·refine (vT h R5 a vc).mono ?_
   rintro e w' ⟨xb,R',he,hm,⟨xc,xd,rfl⟩,ht⟩;have e:doA g 26 a R.abs (fs.map FrR.abs) f.abs rest [(1,x2)]=⟨0,R.out++[x2],fs.map FrR.abs++[⟨f.fn,f.pc+1,f.loc,rest⟩],R.obs.map ObR.abs,R.dr⟩:=by
    have xa:¬40<=R.abs.out.length:=hl;simp only[doA,xa];rfl
   rw[e];exact⟨xb,_,he,hm,⟨by simp [McR.abs,FrR.abs],fun e=>by simp at e⟩,ht⟩
 ·refine (vU h h1 a vc).mono fun _ _ ht=>?_
  have e:doA g 26 a R.abs (fs.map FrR.abs) f.abs rest [(x1,x2)]=D4 R.abs 2:=if_pos h1;rw[e];exact ht.doA h.m hq
theorem a7E (hq:F4 R) (h:C0 w own mb g R fs f rest [] va sb) (a:Int) (vc:Nat) :
  Calls prog (doT 27) #[zB mb,J a,.slice va 0 vc] w fun e w'=>DoA own mb g (doA g 27 a R.abs (fs.map FrR.abs) f.abs rest []) w e w':=by
 refine (zJ h.m a _).mono ?_;rintro e w' ⟨xa,R',he,hm,rfl,ht⟩;exact⟨xa,_,he,hm,⟨by simp [doA,McR.abs],hq⟩,ht⟩
end
section
variable {R:McR} {f:FrR} {fs:List FrR} {g:PgR} {mb sb:Nat} {more rest:List Val} {own:Own} {va:Option Addr} {w:World}
theorem iF (p:Option Addr) (v1 v2:Int) (h2:(v1 == 2)=false) (w:World) :
  Calls prog 225 #[.pointer p,.agg #[zC v1,J v2]] w fun e w'=>e=.returned (.agg #[zC 0,zD])/\L0d w w':=by
 go_enter func225,ntmps225;go_wp2
 all_goals exact bodyPost_ret (v:=.agg #[zC 0,zD]) (by simp [results,results225,go_sem]) rfl ⟨rfl,P5⟩
theorem rQ (k kind:Int) (fa:Option Addr) (n fc:Nat) (i1 i2:Int) (hn:n<=1000) (w:World) :
  Calls prog 306 #[.agg #[zC k,.slice fa n fc],zC kind,.agg #[zC i1,J i2]] w fun e w'=>e=.returned (J (K6 k kind n i1 i2))/\L0d w w':=by
 by_cases h1:k=kind
 rotate_left
 ·have hr:K6 k kind n i1 i2=2:=if_neg (fun e=>h1 e.1)
  rw[hr];clear hr;go_enter func306,ntmps306;go_wp2_with (first | (go_at_call 206;refine (D5 _ _ _).mono ?_;rintro e w' ⟨rfl,o4,rfl⟩) | (go_at_call 116;refine (C5 _ _ _ _).mono ?_;rintro e w' ⟨rfl,rfl⟩))
  go_ret;exact⟨rfl,P5⟩
 ·subst h1
  cases h2:(i1 == 1)
  ·have hr:K6 k k n i1 i2=2:=if_neg (fun e=>by rw [e.2] at h2;simp at h2)
   rw[hr];clear hr;go_enter func306,ntmps306;go_wp2_with (first | (go_at_call 206;refine (D5 _ _ _).mono ?_;rintro e w' ⟨rfl,o4,rfl⟩) | (go_at_call 116;refine (C5 _ _ _ _).mono ?_;rintro e w' ⟨rfl,rfl⟩))
   go_ret;exact⟨rfl,P5⟩
  ·have e1:k=k/\i1=1:=⟨rfl,beq_iff_eq.1 h2⟩
   cases hin:B3 i2 0 ((n:Int) - 1)
   ·have hr:K6 k k n i1 i2=3:=by
     unfold K6;rw[if_pos e1,if_neg];rintro⟨q1,q2⟩;have:B3 i2 0 ((n:Int) - 1)=true:=U7 q1 R5;rw[this] at hin;cases hin
    rw[hr];clear hr e1;go_enter func306,ntmps306;go_wp2_with (first | (go_at_call 206;refine (D5 _ _ _).mono ?_;rintro e w' ⟨rfl,o4,rfl⟩) | (go_at_call 116;refine (C5 _ _ _ _).mono ?_;rintro e w' ⟨rfl,rfl⟩))
    go_ret;exact⟨rfl,P5⟩
   ·have hr:K6 k k n i1 i2=0:=by
     unfold K6;rw[E5] at hin;rw[if_pos e1,if_pos R5]
    rw[hr];clear hr e1;go_enter func306,ntmps306;go_wp2_with (first | (go_at_call 206;refine (D5 _ _ _).mono ?_;rintro e w' ⟨rfl,o4,rfl⟩) | (go_at_call 116;refine (C5 _ _ _ _).mono ?_;rintro e w' ⟨rfl,rfl⟩))
    go_ret;exact⟨rfl,P5⟩
def iO (w:World) (mb:Nat) (x:Val) (kd:Int) (fa:Option Addr) (n fc:Nat):Prop :=
 ∀W,L0d w W->Calls prog 225 #[.pointer (some ⟨mb,4,none⟩),.agg #[zC x.1,J x.2]] W fun e w'=>e=.returned (.agg #[zC kd,.slice fa n fc])/\L0d W w'
theorem bE (h:A4 w own mb g R) (x:Val) (hx:VOk (R.obs.map ObR.abs) x) :
  ∃kd fa n fc,iO w mb x kd fa n fc/\(A1 (R.obs.map ObR.abs) x).1=kd/\(A1 (R.obs.map ObR.abs) x).2.length=n:=by
 by_cases h2:x.1=2
 ·obtain ⟨h0,o',xa,_⟩:=hx.ref h2
  rw[List.getElem?_map] at xa;obtain⟨o,ho,rfl⟩:=Option.map_eq_some_iff.1 xa;obtain⟨j,hj⟩:=L5c h0;obtain⟨x1,x2⟩:=x;simp only at h2 hj ho;subst h2 hj;rw[Int.toNat_natCast] at ho;obtain⟨fa,fc,xb⟩:=E0 (h.fld j o ho);have e:A1 (R.obs.map ObR.abs) (2,(j:Int))=o.abs:=by
   unfold A1;rw[if_pos rfl,List.getD_eq_getElem?_getD,List.getElem?_map];simp only[Int.toNat_natCast,ho];rfl
  rw[e];refine⟨o.kind,fa,o.fl.length,fc,fun W hW=>?_,rfl,rfl⟩;have:=aF (h.same hW.size fun k hk=>hW.block k hk) ho;rw[xb] at this;exact this
 ·have e:A1 (R.obs.map ObR.abs) x=(0,[]):=if_neg h2
  rw[e];exact⟨0,none,0,0,fun W _=>iF _ _ _ (L2c.2 h2) W,rfl,rfl⟩
theorem bQ (o:Ob) (kind:Int) (ix:Val):F6 o kind ix=K6 o.1 kind o.2.length ix.1 ix.2:=by
 unfold F6 K6;by_cases h:o.1=kind/\ix.1=1
 ·rw [if_neg R5,if_pos h]
 ·rw [if_pos R5,if_neg h]
theorem fI {x:Val} (h:C0 w own mb g R fs f rest (x::more) va sb) {kd:Int} {fa:Option Addr} {n fc:Nat} (hr:iO w mb x kd fa n fc) (hn:n<=1000) (kind:Int) (ix:Val) (k:Nat) (hk:more.length+1=k) (hk3:k<=3) (hb:K6 kd kind n ix.1 ix.2≠0) (vc:Nat) :
  Calls prog 301 #[zB mb,.slice va k vc,zC kind,.agg #[zC ix.1,J ix.2]] w fun e w'=>F7 (K6 kd kind n ix.1 ix.2) w e w':=by
 obtain⟨rfl,xl,_,s0,s1⟩:=h.first
 obtain⟨x1,x2⟩:=x;simp only at s0 s1;have xn:mb < w.heap.size:=h.m.lt mb _ h.m.me;have xb:Hid (∀W,L0d w W->Calls prog 225 #[.pointer (some ⟨mb,4,none⟩),.agg #[zC x1,J x2]] W fun e w'=>e=.returned (.agg #[zC kd,.slice fa n fc])/\L0d W w'):=hr;have xh:Hid (∀W,Calls prog 306 #[.agg #[zC kd,.slice fa n fc],zC kind,.agg #[zC ix.1,J ix.2]] W fun e w'=>e=.returned (J (K6 kd kind n ix.1 ix.2))/\L0d W w'):=fun W=>rQ kd kind fa n fc ix.1 ix.2 hn W
 generalize K6 kd kind n ix.1 ix.2=t at *
 have xp:(t != 0)=true:=bne_iff_ne.2 hb;have xg:sb≠w.heap.size+1:=by omega
 clear h hr hb;go_enter func301,ntmps301;go_wp2_with fail;go_region_with (first | (go_at_call 225;refine (xb.out _ ?_).mono ?_;exact P5;rintro e w2 ⟨rfl,xa⟩;obtain ⟨xo,xm⟩:=Z5 xa;have xe:=xa.size;have xq:w.heap.size < w2.heap.size:=(by simp at xe;omega);have xf:sb < w2.heap.size:=R5;have xk:mb < w2.heap.size:=R5;(try (have xi:w.heap.size+1 < w2.heap.size:=(by simp at xe;omega)));have xc:Hid (L0d w w2):=A3 xa P5;clear xa))
 all_goals
  go_wp2_with (go_at_call 306;refine (xh.out _).mono ?_;rintro e w3 ⟨rfl,xd⟩;have xj:Hid (L0d w w3):=A3 xd (by have hq:=xc.out.size;repeat (first | exact xc.out | refine L3c ?_ | refine Below.setCell ?_ Q1 _ | refine L3a ?_ Q1 _));clear xd)
  go_ret;exact⟨rfl,xj.out⟩
theorem kV {x:Val} (h:C0 w own mb g R fs f rest (x::more) va sb) {kd:Int} {fa:Option Addr} {n fc:Nat} (hr:iO w mb x kd fa n fc) (hn:n<=1000) (kind:Int) (ix:Val) (k:Nat) (hk:more.length+1=k) (hk3:k<=3) (hb:K6 kd kind n ix.1 ix.2≠0) (vc:Nat) :
  Calls prog 302 #[zB mb,.slice va k vc,zC kind,.agg #[zC ix.1,J ix.2]] w fun e w'=>F7 (K6 kd kind n ix.1 ix.2) w e w':=by
 obtain⟨rfl,xl,_,s0,s1⟩:=h.first
 obtain⟨x1,x2⟩:=x;simp only at s0 s1;have xn:mb < w.heap.size:=h.m.lt mb _ h.m.me;have xb:Hid (∀W,L0d w W->Calls prog 225 #[.pointer (some ⟨mb,4,none⟩),.agg #[zC x1,J x2]] W fun e w'=>e=.returned (.agg #[zC kd,.slice fa n fc])/\L0d W w'):=hr;have xh:Hid (∀W,Calls prog 306 #[.agg #[zC kd,.slice fa n fc],zC kind,.agg #[zC ix.1,J ix.2]] W fun e w'=>e=.returned (J (K6 kd kind n ix.1 ix.2))/\L0d W w'):=fun W=>rQ kd kind fa n fc ix.1 ix.2 hn W
 generalize K6 kd kind n ix.1 ix.2=t at *
 have xp:(t != 0)=true:=bne_iff_ne.2 hb;have xg:sb≠w.heap.size+1:=by omega
 clear h hr hb;go_enter func302,ntmps302;go_wp2_with fail;go_region_with (first | (go_at_call 225;refine (xb.out _ ?_).mono ?_;exact P5;rintro e w2 ⟨rfl,xa⟩;obtain ⟨xo,xm⟩:=Z5 xa;have xe:=xa.size;have xq:w.heap.size < w2.heap.size:=(by simp at xe;omega);have xf:sb < w2.heap.size:=R5;have xk:mb < w2.heap.size:=R5;(try (have xi:w.heap.size+1 < w2.heap.size:=(by simp at xe;omega)));have xc:Hid (L0d w w2):=A3 xa P5;clear xa))
 all_goals
  go_wp2_with (go_at_call 306;refine (xh.out _).mono ?_;rintro e w3 ⟨rfl,xd⟩;have xj:Hid (L0d w w3):=A3 xd (by have hq:=xc.out.size;repeat (first | exact xc.out | refine L3c ?_ | refine Below.setCell ?_ Q1 _ | refine L3a ?_ Q1 _));clear xd)
  go_ret;exact⟨rfl,xj.out⟩
end
section
variable {R:McR} {f:FrR} {fs:List FrR} {g:PgR} {mb sb:Nat} {own:Own} {rest:List Val} {va:Option Addr} {w:World} {x y z:Val}
theorem C0.three (h:C0 w own mb g R fs f rest [x,y,z] va sb) :
  ∃o,va=some ⟨sb,o,none⟩/\sb < w.heap.size/\w.cell? ⟨sb,o,none⟩=some (zC x.1)/\w.cell? ⟨sb,o+1,none⟩=some (J x.2)/\w.cell? ⟨sb,o+2,none⟩=some (zC y.1)/\w.cell? ⟨sb,o+3,none⟩=some (J y.2)/\w.cell? ⟨sb,o+4,none⟩=some (zC z.1)/\w.cell? ⟨sb,o+5,none⟩=some (J z.2):=by
 obtain⟨h1,h2,h3⟩:=h.hva R6;obtain⟨h4,h5⟩:=h3 0 x rfl;obtain⟨h6,h7⟩:=h3 1 y rfl;obtain⟨h8,h9⟩:=h3 2 z rfl;exact⟨_,h1,h.m.lt sb _ h2,by simpa using h4,by simpa using h5,by simpa using h6,by simpa using h7,by simpa using h8,by simpa using h9⟩
theorem pZ {j i:Nat} {o:ObR} (h:C0 w own mb g R fs f rest [(2,(j:Int)),z,y] va sb) (hj:R.obs[j]?=some o) (hi:i < o.fl.length) (hfn:o.fl.length<=1000) (vc:Nat) :
  Calls prog 302 #[zB mb,.slice va 3 vc,zC o.kind,.agg #[zC 1,J (i:Int)]] w fun e w'=>aW own mb g (nO R fs f rest j i o y) 0 w e w':=by
 obtain⟨so,rfl,yi,s0,s1,_,_,s2,s3⟩:=h.three;obtain⟨y1,y2⟩:=y;simp only at s0 s1 s2 s3;obtain⟨x,hx⟩:∃x,o.fl[i]?=some x:=⟨_,L1b hi⟩
 obtain⟨fb,fc,xd,_,xn⟩:=(h.m.fld j o hj).1.form R5;have xc:own fb=some (.fld j):=(h.m.fld j o hj).2 fb (by rw [xd];rfl);have xb:=(h.m.fld j o hj).1;rw[xd] at xb;have xa:∀t,t < 2->w.cell? ⟨fb,i*2+t,none⟩=(O9 x)[t]?:=fun t ht=>by
  rw[xb.cellAt _ R5];exact D3 E6 hx ht
 have y0:w.cell? ⟨fb,i*2,none⟩=some (zC x.1):=xa 0 R5;have yy:w.cell? ⟨fb,i*2+1,none⟩=some (J x.2):=xa 1 R5;have z0:=xb.frozenAt (i*2);have z1:=xb.frozenAt (i*2+1);have yk:mb < w.heap.size:=h.m.lt mb _ h.m.me;have xk:Hid (∀W,L0d w W->Calls prog 225 #[.pointer (some ⟨mb,4,none⟩),.agg #[zC 2,J (j:Int)]] W fun e w'=>e=.returned (.agg #[zC o.kind,.slice (zA fb) o.fl.length fc])/\L0d W w'):=by
  intro W hW;have:=aF (h.m.same hW.size fun k hk=>hW.block k hk) hj;rw[xd] at this;exact this
 have yl:sb≠fb:=fun e=>by
  obtain⟨_,q2,_⟩:=h.hva R6;rw[e,xc] at q2;cases q2
 have HH:=hid h;have HJ:=hid hj;have HX:=hid hx;have ye:=hid xd;have xh:=hid xc;have xx:fb≠w.heap.size+1:=by omega
 have xs:sb≠w.heap.size+1:=by omega
 have yg:fb < w.heap.size+1:=by omega
 have yj:fb < w.heap.size+1+1:=by omega
 have yh:sb < w.heap.size+1:=by omega
 have yc:sb < w.heap.size+1+1:=by omega
 clear h hj hx xd xb xa xc;go_enter func302,ntmps302;go_wp2_with fail;go_region_with (first | (go_at_call 225;refine (xk.out _ ?_).mono ?_;exact P5;rintro e w2 ⟨rfl,xf⟩;obtain ⟨xz,xv⟩:=Z5 xf;have xp:=xf.size;have ym:w.heap.size < w2.heap.size:=(by simp at xp;omega);have xu:fb < w2.heap.size:=R5;have xq:sb < w2.heap.size:=R5;have yf:mb < w2.heap.size:=R5;(try (have yb:w.heap.size+1 < w2.heap.size:=(by simp at xp;omega)));have xo:Hid (L0d w w2):=A3 xf P5;clear xf))
 all_goals
  go_wp2_with (first | (go_at_call 306;refine (pM _ _ _ _ _ hi hfn _).mono ?_;rintro e w3 ⟨rfl,xe⟩;obtain ⟨xi,xj⟩:=Z5 xe;have xm:=xe.size;have yn:w2.heap.size<=w3.heap.size:=(by simp at xm;omega);(try (have xy:w2.heap.size < w3.heap.size:=(by simp at xm;omega)));have yo:w.heap.size < w3.heap.size:=R5;have xt:fb < w3.heap.size:=R5;have xr:sb < w3.heap.size:=R5;have yd:mb < w3.heap.size:=R5;(try (have ya:w.heap.size+1 < w3.heap.size:=R5));have xl:Hid (L0d w w3):=A3 xe (by have hq:=xo.out.size;repeat (first | exact xo.out | refine L3c ?_ | refine Below.setCell ?_ Q1 _ | refine L3a ?_ Q1 _));clear xe))
  have g0:=(xl.out.frozen (p:=⟨fb,i*2,none⟩) xn).trans z0;have g1:=(xl.out.frozen (p:=⟨fb,i*2+1,none⟩) xn).trans z1;clear xv xj;go_region
  all_goals
   obtain⟨hA,hT⟩:=a1P (y:=(y1,y2)) HH.out (L3c xl.out) HJ.out HX.out ye.out xh.out;have HA:=hid hA;have HT:=hid hT;clear hA hT xz xi g0 g1;go_wp2_with (go_at_call 290;refine (HA.out.answer (L3b _ _) vc _ [] (Z1 _ _) R6 3 rfl).mono ?_;rintro e w' ⟨xg,xw,rfl,hm,ht⟩)
   go_ret;exact⟨xg,_,rfl,hm,⟨xw,by rw [List.append_nil]⟩,HT.out.trans ht⟩
theorem a2n (h:C0 w own mb g R fs f rest [x] va sb) {kd:Int} {fa:Option Addr} {n fc:Nat} (hr:iO w mb x kd fa n fc) (hn:n<=1000) (a:Int) (hb:K6 kd 1 n 1 a≠0) (vc:Nat) :
  Calls prog 281 #[zB mb,J a,.slice va 1 vc] w fun e w'=>F7 (K6 kd 1 n 1 a) w e w':=by
 have HA:Hid (∀W,L0d w W->Calls prog 301 #[zB mb,.slice va 1 vc,zC 1,.agg #[zC 1,J a]] W fun e w'=>F7 (K6 kd 1 n 1 a) W e w'):=fun W hW=>fI (h.later hW) (fun V hV=>hr V (A3 hV hW)) hn 1 (1,a) 1 rfl R5 hb vc
 clear h hr hb;generalize K6 kd 1 n 1 a=t at *
 go_enter func281,ntmps281;go_wp2_with (first | (go_at_call 237;refine (N5 _ _).mono ?_;rintro e w' ⟨rfl,o,rfl⟩) | (go_at_call 301;refine (HA.out _ ?_).mono ?_;exact P5;rintro e w2 ⟨rfl,xa⟩;have xb:Hid (L0d w w2):=A3 xa P5;clear xa))
 go_ret;exact⟨rfl,xb.out⟩
theorem a2s (h:C0 w own mb g R fs f rest [x,y] va sb) {kd:Int} {fa:Option Addr} {n fc:Nat} (hr:iO w mb x kd fa n fc) (hn:n<=1000) (a:Int) (hb:K6 kd 1 n 1 a≠0) (vc:Nat) :
  Calls prog 282 #[zB mb,J a,.slice va 2 vc] w fun e w'=>F7 (K6 kd 1 n 1 a) w e w':=by
 have HA:Hid (∀W,L0d w W->Calls prog 302 #[zB mb,.slice va 2 vc,zC 1,.agg #[zC 1,J a]] W fun e w'=>F7 (K6 kd 1 n 1 a) W e w'):=fun W hW=>kV (h.later hW) (fun V hV=>hr V (A3 hV hW)) hn 1 (1,a) 2 rfl R5 hb vc
 clear h hr hb;generalize K6 kd 1 n 1 a=t at *
 go_enter func282,ntmps282;go_wp2_with (first | (go_at_call 237;refine (N5 _ _).mono ?_;rintro e w' ⟨rfl,o,rfl⟩) | (go_at_call 302;refine (HA.out _ ?_).mono ?_;exact P5;rintro e w2 ⟨rfl,xa⟩;have xb:Hid (L0d w w2):=A3 xa P5;clear xa))
 go_ret;exact⟨rfl,xb.out⟩
def a9F (Q:World->Ending->World->Prop) (w:World) (e:Ending) (w':World):Prop:=Q w e w'
theorem a4Q (h:C0 w own mb g R fs f rest [x,y] va sb) (a:Int) (vc:Nat) (Q:World->Ending->World->Prop) (hQ:∀W e w',L0d w W->Q W e w'->Q w e w') (hret:∀W e w',Q W e w'->∃t,e=.returned (J t))
  (HA:Hid (∀W,L0d w W->Calls prog 301 #[zB mb,.slice va 2 vc,zC 2,.agg #[zC y.1,J y.2]] W fun e w'=>Q W e w')) :
  Calls prog 283 #[zB mb,J a,.slice va 2 vc] w fun e w'=>a9F Q w e w':=by
 obtain⟨o,rfl,xc,c0,c1,c2,c3⟩:=h.two;have HQ:=hid hQ;have xa:=hid hret;clear h hQ hret;go_enter func283,ntmps283;go_wp2_with (first | (go_at_call 301;refine (HA.out _ ?_).mono ?_;exact P5;intro e w2 hq2;obtain ⟨t,rfl⟩:=xa.out _ _ _ hq2;have xb:Hid (Q w (.returned (J t)) w2):=HQ.out _ _ _ P5 hq2;clear hq2))
 go_ret;exact xb.out
theorem a2t (h:C0 w own mb g R fs f rest [x,y,z] va sb) (a:Int) (vc:Nat) (Q:World->Ending->World->Prop) (hQ:∀W e w',L0d w W->Q W e w'->Q w e w') (hret:∀W e w',Q W e w'->∃t,e=.returned (J t))
  (HA:Hid (∀W,L0d w W->Calls prog 302 #[zB mb,.slice va 3 vc,zC 2,.agg #[zC y.1,J y.2]] W fun e w'=>Q W e w')) :
  Calls prog 284 #[zB mb,J a,.slice va 3 vc] w fun e w'=>a9F Q w e w':=by
 obtain⟨o,rfl,xc,c0,c1,c2,c3,_,_⟩:=h.three;have HQ:=hid hQ;have xa:=hid hret;clear h hQ hret;go_enter func284,ntmps284;go_wp2_with (first | (go_at_call 302;refine (HA.out _ ?_).mono ?_;exact P5;intro e w2 hq2;obtain ⟨t,rfl⟩:=xa.out _ _ _ hq2;have xb:Hid (Q w (.returned (J t)) w2):=HQ.out _ _ _ P5 hq2;clear hq2))
 go_ret;exact xb.out
end
section
variable {R:McR} {e:Ending} {f:FrR} {fs:List FrR} {g:PgR} {kind:Int} {mb sb:Nat} {own:Own} {rest:List Val} {s:McA} {va:Option Addr} {w w':World} {x y z:Val}
theorem DoA.of_top {l:List Val} (hs:s=goA R.abs (fs.map FrR.abs) f.abs (f.pc+1) l) (hq:F4 R) (h:C3 own mb g R fs f (f.pc+1) l (J 0) w e w'):DoA own mb g s w e w':=by
 rw[hs];exact h.doA hq
theorem DoA.later {W:World} (hB:L0d w W) (h:DoA own mb g s W e w'):DoA own mb g s w e w':=by
 obtain⟨xa,R',he,hm,hp,ht⟩:=h;exact⟨xa,R',he,hm,hp,(A2.of_below hB).trans ht⟩
theorem DoA.ret (h:DoA own mb g s w e w'):∃t,e=.returned (J t):=by
 obtain⟨_,_,he,_⟩:=h;exact⟨_,he⟩
theorem eW {ix:Val} (hk:kind≠0) (hx:VOk (R.obs.map ObR.abs) x) (hr:F6 (A1 (R.obs.map ObR.abs) x) kind ix=0) :
  ∃(j i:Nat) (o:ObR) (y:Val),x=(2,(j:Int))/\ix=(1,(i:Int))/\R.obs[j]?=some o/\o.kind=kind/\o.fl[i]?=some y/\A1 (R.obs.map ObR.abs) x=o.abs:=by
 obtain⟨h1,h2,h3,h4⟩:=gH hr;obtain⟨xa,hg⟩:=eZ (obs:=R.obs.map ObR.abs) (v:=x) (by rw [h1];exact hk);obtain⟨h0,_⟩:=hx.ref xa;obtain⟨j,hj⟩:=L5c h0;obtain⟨i,hi⟩:=L5c h3;rw[List.getElem?_map] at hg;obtain⟨o,ho,xb⟩:=Option.map_eq_some_iff.1 hg;rw[hj,Int.toNat_natCast] at ho;rw[<- xb] at h1 h4;rw[hi,Int.toNat_natCast] at h4;refine⟨j,i,o,o.fl[i]'h4,?_,?_,ho,h1,L1b h4,xb.symm⟩
 ·rw [<- xa,<- hj]
 ·rw [<- h2,<- hi]
theorem a9c (hq:F4 R) (h:C0 w own mb g R fs f rest [x] va sb) (hx:VOk (R.obs.map ObR.abs) x) (hl:(A1 (R.obs.map ObR.abs) x).2.length<=1000) (a:Int) (vc:Nat) :
  Calls prog (doT 19) #[zB mb,J a,.slice va 1 vc] w fun e w'=>DoA own mb g (doA g 19 a R.abs (fs.map FrR.abs) f.abs rest [x]) w e w':=by
 show Calls _ _ _ _ fun e w'=>DoA own mb g (cU R.abs (fs.map FrR.abs) f.abs rest x 1 (1,a)) w e w'
 by_cases hr:F6 (A1 (R.obs.map ObR.abs) x) 1 (1,a)=0
 ·obtain ⟨j,i,o,y,rfl,xc,ho,hk,hy,xa⟩:=eW R4 hx hr
  obtain rfl:a=(i:Int):=congrArg Prod.snd xc;have xb:o.fl.length<=1000:=by rw [xa] at hl;exact hl
  refine (a4R h ho hk hy xb vc).mono fun _ _ hp=>DoA.of_top ?_ hq hp
  unfold cU;rw[if_pos (show F6 (A1 R.abs.obs _) 1 (1,(i:Int))=0 from hr)];have:(A1 R.abs.obs (2,(j:Int))).2.getD (i:Int).toNat (0,0)=y:=by
   rw[show A1 R.abs.obs (2,(j:Int))=o.abs from xa,Int.toNat_natCast,List.getD_eq_getElem?_getD];show (o.fl[i]?).getD (0,0)=y;rw[hy];rfl
  simp only[this];rfl
 ·obtain ⟨kd,fa,n,fc,hR,rfl,rfl⟩:=bE h.m x hx
  refine (a2n h hR hl a (by rw [bQ] at hr;exact hr) vc).mono fun _ _ hp=>?_
  have e:cU R.abs (fs.map FrR.abs) f.abs rest x 1 (1,a)=D4 R.abs (F6 (A1 (R.obs.map ObR.abs) x) 1 (1,a)):=if_neg hr;rw[e,bQ];exact hp.doA h.m hq
theorem a9K (hq:F4 R) (h:C0 w own mb g R fs f rest [x,z] va sb) (hx:VOk (R.obs.map ObR.abs) x) (hl:(A1 (R.obs.map ObR.abs) x).2.length<=1000) (a:Int) (vc:Nat) :
  Calls prog (doT 21) #[zB mb,J a,.slice va 2 vc] w fun e w'=>DoA own mb g (doA g 21 a R.abs (fs.map FrR.abs) f.abs rest [x,z]) w e w':=by
 show Calls _ _ _ _ fun e w'=>DoA own mb g (cU R.abs (fs.map FrR.abs) f.abs rest x 2 z) w e w'
 refine a4Q h a vc (fun W e w'=>DoA own mb g (cU R.abs (fs.map FrR.abs) f.abs rest x 2 z) W e w') (fun W e w' hB hd=>hd.later hB) (fun W e w' hd=>hd.ret) (hid fun W hW=>?_);have hA:=h.later hW;by_cases hr:F6 (A1 (R.obs.map ObR.abs) x) 2 z=0
 ·obtain ⟨j,i,o,y,rfl,rfl,ho,hk,hy,xa⟩:=eW R4 hx hr
  have xb:o.fl.length<=1000:=by rw [xa] at hl;exact hl
  have:=fR hA ho hy xb 2 rfl R5 vc;rw[hk] at this;refine this.mono fun _ _ hp=>DoA.of_top ?_ hq hp
  unfold cU;rw[if_pos (show F6 (A1 R.abs.obs _) 2 (1,(i:Int))=0 from hr)];have:(A1 R.abs.obs (2,(j:Int))).2.getD (i:Int).toNat (0,0)=y:=by
   rw[show A1 R.abs.obs (2,(j:Int))=o.abs from xa,Int.toNat_natCast,List.getD_eq_getElem?_getD];show (o.fl[i]?).getD (0,0)=y;rw[hy];rfl
  simp only[this];rfl
 ·obtain ⟨kd,fa,n,fc,hR,rfl,rfl⟩:=bE h.m x hx
  refine (fI hA (fun V hV=>hR V (A3 hV hW)) hl 2 z 2 rfl R5 (by rw [bQ] at hr;exact hr) vc).mono fun _ _ hp=>?_
  have e:cU R.abs (fs.map FrR.abs) f.abs rest x 2 z=D4 R.abs (F6 (A1 (R.obs.map ObR.abs) x) 2 z):=if_neg hr;rw[e,bQ];exact hp.doA hA.m hq
theorem pK {j i:Nat} {o:ObR} (hq:F4 R) (hr:F6 (A1 (R.obs.map ObR.abs) (2,(j:Int))) kind (1,(i:Int))=0) (hre:A1 (R.obs.map ObR.abs) (2,(j:Int))=o.abs)
  (h:aW own mb g (nO R fs f rest j i o y) 0 w e w'):DoA own mb g (setE R.abs (fs.map FrR.abs) f.abs rest (2,(j:Int)) kind (1,(i:Int)) y) w e w':=by
 have es:setE R.abs (fs.map FrR.abs) f.abs rest (2,(j:Int)) kind (1,(i:Int)) y=⟨0,R.out,fs.map FrR.abs++[⟨f.fn,f.pc+1,f.loc,rest⟩],(R.obs.map ObR.abs).set j (o.kind,o.fl.set i y),R.dr⟩:=by
  unfold setE;rw[if_pos (show F6 (A1 R.abs.obs _) kind (1,(i:Int))=0 from hr),show A1 R.abs.obs (2,(j:Int))=o.abs from hre];rfl
 rw[es];obtain⟨xa,R',he,hm,⟨xb,rfl⟩,ht⟩:=h;exact⟨xa,_,he,hm,⟨by simp [McR.abs,FrR.abs,ObR.abs,List.map_set],hq⟩,ht⟩
theorem a9e (hq:F4 R) (h:C0 w own mb g R fs f rest [x,y] va sb) (hx:VOk (R.obs.map ObR.abs) x) (hl:(A1 (R.obs.map ObR.abs) x).2.length<=1000) (a:Int) (vc:Nat) :
  Calls prog (doT 20) #[zB mb,J a,.slice va 2 vc] w fun e w'=>DoA own mb g (doA g 20 a R.abs (fs.map FrR.abs) f.abs rest [x,y]) w e w':=by
 show Calls _ _ _ _ fun e w'=>DoA own mb g (setE R.abs (fs.map FrR.abs) f.abs rest x 1 (1,a) y) w e w'
 by_cases hr:F6 (A1 (R.obs.map ObR.abs) x) 1 (1,a)=0
 ·obtain ⟨j,i,o,u,rfl,xc,ho,hk,hu,xa⟩:=eW R4 hx hr
  obtain rfl:a=(i:Int):=congrArg Prod.snd xc;have xb:o.fl.length<=1000:=by rw [xa] at hl;exact hl
  exact (a4S h ho hk (L1a.1 hu).1 xb vc).mono fun _ _ hp=>pK hq hr xa hp
 ·obtain ⟨kd,fa,n,fc,hR,rfl,rfl⟩:=bE h.m x hx
  refine (a2s h hR hl a (by rw [bQ] at hr;exact hr) vc).mono fun _ _ hp=>?_
  have e:setE R.abs (fs.map FrR.abs) f.abs rest x 1 (1,a) y=D4 R.abs (F6 (A1 (R.obs.map ObR.abs) x) 1 (1,a)):=if_neg hr;rw[e,bQ];exact hp.doA h.m hq
theorem a9f (hq:F4 R) (h:C0 w own mb g R fs f rest [x,z,y] va sb) (hx:VOk (R.obs.map ObR.abs) x) (hl:(A1 (R.obs.map ObR.abs) x).2.length<=1000) (a:Int) (vc:Nat) :
  Calls prog (doT 22) #[zB mb,J a,.slice va 3 vc] w fun e w'=>DoA own mb g (doA g 22 a R.abs (fs.map FrR.abs) f.abs rest [x,z,y]) w e w':=by
 show Calls _ _ _ _ fun e w'=>DoA own mb g (setE R.abs (fs.map FrR.abs) f.abs rest x 2 z y) w e w'
 refine a2t h a vc (fun W e w'=>DoA own mb g (setE R.abs (fs.map FrR.abs) f.abs rest x 2 z y) W e w') (fun W e w' hB hd=>hd.later hB) (fun W e w' hd=>hd.ret) (hid fun W hW=>?_);have hA:=h.later hW;by_cases hr:F6 (A1 (R.obs.map ObR.abs) x) 2 z=0
 ·obtain ⟨j,i,o,u,rfl,rfl,ho,hk,hu,xa⟩:=eW R4 hx hr
  have xb:o.fl.length<=1000:=by rw [xa] at hl;exact hl
  have:=pZ hA ho (L1a.1 hu).1 xb vc;rw[hk] at this;exact this.mono fun _ _ hp=>pK hq hr xa hp
 ·obtain ⟨kd,fa,n,fc,hR,rfl,rfl⟩:=bE h.m x hx
  refine (kV hA (fun V hV=>hR V (A3 hV hW)) hl 2 z 3 rfl R5 (by rw [bQ] at hr;exact hr) vc).mono fun _ _ hp=>?_
  have e:setE R.abs (fs.map FrR.abs) f.abs rest x 2 z y=D4 R.abs (F6 (A1 (R.obs.map ObR.abs) x) 2 z):=if_neg hr;rw[e,bQ];exact hp.doA hA.m hq
end
section
variable {w:World}
theorem a0Z (w:World) (cs cs':Array Value) (t:TypeId):(w.alloc (.cells cs t)).setRow w.heap.size cs'=w.alloc (.cells cs' t):=by
 unfold World.setRow World.alloc;congr 1
 apply Array.ext_getElem?
 intro i;rw[Array.getElem?_modify];by_cases h:w.heap.size=i
 ·subst h;simp
 ·rw [if_neg h]
  simp only[Array.getElem?_push];rw[if_neg (Ne.symm h),if_neg (Ne.symm h)]
theorem qW {P:Program} (w:World) (dT sT ty elem:TypeId) (a:Addr) (dLen dCap c:Nat) (hu:P.underlying dT=some (.slice elem)) (hs:((P.info? elem).map (·.size)).isSome=true) :
  (Builtin.copy_ #[dT,sT] ty #[.slice (some a) dLen dCap,.slice none 0 c]).run P w=.ok (goInt 0) w:=by
 cases hq:P.info? elem with
 | none=>simp [hq] at hs
 | some i=>simp [Builtin.copy_,run_underlying hu,Builtin.lenOf,Builtin.firstCells,sizeOf,typeInfo,hq,storeCells]
theorem a1j (l k:Nat) (h:k<=l) (x:Val):(A7 (List.replicate l x)).drop (k*2)=A7 (List.replicate (l - k) x):=by
 have e:List.replicate l x=List.replicate k x++List.replicate (l - k) x:=by rw [List.replicate_append_replicate];congr 1;omega
 rw[e,J7];exact List.drop_left' (by rw [D8];simp)
def a6Z (w:World) (va:Option Addr) (l:List Val):Prop:=0 < l.length->∃sb o,va=some ⟨sb,o,none⟩/\sb < w.heap.size/\∀j u,(A7 l)[j]?=some u->w.cell? ⟨sb,o+j,none⟩=some u
theorem lP (l:Nat):madeCells #[zC 0,J 0] (l*2)=(A7 (List.replicate l (0,0))).toArray:=by
 rw[<- aC]
theorem gS {va:Option Addr} {vc l:Nat} {args:List Val} (hal:args.length<=l) (hs:a6Z w va args) (o1:Obj) :
  (Builtin.copy_ #[84,84] 3 #[.slice (some ⟨w.heap.size+1,0,none⟩) l l,.slice va args.length vc]).run prog ((w.alloc o1).alloc (.cells (madeCells #[zC 0,J 0] (l*2)) 92)) =
   .ok (goInt args.length) ((w.alloc o1).alloc (.cells (A7 (args++List.replicate (l - args.length) (0,0))).toArray 92)):=by
 obtain⟨xe,hi,hz,xd,xf⟩:=info_parts J2;have xa:(w.alloc o1).heap.size=w.heap.size+1:=by simp
 have xc:((w.alloc o1).alloc (Obj.cells (madeCells #[zC 0,J 0] (l*2)) 92)).heap[w.heap.size+1]?=some (Obj.cells (madeCells #[zC 0,J 0] (l*2)) 92 (0,0)):=B0 xa
 cases va with
 | none =>
  have h0:args=[]:=by
   rcases Nat.eq_zero_or_pos args.length with h | h
   ·exact List.length_eq_zero_iff.1 h
   ·obtain ⟨_,_,h1,_⟩:=hs h;cases h1
  subst h0;rw[List.nil_append,List.length_nil,Nat.sub_zero,<- lP];exact qW (P:=prog) ((w.alloc o1).alloc (.cells (madeCells #[zC 0,J 0] (l*2)) 92)) 84 84 3 92 ⟨w.heap.size+1,0,none⟩ l l vc underlying84 (by rw [hi];rfl)
 | some a =>
  have xb:∀j u,(A7 args)[j]?=some u->((w.alloc o1).alloc (Obj.cells (madeCells #[zC 0,J 0] (l*2)) 92)).cell? (a.add j)=some u:=fun j u hu=>by
   have hj:=(L1a.1 hu).1;rw[D8] at hj;obtain⟨sb,o,h1,h2,h3⟩:=hs R5
   cases h1;have e:(⟨sb,o,none⟩:Addr).add j=⟨sb,o+j,none⟩:=by unfold Addr.add;split <;> simp_all
   rw[e];have hb:L0d w ((w.alloc o1).alloc (Obj.cells (madeCells #[zC 0,J 0] (l*2)) 92)):=L3a (L3a (L3b _ _) (L1c _) _) R6 _;rw[hb.cell (p:=⟨sb,o+j,none⟩) h2];exact h3 j u hu
  have hm:Nat.min args.length l=args.length:=Nat.min_eq_left hal;have:=qX (P:=prog) ((w.alloc o1).alloc (.cells (madeCells #[zC 0,J 0] (l*2)) 92)) 84 84 3 92 (w.heap.size+1) 0 l l a args.length vc 2 (madeCells #[zC 0,J 0] (l*2)) 92 (A7 args) underlying84 (by rw [hi];simp [xd]) xc (by rw [D8,hm]) xb (by rw [D8,size_madeCells];omega) (aH args)
  rw[this,hm];have e2:(madeCells #[zC 0,J 0] (l*2)).toList.drop (0+(A7 args).length)=A7 (List.replicate (l - args.length) (0,0)):=by
   rw[aC,Nat.zero_add,D8];exact a1j l args.length hal (0,0)
  rw[e2,List.take_zero,List.nil_append,<- J7];have e3:=a0Z (w.alloc o1) (madeCells #[zC 0,J 0] (l*2)) (A7 (args++List.replicate (l - args.length) (0,0))).toArray 92;rw[xa] at e3;rw[e3]
def a1X (own:Own) (mb:Nat) (g:PgR) (R:McR) (fn:Nat) (loc:List Val) (w:World) (e:Ending) (w':World):Prop :=
 ∃own' cv lv,e=.returned (.tuple #[])/\A4 w' own' mb g { R with cv:=cv,frs:=R.frs++[⟨fn,0,lv,zD,loc,[]⟩] }/\A2 own w own' w'
theorem a2A {own:Own} {mb:Nat} {g:PgR} {R:McR} (h:A4 w own mb g R) (fn l:Nat) (p:Int) (ca:Option Addr) (cn cc:Nat) (hl:l<=8) (hn:R.frs.length<=1000) (args:List Val) (hal:args.length<=l) (va:Option Addr) (vc:Nat) (hs:a6Z w va args) :
  Calls prog 130 #[.pointer (some ⟨mb,3,none⟩),J (fn:Int),.agg #[J p,J (l:Int),.slice ca cn cc],.slice va args.length vc] w fun e w'=>a1X own mb g R fn (args++List.replicate (l - args.length) (0,0)) w e w':=by
 have c3:=h.c3;have xo:=h.fz 3;have xn:mb < w.heap.size:=h.lt mb _ h.me;obtain⟨xc,hi,hz,xd,xe⟩:=info_parts J2;have xf:Hid (∀W:World,(Instr.makeSlice 84 (J (l:Int)) (J (l:Int))).run prog W=.ok (.slice (zA W.heap.size) l l) (W.alloc (.cells (madeCells #[zC 0,J 0] (l*2)) 92))):=by
  intro W;have hr:=run_make (P:=prog) W 84 92 xc _ underlying84 hi hz .i64 .i64 l l R5 (Int.le_refl _) (by rw [xe];omega) R5;simpa [xd,Value.cells] using hr
 have xj:=xf.out;have xm:=gS (w:=w) (va:=va) (vc:=vc) hal hs (.cells #[J p,J (l:Int),.slice ca cn cc] 163);have xa:(args++List.replicate (l - args.length) ((0,0):Val)).length=l:=by simp;omega
 have HH:=hid h;generalize args++List.replicate (l - args.length) ((0,0):Val)=loc at *
 clear h hi hz xd xe xf hs hal;go_enter func130,ntmps130;obtain⟨xk,ji,jz,xh,xg⟩:=info_parts jA;have JI:=hid ji;have JZ:=hid jz;have xl:=hid xh;have xi:=hid xg;have HO:=hid HH.out.called.1;clear ji jz xh xg;go_wp2_with (at_builtin;go_must (refine wpList_append_lies _ rfl (.tmp 19) (.tmp 23) 66 rfl 0 86 xk _ 4 64 underlying66 JI.out JZ.out xl.out xi.out rfl R4 R.cv R.frs.length (R.frs.flatMap FrR.cells) rfl (((HO.out.alloc _).alloc _).alloc _) ⟨w.heap.size+1+1,0,none⟩ 1 1 (FrR.cells ⟨fn,0,.slice (some ⟨w.heap.size+1,0,none⟩) l l,zD,loc,[]⟩) rfl rfl (World.news_of_block (cs:=#[J (fn:Int),J 0,.slice (some ⟨w.heap.size+1,0,none⟩) l l,zD]) (t:=86) (fr:=(0,0)) (B0 R6)) (by intro u hu;simp only [FrR.cells,List.mem_cons,List.not_mem_nil,or_false] at hu;rcases hu with rfl | rfl | rfl | rfl <;> rfl) R5 Q7 R5 (L4c _) _ rfl ?_))
 intro gb cap w5 hown hgrow hat hlt;obtain⟨y0,y1,y2,xb,hM,hT⟩:=rH (fr:=⟨fn,0,.slice (some ⟨w.heap.size+1,0,none⟩) l l,zD,loc,[]⟩) (lb:=w.heap.size+1) (lc:=l) HH.out P8 hgrow hown (hat.imp id fun e=>e.trans R6) (by rw [xa]) R5 R6 (by
  refine World.ownsRow.alloc ?_ _;have:=World.ownsRow_lit (base:=0) (e:=92) (size:=2) (w.alloc (Obj.cells #[J p,J (l:Int),.slice ca cn cc] 163)) (A7 loc).toArray l (L4c _) Q7 (by simp [D8,xa]);rw[xa];simpa using this) ⟨rfl,rfl⟩
 have HM:=hid hM;have HT:=hid hT;clear hM hT hown hgrow hat hlt xj xm;go_wp2_with fail;go_end0
 exact⟨xb,_,_,rfl,HM.out,HT.out⟩
end
end Go.Proofs.YtbkmgoffiigdbaaGreatDoor
