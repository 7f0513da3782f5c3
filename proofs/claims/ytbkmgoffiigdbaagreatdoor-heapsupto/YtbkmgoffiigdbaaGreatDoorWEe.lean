import Derived.Test.YtbkmgoffiigdbaaGreatDoorWEd
namespace Go.Proofs.YtbkmgoffiigdbaaGreatDoor
open Go.RowKit Go.Sort Go.Proofs.Tryz
set_option maxHeartbeats 4000000
set_option maxRecDepth 100000
section
variable {R:McR} {f:FrR} {fs:List FrR} {g:PgR} {mb sb:Nat} {own:Own} {rest:List Val} {va:Option Addr} {w:World} {x y z:Val}
theorem C0.three (h:C0 w own mb g R fs f rest [x,y,z] va sb) :
  ∃o,va=some ⟨sb,o,none⟩/\sb < w.heap.size/\w.cell? ⟨sb,o,none⟩=some (.int .u8 x.1)/\w.cell? ⟨sb,o+1,none⟩=some (.int .i64 x.2)/\w.cell? ⟨sb,o+2,none⟩=some (.int .u8 y.1)/\w.cell? ⟨sb,o+3,none⟩=some (.int .i64 y.2)/\w.cell? ⟨sb,o+4,none⟩=some (.int .u8 z.1)/\w.cell? ⟨sb,o+5,none⟩=some (.int .i64 z.2):=by
 obtain⟨h1,h2,h3⟩:=h.hva R5;obtain⟨h4,h5⟩:=h3 0 x rfl;obtain⟨h6,h7⟩:=h3 1 y rfl;obtain⟨h8,h9⟩:=h3 2 z rfl;exact⟨_,h1,h.m.lt sb _ h2,by simpa using h4,by simpa using h5,by simpa using h6,by simpa using h7,by simpa using h8,by simpa using h9⟩
theorem mU {j i:Nat} {o:ObR} (h:C0 w own mb g R fs f rest [(2,(j:Int)),z,y] va sb) (hj:R.obs[j]?=some o) (hi:i < o.fl.length) (hfn:o.fl.length<=1000) (vc:Nat) :
  Calls prog 302 #[.pointer (some ⟨mb,0,none⟩),.slice va 3 vc,.int .u8 o.kind,.agg #[.int .u8 1,.int .i64 (i:Int)]] w fun e w'=>X7 own mb g (kX R fs f rest j i o y) 0 w e w':=by
 obtain⟨so,rfl,yg,s0,s1,_,_,s2,s3⟩:=h.three;obtain⟨y1,y2⟩:=y;simp only at s0 s1 s2 s3;obtain⟨x,hx⟩:∃x,o.fl[i]?=some x:=⟨_,L1b hi⟩
 obtain⟨fb,fc,xd,_,xo⟩:=(h.m.fld j o hj).1.form R4;have xc:own fb=some (.fld j):=(h.m.fld j o hj).2 fb (by rw [xd];rfl);have xa:=(h.m.fld j o hj).1;rw[xd] at xa;have xb:∀t,t < 2->w.cell? ⟨fb,i*2+t,none⟩=(O4 x)[t]?:=fun t ht=>by
  rw[xa.cellAt _ R4];exact E0 F7 hx ht
 have y0:w.cell? ⟨fb,i*2,none⟩=some (.int .u8 x.1):=xb 0 R4;have yy:w.cell? ⟨fb,i*2+1,none⟩=some (.int .i64 x.2):=xb 1 R4;have z0:=xa.frozenAt (i*2);have z1:=xa.frozenAt (i*2+1);have yh:mb < w.heap.size:=h.m.lt mb _ h.m.me;have xi:Hid (∀W,L0d w W->Calls prog 225 #[.pointer (some ⟨mb,4,none⟩),.agg #[.int .u8 2,.int .i64 (j:Int)]] W fun e w'=>e=.returned (.agg #[.int .u8 o.kind,.slice (some ⟨fb,0,none⟩) o.fl.length fc])/\L0d W w'):=by
  intro W hW;have:=V9 (h.m.same hW.size fun k hk=>hW.block k hk) hj;rw[xd] at this;exact this
 have yi:sb≠fb:=fun e=>by
  obtain⟨_,q2,_⟩:=h.hva R5;rw[e,xc] at q2;cases q2
 have HH:=hid h;have HJ:=hid hj;have HX:=hid hx;have xy:=hid xd;have xk:=hid xc;have xu:fb≠w.heap.size+1:=by omega
 have yd:sb≠w.heap.size+1:=by omega
 have yl:fb < w.heap.size+1:=by omega
 have yj:fb < w.heap.size+1+1:=by omega
 have yo:sb < w.heap.size+1:=by omega
 have ye:sb < w.heap.size+1+1:=by omega
 clear h hj hx xd xa xb xc;go_enter func302,ntmps302;go_wp2_with fail;go_region_with (first | (go_at_call 225;refine (xi.out _ ?_).mono ?_;exact P5;rintro e w2 ⟨rfl,xf⟩;obtain ⟨yc,xz⟩:=X4 xf;have xm:=xf.size;have yk:w.heap.size < w2.heap.size:=(by simp at xm;omega);have ya:fb < w2.heap.size:=R4;have xq:sb < w2.heap.size:=R4;have yb:mb < w2.heap.size:=R4;(try (have xs:w.heap.size+1 < w2.heap.size:=(by simp at xm;omega)));have xp:Hid (L0d w w2):=A7 xf P5;clear xf))
 all_goals
  go_wp2_with (first | (go_at_call 306;refine (mJ _ _ _ _ _ hi hfn _).mono ?_;rintro e w3 ⟨rfl,xe⟩;obtain ⟨xg,xl⟩:=X4 xe;have xn:=xe.size;have yn:w2.heap.size<=w3.heap.size:=(by simp at xn;omega);(try (have yf:w2.heap.size < w3.heap.size:=(by simp at xn;omega)));have ym:w.heap.size < w3.heap.size:=R4;have xx:fb < w3.heap.size:=R4;have xv:sb < w3.heap.size:=R4;have xt:mb < w3.heap.size:=R4;(try (have xw:w.heap.size+1 < w3.heap.size:=R4));have xh:Hid (L0d w w3):=A7 xe (by have hq:=xp.out.size;repeat (first | exact xp.out | refine L3c ?_ | refine Below.setCell ?_ Q1 _ | refine L3a ?_ Q1 _));clear xe))
  have g0:=(xh.out.frozen (p:=⟨fb,i*2,none⟩) xo).trans z0;have g1:=(xh.out.frozen (p:=⟨fb,i*2+1,none⟩) xo).trans z1;clear xz xl;go_region
  all_goals
   obtain⟨hA,hT⟩:=zO (y:=(y1,y2)) HH.out (L3c xh.out) HJ.out HX.out xy.out xk.out;have HA:=hid hA;have HT:=hid hT;clear hA hT yc xg g0 g1;go_wp2_with (go_at_call 290;refine (HA.out.answer (L3b _ _) vc _ [] (U8 _ _) R5 3 rfl).mono ?_;rintro e w' ⟨xj,xr,rfl,hm,ht⟩)
   go_ret;exact⟨xj,_,rfl,hm,⟨xr,by rw [List.append_nil]⟩,HT.out.trans ht⟩
theorem a0f (h:C0 w own mb g R fs f rest [x] va sb) {kd:Int} {fa:Option Addr} {n fc:Nat} (hr:fS w mb x kd fa n fc) (hn:n<=1000) (a:Int) (hb:J4 kd 1 n 1 a≠0) (vc:Nat) :
  Calls prog 281 #[.pointer (some ⟨mb,0,none⟩),.int .i64 a,.slice va 1 vc] w fun e w'=>E9 (J4 kd 1 n 1 a) w e w':=by
 have HA:Hid (∀W,L0d w W->Calls prog 301 #[.pointer (some ⟨mb,0,none⟩),.slice va 1 vc,.int .u8 1,.agg #[.int .u8 1,.int .i64 a]] W fun e w'=>E9 (J4 kd 1 n 1 a) W e w'):=fun W hW=>dC (h.later hW) (fun V hV=>hr V (A7 hV hW)) hn 1 (1,a) 1 rfl R4 hb vc
 clear h hr hb;generalize J4 kd 1 n 1 a=t at *
 go_enter func281,ntmps281;go_wp2_with (first | (go_at_call 237;refine (L5 _ _).mono ?_;rintro e w' ⟨rfl,o,rfl⟩) | (go_at_call 301;refine (HA.out _ ?_).mono ?_;exact P5;rintro e w2 ⟨rfl,xa⟩;have xb:Hid (L0d w w2):=A7 xa P5;clear xa))
 go_ret;exact⟨rfl,xb.out⟩
theorem a0k (h:C0 w own mb g R fs f rest [x,y] va sb) {kd:Int} {fa:Option Addr} {n fc:Nat} (hr:fS w mb x kd fa n fc) (hn:n<=1000) (a:Int) (hb:J4 kd 1 n 1 a≠0) (vc:Nat) :
  Calls prog 282 #[.pointer (some ⟨mb,0,none⟩),.int .i64 a,.slice va 2 vc] w fun e w'=>E9 (J4 kd 1 n 1 a) w e w':=by
 have HA:Hid (∀W,L0d w W->Calls prog 302 #[.pointer (some ⟨mb,0,none⟩),.slice va 2 vc,.int .u8 1,.agg #[.int .u8 1,.int .i64 a]] W fun e w'=>E9 (J4 kd 1 n 1 a) W e w'):=fun W hW=>iV (h.later hW) (fun V hV=>hr V (A7 hV hW)) hn 1 (1,a) 2 rfl R4 hb vc
 clear h hr hb;generalize J4 kd 1 n 1 a=t at *
 go_enter func282,ntmps282;go_wp2_with (first | (go_at_call 237;refine (L5 _ _).mono ?_;rintro e w' ⟨rfl,o,rfl⟩) | (go_at_call 302;refine (HA.out _ ?_).mono ?_;exact P5;rintro e w2 ⟨rfl,xa⟩;have xb:Hid (L0d w w2):=A7 xa P5;clear xa))
 go_ret;exact⟨rfl,xb.out⟩
def a6J (Q:World->Ending->World->Prop) (w:World) (e:Ending) (w':World):Prop:=Q w e w'
theorem a2r (h:C0 w own mb g R fs f rest [x,y] va sb) (a:Int) (vc:Nat) (Q:World->Ending->World->Prop) (hQ:∀W e w',L0d w W->Q W e w'->Q w e w') (hret:∀W e w',Q W e w'->∃t,e=.returned (.int .i64 t))
  (HA:Hid (∀W,L0d w W->Calls prog 301 #[.pointer (some ⟨mb,0,none⟩),.slice va 2 vc,.int .u8 2,.agg #[.int .u8 y.1,.int .i64 y.2]] W fun e w'=>Q W e w')) :
  Calls prog 283 #[.pointer (some ⟨mb,0,none⟩),.int .i64 a,.slice va 2 vc] w fun e w'=>a6J Q w e w':=by
 obtain⟨o,rfl,xc,c0,c1,c2,c3⟩:=h.two;have HQ:=hid hQ;have xa:=hid hret;clear h hQ hret;go_enter func283,ntmps283;go_wp2_with (first | (go_at_call 301;refine (HA.out _ ?_).mono ?_;exact P5;intro e w2 hq2;obtain ⟨t,rfl⟩:=xa.out _ _ _ hq2;have xb:Hid (Q w (.returned (.int .i64 t)) w2):=HQ.out _ _ _ P5 hq2;clear hq2))
 go_ret;exact xb.out
theorem a0l (h:C0 w own mb g R fs f rest [x,y,z] va sb) (a:Int) (vc:Nat) (Q:World->Ending->World->Prop) (hQ:∀W e w',L0d w W->Q W e w'->Q w e w') (hret:∀W e w',Q W e w'->∃t,e=.returned (.int .i64 t))
  (HA:Hid (∀W,L0d w W->Calls prog 302 #[.pointer (some ⟨mb,0,none⟩),.slice va 3 vc,.int .u8 2,.agg #[.int .u8 y.1,.int .i64 y.2]] W fun e w'=>Q W e w')) :
  Calls prog 284 #[.pointer (some ⟨mb,0,none⟩),.int .i64 a,.slice va 3 vc] w fun e w'=>a6J Q w e w':=by
 obtain⟨o,rfl,xc,c0,c1,c2,c3,_,_⟩:=h.three;have HQ:=hid hQ;have xa:=hid hret;clear h hQ hret;go_enter func284,ntmps284;go_wp2_with (first | (go_at_call 302;refine (HA.out _ ?_).mono ?_;exact P5;intro e w2 hq2;obtain ⟨t,rfl⟩:=xa.out _ _ _ hq2;have xb:Hid (Q w (.returned (.int .i64 t)) w2):=HQ.out _ _ _ P5 hq2;clear hq2))
 go_ret;exact xb.out
end
section
variable {R:McR} {e:Ending} {f:FrR} {fs:List FrR} {g:PgR} {kind:Int} {mb sb:Nat} {own:Own} {rest:List Val} {s:McA} {va:Option Addr} {w w':World} {x y z:Val}
theorem DoA.of_top {l:List Val} (hs:s=goA R.abs (fs.map FrR.abs) f.abs (f.pc+1) l) (hq:E6 R) (h:C3 own mb g R fs f (f.pc+1) l (.int .i64 0) w e w'):DoA own mb g s w e w':=by
 rw[hs];exact h.doA hq
theorem DoA.later {W:World} (hB:L0d w W) (h:DoA own mb g s W e w'):DoA own mb g s w e w':=by
 obtain⟨xa,R',he,hm,hp,ht⟩:=h;exact⟨xa,R',he,hm,hp,(A2.of_below hB).trans ht⟩
theorem DoA.ret (h:DoA own mb g s w e w'):∃t,e=.returned (.int .i64 t):=by
 obtain⟨_,_,he,_⟩:=h;exact⟨_,he⟩
theorem cP {ix:Val} (hk:kind≠0) (hx:VOk (R.obs.map ObR.abs) x) (hr:F8 (A0 (R.obs.map ObR.abs) x) kind ix=0) :
  ∃(j i:Nat) (o:ObR) (y:Val),x=(2,(j:Int))/\ix=(1,(i:Int))/\R.obs[j]?=some o/\o.kind=kind/\o.fl[i]?=some y/\A0 (R.obs.map ObR.abs) x=o.abs:=by
 obtain⟨h1,h2,h3,h4⟩:=eE hr;obtain⟨xa,hg⟩:=cS (obs:=R.obs.map ObR.abs) (v:=x) (by rw [h1];exact hk);obtain⟨h0,_⟩:=hx.ref xa;obtain⟨j,hj⟩:=L5c h0;obtain⟨i,hi⟩:=L5c h3;rw[List.getElem?_map] at hg;obtain⟨o,ho,xb⟩:=Option.map_eq_some_iff.1 hg;rw[hj,Int.toNat_natCast] at ho;rw[<- xb] at h1 h4;rw[hi,Int.toNat_natCast] at h4;refine⟨j,i,o,o.fl[i]'h4,?_,?_,ho,h1,L1b h4,xb.symm⟩
 ·rw [<- xa,<- hj]
 ·rw [<- h2,<- hi]
theorem a6f (hq:E6 R) (h:C0 w own mb g R fs f rest [x] va sb) (hx:VOk (R.obs.map ObR.abs) x) (hl:(A0 (R.obs.map ObR.abs) x).2.length<=1000) (a:Int) (vc:Nat) :
  Calls prog (doT 19) #[.pointer (some ⟨mb,0,none⟩),.int .i64 a,.slice va 1 vc] w fun e w'=>DoA own mb g (doA g 19 a R.abs (fs.map FrR.abs) f.abs rest [x]) w e w':=by
 show Calls _ _ _ _ fun e w'=>DoA own mb g (cA R.abs (fs.map FrR.abs) f.abs rest x 1 (1,a)) w e w'
 by_cases hr:F8 (A0 (R.obs.map ObR.abs) x) 1 (1,a)=0
 ·obtain ⟨j,i,o,y,rfl,xc,ho,hk,hy,xa⟩:=cP R3 hx hr
  obtain rfl:a=(i:Int):=congrArg Prod.snd xc;have xb:o.fl.length<=1000:=by rw [xa] at hl;exact hl
  refine (a2s h ho hk hy xb vc).mono fun _ _ hp=>DoA.of_top ?_ hq hp
  unfold cA;rw[if_pos (show F8 (A0 R.abs.obs _) 1 (1,(i:Int))=0 from hr)];have:(A0 R.abs.obs (2,(j:Int))).2.getD (i:Int).toNat (0,0)=y:=by
   rw[show A0 R.abs.obs (2,(j:Int))=o.abs from xa,Int.toNat_natCast,List.getD_eq_getElem?_getD];show (o.fl[i]?).getD (0,0)=y;rw[hy];rfl
  simp only[this];rfl
 ·obtain ⟨kd,fa,n,fc,hR,rfl,rfl⟩:=Y8 h.m x hx
  refine (a0f h hR hl a (by rw [aE] at hr;exact hr) vc).mono fun _ _ hp=>?_
  have e:cA R.abs (fs.map FrR.abs) f.abs rest x 1 (1,a)=C7 R.abs (F8 (A0 (R.obs.map ObR.abs) x) 1 (1,a)):=if_neg hr;rw[e,aE];exact hp.doA h.m hq
theorem a6S (hq:E6 R) (h:C0 w own mb g R fs f rest [x,z] va sb) (hx:VOk (R.obs.map ObR.abs) x) (hl:(A0 (R.obs.map ObR.abs) x).2.length<=1000) (a:Int) (vc:Nat) :
  Calls prog (doT 21) #[.pointer (some ⟨mb,0,none⟩),.int .i64 a,.slice va 2 vc] w fun e w'=>DoA own mb g (doA g 21 a R.abs (fs.map FrR.abs) f.abs rest [x,z]) w e w':=by
 show Calls _ _ _ _ fun e w'=>DoA own mb g (cA R.abs (fs.map FrR.abs) f.abs rest x 2 z) w e w'
 refine a2r h a vc (fun W e w'=>DoA own mb g (cA R.abs (fs.map FrR.abs) f.abs rest x 2 z) W e w') (fun W e w' hB hd=>hd.later hB) (fun W e w' hd=>hd.ret) (hid fun W hW=>?_);have hA:=h.later hW;by_cases hr:F8 (A0 (R.obs.map ObR.abs) x) 2 z=0
 ·obtain ⟨j,i,o,y,rfl,rfl,ho,hk,hy,xa⟩:=cP R3 hx hr
  have xb:o.fl.length<=1000:=by rw [xa] at hl;exact hl
  have:=dN hA ho hy xb 2 rfl R4 vc;rw[hk] at this;refine this.mono fun _ _ hp=>DoA.of_top ?_ hq hp
  unfold cA;rw[if_pos (show F8 (A0 R.abs.obs _) 2 (1,(i:Int))=0 from hr)];have:(A0 R.abs.obs (2,(j:Int))).2.getD (i:Int).toNat (0,0)=y:=by
   rw[show A0 R.abs.obs (2,(j:Int))=o.abs from xa,Int.toNat_natCast,List.getD_eq_getElem?_getD];show (o.fl[i]?).getD (0,0)=y;rw[hy];rfl
  simp only[this];rfl
 ·obtain ⟨kd,fa,n,fc,hR,rfl,rfl⟩:=Y8 h.m x hx
  refine (dC hA (fun V hV=>hR V (A7 hV hW)) hl 2 z 2 rfl R4 (by rw [aE] at hr;exact hr) vc).mono fun _ _ hp=>?_
  have e:cA R.abs (fs.map FrR.abs) f.abs rest x 2 z=C7 R.abs (F8 (A0 (R.obs.map ObR.abs) x) 2 z):=if_neg hr;rw[e,aE];exact hp.doA hA.m hq
theorem mH {j i:Nat} {o:ObR} (hq:E6 R) (hr:F8 (A0 (R.obs.map ObR.abs) (2,(j:Int))) kind (1,(i:Int))=0) (hre:A0 (R.obs.map ObR.abs) (2,(j:Int))=o.abs)
  (h:X7 own mb g (kX R fs f rest j i o y) 0 w e w'):DoA own mb g (setE R.abs (fs.map FrR.abs) f.abs rest (2,(j:Int)) kind (1,(i:Int)) y) w e w':=by
 have es:setE R.abs (fs.map FrR.abs) f.abs rest (2,(j:Int)) kind (1,(i:Int)) y=⟨0,R.out,fs.map FrR.abs++[⟨f.fn,f.pc+1,f.loc,rest⟩],(R.obs.map ObR.abs).set j (o.kind,o.fl.set i y),R.dr⟩:=by
  unfold setE;rw[if_pos (show F8 (A0 R.abs.obs _) kind (1,(i:Int))=0 from hr),show A0 R.abs.obs (2,(j:Int))=o.abs from hre];rfl
 rw[es];obtain⟨xa,R',he,hm,⟨xb,rfl⟩,ht⟩:=h;exact⟨xa,_,he,hm,⟨by simp [McR.abs,FrR.abs,ObR.abs,List.map_set],hq⟩,ht⟩
theorem a6h (hq:E6 R) (h:C0 w own mb g R fs f rest [x,y] va sb) (hx:VOk (R.obs.map ObR.abs) x) (hl:(A0 (R.obs.map ObR.abs) x).2.length<=1000) (a:Int) (vc:Nat) :
  Calls prog (doT 20) #[.pointer (some ⟨mb,0,none⟩),.int .i64 a,.slice va 2 vc] w fun e w'=>DoA own mb g (doA g 20 a R.abs (fs.map FrR.abs) f.abs rest [x,y]) w e w':=by
 show Calls _ _ _ _ fun e w'=>DoA own mb g (setE R.abs (fs.map FrR.abs) f.abs rest x 1 (1,a) y) w e w'
 by_cases hr:F8 (A0 (R.obs.map ObR.abs) x) 1 (1,a)=0
 ·obtain ⟨j,i,o,u,rfl,xc,ho,hk,hu,xa⟩:=cP R3 hx hr
  obtain rfl:a=(i:Int):=congrArg Prod.snd xc;have xb:o.fl.length<=1000:=by rw [xa] at hl;exact hl
  exact (a2t h ho hk (L1a.1 hu).1 xb vc).mono fun _ _ hp=>mH hq hr xa hp
 ·obtain ⟨kd,fa,n,fc,hR,rfl,rfl⟩:=Y8 h.m x hx
  refine (a0k h hR hl a (by rw [aE] at hr;exact hr) vc).mono fun _ _ hp=>?_
  have e:setE R.abs (fs.map FrR.abs) f.abs rest x 1 (1,a) y=C7 R.abs (F8 (A0 (R.obs.map ObR.abs) x) 1 (1,a)):=if_neg hr;rw[e,aE];exact hp.doA h.m hq
theorem a6i (hq:E6 R) (h:C0 w own mb g R fs f rest [x,z,y] va sb) (hx:VOk (R.obs.map ObR.abs) x) (hl:(A0 (R.obs.map ObR.abs) x).2.length<=1000) (a:Int) (vc:Nat) :
  Calls prog (doT 22) #[.pointer (some ⟨mb,0,none⟩),.int .i64 a,.slice va 3 vc] w fun e w'=>DoA own mb g (doA g 22 a R.abs (fs.map FrR.abs) f.abs rest [x,z,y]) w e w':=by
 show Calls _ _ _ _ fun e w'=>DoA own mb g (setE R.abs (fs.map FrR.abs) f.abs rest x 2 z y) w e w'
 refine a0l h a vc (fun W e w'=>DoA own mb g (setE R.abs (fs.map FrR.abs) f.abs rest x 2 z y) W e w') (fun W e w' hB hd=>hd.later hB) (fun W e w' hd=>hd.ret) (hid fun W hW=>?_);have hA:=h.later hW;by_cases hr:F8 (A0 (R.obs.map ObR.abs) x) 2 z=0
 ·obtain ⟨j,i,o,u,rfl,rfl,ho,hk,hu,xa⟩:=cP R3 hx hr
  have xb:o.fl.length<=1000:=by rw [xa] at hl;exact hl
  have:=mU hA ho (L1a.1 hu).1 xb vc;rw[hk] at this;exact this.mono fun _ _ hp=>mH hq hr xa hp
 ·obtain ⟨kd,fa,n,fc,hR,rfl,rfl⟩:=Y8 h.m x hx
  refine (iV hA (fun V hV=>hR V (A7 hV hW)) hl 2 z 3 rfl R4 (by rw [aE] at hr;exact hr) vc).mono fun _ _ hp=>?_
  have e:setE R.abs (fs.map FrR.abs) f.abs rest x 2 z y=C7 R.abs (F8 (A0 (R.obs.map ObR.abs) x) 2 z):=if_neg hr;rw[e,aE];exact hp.doA hA.m hq
end
section
variable {w:World}
theorem xY (w:World) (cs cs':Array Value) (t:TypeId):(w.alloc (.cells cs t)).setRow w.heap.size cs'=w.alloc (.cells cs' t):=by
 unfold World.setRow World.alloc;congr 1
 apply Array.ext_getElem?
 intro i;rw[Array.getElem?_modify];by_cases h:w.heap.size=i
 ·subst h;simp
 ·rw [if_neg h]
  simp only[Array.getElem?_push];rw[if_neg (Ne.symm h),if_neg (Ne.symm h)]
theorem nT {P:Program} (w:World) (dT sT ty elem:TypeId) (a:Addr) (dLen dCap c:Nat) (hu:P.underlying dT=some (.slice elem)) (hs:((P.info? elem).map (·.size)).isSome=true) :
  (Builtin.copy_ #[dT,sT] ty #[.slice (some a) dLen dCap,.slice none 0 c]).run P w=.ok (goInt 0) w:=by
 cases hq:P.info? elem with
 | none=>simp [hq] at hs
 | some i=>simp [Builtin.copy_,run_underlying hu,Builtin.lenOf,Builtin.firstCells,sizeOf,typeInfo,hq,storeCells]
theorem yJ (l k:Nat) (h:k<=l) (x:Val):(A5 (List.replicate l x)).drop (k*2)=A5 (List.replicate (l - k) x):=by
 have e:List.replicate l x=List.replicate k x++List.replicate (l - k) x:=by rw [List.replicate_append_replicate];congr 1;omega
 rw[e,G5];exact List.drop_left' (by rw [D3];simp)
def a4p (w:World) (va:Option Addr) (l:List Val):Prop:=0 < l.length->∃sb o,va=some ⟨sb,o,none⟩/\sb < w.heap.size/\∀j u,(A5 l)[j]?=some u->w.cell? ⟨sb,o+j,none⟩=some u
theorem jI (l:Nat):madeCells #[.int .u8 0,.int .i64 0] (l*2)=(A5 (List.replicate l (0,0))).toArray:=by
 rw[<- V7]
theorem eO {va:Option Addr} {vc l:Nat} {args:List Val} (hal:args.length<=l) (hs:a4p w va args) (o1:Obj) :
  (Builtin.copy_ #[84,84] 3 #[.slice (some ⟨w.heap.size+1,0,none⟩) l l,.slice va args.length vc]).run prog ((w.alloc o1).alloc (.cells (madeCells #[.int .u8 0,.int .i64 0] (l*2)) 92)) =
   .ok (goInt args.length) ((w.alloc o1).alloc (.cells (A5 (args++List.replicate (l - args.length) (0,0))).toArray 92)):=by
 obtain⟨xe,hi,hz,xd,xf⟩:=info_parts I2;have xa:(w.alloc o1).heap.size=w.heap.size+1:=by simp
 have xb:((w.alloc o1).alloc (Obj.cells (madeCells #[.int .u8 0,.int .i64 0] (l*2)) 92)).heap[w.heap.size+1]?=some (Obj.cells (madeCells #[.int .u8 0,.int .i64 0] (l*2)) 92 (0,0)):=B1 xa
 cases va with
 | none =>
  have h0:args=[]:=by
   rcases Nat.eq_zero_or_pos args.length with h | h
   ·exact List.length_eq_zero_iff.1 h
   ·obtain ⟨_,_,h1,_⟩:=hs h;cases h1
  subst h0;rw[List.nil_append,List.length_nil,Nat.sub_zero,<- jI];exact nT (P:=prog) ((w.alloc o1).alloc (.cells (madeCells #[.int .u8 0,.int .i64 0] (l*2)) 92)) 84 84 3 92 ⟨w.heap.size+1,0,none⟩ l l vc underlying84 (by rw [hi];rfl)
 | some a =>
  have xc:∀j u,(A5 args)[j]?=some u->((w.alloc o1).alloc (Obj.cells (madeCells #[.int .u8 0,.int .i64 0] (l*2)) 92)).cell? (a.add j)=some u:=fun j u hu=>by
   have hj:=(L1a.1 hu).1;rw[D3] at hj;obtain⟨sb,o,h1,h2,h3⟩:=hs R4
   cases h1;have e:(⟨sb,o,none⟩:Addr).add j=⟨sb,o+j,none⟩:=by unfold Addr.add;split <;> simp_all
   rw[e];have hb:L0d w ((w.alloc o1).alloc (Obj.cells (madeCells #[.int .u8 0,.int .i64 0] (l*2)) 92)):=L3a (L3a (L3b _ _) (L1c _) _) R5 _;rw[hb.cell (p:=⟨sb,o+j,none⟩) h2];exact h3 j u hu
  have hm:Nat.min args.length l=args.length:=Nat.min_eq_left hal;have:=nU (P:=prog) ((w.alloc o1).alloc (.cells (madeCells #[.int .u8 0,.int .i64 0] (l*2)) 92)) 84 84 3 92 (w.heap.size+1) 0 l l a args.length vc 2 (madeCells #[.int .u8 0,.int .i64 0] (l*2)) 92 (A5 args) underlying84 (by rw [hi];simp [xd]) xb (by rw [D3,hm]) xc (by rw [D3,size_madeCells];omega) (W5 args)
  rw[this,hm];have e2:(madeCells #[.int .u8 0,.int .i64 0] (l*2)).toList.drop (0+(A5 args).length)=A5 (List.replicate (l - args.length) (0,0)):=by
   rw[V7,Nat.zero_add,D3];exact yJ l args.length hal (0,0)
  rw[e2,List.take_zero,List.nil_append,<- G5];have e3:=xY (w.alloc o1) (madeCells #[.int .u8 0,.int .i64 0] (l*2)) (A5 (args++List.replicate (l - args.length) (0,0))).toArray 92;rw[xa] at e3;rw[e3]
def zW (own:Own) (mb:Nat) (g:PgR) (R:McR) (fn:Nat) (loc:List Val) (w:World) (e:Ending) (w':World):Prop :=
 ∃own' cv lv,e=.returned (.tuple #[])/\A4 w' own' mb g { R with cv:=cv,frs:=R.frs++[⟨fn,0,lv,.slice none 0 0,loc,[]⟩] }/\A2 own w own' w'
theorem a0r {own:Own} {mb:Nat} {g:PgR} {R:McR} (h:A4 w own mb g R) (fn l:Nat) (p:Int) (ca:Option Addr) (cn cc:Nat) (hl:l<=8) (hn:R.frs.length<=1000) (args:List Val) (hal:args.length<=l) (va:Option Addr) (vc:Nat) (hs:a4p w va args) :
  Calls prog 130 #[.pointer (some ⟨mb,3,none⟩),.int .i64 (fn:Int),.agg #[.int .i64 p,.int .i64 (l:Int),.slice ca cn cc],.slice va args.length vc] w fun e w'=>zW own mb g R fn (args++List.replicate (l - args.length) (0,0)) w e w':=by
 have c3:=h.c3;have xo:=h.fz 3;have xn:mb < w.heap.size:=h.lt mb _ h.me;obtain⟨xb,hi,hz,xh,xd⟩:=info_parts I2;have xe:Hid (∀W:World,(Instr.makeSlice 84 (.int .i64 (l:Int)) (.int .i64 (l:Int))).run prog W=.ok (.slice (some ⟨W.heap.size,0,none⟩) l l) (W.alloc (.cells (madeCells #[.int .u8 0,.int .i64 0] (l*2)) 92))):=by
  intro W;have hr:=run_make (P:=prog) W 84 92 xb _ underlying84 hi hz .i64 .i64 l l R4 (Int.le_refl _) (by rw [xd];omega) R4;simpa [xh,Value.cells] using hr
 have xi:=xe.out;have xk:=eO (w:=w) (va:=va) (vc:=vc) hal hs (.cells #[.int .i64 p,.int .i64 (l:Int),.slice ca cn cc] 163);have xa:(args++List.replicate (l - args.length) ((0,0):Val)).length=l:=by simp;omega
 have HH:=hid h;generalize args++List.replicate (l - args.length) ((0,0):Val)=loc at *
 clear h hi hz xh xd xe hs hal;go_enter func130,ntmps130;obtain⟨xm,ji,jz,xg,xf⟩:=info_parts dX;have JI:=hid ji;have JZ:=hid jz;have xj:=hid xg;have xl:=hid xf;have HO:=hid HH.out.called.1;clear ji jz xg xf;go_wp2_with (at_builtin;go_must (refine wpList_append_lies _ rfl (.tmp 19) (.tmp 23) 66 rfl 0 86 xm _ 4 64 underlying66 JI.out JZ.out xj.out xl.out rfl R3 R.cv R.frs.length (R.frs.flatMap FrR.cells) rfl (((HO.out.alloc _).alloc _).alloc _) ⟨w.heap.size+1+1,0,none⟩ 1 1 (FrR.cells ⟨fn,0,.slice (some ⟨w.heap.size+1,0,none⟩) l l,.slice none 0 0,loc,[]⟩) rfl rfl (World.news_of_block (cs:=#[.int .i64 (fn:Int),.int .i64 0,.slice (some ⟨w.heap.size+1,0,none⟩) l l,.slice none 0 0]) (t:=86) (fr:=(0,0)) (B1 R5)) (by intro u hu;simp only [FrR.cells,List.mem_cons,List.not_mem_nil,or_false] at hu;rcases hu with rfl | rfl | rfl | rfl <;> rfl) R4 Q5 R4 (L4c _) _ rfl ?_))
 intro gb cap w5 hown hgrow hat hlt;obtain⟨y0,y1,y2,xc,hM,hT⟩:=oE (fr:=⟨fn,0,.slice (some ⟨w.heap.size+1,0,none⟩) l l,.slice none 0 0,loc,[]⟩) (lb:=w.heap.size+1) (lc:=l) HH.out P8 hgrow hown (hat.imp id fun e=>e.trans R5) (by rw [xa]) R4 R5 (by
  refine World.ownsRow.alloc ?_ _;have:=World.ownsRow_lit (base:=0) (e:=92) (size:=2) (w.alloc (Obj.cells #[.int .i64 p,.int .i64 (l:Int),.slice ca cn cc] 163)) (A5 loc).toArray l (L4c _) Q5 (by simp [D3,xa]);rw[xa];simpa using this) ⟨rfl,rfl⟩
 have HM:=hid hM;have HT:=hid hT;clear hM hT hown hgrow hat hlt xi xk;go_wp2_with fail;go_end0
 exact⟨xc,_,_,rfl,HM.out,HT.out⟩
end
section
variable {R:McR} {args rest:List Val} {f:FrR} {fs:List FrR} {g:PgR} {mb sb:Nat} {own:Own} {va:Option Addr} {w:World}
theorem vQ {f:FrR} (v:Value) (l:List Val):(fs++[{ f with sv:=v,stk:=l }]).flatMap FrR.cells=((fs++[f]).flatMap FrR.cells).set (fs.length*4+3) v:=by
 rw[<- G2 FrR.cells_len (l:=fs++[f]) (i:=fs.length) (j:=3) (x:=f) (y:={ f with sv:=v,stk:=l }) (u:=v) R5 R4 rfl];simp
def rL (own:Own) (mb:Nat) (g:PgR) (R:McR) (fs:List FrR) (f:FrR) (l:List Val) (w:World) (e:Ending) (w':World):Prop :=
 ∃sv1,e=.returned (.tuple #[])/\A4 w' own mb g { R with frs:=fs++[{ f with sv:=sv1,stk:=l }] }/\A2 own w own w'/\∀b,own b≠some .called->w'.heap[b]?=w.heap[b]?
theorem a0q (h:A4 w own mb g R) (hf:R.frs=fs++[f]) (k:Nat) (hk:k<=f.stk.length) (hn:fs.length<=1000) (hs:f.stk.length<=1000) :
  Calls prog 298 #[.pointer (some ⟨mb,3,none⟩),.int .i64 (k:Int)] w fun e w'=>rL own mb g R fs f (f.stk.take (f.stk.length - k)) w e w':=by
 obtain⟨cb,cc,hv,xb,xp,xo,x0,x1,x2,x3⟩:=h.top hf;have hc:=h.c3;rw[hv] at hc;have xj:=h.topRow hf hv;have xe:=h.stk fs.length f (by rw [hf];simp);have xf:∀b,f.sv.ownBlock=some b->b≠cb/\own b=some (.stk fs.length):=fun b hb=>by
  have xg:=xe.2 b hb;exact⟨fun e=>(by rw [e,xb] at xg;cases xg),xg⟩
 refine (lO mb cb fs.length cc f.sv f.stk.length k _ w hn hs hk hc x3 (xo _) xe.1).mono ?_;rintro e w1 ⟨m1,xa,rfl,rfl,xh,xd⟩;have xi:xa.ownBlock≠some cb:=fun e=>(xf cb (xh▸e)).1 rfl
 have xn:E3 w own xa (.stk fs.length):=fun b hb=>L4a (xf b (xh▸hb)).2
 have xc:∀b,b≠cb->((w.drewN m1).setCell ⟨cb,fs.length*4+3,none⟩ xa).heap[b]?=w.heap[b]?:=fun b hb=>heap_setCell_other _ _ _ _ hb
 have xk:(f.stk.take (f.stk.length - k)).length=f.stk.length - k:=by simp
 have r1:((w.drewN m1).setCell ⟨cb,fs.length*4+3,none⟩ xa).ownsRow 0 86 4 (.slice (some ⟨cb,0,none⟩) (fs.length+1) cc) (fs.length+1) (((fs++[f]).flatMap FrR.cells).set (fs.length*4+3) xa):=(World.ownsRow.stored (bC xj m1) _ xa).1;rw[<- vQ xa (f.stk.take (f.stk.length - k))] at r1;have hM:=A4.setTop (w':=(w.drewN m1).setCell ⟨cb,fs.length*4+3,none⟩ xa) (f':={ f with sv:=xa,stk:=f.stk.take (f.stk.length - k) }) h hf rfl rfl R5 (fun j hj h1 h2=>xc j (fun e=>h1 (by rw [e];exact xb))) (by rw [hv];exact r1) (by
  rw[xk];have:=ownsRow_setCell_other (bC xd m1) (a:=⟨cb,fs.length*4+3,none⟩) xi xa;rwa [A5,eQ F7]) xn
 have xm:own.upd xa.ownBlock (.stk fs.length)=own:=by
  cases e:xa.ownBlock with
  | none=>exact Own.upd_none _ _
  | some b=>exact Own.upd_same (xf b (xh▸e)).2
 have xl:A4 ((w.drewN m1).setCell ⟨cb,fs.length*4+3,none⟩ xa) (own.upd xa.ownBlock (.stk fs.length)) mb g { R with frs:=fs++[{ f with sv:=xa,stk:=f.stk.take (f.stk.length - k) }] }:=hM;rw[xm] at xl;exact⟨xa,rfl,xl,⟨rfl,rfl,rfl,by simp,fun j hj hno=>xc j (fun e=>by rw [e,xb] at hno;cases hno),fun _ _=>rfl⟩,fun b hb=>xc b (fun e=>hb (by rw [e];exact xb))⟩
theorem C0.lies (h:C0 w own mb g R fs f rest args va sb) {w':World} (hs:w.heap.size<=w'.heap.size) (hk:own sb=some (.stk fs.length)->w'.heap[sb]?=w.heap[sb]?):a4p w' va args:=fun h0=>by
 obtain⟨q1,q2,q3⟩:=h.hva h0;have e:=hk q2;refine⟨sb,rest.length*2,q1,L0a (h.m.lt sb _ q2) hs,fun j u hu=>?_⟩;have hj:=(L1a.1 hu).1;rw[D3] at hj;obtain⟨x,hx⟩:∃x,args[j / 2]?=some x:=⟨_,L1b R4⟩
 obtain⟨c0,c1⟩:=q3 (j / 2) x hx;have xa:(A5 args)[j / 2*2+j % 2]?=(O4 x)[j % 2]?:=E0 F7 hx (Nat.mod_lt _ R4);rw[show j / 2*2+j % 2=j by omega,hu] at xa;rw[L0b (w:=w) (a:=⟨sb,_,none⟩) e];rcases Nat.mod_two_eq_zero_or_one j with hm | hm
 ·rw [hm] at xa
  rw[show rest.length*2+j=rest.length*2+j / 2*2 by omega,c0,xa];rfl
 ·rw [hm] at xa
  rw[show rest.length*2+j=rest.length*2+j / 2*2+1 by omega,c1,xa];rfl
theorem sE (h:C0 w own mb g R fs f rest args va sb) (h12:12<=fs.length+1) (a:Int) (k vc:Nat) :
  Calls prog 274 #[.pointer (some ⟨mb,0,none⟩),.int .i64 a,.slice va k vc] w fun e w'=>E9 5 w e w':=by
 obtain⟨cb,cc,hv,_⟩:=h.m.top h.hf;have c3:=h.m.c3;rw[hv] at c3;have hn:=h.hn;have xb:mb < w.heap.size:=h.m.lt mb _ h.m.me;have xa:(12:Int)<=(fs.length:Int)+1:=by omega
 clear h hv;go_enter func274,ntmps274;go_wp2_with fail;go_ret;exact⟨rfl,P5⟩
def a1R (R:McR) (fs:List FrR) (f:FrR) (rest:List Val) (fn:Nat) (loc:List Val) (R':McR):Prop :=
 ∃sv1 cv lv,R'={ R with cv:=cv,frs:=fs++[{ f with sv:=sv1,stk:=rest }]++[⟨fn,0,lv,.slice none 0 0,loc,[]⟩] }
theorem a0d (h:C0 w own mb g R fs f rest args va sb) (h12:fs.length+1 < 12) (a l:Nat) (ha:a < g.n) (hgn:g.n<=1000) (hl:(g.f a).l=(l:Int)) (hl8:l<=8) (hal:args.length<=l) (vc:Nat) :
  Calls prog 274 #[.pointer (some ⟨mb,0,none⟩),.int .i64 (a:Int),.slice va args.length vc] w fun e w'=>X7 own mb g (a1R R fs f rest a (args++List.replicate (l - args.length) (0,0))) 0 w e w':=by
 obtain⟨cb,cc,hv,_⟩:=h.m.top h.hf;have c3:=h.m.c3;rw[hv] at c3;have ya:mb < w.heap.size:=h.m.lt mb _ h.m.me;obtain⟨ga,xy,xg⟩:=h.m.pg.2.1 R4;obtain⟨q0,q1,q2⟩:=xg a ha;rw[hl] at q1;have c0:=h.m.c0;rw[ga] at c0;have xh:own g.b=none:=h.m.ro g.b (L4a ⟨by omega,rfl⟩);have xb:f.stk.take (f.stk.length - args.length)=rest:=by rw [h.hst];simp
 have xp:Hid (∀U,L0d w U->Calls prog 298 #[.pointer (some ⟨mb,3,none⟩),.int .i64 (args.length:Int)] U fun e w'=>rL own mb g R fs f rest U e w'):=fun U hU=>by
  have:=a0q (h.m.same hU.size fun k hk=>hU.block k hk) h.hf args.length (by rw [h.hst];simp) h.hn h.hs;rwa [xb] at this
 have xr:Hid (∀U w1 V xf,L0d w U->A4 w1 own mb g { R with frs:=fs++[{ f with sv:=xf,stk:=rest }] }->A2 own U own w1->(∀b,own b≠some .called->w1.heap[b]?=U.heap[b]?)->L0d w1 V->Calls prog 130 #[.pointer (some ⟨mb,3,none⟩),.int .i64 (a:Int),.agg #[.int .i64 (g.f a).p,.int .i64 (l:Int),.slice (g.f a).a (g.f a).n (g.f a).c],.slice va args.length vc] V fun e w'=>e=.returned (.tuple #[])/\∃xa R',A4 w' xa mb g R'/\a1R R fs f rest a (args++List.replicate (l - args.length) (0,0)) R'/\A2 own w xa w'):=by
  intro U w1 V xf hU xe xd xc hV;have xs:=xe.same hV.size fun k hk=>hV.block k hk
  refine (a0r xs a l (g.f a).p (g.f a).a (g.f a).n (g.f a).c hl8 (by simp;have:=h.hn;omega) args hal va vc (h.lies (L5a hU.size (L5a xd.size hV.size)) fun q2=>?_)).mono ?_
  ·have xi:=h.m.lt sb _ q2
   rw[hV.block sb (L0a (L0a xi hU.size) xd.size),xc sb (by rw [q2];simp),hU.block sb xi]
  ·rintro e w' ⟨xa,cv,lv,rfl,hm,ht⟩
   exact⟨rfl,xa,_,hm,⟨xf,cv,lv,rfl⟩,((A2.of_below hU).trans xd).trans ((A2.of_below hV).trans ht)⟩
 have xl:(fs.length:Int)+1 < 12:=by omega
 have xu:¬(12:Int)<=(fs.length:Int)+1:=by omega
 have GA:=hid ga;clear h hv ga xg xb hal;go_enter func274,ntmps274;go_wp2_with (go_at_call 298;refine (xp.out _ ?_).mono ?_;exact P5;rintro e w1 ⟨xf,rfl,xe,xd,xc⟩;have xt:=hid xe;have xz:=hid xd;have xn:=hid xc;have d0:=xe.c0;rw [GA.out] at d0;have e0:=(L0b (w:=_) (a:=⟨g.b,g.o+a*3,none⟩) (xc g.b (by rw [xh];simp))).trans q0;have e1:=(L0b (w:=_) (a:=⟨g.b,g.o+a*3+1,none⟩) (xc g.b (by rw [xh];simp))).trans q1;have e2:=(L0b (w:=_) (a:=⟨g.b,g.o+a*3+2,none⟩) (xc g.b (by rw [xh];simp))).trans q2;have xv:mb < w1.heap.size:=xe.lt mb _ xe.me;have xx:g.b < w1.heap.size:=L0a xy xd.size;clear xe xd xc)
 go_region_with (first | (go_at_call 130;refine (xr.out w w1 _ xf (L3b _ _) xt.out xz.out xn.out ?_).mono ?_;exact P5;rintro e w2 ⟨rfl,xa,R',xj,xm,xk⟩;have xw:=hid xj;have xq:=hid xm;have xo:=hid xk;clear xj xm xk))
 all_goals
  go_wp2_with fail;go_ret;exact⟨xa,R',rfl,xw.out,xq.out,xo.out⟩
theorem a4O (hq:E6 R) (h:C0 w own mb g R fs f rest args va sb) (hp:S5 g) (a:Int) (h0:0<=a) (ha:a < g.n) (hal:(g.f a.toNat).p=args.length) (vc:Nat) :
  Calls prog (doT 14) #[.pointer (some ⟨mb,0,none⟩),.int .i64 a,.slice va args.length vc] w fun e w'=>DoA own mb g (doA g 14 a R.abs (fs.map FrR.abs) f.abs rest args) w e w':=by
 have e0:doA g 14 a R.abs (fs.map FrR.abs) f.abs rest args=aB g a R.abs (fs.map FrR.abs) f.abs rest args:=by cases args <;> rfl
 rw[e0];by_cases h12:12<=fs.length+1
 ·refine (sE h h12 a args.length vc).mono fun _ _ ht=>?_
  have e:aB g a R.abs (fs.map FrR.abs) f.abs rest args=C7 R.abs 5:=if_pos (by simpa using h12);rw[e];exact ht.doA h.m hq
 ·obtain ⟨n,rfl⟩:=L5c h0
  rw[Int.toNat_natCast] at hal;have xb:=hp.sized.bd (show n < g.n by omega);obtain⟨l,hl⟩:=L5c xb.2.2.1;have xd:=hp.sized.2.1;refine (a0d h R4 n l R4 R4 hl R4 R4 vc).mono ?_;rintro e w' ⟨xa,R',he,hm,⟨xc,cv,lv,rfl⟩,ht⟩;have e:aB g (n:Int) R.abs (fs.map FrR.abs) f.abs rest args=⟨0,R.out,fs.map FrR.abs++[⟨f.fn,f.pc,f.loc,rest⟩]++[⟨n,0,args++List.replicate (l - args.length) (0,0),[]⟩],R.obs.map ObR.abs,R.dr⟩:=by
   unfold aB;rw[if_neg (by simpa using h12),Int.toNat_natCast,hl];rfl
  rw[e];exact⟨xa,_,he,hm,⟨by simp [McR.abs,FrR.abs],hq⟩,ht⟩
end
section
variable {R:McR} {f:FrR} {fs:List FrR} {g:PgR} {mb:Nat} {own:Own} {w:World}
theorem A4.popFrame {W:World} {R:McR} {cb cc:Nat} (h:A4 w own mb g R) (hB:L0d w W) (hf:R.frs=fs++[f]) (hv:R.cv=.slice (some ⟨cb,0,none⟩) (fs.length+1) cc) :
  A4 (W.setCell ⟨mb,3,none⟩ (.slice (some ⟨cb,0,none⟩) fs.length cc)) own mb g { R with cv:=.slice (some ⟨cb,0,none⟩) fs.length cc,frs:=fs }/\A2 own w own (W.setCell ⟨mb,3,none⟩ (.slice (some ⟨cb,0,none⟩) fs.length cc))/\∀k,k < w.heap.size->k≠mb->(W.setCell ⟨mb,3,none⟩ (.slice (some ⟨cb,0,none⟩) fs.length cc)).heap[k]?=w.heap[k]?:=by
 have hW:=h.same hB.size fun k hk=>hB.block k hk
 have xg:=hW.lt;have xj:mb < W.heap.size:=xg mb _ h.me;have xb:∀k,k≠mb->(W.setCell ⟨mb,3,none⟩ (.slice (some ⟨cb,0,none⟩) fs.length cc)).heap[k]?=W.heap[k]?:=fun k hk=>heap_setCell_other _ _ _ _ hk
 have keep:∀t,t≠.mach->∀k,own k=some t->(W.setCell ⟨mb,3,none⟩ (.slice (some ⟨cb,0,none⟩) fs.length cc)).heap[k]?=W.heap[k]?/\own k=some t:=fun t ht k hk=>⟨xb k (fun e=>by rw [e,h.me] at hk;exact ht (L5b hk).symm),hk⟩
 have xa:∀j,j≠3->(W.setCell ⟨mb,3,none⟩ (.slice (some ⟨cb,0,none⟩) fs.length cc)).cell? ⟨mb,j,none⟩=W.cell? ⟨mb,j,none⟩:=fun j hj=>by go_simp
 have xi:=hW.c3;have xh:∀j,(W.setCell ⟨mb,3,none⟩ (.slice (some ⟨cb,0,none⟩) fs.length cc)).frozen? ⟨mb,j,none⟩=false:=fun j=>by have:=hW.fz j;go_simp
 have xf:∀k,own k=none->(W.setCell ⟨mb,3,none⟩ (.slice (some ⟨cb,0,none⟩) fs.length cc)).heap[k]?=W.heap[k]?:=fun k hk=>xb k (fun e=>by rw [e,h.me] at hk;cases hk)
 have xd:W.heap.size<=(W.setCell ⟨mb,3,none⟩ (.slice (some ⟨cb,0,none⟩) fs.length cc)).heap.size:=by simp
 have xe:Row (W.setCell ⟨mb,3,none⟩ (.slice (some ⟨cb,0,none⟩) fs.length cc)) own .called 86 4 (.slice (some ⟨cb,0,none⟩) fs.length cc) fs.length (fs.flatMap FrR.cells):=by
  have h1:=hW.called;rw[hv,hf,List.length_append] at h1;have h2:=(Row.cut h1 (m:=fs.length) R5).kept (own':=own) (keep _ R5);rw[<- eQ FrR.cells_len] at h2;simpa using h2
 have xc:∀i x,fs[i]?=some x->R.frs[i]?=some x:=fun i x hx=>by
  rw[hf,List.getElem?_append_left (L1a.1 hx).1];exact hx
 refine⟨⟨fun k t hk=>L0a (xg k t hk) xd,h.me,?_,?_,?_,by go_simp,?_,xh,hW.out.kept (keep _ R5),xe,hW.slots.kept (keep _ R5),fun i x hx=>(hW.loc i x (xc i x hx)).kept (keep _ R5),fun i x hx=>(hW.stk i x (xc i x hx)).kept (keep _ R5),
  fun j o ho=>(hW.fld j o ho).kept (keep _ R5),hW.pg.held xd fun k hk=>xf k (h.ro k hk),h.ro,hW.tab.held xd (xf 0 h.ro0),h.ro0,?_,hW.draws.kept (keep _ R5)⟩,?_,fun k hk hne=>(xb k hne).trans (hB.block k hk)⟩
 ·rw [xa 0 R4];exact hW.c0
 ·rw [xa 1 R4];exact hW.c1
 ·rw [xa 2 R4];exact hW.c2
 ·rw [xa 4 R4];exact hW.c4
 ·rw [xa 5 R4];exact hW.c5
 ·exact (A2.of_below hB).trans (A2.setMb h.me _ _)
def uK (own:Own) (mb:Nat) (g:PgR) (R:McR) (s:McA) (w:World) (e:Ending) (w':World):Prop :=
 ∃own' R',e=.returned (.tuple #[])/\A4 w' own' mb g R'/\R'.st=R.st/\R'.ov=R.ov/\McR.abs { R' with st:=s.st }=s/\A2 own w own' w'
theorem wD (h:A4 w own mb g R) (hf:R.frs=[f]) (x:Val) :
  Calls prog 299 #[.pointer (some ⟨mb,3,none⟩),.agg #[.int .u8 x.1,.int .i64 x.2]] w fun e w'=>uK own mb g R (D2 R.abs [] x) w e w':=by
 obtain⟨cb,cc,hv,xa,xb,_⟩:=h.top (fs:=[]) hf;have c3:=h.c3;rw[hv] at c3;simp only[List.length_nil,Nat.zero_add] at c3;have fz:=h.fz 3;have xc:mb < w.heap.size:=h.lt mb _ h.me;obtain⟨h1,h2,_⟩:=h.popFrame (fs:=[]) (L3b _ _) hf hv;have HP:Hid (∀V,Below (w.setCell ⟨mb,3,none⟩ (.slice (some ⟨cb,0,none⟩) 0 cc)).heap.size (w.setCell ⟨mb,3,none⟩ (.slice (some ⟨cb,0,none⟩) 0 cc)) V->uK own mb g R (D2 R.abs [] x) w (.returned (.tuple #[])) V):=fun V hV =>
  ⟨own,_,rfl,h1.same hV.size fun k hk=>hV.block k hk,rfl,rfl,by simp [D2,McR.abs],h2.trans (A2.of_below hV)⟩
 clear h hf hv xa h1 h2;go_enter func299,ntmps299;go_wp2_with fail;go_region
 all_goals
  go_wp2_with fail;go_end0
  exact HP.out _ P5
theorem wE {c:FrR} (h:A4 w own mb g R) (hf:R.frs=(fs++[c])++[f]) (hn:fs.length<=1000) (hs:c.stk.length<=1000) (hpc:c.pc<=1000) (x:Val) :
  Calls prog 299 #[.pointer (some ⟨mb,3,none⟩),.agg #[.int .u8 x.1,.int .i64 x.2]] w fun e w'=>uK own mb g R (D2 R.abs ((fs++[c]).map FrR.abs) x) w e w':=by
 obtain⟨cb,cc,hv,xb,xm,_⟩:=h.top hf;have c3:=h.c3;rw[hv,List.length_append] at c3;simp only[List.length_cons,List.length_nil,Nat.zero_add] at c3;have fz:=h.fz 3;have xk:mb < w.heap.size:=h.lt mb _ h.me;have xn:fs.length+1+1<=cc:=by
  have:=h.called.1;rw[hv,hf] at this;simp only[List.length_append,List.length_cons,List.length_nil,Nat.zero_add] at this;exact (R6 this).1
 have xh:fs.length+1<=cc:=by omega
 obtain⟨h1,h2,h3⟩:=h.popFrame (L3b _ _) hf hv;have hl:(fs++[c]).length=fs.length+1:=by simp
 rw[hl] at h1 h2 h3;have xi:Hid (∀V pb cp,Below (w.setCell ⟨mb,3,none⟩ (.slice (some ⟨cb,0,none⟩) (fs.length+1) cc)).heap.size (w.setCell ⟨mb,3,none⟩ (.slice (some ⟨cb,0,none⟩) (fs.length+1) cc)) V->w.heap.size<=pb->V.heap[pb]?=some (.cells #[.int .u8 x.1,.int .i64 x.2] 92) ->
   Calls prog 304 #[.pointer (some ⟨mb,3,none⟩),.int .i64 0,.slice (some ⟨pb,0,none⟩) 1 cp] V fun e w'=>uK own mb g R (D2 R.abs ((fs++[c]).map FrR.abs) x) w e w'):=by
  intro V pb cp hV hpb hblk;have xj:=h1.same hV.size fun k hk=>hV.block k hk
  have hp:dL V own (.slice (some ⟨pb,0,none⟩) 1 cp) [x]:=H3 (a:=x.1) (b:=x.2) h1 (by simpa using hpb) hblk;refine (sR xj rfl 0 (L4c _) _ [x] hp hn hs R5 hpc).mono ?_;rintro e w' ⟨xa,xl,rfl,hm,ht⟩;refine⟨xa,_,rfl,hm,rfl,rfl,?_,h2.trans ((A2.of_below hV).trans ht)⟩;have e1:D2 R.abs ((fs++[c]).map FrR.abs) x=goA R.abs (fs.map FrR.abs) c.abs (c.abs.pc+1) (c.abs.stk++[x]):=by
   unfold D2;have q1:((fs++[c]).map FrR.abs).getLast?=some c.abs:=by simp
   have q2:((fs++[c]).map FrR.abs).dropLast=fs.map FrR.abs:=by simp
   rw[q1,q2]
  rw[e1,Nat.sub_zero,List.take_length];simp[McR.abs,goA,FrR.abs]
 clear h hf hv xb h1 h2 h3;go_enter func299,ntmps299;go_wp2_with fail;go_region
 all_goals
  go_wp2_with (go_at_call 304;refine (xi.out _ _ _ ?_ ?_ ?_).mono ?_;exact P5;exact Q4;exact (by first | exact B1 R5 | exact J7 R5 | exact M3 R5);rintro e w2 ⟨xa,R',rfl,xc,xe,xg,xf,xd⟩;have HL:Hid (uK own mb g R (D2 R.abs ((fs++[c]).map FrR.abs) x) w (.returned (.tuple #[])) w2):=⟨xa,R',rfl,xc,xe,xg,xf,xd⟩;clear xc xe xg xf xd)
  go_end0
  exact HL.out
theorem wC (h:A4 w own mb g R) (hf:R.frs=fs++[f]) (hn:fs.length<=1000) (hc:∀c,c∈fs->c.stk.length<=1000/\c.pc<=1000) (x:Val) :
  Calls prog 299 #[.pointer (some ⟨mb,3,none⟩),.agg #[.int .u8 x.1,.int .i64 x.2]] w fun e w'=>uK own mb g R (D2 R.abs (fs.map FrR.abs) x) w e w':=by
 rcases List.eq_nil_or_concat fs with rfl | ⟨r,c,rfl⟩
 ·exact wD h hf x
 ·rw [List.concat_eq_append] at hf hn hc ⊢
  have:=hc c R5;exact wE h hf (by simp at hn;omega) this.1 this.2 x
theorem a0O {rest:List Val} {x:Val} {va:Option Addr} {sb:Nat} (hq:E6 R) (h:C0 w own mb g R fs f rest [x] va sb) (hc:∀c,c∈fs->c.stk.length<=1000/\c.pc<=1000) (a:Int) (vc:Nat) :
  Calls prog 275 #[.pointer (some ⟨mb,0,none⟩),.int .i64 a,.slice va 1 vc] w fun e w'=>DoA own mb g (D2 R.abs (fs.map FrR.abs) x) w e w':=by
 obtain⟨o,rfl,xp,c0,c1⟩:=h.one;have xq:mb < w.heap.size:=h.m.lt mb _ h.m.me;have HL:Hid (∀U,L0d w U->Calls prog 299 #[.pointer (some ⟨mb,3,none⟩),.agg #[.int .u8 x.1,.int .i64 x.2]] U fun e w'=>uK own mb g R (D2 R.abs (fs.map FrR.abs) x) U e w'):=fun U hU=>wC (h.m.same hU.size fun k hk=>hU.block k hk) h.hf h.hn hc x
 have xm:(fs=[]/\(D2 R.abs (fs.map FrR.abs) x).st=1/\(D2 R.abs (fs.map FrR.abs) x).frs.length=0)\/(0 < fs.length/\(D2 R.abs (fs.map FrR.abs) x).st=0/\(D2 R.abs (fs.map FrR.abs) x).frs.length=fs.length):=by
  rcases List.eq_nil_or_concat fs with rfl | ⟨r,c,rfl⟩
  ·exact L4a ⟨rfl,rfl,rfl⟩
  ·refine L4b ⟨by simp,?_⟩
   rw[List.concat_eq_append];unfold D2;have q1:((r++[c]).map FrR.abs).getLast?=some c.abs:=by simp
   have q2:((r++[c]).map FrR.abs).dropLast=r.map FrR.abs:=by simp
   rw[q1,q2];exact⟨rfl,by simp [goA]⟩
 have hn:=h.hn;have xc:Hid (∀U w2 xa R',L0d w U->A4 w2 xa mb g R'->R'.st=R.st->R'.ov=R.ov->McR.abs { R' with st:=(D2 R.abs (fs.map FrR.abs) x).st }=D2 R.abs (fs.map FrR.abs) x->A2 own U xa w2 ->
   (∃ca cc,w2.cell? ⟨mb,3,none⟩=some (.slice ca (D2 R.abs (fs.map FrR.abs) x).frs.length cc))/\∀V,L0d w2 V->DoA own mb g (D2 R.abs (fs.map FrR.abs) x) w (.returned (.int .i64 (D2 R.abs (fs.map FrR.abs) x).st)) V):=by
  intro U w2 xa R' hU hm _ hov he ht;have xn:R'.frs.length=(D2 R.abs (fs.map FrR.abs) x).frs.length:=by
   rw[<- he];simp [McR.abs]
  have xd:R'.out=R.out:=by
   have h1:R'.out=(D2 R.abs (fs.map FrR.abs) x).out:=by rw [<- he];rfl
   rw[h1];unfold D2;split <;> rfl
  refine⟨?_,fun V hV=>⟨xa,R',rfl,hm.same hV.size fun k hk=>hV.block k hk,⟨he,fun e=>?_⟩,((A2.of_below hU).trans ht).trans (A2.of_below hV)⟩⟩
  ·obtain ⟨ca,cc,xo⟩:=G3 hm.called
   refine⟨ca,cc,?_⟩;rw[<- xn,<- xo];exact hm.c3
  ·rw [hov];exact hq (by rw [<- xd];exact e)
 generalize D2 R.abs (fs.map FrR.abs) x=s at *
 clear h hc hq;go_enter func275,ntmps275;go_wp2_with fail;go_region_with (first | (go_at_call 299;refine (HL.out _ ?_).mono ?_;exact P5;rintro e w2 ⟨xa,R',rfl,xb,xh,xj,xi,xg⟩;obtain ⟨⟨ca,cc,d3⟩,hfin⟩:=xc.out _ w2 xa R' P5 xb xh xj xi xg;have HF:=hid hfin;have xk:mb < w2.heap.size:=xb.lt mb _ xb.me;clear hfin xb xh xj xi xg))
 all_goals
  rcases xm with ⟨rfl,xf,xe⟩ | ⟨xl,xf,xe⟩
  ·rw [xe] at d3
   rw[xf] at HF;go_wp2_with fail;go_ret;exact HF.out _ P5
  ·rw [xe] at d3
   rw[xf] at HF;go_wp2_with fail;go_ret;exact HF.out _ P5
end
end Go.Proofs.YtbkmgoffiigdbaaGreatDoor
