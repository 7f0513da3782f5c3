import Derived.Test.YtbkmgoffiigdbaaGreatDoorVDb
namespace Go.Proofs.YtbkmgoffiigdbaaGreatDoor
open Go.RowKit Go.Sort Go.Proofs.Tryz
set_option maxHeartbeats 2000000
set_option maxRecDepth 100000
section
variable {R:McR} {a mb sb:Nat} {f:FrR} {fs:List FrR} {g:PgR} {l rest:List Val} {own:Own} {va:Option Addr} {w:World} {x y:Val}
theorem A4.locals (h:A4 w own mb g R) (hf:R.frs=fs++[f]) (ha:f.loc[a]?=some x) :
  ∃lb lc,f.lv=.slice (zA lb) f.loc.length lc/\own lb=some (.loc fs.length)/\lb < w.heap.size/\w.cell? ⟨lb,a*2,none⟩=some (zC x.1)/\w.cell? ⟨lb,a*2+1,none⟩=some (J x.2)/\(∀j,w.frozen? ⟨lb,j,none⟩=false) /\
   w.ownsRow 0 92 2 (.slice (zA lb) f.loc.length lc) f.loc.length (A7 f.loc):=by
 have hl:=h.loc fs.length f (by rw [hf];simp);have xb:=(L1a.1 ha).1;obtain⟨lb,lc,hv,_,hb⟩:=hl.1.form R5;rw[hv] at hl;have xa:∀i,i < 2->w.cell? ⟨lb,a*2+i,none⟩=(O9 x)[i]?:=fun i hi=>by
  rw[hl.1.cellAt _ R5];exact D3 E6 ha hi
 exact⟨lb,lc,hv,hl.2 lb rfl,hb,xa 0 R5,xa 1 R5,fun j=>hl.1.frozenAt j,hl.1⟩
theorem zK (h:C0 w own mb g R fs f rest [] va sb) (a:Nat) (x:Val) (ha:f.loc[a]?=some x) (vc:Nat) :
  Calls prog 260 #[zB mb,J (a:Int),.slice va 0 vc] w fun e w'=>C3 own mb g R fs f (f.pc+1) (rest++[x]) (J 0) w e w':=by
 obtain⟨cb,cc,hv,xb,xg,xf,x0,x1,x2,x3⟩:=h.m.top h.hf;obtain⟨lb,lc,xd,xc,xi,l0,l1,_,_⟩:=h.m.locals h.hf ha;have c3:=h.m.c3;rw[hv] at c3;rw[xd] at x2;have xh:mb < w.heap.size:=h.m.lt mb _ h.m.me;have xj:a < f.loc.length:=(L1a.1 ha).1;have hn:=h.hn;have HR:Hid (∀W:World,W.cell? ⟨mb,3,none⟩=some (.slice (zA cb) (fs.length+1) cc)->Calls prog 178 #[.pointer (some ⟨mb,3,none⟩)] W fun e w'=>e=.returned (.pointer (some ⟨cb,fs.length*4,none⟩))/\∃m,w'=W.drewN m):=fun W hW=>L6 mb cb fs.length cc W hn hW
 have HH:=hid h;clear h hv xb xf x0 x1 x3 xd xc ha;go_enter func260,ntmps260;go_wp2_with (go_at_call 178;refine (HR.out _ ?_).mono ?_;exact c3;rintro e w' ⟨rfl,m,rfl⟩)
 refine (HH.out.answer (L3a (Below.drewQ (L3b _ _) m) (L1c _) _) vc _ [x] (G9 HH.out.m (L1c _) (B0 rfl)) R6 0 rfl).mono ?_;rintro e w' ⟨xa,xe,rfl,hm,ht⟩;go_wp2_with fail;go_ret;exact⟨xa,xe,rfl,hm,ht⟩
theorem A4.setLoc {w':World} {R:McR} {f:FrR} {lb lc:Nat} (h:A4 w own mb g R) (hf:R.frs=fs++[f]) (hlv:f.lv=.slice (zA lb) f.loc.length lc) (holb:own lb=some (.loc fs.length)) (hsize:w.heap.size=w'.heap.size) (hk:∀k,k≠lb->w'.heap[k]?=w.heap[k]?) (hlen:l.length=f.loc.length)
  (hrow:w'.ownsRow 0 92 2 (.slice (zA lb) f.loc.length lc) f.loc.length (A7 l)):A4 w' own mb g { R with frs:=fs++[{ f with loc:=l }] }:=by
 have xg:=h.lt;have keep:∀t,t≠.loc fs.length->∀k,own k=some t->w'.heap[k]?=w.heap[k]?/\own k=some t:=fun t ht k hk'=>⟨hk k (fun e=>by rw [e,holb] at hk';exact ht (L5b hk').symm),hk'⟩
 have xa:=(keep .mach R6 mb h.me).1;have xc:∀k,own k=none->w'.heap[k]?=w.heap[k]?:=fun k hk'=>hk k (fun e=>by rw [e,holb] at hk';cases hk')
 have xf:(fs++[{ f with loc:=l }]).flatMap FrR.cells=R.frs.flatMap FrR.cells:=by rw [hf];simp [FrR.cells]
 have xb:∀i x,(fs++[{ f with loc:=l }])[i]?=some x->(i=fs.length/\x={ f with loc:=l })\/(i≠fs.length/\R.frs[i]?=some x):=fun i x hx=>by
  by_cases e:i=fs.length
  ·subst e;simp at hx;exact L4a ⟨rfl,hx.symm⟩
  ·refine L4b ⟨e,?_⟩
   rw[hf];rcases Nat.lt_or_ge i fs.length with hl | hl
   ·rw [List.getElem?_append_left hl] at hx ⊢;exact hx
   ·rw [List.getElem?_append_right hl] at hx
    rw[List.getElem?_eq_none Q9] at hx;cases hx
 refine⟨fun k t hk'=>by rw [<- hsize];exact xg k t hk',h.me,?_,?_,?_,?_,?_,?_,h.out.kept (keep _ R6),?_,h.slots.kept (keep _ R6),fun i x hx=>?_,fun i x hx=>?_,fun j o ho=>(h.fld j o ho).kept (keep _ R6),h.pg.held (Nat.le_of_eq hsize) fun k hb=>xc k (h.ro k hb),h.ro,h.tab.held (Nat.le_of_eq hsize) (xc 0 h.ro0),h.ro0,?_,h.draws.kept (keep _ R6)⟩
 ·rw [L0b (w:=w) (a:=⟨mb,0,none⟩) xa];exact h.c0
 ·rw [L0b (w:=w) (a:=⟨mb,1,none⟩) xa];exact h.c1
 ·rw [L0b (w:=w) (a:=⟨mb,2,none⟩) xa];exact h.c2
 ·rw [L0b (w:=w) (a:=⟨mb,3,none⟩) xa];exact h.c3
 ·rw [L0b (w:=w) (a:=⟨mb,4,none⟩) xa];exact h.c4
 ·intro j;rw [L0c (w:=w) (a:=⟨mb,j,none⟩) xa];exact h.fz j
 ·have:=h.called.kept (own':=own) (w':=w') (keep _ R6)
  have xe:(fs++[{ f with loc:=l }]).length=R.frs.length:=by rw [hf];simp
  show Row w' own .called 86 4 R.cv (fs++[{ f with loc:=l }]).length ((fs++[{ f with loc:=l }]).flatMap FrR.cells);rw[xf,xe];exact this
 ·rcases xb i x hx with ⟨rfl,rfl⟩ | ⟨xd,hx⟩
  ·show Row w' own (.loc fs.length) 92 2 f.lv l.length (A7 l)
   rw[hlv,hlen]
   exact⟨hrow,fun b hb=>by obtain rfl:lb=b:=by simpa [Value.ownBlock] using hb
                           exact holb⟩
  ·exact (h.loc i x hx).kept (keep _ (by simpa using xd))
 ·rcases xb i x hx with ⟨rfl,rfl⟩ | ⟨xd,hx⟩
  ·exact (h.stk fs.length f (by rw [hf];simp)).kept (keep _ R6)
  ·exact (h.stk i x hx).kept (keep _ R6)
 ·rw [L0b (w:=w) (a:=⟨mb,5,none⟩) xa];exact h.c5
theorem eL (ha:l[a]?=some x):A7 (l.set a y)=((A7 l).set (a*2) (zC y.1)).set (a*2+1) (J y.2):=by
 have h1:=I7 (c:=O9) E6 (l:=l) (i:=a) (j:=0) (x:=x) (y:=(y.1,x.2)) (u:=zC y.1) ha R5 rfl;have xa:=(L1a.1 ha).1;have h2:=I7 (c:=O9) E6 (l:=l.set a (y.1,x.2)) (i:=a) (j:=1) (x:=(y.1,x.2)) (y:=y) (u:=J y.2) (List.getElem?_set_self xa) R5 rfl;rw[List.set_set] at h2;unfold A7;rw[h2,h1,Nat.add_zero]
theorem a3Y {R:McR} {f:FrR} {args:List Val} {W:World} (h:C0 w own mb g R fs f rest args va sb) (hB:L0d w W) {a:Nat} {x y:Val} (ha:f.loc[a]?=some x) {lb lc:Nat} (hlv:f.lv=.slice (zA lb) f.loc.length lc) (holb:own lb=some (.loc fs.length)) :
  C0 ((W.setCell ⟨lb,a*2,none⟩ (zC y.1)).setCell ⟨lb,a*2+1,none⟩ (J y.2)) own mb g { R with frs:=fs++[{ f with loc:=f.loc.set a y }] } fs { f with loc:=f.loc.set a y } rest args va sb /\
   A2 own w own ((W.setCell ⟨lb,a*2,none⟩ (zC y.1)).setCell ⟨lb,a*2+1,none⟩ (J y.2)):=by
 have hW:=h.later hB;have hl:=hW.m.loc fs.length f (by rw [h.hf];simp);rw[hlv] at hl;have hr:=(World.ownsRow.stored (World.ownsRow.stored hl.1 (a*2) (zC y.1)).1 (a*2+1) (J y.2)).1;rw[<- eL ha] at hr;have xa:∀k,k≠lb->((W.setCell ⟨lb,a*2,none⟩ (zC y.1)).setCell ⟨lb,a*2+1,none⟩ (J y.2)).heap[k]?=W.heap[k]?:=fun k hk=>by
  rw[heap_setCell_other _ _ _ _ hk,heap_setCell_other _ _ _ _ hk]
 refine⟨⟨hW.m.setLoc h.hf hlv holb R6 xa R6 hr,rfl,h.hst,fun h0=>?_,h.hn,h.hs,h.hpc⟩,⟨hB.os,hB.tape,hB.output,by have:=hB.size;simpa using this,fun k hk hno=>?_,fun _ _=>rfl⟩⟩
 ·obtain ⟨q1,q2,q3⟩:=hW.hva h0
  refine⟨q1,q2,fun j z hz=>?_⟩;have xb:sb≠lb:=fun e=>by rw [e,holb] at q2;cases q2
  rw[L0b (w:=W) (a:=⟨sb,_,none⟩) (xa sb xb),L0b (w:=W) (a:=⟨sb,_,none⟩) (xa sb xb)];exact q3 j z hz
 ·rw [xa k (fun e=>by rw [e,holb] at hno;cases hno)]
  exact hB.block k hk
def a8L (R:McR) (fs:List FrR) (f:FrR) (rest:List Val) (a:Nat) (y:Val) (R':McR):Prop:=∃sv',R'={ R with frs:=fs++[{ f with pc:=f.pc+1,sv:=sv',loc:=f.loc.set a y,stk:=rest }] }
theorem vV (h:C0 w own mb g R fs f rest [y] va sb) (a:Nat) (ha:a < f.loc.length) (vc:Nat) :
  Calls prog 261 #[zB mb,J (a:Int),.slice va 1 vc] w fun e w'=>aW own mb g (a8L R fs f rest a y) 0 w e w':=by
 obtain⟨x,hx⟩:∃x,f.loc[a]?=some x:=⟨_,L1b ha⟩
 obtain⟨o,rfl,xl,s0,s1⟩:=h.one;obtain⟨y1,y2⟩:=y;simp only at s0 s1;obtain⟨cb,cc,hv,xe,xk,xj,x0,x1,x2,x3⟩:=h.m.top h.hf;obtain⟨lb,lc,xb,xa,xn,l0,l1,lz,_⟩:=h.m.locals h.hf hx;have c3:=h.m.c3;rw[hv] at c3;have xf:=hid xb;rw[xb] at x2;have xm:mb < w.heap.size:=h.m.lt mb _ h.m.me;have xi:=lz (a*2);have xh:=lz (a*2+1);have hn:=h.hn;have HR:Hid (∀W:World,W.cell? ⟨mb,3,none⟩=some (.slice (zA cb) (fs.length+1) cc)->Calls prog 178 #[.pointer (some ⟨mb,3,none⟩)] W fun e w'=>e=.returned (.pointer (some ⟨cb,fs.length*4,none⟩))/\∃m,w'=W.drewN m):=fun W hW=>L6 mb cb fs.length cc W hn hW
 have xd:=hid xa;have HX:=hid hx;have HH:=hid h;clear h hv xe xj x0 x1 x3 xb xa hx lz;go_enter func261,ntmps261;go_wp2_with fail;go_region_with (first | (go_at_call 178;refine (HR.out _ ?_).mono ?_;exact c3;rintro e w' ⟨rfl,m,rfl⟩))
 all_goals
  obtain⟨hA,hT⟩:=a3Y (y:=(y1,y2)) HH.out (Below.drewQ (L3b _ _) (1+m)) HX.out xf.out xd.out;have HA:=hid hA;have HT:=hid hT;clear hA hT c3 x2 l0 l1 xi xh s0 s1;go_wp2_with (go_at_call 290;refine (HA.out.answer (L3b _ _) vc _ [] (Z1 _ _) R6 1 rfl).mono ?_;rintro e w' ⟨xc,xg,rfl,hm,ht⟩)
  go_ret;exact⟨xc,_,rfl,hm,⟨xg,by rw [List.append_nil]⟩,HT.out.trans ht⟩
end
section
variable {R:McR} {f:FrR} {fs:List FrR} {g:PgR} {j mb sb:Nat} {more rest:List Val} {o:ObR} {own:Own} {va:Option Addr} {w:World}
theorem A4.slot (h:A4 w own mb g R) (hj:R.obs[j]?=some o) :
  ∃hb hc fa fc,R.hv=.slice (zA hb) R.obs.length hc/\own hb=some .slots/\hb < w.heap.size/\o.fv=.slice fa o.fl.length fc/\w.cell? ⟨hb,j*2,none⟩=some (zC o.kind)/\w.cell? ⟨hb,j*2+1,none⟩=some (.slice fa o.fl.length fc):=by
 have xc:=(L1a.1 hj).1;obtain⟨hb,hc,e,_,hl⟩:=h.slots.1.form R5;have hs:=h.slots;rw[e] at hs;obtain⟨fa,fc,xb⟩:=E0 (h.fld j o hj);have xa:∀i,i < 2->w.cell? ⟨hb,j*2+i,none⟩=o.cells[i]?:=fun i hi=>by
  rw[hs.1.cellAt _ R5];exact D3 ObR.cells_len hj hi
 have h1:w.cell? ⟨hb,j*2+1,none⟩=some o.fv:=xa 1 R5;rw[xb] at h1;exact⟨hb,hc,fa,fc,e,hs.2 hb rfl,hl,xb,xa 0 R5,h1⟩
theorem aF (h:A4 w own mb g R) {j:Nat} {o:ObR} (hj:R.obs[j]?=some o) :
  Calls prog 225 #[.pointer (some ⟨mb,4,none⟩),.agg #[zC 2,J (j:Int)]] w fun e w'=>e=.returned (.agg #[zC o.kind,o.fv])/\L0d w w':=by
 obtain⟨hb,hc,fa,fc,e,_,hl,xa,k0,k1⟩:=h.slot hj;have c4:=h.c4;rw[e] at c4;have xb:mb < w.heap.size:=h.lt mb _ h.me;have xc:=(L1a.1 hj).1;rw[xa];clear h e xa hj;go_enter func225,ntmps225;go_wp2_with fail;go_region
 all_goals
  go_wp2_with fail;exact bodyPost_ret (v:=.agg #[zC o.kind,.slice fa o.fl.length fc]) (by simp [results,results225,go_sem]) rfl ⟨rfl,P5⟩
def K6 (k kind:Int) (n:Nat) (i1 i2:Int):Int:=if k=kind/\i1=1 then (if 0<=i2/\i2 < n then 0 else 3) else 2
theorem pM (k:Int) (fa:Option Addr) (n fc:Nat) (i:Nat) (hi:i < n) (hn:n<=1000) (w:World) :
  Calls prog 306 #[.agg #[zC k,.slice fa n fc],zC k,.agg #[zC 1,J (i:Int)]] w fun e w'=>e=.returned (J 0)/\L0d w w':=by
 have xa:B3 (i:Int) 0 ((n:Int) - 1)=true:=U7 R5 R5;go_enter func306,ntmps306;go_wp2_with (first | (go_at_call 206;refine (D5 _ _ _).mono ?_;rintro e w' ⟨rfl,o4,rfl⟩) | (go_at_call 116;refine (C5 _ _ _ _).mono ?_;rintro e w' ⟨rfl,rfl⟩))
 go_ret;exact⟨rfl,P5⟩
theorem C0.first {x:Val} (h:C0 w own mb g R fs f rest (x::more) va sb) :
  va=some ⟨sb,rest.length*2,none⟩/\sb < w.heap.size/\own sb=some (.stk fs.length)/\w.cell? ⟨sb,rest.length*2,none⟩=some (zC x.1)/\w.cell? ⟨sb,rest.length*2+1,none⟩=some (J x.2):=by
 obtain⟨h1,h2,h3⟩:=h.hva R6;obtain⟨h4,h5⟩:=h3 0 x rfl;exact⟨h1,h.m.lt sb _ h2,h2,by simpa using h4,by simpa using h5⟩
theorem fR {j i:Nat} {y:Val} (h:C0 w own mb g R fs f rest ((2,(j:Int))::more) va sb) (hj:R.obs[j]?=some o) (hi:o.fl[i]?=some y) (hfn:o.fl.length<=1000) (k:Nat) (hk:more.length+1=k) (hk3:k<=3) (vc:Nat) :
  Calls prog 301 #[zB mb,.slice va k vc,zC o.kind,.agg #[zC 1,J (i:Int)]] w fun e w'=>C3 own mb g R fs f (f.pc+1) (rest++[y]) (J 0) w e w':=by
 obtain⟨rfl,yb,_,s0,s1⟩:=h.first
 simp only at s0 s1;have xx:=(L1a.1 hi).1;obtain⟨fb,fc,xh,_,yc⟩:=(h.m.fld j o hj).1.form R5;have xb:=(h.m.fld j o hj).1;rw[xh] at xb;have xa:∀t,t < 2->w.cell? ⟨fb,i*2+t,none⟩=(O9 y)[t]?:=fun t ht=>by
  rw[xb.cellAt _ R5];exact D3 E6 hi ht
 have y0:w.cell? ⟨fb,i*2,none⟩=some (zC y.1):=xa 0 R5;have y1:w.cell? ⟨fb,i*2+1,none⟩=some (J y.2):=xa 1 R5;have yf:mb < w.heap.size:=h.m.lt mb _ h.m.me;have xf:Hid (∀W,L0d w W->Calls prog 225 #[.pointer (some ⟨mb,4,none⟩),.agg #[zC 2,J (j:Int)]] W fun e w'=>e=.returned (.agg #[zC o.kind,.slice (zA fb) o.fl.length fc])/\L0d W w'):=by
  intro W hW;have:=aF (h.m.same hW.size fun k hk=>hW.block k hk) hj;rw[xh] at this;exact this
 have HH:=hid h;have xt:fb≠w.heap.size+1:=by omega
 have xo:sb≠w.heap.size+1:=by omega
 have ya:fb < w.heap.size+1:=by omega
 have yd:fb < w.heap.size+1+1:=by omega
 clear h hj hi xh xb xa;go_enter func301,ntmps301;go_wp2_with fail;go_region_with (first | (go_at_call 225;refine (xf.out _ ?_).mono ?_;exact P5;rintro e w2 ⟨rfl,xd⟩;obtain ⟨yg,ye⟩:=Z5 xd;have xk:=xd.size;have yh:w.heap.size < w2.heap.size:=(by simp at xk;omega);have xr:fb < w2.heap.size:=R5;have xl:sb < w2.heap.size:=R5;have xz:mb < w2.heap.size:=R5;(try (have xw:w.heap.size+1 < w2.heap.size:=(by simp at xk;omega)));have xj:Hid (L0d w w2):=A3 xd P5;clear xd))
 all_goals
  go_wp2_with (first | (go_at_call 306;refine (pM _ _ _ _ _ xx hfn _).mono ?_;rintro e w3 ⟨rfl,xc⟩;obtain ⟨xm,xq⟩:=Z5 xc;have xi:=xc.size;have yi:w2.heap.size<=w3.heap.size:=(by simp at xi;omega);(try (have xu:w2.heap.size < w3.heap.size:=(by simp at xi;omega)));have yj:w.heap.size < w3.heap.size:=R5;have xp:fb < w3.heap.size:=R5;have xn:sb < w3.heap.size:=R5;have xy:mb < w3.heap.size:=R5;(try (have xv:w.heap.size+1 < w3.heap.size:=R5));have xg:Hid (L0d w w3):=A3 xc (by have hq:=xj.out.size;repeat (first | exact xj.out | refine L3c ?_ | refine Below.setCell ?_ Q1 _ | refine L3a ?_ Q1 _));clear xc) | (go_at_call 290;refine (HH.out.answer (by have hq:=xg.out.size;repeat (first | exact xg.out | refine L3c ?_ | refine Below.setCell ?_ Q1 _ | refine L3a ?_ Q1 _)) vc _ [y] (G9 HH.out.m (by have hq:=xg.out.size;first | omega | (simp;omega)) (by first | exact B0 R6 | exact K9 R6 | exact O4 R6)) R6 k hk).mono ?_;rintro e w' ⟨xe,xs,rfl,hm,ht⟩))
  go_ret;exact⟨xe,xs,rfl,hm,ht⟩
end
section
variable {R:McR} {f:FrR} {fs:List FrR} {g:PgR} {j mb sb:Nat} {o:ObR} {own:Own} {rest:List Val} {va:Option Addr} {w:World} {y:Val}
theorem a4R {j i:Nat} (h:C0 w own mb g R fs f rest [(2,(j:Int))] va sb) (hj:R.obs[j]?=some o) (hk:o.kind=1) (hi:o.fl[i]?=some y) (hfn:o.fl.length<=1000) (vc:Nat) :
  Calls prog 281 #[zB mb,J (i:Int),.slice va 1 vc] w fun e w'=>C3 own mb g R fs f (f.pc+1) (rest++[y]) (J 0) w e w':=by
 have HA:Hid (∀W,L0d w W->Calls prog 301 #[zB mb,.slice va 1 vc,zC 1,.agg #[zC 1,J (i:Int)]] W fun e w'=>C3 own mb g R fs f (f.pc+1) (rest++[y]) (J 0) W e w'):=by
  intro W hW;have:=fR (h.later hW) hj hi hfn 1 rfl R5 vc;rw[hk] at this;exact this
 clear h hj hi hk hfn;go_enter func281,ntmps281;go_wp2_with (first | (go_at_call 237;refine (N5 _ _).mono ?_;rintro e w' ⟨rfl,o,rfl⟩) | (go_at_call 301;refine (HA.out _ ?_).mono ?_;exact P5;rintro e w' ⟨xa,xb,rfl,hm,ht⟩;have HT:Hid (A2 own w xa w'):=(A2.of_below P5).trans ht))
 go_ret;exact⟨xa,xb,rfl,hm,HT.out⟩
theorem A4.setFld {w':World} {R:McR} {o:ObR} {l:List Val} {fb fc:Nat} (h:A4 w own mb g R) (hj:R.obs[j]?=some o) (hfv:o.fv=.slice (zA fb) o.fl.length fc) (hofb:own fb=some (.fld j)) (hsize:w.heap.size=w'.heap.size) (hk:∀k,k≠fb->w'.heap[k]?=w.heap[k]?) (hlen:l.length=o.fl.length)
  (hrow:w'.ownsRow 0 92 2 (.slice (zA fb) o.fl.length fc) o.fl.length (A7 l)):A4 w' own mb g { R with obs:=R.obs.set j { o with fl:=l } }:=by
 have xf:=h.lt;have keep:∀t,t≠.fld j->∀k,own k=some t->w'.heap[k]?=w.heap[k]?/\own k=some t:=fun t ht k hk'=>⟨hk k (fun e=>by rw [e,hofb] at hk';exact ht (L5b hk').symm),hk'⟩
 have xa:=(keep .mach R6 mb h.me).1;have xb:∀k,own k=none->w'.heap[k]?=w.heap[k]?:=fun k hk'=>hk k (fun e=>by rw [e,hofb] at hk';cases hk')
 have xc:=(L1a.1 hj).1;have xe:(R.obs.set j { o with fl:=l }).flatMap ObR.cells=R.obs.flatMap ObR.cells:=by
  have e:=I7 (c:=ObR.cells) ObR.cells_len (l:=R.obs) (i:=j) (j:=0) (x:=o) (y:={ o with fl:=l }) (u:=zC o.kind) hj R5 rfl;rw[e];have hg:(R.obs.flatMap ObR.cells)[j*2+0]?=some (zC o.kind):=D3 ObR.cells_len hj R5;obtain⟨hl,xd⟩:=L1a.1 hg;rw[<- xd];exact List.set_getElem_self hl
 refine⟨fun k t hk'=>by rw [<- hsize];exact xf k t hk',h.me,?_,?_,?_,?_,?_,?_,h.out.kept (keep _ R6),h.called.kept (keep _ R6),?_,fun i x hx=>(h.loc i x hx).kept (keep _ R6),fun i x hx=>(h.stk i x hx).kept (keep _ R6),fun i x hx=>?_,h.pg.held (Nat.le_of_eq hsize) fun k hb=>xb k (h.ro k hb),h.ro,h.tab.held (Nat.le_of_eq hsize) (xb 0 h.ro0),h.ro0,?_,h.draws.kept (keep _ R6)⟩
 ·rw [L0b (w:=w) (a:=⟨mb,0,none⟩) xa];exact h.c0
 ·rw [L0b (w:=w) (a:=⟨mb,1,none⟩) xa];exact h.c1
 ·rw [L0b (w:=w) (a:=⟨mb,2,none⟩) xa];exact h.c2
 ·rw [L0b (w:=w) (a:=⟨mb,3,none⟩) xa];exact h.c3
 ·rw [L0b (w:=w) (a:=⟨mb,4,none⟩) xa];exact h.c4
 ·intro i;rw [L0c (w:=w) (a:=⟨mb,i,none⟩) xa];exact h.fz i
 ·have:=h.slots.kept (own':=own) (w':=w') (keep _ R6)
  show Row w' own .slots 90 2 R.hv (R.obs.set j { o with fl:=l }).length ((R.obs.set j { o with fl:=l }).flatMap ObR.cells);rw[xe,List.length_set];exact this
 ·by_cases e:i=j
  ·subst e
   obtain rfl:{ o with fl:=l }=x:=by rw [List.getElem?_set_self xc] at hx;exact L5b hx
   show Row w' own (.fld i) 92 2 o.fv l.length (A7 l);rw[hfv,hlen]
   exact⟨hrow,fun b hb=>by obtain rfl:fb=b:=by simpa [Value.ownBlock] using hb
                           exact hofb⟩
  ·rw [List.getElem?_set_ne (Ne.symm e)] at hx
   exact (h.fld i x hx).kept (keep _ (by simpa using e))
 ·rw [L0b (w:=w) (a:=⟨mb,5,none⟩) xa];exact h.c5
theorem a1P {R:McR} {args:List Val} {W:World} (h:C0 w own mb g R fs f rest args va sb) (hB:L0d w W) {j i:Nat} {o:ObR} {x y:Val} (hj:R.obs[j]?=some o) (hi:o.fl[i]?=some x) {fb fc:Nat} (hfv:o.fv=.slice (zA fb) o.fl.length fc) (hofb:own fb=some (.fld j)) :
  C0 ((W.setCell ⟨fb,i*2,none⟩ (zC y.1)).setCell ⟨fb,i*2+1,none⟩ (J y.2)) own mb g { R with obs:=R.obs.set j { o with fl:=o.fl.set i y } } fs f rest args va sb /\
   A2 own w own ((W.setCell ⟨fb,i*2,none⟩ (zC y.1)).setCell ⟨fb,i*2+1,none⟩ (J y.2)):=by
 have hW:=h.later hB;have hl:=hW.m.fld j o hj;rw[hfv] at hl;have hr:=(World.ownsRow.stored (World.ownsRow.stored hl.1 (i*2) (zC y.1)).1 (i*2+1) (J y.2)).1;rw[<- eL hi] at hr;have xa:∀k,k≠fb->((W.setCell ⟨fb,i*2,none⟩ (zC y.1)).setCell ⟨fb,i*2+1,none⟩ (J y.2)).heap[k]?=W.heap[k]?:=fun k hk=>by
  rw[heap_setCell_other _ _ _ _ hk,heap_setCell_other _ _ _ _ hk]
 refine⟨⟨hW.m.setFld hj hfv hofb R6 xa R6 hr,h.hf,h.hst,fun h0=>?_,h.hn,h.hs,h.hpc⟩,⟨hB.os,hB.tape,hB.output,by have:=hB.size;simpa using this,fun k hk hno=>?_,fun _ _=>rfl⟩⟩
 ·obtain ⟨q1,q2,q3⟩:=hW.hva h0
  refine⟨q1,q2,fun t z hz=>?_⟩;have xb:sb≠fb:=fun e=>by rw [e,hofb] at q2;cases q2
  rw[L0b (w:=W) (a:=⟨sb,_,none⟩) (xa sb xb),L0b (w:=W) (a:=⟨sb,_,none⟩) (xa sb xb)];exact q3 t z hz
 ·rw [xa k (fun e=>by rw [e,hofb] at hno;cases hno)]
  exact hB.block k hk
def nO (R:McR) (fs:List FrR) (f:FrR) (rest:List Val) (j i:Nat) (o:ObR) (y:Val) (R':McR):Prop:=∃sv',R'={ R with obs:=R.obs.set j { o with fl:=o.fl.set i y },frs:=fs++[{ f with pc:=f.pc+1,sv:=sv',stk:=rest }] }
theorem uD {j i:Nat} (h:C0 w own mb g R fs f rest [(2,(j:Int)),y] va sb) (hj:R.obs[j]?=some o) (hi:i < o.fl.length) (hfn:o.fl.length<=1000) (vc:Nat) :
  Calls prog 302 #[zB mb,.slice va 2 vc,zC o.kind,.agg #[zC 1,J (i:Int)]] w fun e w'=>aW own mb g (nO R fs f rest j i o y) 0 w e w':=by
 obtain⟨so,rfl,yi,s0,s1,s2,s3⟩:=h.two;obtain⟨y1,y2⟩:=y;simp only at s0 s1 s2 s3;obtain⟨x,hx⟩:∃x,o.fl[i]?=some x:=⟨_,L1b hi⟩
 obtain⟨fb,fc,xd,_,xn⟩:=(h.m.fld j o hj).1.form R5;have xc:own fb=some (.fld j):=(h.m.fld j o hj).2 fb (by rw [xd];rfl);have xb:=(h.m.fld j o hj).1;rw[xd] at xb;have xa:∀t,t < 2->w.cell? ⟨fb,i*2+t,none⟩=(O9 x)[t]?:=fun t ht=>by
  rw[xb.cellAt _ R5];exact D3 E6 hx ht
 have y0:w.cell? ⟨fb,i*2,none⟩=some (zC x.1):=xa 0 R5;have yy:w.cell? ⟨fb,i*2+1,none⟩=some (J x.2):=xa 1 R5;have z0:=xb.frozenAt (i*2);have z1:=xb.frozenAt (i*2+1);have yk:mb < w.heap.size:=h.m.lt mb _ h.m.me;have xk:Hid (∀W,L0d w W->Calls prog 225 #[.pointer (some ⟨mb,4,none⟩),.agg #[zC 2,J (j:Int)]] W fun e w'=>e=.returned (.agg #[zC o.kind,.slice (zA fb) o.fl.length fc])/\L0d W w'):=by
  intro W hW;have:=aF (h.m.same hW.size fun k hk=>hW.block k hk) hj;rw[xd] at this;exact this
 have yl:sb≠fb:=fun e=>by
  obtain⟨_,q2,_⟩:=h.hva R6;rw[e,xc] at q2;cases q2
 have HH:=hid h;have HJ:=hid hj;have HX:=hid hx;have ye:=hid xd;have xh:=hid xc;have xx:fb≠w.heap.size+1:=by omega
 have xs:sb≠w.heap.size+1:=by omega
 have yg:fb < w.heap.size+1:=by omega
 have yj:fb < w.heap.size+1+1:=by omega
 have yh:sb < w.heap.size+1:=by omega
 have yc:sb < w.heap.size+1+1:=by omega
 clear h hj hx xd xb xa xc;go_enter func302,ntmps302;go_wp2_with fail;go_region_with (first | (go_at_call 225;refine (xk.out _ ?_).mono ?_;exact P5;rintro e w2 ⟨rfl,xf⟩;obtain ⟨xz,xv⟩:=Z5 xf;have xp:=xf.size;have ym:w.heap.size < w2.heap.size:=(by simp at xp;omega);have xu:fb < w2.heap.size:=R5;have xq:sb < w2.heap.size:=R5;have yf:mb < w2.heap.size:=R5;(try (have yb:w.heap.size+1 < w2.heap.size:=(by simp at xp;omega)));have xo:Hid (L0d w w2):=A3 xf P5;clear xf))
 all_goals
  go_wp2_with (first | (go_at_call 306;refine (pM _ _ _ _ _ hi hfn _).mono ?_;rintro e w3 ⟨rfl,xe⟩;obtain ⟨xi,xj⟩:=Z5 xe;have xm:=xe.size;have yn:w2.heap.size<=w3.heap.size:=(by simp at xm;omega);(try (have xy:w2.heap.size < w3.heap.size:=(by simp at xm;omega)));have yo:w.heap.size < w3.heap.size:=R5;have xt:fb < w3.heap.size:=R5;have xr:sb < w3.heap.size:=R5;have yd:mb < w3.heap.size:=R5;(try (have ya:w.heap.size+1 < w3.heap.size:=R5));have xl:Hid (L0d w w3):=A3 xe (by have hq:=xo.out.size;repeat (first | exact xo.out | refine L3c ?_ | refine Below.setCell ?_ Q1 _ | refine L3a ?_ Q1 _));clear xe))
  have g0:=(xl.out.frozen (p:=⟨fb,i*2,none⟩) xn).trans z0;have g1:=(xl.out.frozen (p:=⟨fb,i*2+1,none⟩) xn).trans z1;clear xv xj;go_region
  all_goals
   obtain⟨hA,hT⟩:=a1P (y:=(y1,y2)) HH.out (L3c xl.out) HJ.out HX.out ye.out xh.out;have HA:=hid hA;have HT:=hid hT;clear hA hT xz xi g0 g1;go_wp2_with (go_at_call 290;refine (HA.out.answer (L3b _ _) vc _ [] (Z1 _ _) R6 2 rfl).mono ?_;rintro e w' ⟨xg,xw,rfl,hm,ht⟩)
   go_ret;exact⟨xg,_,rfl,hm,⟨xw,by rw [List.append_nil]⟩,HT.out.trans ht⟩
theorem a4S {j i:Nat} (h:C0 w own mb g R fs f rest [(2,(j:Int)),y] va sb) (hj:R.obs[j]?=some o) (hk:o.kind=1) (hi:i < o.fl.length) (hfn:o.fl.length<=1000) (vc:Nat) :
  Calls prog 282 #[zB mb,J (i:Int),.slice va 2 vc] w fun e w'=>aW own mb g (nO R fs f rest j i o y) 0 w e w':=by
 have HA:Hid (∀W,L0d w W->Calls prog 302 #[zB mb,.slice va 2 vc,zC 1,.agg #[zC 1,J (i:Int)]] W fun e w'=>aW own mb g (nO R fs f rest j i o y) 0 W e w'):=by
  intro W hW;have:=uD (h.later hW) hj hi hfn vc;rw[hk] at this;exact this
 clear h hj hi hk hfn;go_enter func282,ntmps282;go_wp2_with (first | (go_at_call 237;refine (N5 _ _).mono ?_;rintro e w' ⟨rfl,o,rfl⟩) | (go_at_call 302;refine (HA.out _ ?_).mono ?_;exact P5;rintro e w' ⟨xa,R',rfl,hm,hp,ht⟩;have HT:Hid (A2 own w xa w'):=(A2.of_below P5).trans ht))
 go_ret;exact⟨xa,R',rfl,hm,hp,HT.out⟩
end
section
variable {R:McR} {g:PgR} {mb:Nat} {own:Own} {w:World}
theorem oM (h:A4 w own mb g R) (hpos:0 < R.obs.length) (hn:R.obs.length<=1000) :
  Calls prog 305 #[.pointer (some ⟨mb,4,none⟩)] w fun e w'=>e=.returned (.bool (taken R.obs == R.obs.length))/\L0d w w':=by
 have xd:mb < w.heap.size:=h.lt mb _ h.me;obtain⟨hb,hc,e,_,xf⟩:=h.slots.1.form hpos;have c4:=h.c4;rw[e] at c4;have xe:=kY R.obs;have xc:Hid (∀W,L0d w W->Calls prog 45 #[.pointer (some ⟨mb,4,none⟩)] W fun e w'=>e=.returned (J (taken R.obs:Int))/\L0d W w'):=fun W hW=>lY (h.same hW.size fun k hk=>hW.block k hk) hpos hn
 clear h e;go_enter func305,ntmps305;go_wp2_with fail;go_region_with (first | (go_at_call 45;refine (xc.out _ ?_).mono ?_;exact P5;rintro e w2 ⟨rfl,xb⟩;have xa:Hid (L0d w w2):=A3 xb P5;clear xb;have r4:=(xa.out.cell (p:=⟨mb,4,none⟩) xd).trans c4))
 all_goals
  go_wp2_with fail;go_ret;refine⟨congrArg (fun b=>Ending.returned (Value.bool b)) ?_,xa.out⟩;rw[Bool.eq_iff_iff];simp only [beq_iff_eq];omega
theorem bB (k:Int) (fa:Option Addr) (n fc:Nat) (w:World):Calls prog 212 #[.agg #[zC k,.slice fa n fc]] w fun e w'=>e=.returned (.bool (k == 0))/\∃o,w'=w.alloc o:=by
 go_enter func212,ntmps212;go_wp2
 go_ret;exact⟨rfl,_,rfl⟩
def Z4 (l:List ObR) (j:Nat):Prop:=(∃o,l[j]?=some o/\o.kind=0)/\∀i o,i < j->l[i]?=some o->o.kind≠0
theorem iD (h:A4 w own mb g R) (j:Nat) (hj:Z4 R.obs j) (hn:R.obs.length<=1000) (hb hc:Nat) (he:R.hv=.slice (zA hb) R.obs.length hc) :
  Calls prog 213 #[.slice (zA hb) R.obs.length hc,.func (.func 212) #[] #[]] w fun e w'=>e=.returned (J (j:Int))/\L0d w w':=by
 have xl:j < R.obs.length:=by obtain ⟨⟨o,ho,_⟩,_⟩:=hj;exact (L1a.1 ho).1
 have xc:=h.slots.1;rw[he] at xc;have xg:=(W3 xc).2;have xe:=hid xc;have HH:=hid h;have HJ:=hid hj;clear h he xc hj;go_enter func213,ntmps213;go_wp2_with fail;go_loopw [8] (fun v wr=>∃i:Nat,i<=j/\v=J i/\L0d w wr) (fun v _=>R.obs.length - (intOf v).toNat)
 case atStart=>exact ⟨0,L4c _,rfl,L3b _ _⟩
 case round =>
  obtain⟨i,hi,rfl,xb⟩:=hrel;have xj:i < R.obs.length:=by omega
  obtain⟨o,ho⟩:∃o,R.obs[i]?=some o:=⟨_,L1b xj⟩
  have xa:∀t,t < 2->wr.cell? ⟨hb,i*2+t,none⟩=o.cells[t]?:=fun t ht=>by
   rw[xb.cell (p:=⟨hb,_,none⟩) xg,xe.out.cellAt _ R5];exact D3 ObR.cells_len ho ht
  obtain⟨fa,fc,xf⟩:=E0 (HH.out.fld i o ho);have k0:wr.cell? ⟨hb,i*2,none⟩=some (zC o.kind):=xa 0 R5;have k1:wr.cell? ⟨hb,i*2+1,none⟩=some o.fv:=xa 1 R5;rw[xf] at k1;have xm:hb < wr.heap.size:=L0a xg xb.size;have xd:=hid xb;by_cases hij:i=j
  ·have hk:(o.kind == 0)=true:=by
    obtain⟨⟨o',xi,xk⟩,_⟩:=HJ.out;rw[hij,xi] at ho;obtain rfl:=L5b ho;exact beq_iff_eq.2 xk
   have xh:=hid hij;clear xa xf xb ho hij;go_wp2_with (go_at_call 212;refine (bB _ _ _ _ _).mono ?_;rintro e w' ⟨rfl,o4,rfl⟩)
   go_ret;exact⟨by rw [xh.out];rfl,L3a xd.out xd.out.size _⟩
  ·have hk:(o.kind == 0)=false:=L2c.2 (HJ.out.2 i o R5 ho)
   clear xa xf xb ho;go_wp2_with (go_at_call 212;refine (bB _ _ _ _ _).mono ?_;rintro e w' ⟨rfl,o4,rfl⟩)
   go_roundw
   case rel=>exact ⟨i+1,by omega,by go_num,L3a xd.out xd.out.size _⟩
   case measure=>simp [intOf];omega
end
end Go.Proofs.YtbkmgoffiigdbaaGreatDoor
