import Derived.Test.YtbkmgoffiigdbaaGreatDoorVDg
import Derived.Lib.SliceRun
namespace Go.Proofs.YtbkmgoffiigdbaaGreatDoor
open Go.RowKit Go.Sort Go.Proofs.Tryz
set_option maxHeartbeats 4000000
set_option maxRecDepth 1000000
section
variable {R:McR} {a mb sb:Nat} {f:FrR} {fs:List FrR} {g:PgR} {l rest:List Val} {own:Own} {va:Option Addr} {w:World} {x y:Val}
theorem A4.locals (h:A4 w own mb g R) (hf:R.frs=fs++[f]) (ha:f.loc[a]?=some x) :
  ∃lb lc,f.lv=.slice (some ⟨lb,0,none⟩) f.loc.length lc/\own lb=some (.loc fs.length)/\lb < w.heap.size/\w.cell? ⟨lb,a*2,none⟩=some (.int .u8 x.1)/\w.cell? ⟨lb,a*2+1,none⟩=some (.int .i64 x.2)/\(∀j,w.frozen? ⟨lb,j,none⟩=false) /\
   w.ownsRow 0 92 2 (.slice (some ⟨lb,0,none⟩) f.loc.length lc) f.loc.length (A5 f.loc):=by
 have hl:=h.loc fs.length f (by rw [hf];simp);have xb:=(L1a.1 ha).1;obtain⟨lb,lc,hv,_,hb⟩:=hl.1.form R4;rw[hv] at hl;have xa:∀i,i < 2->w.cell? ⟨lb,a*2+i,none⟩=(O1 x)[i]?:=fun i hi=>by
  rw[hl.1.cellAt _ R4];exact D6 G1 ha hi
 exact⟨lb,lc,hv,hl.2 lb rfl,hb,xa 0 R4,xa 1 R4,fun j=>hl.1.frozenAt j,hl.1⟩
theorem vL (h:C1 w own mb g R fs f rest [] va sb) (a:Nat) (x:Val) (ha:f.loc[a]?=some x) (vc:Nat) :
  Calls prog 260 #[.pointer (some ⟨mb,0,none⟩),.int .i64 (a:Int),.slice va 0 vc] w fun e w'=>C5 own mb g R fs f (f.pc+1) (rest++[x]) (.int .i64 0) w e w':=by
 obtain⟨cb,cc,hv,xb,xi,xf,x0,x1,x2,x3⟩:=h.m.top h.hf;obtain⟨lb,lc,xd,xa,xg,l0,l1,_,_⟩:=h.m.locals h.hf ha;have c3:=h.m.c3;rw[hv] at c3;rw[xd] at x2;have xh:mb < w.heap.size:=h.m.lt mb _ h.m.me;have xj:a < f.loc.length:=(L1a.1 ha).1;have hn:=h.hn;have HR:Hid (∀W:World,W.cell? ⟨mb,3,none⟩=some (.slice (some ⟨cb,0,none⟩) (fs.length+1) cc)->Calls prog 178 #[.pointer (some ⟨mb,3,none⟩)] W fun e w'=>e=.returned (.pointer (some ⟨cb,fs.length*4,none⟩))/\∃m,w'=W.drewN m):=fun W hW=>K0 mb cb fs.length cc W hn hW
 have HH:=hid h;clear h hv xb xf x0 x1 x3 xd xa ha;go_enter func260,ntmps260;go_wp2_with (go_at_call 178;refine (HR.out _ ?_).mono ?_;exact c3;rintro e w' ⟨rfl,m,rfl⟩)
 refine (HH.out.answer (Below.alloc (Below.drewQ (Below.refl _ _) m) (L1c _) _) vc _ [x] (H7 HH.out.m (L1c _) (B1 rfl)) R5 0 rfl).mono ?_;rintro e w' ⟨xc,xe,rfl,hm,ht⟩;go_wp2_with fail;go_ret;exact⟨xc,xe,rfl,hm,ht⟩
theorem A4.setLoc {w':World} {R:McR} {f:FrR} {lb lc:Nat} (h:A4 w own mb g R) (hf:R.frs=fs++[f]) (hlv:f.lv=.slice (some ⟨lb,0,none⟩) f.loc.length lc) (holb:own lb=some (.loc fs.length)) (hsize:w.heap.size=w'.heap.size) (hk:∀k,k≠lb->w'.heap[k]?=w.heap[k]?) (hlen:l.length=f.loc.length)
  (hrow:w'.ownsRow 0 92 2 (.slice (some ⟨lb,0,none⟩) f.loc.length lc) f.loc.length (A5 l)):A4 w' own mb g { R with frs:=fs++[{ f with loc:=l }] }:=by
 have xf:=h.lt;have keep:∀t,t≠.loc fs.length->∀k,own k=some t->w'.heap[k]?=w.heap[k]?/\own k=some t:=fun t ht k hk'=>⟨hk k (fun e=>by rw [e,holb] at hk';exact ht (Option.some.inj hk').symm),hk'⟩
 have xa:=(keep .mach R5 mb h.me).1;have xd:∀k,own k=none->w'.heap[k]?=w.heap[k]?:=fun k hk'=>hk k (fun e=>by rw [e,holb] at hk';cases hk')
 have xe:(fs++[{ f with loc:=l }]).flatMap FrR.cells=R.frs.flatMap FrR.cells:=by rw [hf];simp [FrR.cells]
 have xb:∀i x,(fs++[{ f with loc:=l }])[i]?=some x->(i=fs.length/\x={ f with loc:=l })\/(i≠fs.length/\R.frs[i]?=some x):=fun i x hx=>by
  by_cases e:i=fs.length
  ·subst e;simp at hx;exact Or.inl ⟨rfl,hx.symm⟩
  ·refine Or.inr ⟨e,?_⟩
   rw[hf];rcases Nat.lt_or_ge i fs.length with hl | hl
   ·rw [List.getElem?_append_left hl] at hx ⊢;exact hx
   ·rw [List.getElem?_append_right hl] at hx
    rw[List.getElem?_eq_none Q8] at hx;cases hx
 refine⟨fun k t hk'=>by rw [<- hsize];exact xf k t hk',h.me,?_,?_,?_,?_,?_,?_,h.out.kept (keep _ R5),?_,h.slots.kept (keep _ R5),fun i x hx=>?_,fun i x hx=>?_,fun j o ho=>(h.fld j o ho).kept (keep _ R5),h.pg.held (Nat.le_of_eq hsize) fun k hb=>xd k (h.ro k hb),h.ro,h.tab.held (Nat.le_of_eq hsize) (xd 0 h.ro0),h.ro0,?_,h.draws.kept (keep _ R5)⟩
 ·rw [L0b (w:=w) (a:=⟨mb,0,none⟩) xa];exact h.c0
 ·rw [L0b (w:=w) (a:=⟨mb,1,none⟩) xa];exact h.c1
 ·rw [L0b (w:=w) (a:=⟨mb,2,none⟩) xa];exact h.c2
 ·rw [L0b (w:=w) (a:=⟨mb,3,none⟩) xa];exact h.c3
 ·rw [L0b (w:=w) (a:=⟨mb,4,none⟩) xa];exact h.c4
 ·intro j;rw [L0c (w:=w) (a:=⟨mb,j,none⟩) xa];exact h.fz j
 ·have:=h.called.kept (own':=own) (w':=w') (keep _ R5)
  have xg:(fs++[{ f with loc:=l }]).length=R.frs.length:=by rw [hf];simp
  show Row w' own .called 86 4 R.cv (fs++[{ f with loc:=l }]).length ((fs++[{ f with loc:=l }]).flatMap FrR.cells);rw[xe,xg];exact this
 ·rcases xb i x hx with ⟨rfl,rfl⟩ | ⟨xc,hx⟩
  ·show Row w' own (.loc fs.length) 92 2 f.lv l.length (A5 l)
   rw[hlv,hlen]
   exact⟨hrow,fun b hb=>by obtain rfl:lb=b:=by simpa [Value.ownBlock] using hb
                           exact holb⟩
  ·exact (h.loc i x hx).kept (keep _ (by simpa using xc))
 ·rcases xb i x hx with ⟨rfl,rfl⟩ | ⟨xc,hx⟩
  ·exact (h.stk fs.length f (by rw [hf];simp)).kept (keep _ R5)
  ·exact (h.stk i x hx).kept (keep _ R5)
 ·rw [L0b (w:=w) (a:=⟨mb,5,none⟩) xa];exact h.c5
theorem fF (ha:l[a]?=some x):A5 (l.set a y)=((A5 l).set (a*2) (.int .u8 y.1)).set (a*2+1) (.int .i64 y.2):=by
 have h1:=G6 (c:=O1) G1 (l:=l) (i:=a) (j:=0) (x:=x) (y:=(y.1,x.2)) (u:=.int .u8 y.1) ha R4 rfl;have xa:=(L1a.1 ha).1;have h2:=G6 (c:=O1) G1 (l:=l.set a (y.1,x.2)) (i:=a) (j:=1) (x:=(y.1,x.2)) (y:=y) (u:=.int .i64 y.2) (List.getElem?_set_self xa) R4 rfl;rw[List.set_set] at h2;unfold A5;rw[h2,h1,Nat.add_zero]
theorem a1H {R:McR} {f:FrR} {args:List Val} {W:World} (h:C1 w own mb g R fs f rest args va sb) (hB:Below w.heap.size w W) {a:Nat} {x y:Val} (ha:f.loc[a]?=some x) {lb lc:Nat} (hlv:f.lv=.slice (some ⟨lb,0,none⟩) f.loc.length lc) (holb:own lb=some (.loc fs.length)) :
  C1 ((W.setCell ⟨lb,a*2,none⟩ (.int .u8 y.1)).setCell ⟨lb,a*2+1,none⟩ (.int .i64 y.2)) own mb g { R with frs:=fs++[{ f with loc:=f.loc.set a y }] } fs { f with loc:=f.loc.set a y } rest args va sb /\
   A2 own w own ((W.setCell ⟨lb,a*2,none⟩ (.int .u8 y.1)).setCell ⟨lb,a*2+1,none⟩ (.int .i64 y.2)):=by
 have hW:=h.later hB;have hl:=hW.m.loc fs.length f (by rw [h.hf];simp);rw[hlv] at hl;have hr:=(World.ownsRow.stored (World.ownsRow.stored hl.1 (a*2) (.int .u8 y.1)).1 (a*2+1) (.int .i64 y.2)).1;rw[<- fF ha] at hr;have xa:∀k,k≠lb->((W.setCell ⟨lb,a*2,none⟩ (.int .u8 y.1)).setCell ⟨lb,a*2+1,none⟩ (.int .i64 y.2)).heap[k]?=W.heap[k]?:=fun k hk=>by
  rw[heap_setCell_other _ _ _ _ hk,heap_setCell_other _ _ _ _ hk]
 refine⟨⟨hW.m.setLoc h.hf hlv holb R5 xa R5 hr,rfl,h.hst,fun h0=>?_,h.hn,h.hs,h.hpc⟩,⟨hB.os,hB.tape,hB.output,by have:=hB.size;simpa using this,fun k hk hno=>?_,fun _ _=>rfl⟩⟩
 ·obtain ⟨q1,q2,q3⟩:=hW.hva h0
  refine⟨q1,q2,fun j z hz=>?_⟩;have xb:sb≠lb:=fun e=>by rw [e,holb] at q2;cases q2
  rw[L0b (w:=W) (a:=⟨sb,_,none⟩) (xa sb xb),L0b (w:=W) (a:=⟨sb,_,none⟩) (xa sb xb)];exact q3 j z hz
 ·rw [xa k (fun e=>by rw [e,holb] at hno;cases hno)]
  exact hB.block k hk
def a5M (R:McR) (fs:List FrR) (f:FrR) (rest:List Val) (a:Nat) (y:Val) (R':McR):Prop:=∃sv',R'={ R with frs:=fs++[{ f with pc:=f.pc+1,sv:=sv',loc:=f.loc.set a y,stk:=rest }] }
theorem sL (h:C1 w own mb g R fs f rest [y] va sb) (a:Nat) (ha:a < f.loc.length) (vc:Nat) :
  Calls prog 261 #[.pointer (some ⟨mb,0,none⟩),.int .i64 (a:Int),.slice va 1 vc] w fun e w'=>Y4 own mb g (a5M R fs f rest a y) 0 w e w':=by
 obtain⟨x,hx⟩:∃x,f.loc[a]?=some x:=⟨_,L1b ha⟩
 obtain⟨o,rfl,xk,s0,s1⟩:=h.one;obtain⟨y1,y2⟩:=y;simp only at s0 s1;obtain⟨cb,cc,hv,xd,xn,xg,x0,x1,x2,x3⟩:=h.m.top h.hf;obtain⟨lb,lc,xb,xa,xl,l0,l1,lz,_⟩:=h.m.locals h.hf hx;have c3:=h.m.c3;rw[hv] at c3;have xh:=hid xb;rw[xb] at x2;have xm:mb < w.heap.size:=h.m.lt mb _ h.m.me;have xj:=lz (a*2);have xi:=lz (a*2+1);have hn:=h.hn;have HR:Hid (∀W:World,W.cell? ⟨mb,3,none⟩=some (.slice (some ⟨cb,0,none⟩) (fs.length+1) cc)->Calls prog 178 #[.pointer (some ⟨mb,3,none⟩)] W fun e w'=>e=.returned (.pointer (some ⟨cb,fs.length*4,none⟩))/\∃m,w'=W.drewN m):=fun W hW=>K0 mb cb fs.length cc W hn hW
 have xc:=hid xa;have HX:=hid hx;have HH:=hid h;clear h hv xd xg x0 x1 x3 xb xa hx lz;go_enter func261,ntmps261;go_wp2_with fail;go_region_with (first | (go_at_call 178;refine (HR.out _ ?_).mono ?_;exact c3;rintro e w' ⟨rfl,m,rfl⟩))
 all_goals
  obtain⟨hA,hT⟩:=a1H (y:=(y1,y2)) HH.out (Below.drewQ (Below.refl _ _) (1+m)) HX.out xh.out xc.out;have HA:=hid hA;have HT:=hid hT;clear hA hT c3 x2 l0 l1 xj xi s0 s1;go_wp2_with (go_at_call 290;refine (HA.out.answer (Below.refl _ _) vc _ [] (V3 _ _) R5 1 rfl).mono ?_;rintro e w' ⟨xe,xf,rfl,hm,ht⟩)
  go_ret;exact⟨xe,_,rfl,hm,⟨xf,by rw [List.append_nil]⟩,HT.out.trans ht⟩
end
section
variable {R:McR} {f:FrR} {fs:List FrR} {g:PgR} {j mb sb:Nat} {more rest:List Val} {o:ObR} {own:Own} {va:Option Addr} {w:World}
theorem A4.slot (h:A4 w own mb g R) (hj:R.obs[j]?=some o) :
  ∃hb hc fa fc,R.hv=.slice (some ⟨hb,0,none⟩) R.obs.length hc/\own hb=some .slots/\hb < w.heap.size/\o.fv=.slice fa o.fl.length fc/\w.cell? ⟨hb,j*2,none⟩=some (.int .u8 o.kind)/\w.cell? ⟨hb,j*2+1,none⟩=some (.slice fa o.fl.length fc):=by
 have xc:=(L1a.1 hj).1;obtain⟨hb,hc,e,_,hl⟩:=h.slots.1.form R4;have hs:=h.slots;rw[e] at hs;obtain⟨fa,fc,xb⟩:=G8 (h.fld j o hj);have xa:∀i,i < 2->w.cell? ⟨hb,j*2+i,none⟩=o.cells[i]?:=fun i hi=>by
  rw[hs.1.cellAt _ R4];exact D6 ObR.cells_len hj hi
 have h1:w.cell? ⟨hb,j*2+1,none⟩=some o.fv:=xa 1 R4;rw[xb] at h1;exact⟨hb,hc,fa,fc,e,hs.2 hb rfl,hl,xb,xa 0 R4,h1⟩
theorem W9 (h:A4 w own mb g R) {j:Nat} {o:ObR} (hj:R.obs[j]?=some o) :
  Calls prog 225 #[.pointer (some ⟨mb,4,none⟩),.agg #[.int .u8 2,.int .i64 (j:Int)]] w fun e w'=>e=.returned (.agg #[.int .u8 o.kind,o.fv])/\Below w.heap.size w w':=by
 obtain⟨hb,hc,fa,fc,e,_,hl,xa,k0,k1⟩:=h.slot hj;have c4:=h.c4;rw[e] at c4;have xc:mb < w.heap.size:=h.lt mb _ h.me;have xb:=(L1a.1 hj).1;rw[xa];clear h e xa hj;go_enter func225,ntmps225;go_wp2_with fail;go_region
 all_goals
  go_wp2_with fail;exact bodyPost_ret (v:=.agg #[.int .u8 o.kind,.slice fa o.fl.length fc]) (by simp [results,results225,go_sem]) rfl ⟨rfl,P5⟩
def J2 (k kind:Int) (n:Nat) (i1 i2:Int):Int:=if k=kind/\i1=1 then (if 0<=i2/\i2 < n then 0 else 3) else 2
theorem mN (k:Int) (fa:Option Addr) (n fc:Nat) (i:Nat) (hi:i < n) (hn:n<=1000) (w:World) :
  Calls prog 306 #[.agg #[.int .u8 k,.slice fa n fc],.int .u8 k,.agg #[.int .u8 1,.int .i64 (i:Int)]] w fun e w'=>e=.returned (.int .i64 0)/\Below w.heap.size w w':=by
 have xa:A9 (i:Int) 0 ((n:Int) - 1)=true:=I6 R4 R4;go_enter func306,ntmps306;go_wp2_with (first | (go_at_call 206;refine (C8 _ _ _).mono ?_;rintro e w' ⟨rfl,o4,rfl⟩) | (go_at_call 116;refine (B3 _ _ _ _).mono ?_;rintro e w' ⟨rfl,rfl⟩))
 go_ret;exact⟨rfl,P5⟩
theorem C1.first {x:Val} (h:C1 w own mb g R fs f rest (x::more) va sb) :
  va=some ⟨sb,rest.length*2,none⟩/\sb < w.heap.size/\own sb=some (.stk fs.length)/\w.cell? ⟨sb,rest.length*2,none⟩=some (.int .u8 x.1)/\w.cell? ⟨sb,rest.length*2+1,none⟩=some (.int .i64 x.2):=by
 obtain⟨h1,h2,h3⟩:=h.hva R5;obtain⟨h4,h5⟩:=h3 0 x rfl;exact⟨h1,h.m.lt sb _ h2,h2,by simpa using h4,by simpa using h5⟩
theorem eB {j i:Nat} {y:Val} (h:C1 w own mb g R fs f rest ((2,(j:Int))::more) va sb) (hj:R.obs[j]?=some o) (hi:o.fl[i]?=some y) (hfn:o.fl.length<=1000) (k:Nat) (hk:more.length+1=k) (hk3:k<=3) (vc:Nat) :
  Calls prog 301 #[.pointer (some ⟨mb,0,none⟩),.slice va k vc,.int .u8 o.kind,.agg #[.int .u8 1,.int .i64 (i:Int)]] w fun e w'=>C5 own mb g R fs f (f.pc+1) (rest++[y]) (.int .i64 0) w e w':=by
 obtain⟨rfl,ya,_,s0,s1⟩:=h.first
 simp only at s0 s1;have xo:=(L1a.1 hi).1;obtain⟨fb,fc,xe,_,yi⟩:=(h.m.fld j o hj).1.form R4;have xb:=(h.m.fld j o hj).1;rw[xe] at xb;have xa:∀t,t < 2->w.cell? ⟨fb,i*2+t,none⟩=(O1 y)[t]?:=fun t ht=>by
  rw[xb.cellAt _ R4];exact D6 G1 hi ht
 have y0:w.cell? ⟨fb,i*2,none⟩=some (.int .u8 y.1):=xa 0 R4;have y1:w.cell? ⟨fb,i*2+1,none⟩=some (.int .i64 y.2):=xa 1 R4;have yd:mb < w.heap.size:=h.m.lt mb _ h.m.me;have xf:Hid (∀W,Below w.heap.size w W->Calls prog 225 #[.pointer (some ⟨mb,4,none⟩),.agg #[.int .u8 2,.int .i64 (j:Int)]] W fun e w'=>e=.returned (.agg #[.int .u8 o.kind,.slice (some ⟨fb,0,none⟩) o.fl.length fc])/\Below W.heap.size W w'):=by
  intro W hW;have:=W9 (h.m.same hW.size fun k hk=>hW.block k hk) hj;rw[xe] at this;exact this
 have HH:=hid h;have xn:fb≠w.heap.size+1:=by omega
 have xt:sb≠w.heap.size+1:=by omega
 have yc:fb < w.heap.size+1:=by omega
 have ye:fb < w.heap.size+1+1:=by omega
 clear h hj hi xe xb xa;go_enter func301,ntmps301;go_wp2_with fail;go_region_with (first | (go_at_call 225;refine (xf.out _ ?_).mono ?_;exact P5;rintro e w2 ⟨rfl,xc⟩;obtain ⟨yf,yj⟩:=X9 xc;have xi:=xc.size;have yb:w.heap.size < w2.heap.size:=(by simp at xi;omega);have xs:fb < w2.heap.size:=R4;have xu:sb < w2.heap.size:=R4;have xr:mb < w2.heap.size:=R4;(try (have xm:w.heap.size+1 < w2.heap.size:=(by simp at xi;omega)));have xk:Hid (Below w.heap.size w w2):=A6 xc P5;clear xc))
 all_goals
  go_wp2_with (first | (go_at_call 306;refine (mN _ _ _ _ _ xo hfn _).mono ?_;rintro e w3 ⟨rfl,xd⟩;obtain ⟨xx,xp⟩:=X9 xd;have xj:=xd.size;have yh:w2.heap.size<=w3.heap.size:=(by simp at xj;omega);(try (have xy:w2.heap.size < w3.heap.size:=(by simp at xj;omega)));have yg:w.heap.size < w3.heap.size:=R4;have xw:fb < w3.heap.size:=R4;have xq:sb < w3.heap.size:=R4;have xv:mb < w3.heap.size:=R4;(try (have xz:w.heap.size+1 < w3.heap.size:=R4));have xg:Hid (Below w.heap.size w w3):=A6 xd (by have hq:=xk.out.size;repeat (first | exact xk.out | refine Below.drew ?_ | refine Below.setCell ?_ Q1 _ | refine Below.alloc ?_ Q1 _));clear xd) | (go_at_call 290;refine (HH.out.answer (by have hq:=xg.out.size;repeat (first | exact xg.out | refine Below.drew ?_ | refine Below.setCell ?_ Q1 _ | refine Below.alloc ?_ Q1 _)) vc _ [y] (H7 HH.out.m (by have hq:=xg.out.size;first | omega | (simp;omega)) (by first | exact B1 R5 | exact J4 R5 | exact M0 R5)) R5 k hk).mono ?_;rintro e w' ⟨xh,xl,rfl,hm,ht⟩))
  go_ret;exact⟨xh,xl,rfl,hm,ht⟩
end
section
variable {R:McR} {f:FrR} {fs:List FrR} {g:PgR} {j mb sb:Nat} {o:ObR} {own:Own} {rest:List Val} {va:Option Addr} {w:World} {y:Val}
theorem a2n {j i:Nat} (h:C1 w own mb g R fs f rest [(2,(j:Int))] va sb) (hj:R.obs[j]?=some o) (hk:o.kind=1) (hi:o.fl[i]?=some y) (hfn:o.fl.length<=1000) (vc:Nat) :
  Calls prog 281 #[.pointer (some ⟨mb,0,none⟩),.int .i64 (i:Int),.slice va 1 vc] w fun e w'=>C5 own mb g R fs f (f.pc+1) (rest++[y]) (.int .i64 0) w e w':=by
 have HA:Hid (∀W,Below w.heap.size w W->Calls prog 301 #[.pointer (some ⟨mb,0,none⟩),.slice va 1 vc,.int .u8 1,.agg #[.int .u8 1,.int .i64 (i:Int)]] W fun e w'=>C5 own mb g R fs f (f.pc+1) (rest++[y]) (.int .i64 0) W e w'):=by
  intro W hW;have:=eB (h.later hW) hj hi hfn 1 rfl R4 vc;rw[hk] at this;exact this
 clear h hj hi hk hfn;go_enter func281,ntmps281;go_wp2_with (first | (go_at_call 237;refine (L2 _ _).mono ?_;rintro e w' ⟨rfl,o,rfl⟩) | (go_at_call 301;refine (HA.out _ ?_).mono ?_;exact P5;rintro e w' ⟨xa,xb,rfl,hm,ht⟩;have HT:Hid (A2 own w xa w'):=(A2.of_below P5).trans ht))
 go_ret;exact⟨xa,xb,rfl,hm,HT.out⟩
theorem A4.setFld {w':World} {R:McR} {o:ObR} {l:List Val} {fb fc:Nat} (h:A4 w own mb g R) (hj:R.obs[j]?=some o) (hfv:o.fv=.slice (some ⟨fb,0,none⟩) o.fl.length fc) (hofb:own fb=some (.fld j)) (hsize:w.heap.size=w'.heap.size) (hk:∀k,k≠fb->w'.heap[k]?=w.heap[k]?) (hlen:l.length=o.fl.length)
  (hrow:w'.ownsRow 0 92 2 (.slice (some ⟨fb,0,none⟩) o.fl.length fc) o.fl.length (A5 l)):A4 w' own mb g { R with obs:=R.obs.set j { o with fl:=l } }:=by
 have xf:=h.lt;have keep:∀t,t≠.fld j->∀k,own k=some t->w'.heap[k]?=w.heap[k]?/\own k=some t:=fun t ht k hk'=>⟨hk k (fun e=>by rw [e,hofb] at hk';exact ht (Option.some.inj hk').symm),hk'⟩
 have xa:=(keep .mach R5 mb h.me).1;have xb:∀k,own k=none->w'.heap[k]?=w.heap[k]?:=fun k hk'=>hk k (fun e=>by rw [e,hofb] at hk';cases hk')
 have xc:=(L1a.1 hj).1;have xd:(R.obs.set j { o with fl:=l }).flatMap ObR.cells=R.obs.flatMap ObR.cells:=by
  have e:=G6 (c:=ObR.cells) ObR.cells_len (l:=R.obs) (i:=j) (j:=0) (x:=o) (y:={ o with fl:=l }) (u:=.int .u8 o.kind) hj R4 rfl;rw[e];have hg:(R.obs.flatMap ObR.cells)[j*2+0]?=some (.int .u8 o.kind):=D6 ObR.cells_len hj R4;obtain⟨hl,xe⟩:=L1a.1 hg;rw[<- xe];exact List.set_getElem_self hl
 refine⟨fun k t hk'=>by rw [<- hsize];exact xf k t hk',h.me,?_,?_,?_,?_,?_,?_,h.out.kept (keep _ R5),h.called.kept (keep _ R5),?_,fun i x hx=>(h.loc i x hx).kept (keep _ R5),fun i x hx=>(h.stk i x hx).kept (keep _ R5),fun i x hx=>?_,h.pg.held (Nat.le_of_eq hsize) fun k hb=>xb k (h.ro k hb),h.ro,h.tab.held (Nat.le_of_eq hsize) (xb 0 h.ro0),h.ro0,?_,h.draws.kept (keep _ R5)⟩
 ·rw [L0b (w:=w) (a:=⟨mb,0,none⟩) xa];exact h.c0
 ·rw [L0b (w:=w) (a:=⟨mb,1,none⟩) xa];exact h.c1
 ·rw [L0b (w:=w) (a:=⟨mb,2,none⟩) xa];exact h.c2
 ·rw [L0b (w:=w) (a:=⟨mb,3,none⟩) xa];exact h.c3
 ·rw [L0b (w:=w) (a:=⟨mb,4,none⟩) xa];exact h.c4
 ·intro i;rw [L0c (w:=w) (a:=⟨mb,i,none⟩) xa];exact h.fz i
 ·have:=h.slots.kept (own':=own) (w':=w') (keep _ R5)
  show Row w' own .slots 90 2 R.hv (R.obs.set j { o with fl:=l }).length ((R.obs.set j { o with fl:=l }).flatMap ObR.cells);rw[xd,List.length_set];exact this
 ·by_cases e:i=j
  ·subst e
   obtain rfl:{ o with fl:=l }=x:=by rw [List.getElem?_set_self xc] at hx;exact Option.some.inj hx
   show Row w' own (.fld i) 92 2 o.fv l.length (A5 l);rw[hfv,hlen]
   exact⟨hrow,fun b hb=>by obtain rfl:fb=b:=by simpa [Value.ownBlock] using hb
                           exact hofb⟩
  ·rw [List.getElem?_set_ne (Ne.symm e)] at hx
   exact (h.fld i x hx).kept (keep _ (by simpa using e))
 ·rw [L0b (w:=w) (a:=⟨mb,5,none⟩) xa];exact h.c5
theorem zR {R:McR} {args:List Val} {W:World} (h:C1 w own mb g R fs f rest args va sb) (hB:Below w.heap.size w W) {j i:Nat} {o:ObR} {x y:Val} (hj:R.obs[j]?=some o) (hi:o.fl[i]?=some x) {fb fc:Nat} (hfv:o.fv=.slice (some ⟨fb,0,none⟩) o.fl.length fc) (hofb:own fb=some (.fld j)) :
  C1 ((W.setCell ⟨fb,i*2,none⟩ (.int .u8 y.1)).setCell ⟨fb,i*2+1,none⟩ (.int .i64 y.2)) own mb g { R with obs:=R.obs.set j { o with fl:=o.fl.set i y } } fs f rest args va sb /\
   A2 own w own ((W.setCell ⟨fb,i*2,none⟩ (.int .u8 y.1)).setCell ⟨fb,i*2+1,none⟩ (.int .i64 y.2)):=by
 have hW:=h.later hB;have hl:=hW.m.fld j o hj;rw[hfv] at hl;have hr:=(World.ownsRow.stored (World.ownsRow.stored hl.1 (i*2) (.int .u8 y.1)).1 (i*2+1) (.int .i64 y.2)).1;rw[<- fF hi] at hr;have xa:∀k,k≠fb->((W.setCell ⟨fb,i*2,none⟩ (.int .u8 y.1)).setCell ⟨fb,i*2+1,none⟩ (.int .i64 y.2)).heap[k]?=W.heap[k]?:=fun k hk=>by
  rw[heap_setCell_other _ _ _ _ hk,heap_setCell_other _ _ _ _ hk]
 refine⟨⟨hW.m.setFld hj hfv hofb R5 xa R5 hr,h.hf,h.hst,fun h0=>?_,h.hn,h.hs,h.hpc⟩,⟨hB.os,hB.tape,hB.output,by have:=hB.size;simpa using this,fun k hk hno=>?_,fun _ _=>rfl⟩⟩
 ·obtain ⟨q1,q2,q3⟩:=hW.hva h0
  refine⟨q1,q2,fun t z hz=>?_⟩;have xb:sb≠fb:=fun e=>by rw [e,hofb] at q2;cases q2
  rw[L0b (w:=W) (a:=⟨sb,_,none⟩) (xa sb xb),L0b (w:=W) (a:=⟨sb,_,none⟩) (xa sb xb)];exact q3 t z hz
 ·rw [xa k (fun e=>by rw [e,hofb] at hno;cases hno)]
  exact hB.block k hk
def lA (R:McR) (fs:List FrR) (f:FrR) (rest:List Val) (j i:Nat) (o:ObR) (y:Val) (R':McR):Prop:=∃sv',R'={ R with obs:=R.obs.set j { o with fl:=o.fl.set i y },frs:=fs++[{ f with pc:=f.pc+1,sv:=sv',stk:=rest }] }
theorem rE {j i:Nat} (h:C1 w own mb g R fs f rest [(2,(j:Int)),y] va sb) (hj:R.obs[j]?=some o) (hi:i < o.fl.length) (hfn:o.fl.length<=1000) (vc:Nat) :
  Calls prog 302 #[.pointer (some ⟨mb,0,none⟩),.slice va 2 vc,.int .u8 o.kind,.agg #[.int .u8 1,.int .i64 (i:Int)]] w fun e w'=>Y4 own mb g (lA R fs f rest j i o y) 0 w e w':=by
 obtain⟨so,rfl,yg,s0,s1,s2,s3⟩:=h.two;obtain⟨y1,y2⟩:=y;simp only at s0 s1 s2 s3;obtain⟨x,hx⟩:∃x,o.fl[i]?=some x:=⟨_,L1b hi⟩
 obtain⟨fb,fc,xd,_,xp⟩:=(h.m.fld j o hj).1.form R4;have xc:own fb=some (.fld j):=(h.m.fld j o hj).2 fb (by rw [xd];rfl);have xa:=(h.m.fld j o hj).1;rw[xd] at xa;have xb:∀t,t < 2->w.cell? ⟨fb,i*2+t,none⟩=(O1 x)[t]?:=fun t ht=>by
  rw[xa.cellAt _ R4];exact D6 G1 hx ht
 have y0:w.cell? ⟨fb,i*2,none⟩=some (.int .u8 x.1):=xb 0 R4;have yy:w.cell? ⟨fb,i*2+1,none⟩=some (.int .i64 x.2):=xb 1 R4;have z0:=xa.frozenAt (i*2);have z1:=xa.frozenAt (i*2+1);have yk:mb < w.heap.size:=h.m.lt mb _ h.m.me;have xi:Hid (∀W,Below w.heap.size w W->Calls prog 225 #[.pointer (some ⟨mb,4,none⟩),.agg #[.int .u8 2,.int .i64 (j:Int)]] W fun e w'=>e=.returned (.agg #[.int .u8 o.kind,.slice (some ⟨fb,0,none⟩) o.fl.length fc])/\Below W.heap.size W w'):=by
  intro W hW;have:=W9 (h.m.same hW.size fun k hk=>hW.block k hk) hj;rw[xd] at this;exact this
 have yn:sb≠fb:=fun e=>by
  obtain⟨_,q2,_⟩:=h.hva R5;rw[e,xc] at q2;cases q2
 have HH:=hid h;have HJ:=hid hj;have HX:=hid hx;have xw:=hid xd;have xg:=hid xc;have xt:fb≠w.heap.size+1:=by omega
 have xz:sb≠w.heap.size+1:=by omega
 have yj:fb < w.heap.size+1:=by omega
 have yl:fb < w.heap.size+1+1:=by omega
 have yh:sb < w.heap.size+1:=by omega
 have xs:sb < w.heap.size+1+1:=by omega
 clear h hj hx xd xa xb xc;go_enter func302,ntmps302;go_wp2_with fail;go_region_with (first | (go_at_call 225;refine (xi.out _ ?_).mono ?_;exact P5;rintro e w2 ⟨rfl,xe⟩;obtain ⟨xu,ye⟩:=X9 xe;have xm:=xe.size;have yi:w.heap.size < w2.heap.size:=(by simp at xm;omega);have xy:fb < w2.heap.size:=R4;have ya:sb < w2.heap.size:=R4;have xx:mb < w2.heap.size:=R4;(try (have xr:w.heap.size+1 < w2.heap.size:=(by simp at xm;omega)));have xo:Hid (Below w.heap.size w w2):=A6 xe P5;clear xe))
 all_goals
  go_wp2_with (first | (go_at_call 306;refine (mN _ _ _ _ _ hi hfn _).mono ?_;rintro e w3 ⟨rfl,xf⟩;obtain ⟨xk,xh⟩:=X9 xf;have xn:=xf.size;have yo:w2.heap.size<=w3.heap.size:=(by simp at xn;omega);(try (have yd:w2.heap.size < w3.heap.size:=(by simp at xn;omega)));have ym:w.heap.size < w3.heap.size:=R4;have yc:fb < w3.heap.size:=R4;have xv:sb < w3.heap.size:=R4;have yb:mb < w3.heap.size:=R4;(try (have yf:w.heap.size+1 < w3.heap.size:=R4));have xj:Hid (Below w.heap.size w w3):=A6 xf (by have hq:=xo.out.size;repeat (first | exact xo.out | refine Below.drew ?_ | refine Below.setCell ?_ Q1 _ | refine Below.alloc ?_ Q1 _));clear xf))
  have g0:=(xj.out.frozen (p:=⟨fb,i*2,none⟩) xp).trans z0;have g1:=(xj.out.frozen (p:=⟨fb,i*2+1,none⟩) xp).trans z1;clear ye xh;go_region
  all_goals
   obtain⟨hA,hT⟩:=zR (y:=(y1,y2)) HH.out (Below.drew xj.out) HJ.out HX.out xw.out xg.out;have HA:=hid hA;have HT:=hid hT;clear hA hT xu xk g0 g1;go_wp2_with (go_at_call 290;refine (HA.out.answer (Below.refl _ _) vc _ [] (V3 _ _) R5 2 rfl).mono ?_;rintro e w' ⟨xl,xq,rfl,hm,ht⟩)
   go_ret;exact⟨xl,_,rfl,hm,⟨xq,by rw [List.append_nil]⟩,HT.out.trans ht⟩
theorem a2o {j i:Nat} (h:C1 w own mb g R fs f rest [(2,(j:Int)),y] va sb) (hj:R.obs[j]?=some o) (hk:o.kind=1) (hi:i < o.fl.length) (hfn:o.fl.length<=1000) (vc:Nat) :
  Calls prog 282 #[.pointer (some ⟨mb,0,none⟩),.int .i64 (i:Int),.slice va 2 vc] w fun e w'=>Y4 own mb g (lA R fs f rest j i o y) 0 w e w':=by
 have HA:Hid (∀W,Below w.heap.size w W->Calls prog 302 #[.pointer (some ⟨mb,0,none⟩),.slice va 2 vc,.int .u8 1,.agg #[.int .u8 1,.int .i64 (i:Int)]] W fun e w'=>Y4 own mb g (lA R fs f rest j i o y) 0 W e w'):=by
  intro W hW;have:=rE (h.later hW) hj hi hfn vc;rw[hk] at this;exact this
 clear h hj hi hk hfn;go_enter func282,ntmps282;go_wp2_with (first | (go_at_call 237;refine (L2 _ _).mono ?_;rintro e w' ⟨rfl,o,rfl⟩) | (go_at_call 302;refine (HA.out _ ?_).mono ?_;exact P5;rintro e w' ⟨xa,R',rfl,hm,hp,ht⟩;have HT:Hid (A2 own w xa w'):=(A2.of_below P5).trans ht))
 go_ret;exact⟨xa,R',rfl,hm,hp,HT.out⟩
end
section
variable {R:McR} {g:PgR} {mb:Nat} {own:Own} {w:World}
theorem lV (h:A4 w own mb g R) (hpos:0 < R.obs.length) (hn:R.obs.length<=1000) :
  Calls prog 305 #[.pointer (some ⟨mb,4,none⟩)] w fun e w'=>e=.returned (.bool (taken R.obs == R.obs.length))/\Below w.heap.size w w':=by
 have xd:mb < w.heap.size:=h.lt mb _ h.me;obtain⟨hb,hc,e,_,xe⟩:=h.slots.1.form hpos;have c4:=h.c4;rw[e] at c4;have xf:=iZ R.obs;have xc:Hid (∀W,Below w.heap.size w W->Calls prog 45 #[.pointer (some ⟨mb,4,none⟩)] W fun e w'=>e=.returned (.int .i64 (taken R.obs:Int))/\Below W.heap.size W w'):=fun W hW=>fE (h.same hW.size fun k hk=>hW.block k hk) hpos hn
 clear h e;go_enter func305,ntmps305;go_wp2_with fail;go_region_with (first | (go_at_call 45;refine (xc.out _ ?_).mono ?_;exact P5;rintro e w2 ⟨rfl,xa⟩;have xb:Hid (Below w.heap.size w w2):=A6 xa P5;clear xa;have r4:=(xb.out.cell (p:=⟨mb,4,none⟩) xd).trans c4))
 all_goals
  go_wp2_with fail;go_ret;refine⟨congrArg (fun b=>Ending.returned (Value.bool b)) ?_,xb.out⟩;rw[Bool.eq_iff_iff];simp only [beq_iff_eq];omega
theorem Z2 (k:Int) (fa:Option Addr) (n fc:Nat) (w:World):Calls prog 212 #[.agg #[.int .u8 k,.slice fa n fc]] w fun e w'=>e=.returned (.bool (k == 0))/\∃o,w'=w.alloc o:=by
 go_enter func212,ntmps212;go_wp2
 go_ret;exact⟨rfl,_,rfl⟩
def V6 (l:List ObR) (j:Nat):Prop:=(∃o,l[j]?=some o/\o.kind=0)/\∀i o,i < j->l[i]?=some o->o.kind≠0
theorem fL (h:A4 w own mb g R) (j:Nat) (hj:V6 R.obs j) (hn:R.obs.length<=1000) (hb hc:Nat) (he:R.hv=.slice (some ⟨hb,0,none⟩) R.obs.length hc) :
  Calls prog 213 #[.slice (some ⟨hb,0,none⟩) R.obs.length hc,.func (.func 212) #[] #[]] w fun e w'=>e=.returned (.int .i64 (j:Int))/\Below w.heap.size w w':=by
 have xl:j < R.obs.length:=by obtain ⟨⟨o,ho,_⟩,_⟩:=hj;exact (L1a.1 ho).1
 have xd:=h.slots.1;rw[he] at xd;have xg:=(O9 xd).2;have xf:=hid xd;have HH:=hid h;have HJ:=hid hj;clear h he xd hj;go_enter func213,ntmps213;go_wp2_with fail;go_loopw [8] (fun v wr=>∃i:Nat,i<=j/\v=.int .i64 i/\Below w.heap.size w wr) (fun v _=>R.obs.length - (intOf v).toNat)
 case atStart=>exact ⟨0,Nat.zero_le _,rfl,Below.refl _ _⟩
 case round =>
  obtain⟨i,hi,rfl,xb⟩:=hrel;have xi:i < R.obs.length:=by omega
  obtain⟨o,ho⟩:∃o,R.obs[i]?=some o:=⟨_,L1b xi⟩
  have xa:∀t,t < 2->wr.cell? ⟨hb,i*2+t,none⟩=o.cells[t]?:=fun t ht=>by
   rw[xb.cell (p:=⟨hb,_,none⟩) xg,xf.out.cellAt _ R4];exact D6 ObR.cells_len ho ht
  obtain⟨fa,fc,xe⟩:=G8 (HH.out.fld i o ho);have k0:wr.cell? ⟨hb,i*2,none⟩=some (.int .u8 o.kind):=xa 0 R4;have k1:wr.cell? ⟨hb,i*2+1,none⟩=some o.fv:=xa 1 R4;rw[xe] at k1;have xm:hb < wr.heap.size:=L0a xg xb.size;have xc:=hid xb;by_cases hij:i=j
  ·have hk:(o.kind == 0)=true:=by
    obtain⟨⟨o',xj,xk⟩,_⟩:=HJ.out;rw[hij,xj] at ho;obtain rfl:=Option.some.inj ho;exact beq_iff_eq.2 xk
   have xh:=hid hij;clear xa xe xb ho hij;go_wp2_with (go_at_call 212;refine (Z2 _ _ _ _ _).mono ?_;rintro e w' ⟨rfl,o4,rfl⟩)
   go_ret;exact⟨by rw [xh.out];rfl,Below.alloc xc.out xc.out.size _⟩
  ·have hk:(o.kind == 0)=false:=L2c.2 (HJ.out.2 i o R4 ho)
   clear xa xe xb ho;go_wp2_with (go_at_call 212;refine (Z2 _ _ _ _ _).mono ?_;rintro e w' ⟨rfl,o4,rfl⟩)
   go_roundw
   case rel=>exact ⟨i+1,by omega,by go_num,Below.alloc xc.out xc.out.size _⟩
   case measure=>simp [intOf];omega
end
section
variable {j:Nat} {l:List ObR}
theorem a1N (d:Int) {n:Nat} (hn:0 < n):(d.tmod (n:Int)+(n:Int)).tmod (n:Int)=d % (n:Int):=by
 have xa:(0:Int) < (n:Int):=by omega
 have h1:0<=d.tmod (n:Int)+(n:Int):=by have:=Int.lt_tmod_of_pos d xa;omega
 rw[Int.tmod_eq_emod_of_nonneg h1,Int.add_emod_right];have h2:=Int.mul_tdiv_add_tmod d (n:Int);have h3:d.tmod (n:Int)=d - (n:Int)*d.tdiv (n:Int):=by omega
 rw[h3,Int.sub_mul_emod_self_left]
theorem yJ (d:Int) {n:Nat} (hn:0 < n):(d.tmod (n:Int)+(n:Int)) % (n:Int)=d % (n:Int):=by
 have h1:0<=d.tmod (n:Int)+(n:Int):=by have:=Int.lt_tmod_of_pos d (show (0:Int) < (n:Int) by omega);omega
 rw[<- Int.tmod_eq_emod_of_nonneg h1];exact a1N d hn
def xZ {α:Type} : List α->Nat->List α->List α
 | xs,_,[]=>xs
 | xs,o,v::vs=>xZ (xs.set o v) (o+1) vs
theorem rF {α:Type} : ∀(vs pre ys:List α),vs.length<=ys.length->xZ (pre++ys) pre.length vs=pre++vs++ys.drop vs.length
 | [],pre,ys,_=>by simp [xZ]
 | v::vs,pre,[],h=>by simp at h
 | v::vs,pre,y::ys,h=>by
  have e:(pre++y::ys).set pre.length v=(pre++[v])++ys:=by simp
  have:=rF vs (pre++[v]) ys (by simpa using h);rw[xZ,e,show pre.length+1=(pre++[v]).length by simp,this];simp
theorem cG {e n b cap:Nat} : ∀(vs xs:List Value) (o:Nat) (w:World),w.ownsRow 0 e 1 (.slice (some ⟨b,0,none⟩) n cap) n xs->(w.setCells b o vs).ownsRow 0 e 1 (.slice (some ⟨b,0,none⟩) n cap) n (xZ xs o vs)
 | [],_,_,_,h=>h
 | v::vs,_,o,_,h=>cG vs _ (o+1) _ (World.ownsRow.stored h o v).1
theorem bO (b:Nat):∀(vs:List Value) (o:Nat) (w:World),(w.setCells b o vs).heap.size=w.heap.size
 | [],_,_=>rfl
 | v::vs,o,w=>by
  show ((w.setCell ⟨b,o,none⟩ v).setCells b (o+1) vs).heap.size=_;rw[bO b vs];simp
theorem bG (b:Nat):∀(vs:List Value) (o:Nat) (w:World) (k:Nat),k≠b->(w.setCells b o vs).heap[k]?=w.heap[k]?
 | [],_,_,_,_=>rfl
 | v::vs,o,w,k,h=>by
  show ((w.setCell ⟨b,o,none⟩ v).setCells b (o+1) vs).heap[k]?=_;rw[bG b vs _ _ _ h,heap_setCell_other _ _ _ _ h]
theorem bM (b:Nat):∀(vs:List Value) (o:Nat) (w:World),(w.setCells b o vs).os=w.os/\(w.setCells b o vs).tape=w.tape/\(w.setCells b o vs).output=w.output
 | [],_,_=>⟨rfl,rfl,rfl⟩
 | v::vs,o,w=>by
  show ((w.setCell ⟨b,o,none⟩ v).setCells b (o+1) vs).os=_/\((w.setCell ⟨b,o,none⟩ v).setCells b (o+1) vs).tape=_/\((w.setCell ⟨b,o,none⟩ v).setCells b (o+1) vs).output=_;exact bM b vs (o+1) (w.setCell ⟨b,o,none⟩ v)
theorem a3g (d:Int) (n:Nat) (h1:1<=n) (h2:n<=1000) (w:World) :
  Calls prog 210 #[.int .i64 d,.int .i64 (n:Int)] w fun e w'=>e=.returned (.int .i64 (d % (n:Int)))/\∃m,w'=w.drewN m:=by
 have xc:=Int.lt_tmod_of_pos d (show (0:Int) < (n:Int) by omega);have xa:=Int.tmod_lt_of_pos d (show (0:Int) < (n:Int) by omega);have hr:=yJ d h1;have xd:=Int.emod_nonneg d (show (n:Int)≠0 by omega);have xb:=Int.emod_lt_of_pos d (show (0:Int) < (n:Int) by omega);have HR:=hid hr;clear hr;go_enter func210,ntmps210;go_wp2
 all_goals go_ret
 all_goals exact ⟨congrArg (fun x=>Ending.returned (Value.int .i64 x)) HR.out,0,rfl⟩
def gL (b cap:Nat) (xs:List Value) (w:World) (e:Ending) (w':World):Prop :=
 e=.returned (.slice (some ⟨b,0,none⟩) xs.length cap)/\w'.ownsRow 0 3 1 (.slice (some ⟨b,0,none⟩) xs.length cap) xs.length xs/\w'.heap.size=w.heap.size/\(∀k,k≠b->w'.heap[k]?=w.heap[k]?)/\w'.os=w.os/\w'.tape=w.tape/\w'.output=w.output
theorem a6V:Tryz.t3.zero=some (.int .i64 0):=by kernel_rfl
theorem a5T:∀w:World,(zeroValue 3).run prog w=.ok (.int .i64 0) w:=fun w=>by simp [zeroValue,a6V]
theorem vI (b cap:Nat) (x:Value) (xs:List Value) (w:World) (h:w.ownsRow 0 3 1 (.slice (some ⟨b,0,none⟩) (xs.length+1) cap) (xs.length+1) (x::xs)) (h1:∀u∈xs,u.oneCell'=true) (hn:xs.length<=1000) :
  Calls prog 211 #[.slice (some ⟨b,0,none⟩) (xs.length+1) cap,.int .i64 0,.int .i64 1] w fun e w'=>gL b cap xs w e w':=by
 obtain⟨i3,hi,hz,xl,xo⟩:=info_parts iH;obtain⟨xj,xq⟩:=O9 h;have xb:cap<=maxLen:=by
  rcases h.2 with ⟨h0,_⟩ | ⟨g',xk,xp,hv,_,_,_,h4,_⟩
  ·cases h0
  ·cases hv;exact h4
 have xi:cap<=9223372036854775807:=by unfold maxLen at xb;exact xb
 have xa:∀j u,(x::xs)[j]?=some u->w.cell? ⟨b,j,none⟩=some u:=fun j u hu=>by
  have hj:=(L1a.1 hu).1;rw[h.cellAt j (by simpa using hj)];exact hu
 obtain⟨A,hA,xg⟩:∃A:Addr,(if cap=1 then some (⟨b,0,none⟩:Addr) else some ⟨b,1,none⟩)=some A/\Hid (∀t u,xs[t]?=some u->w.drew.cell? (A.add t)=some u):=by
  by_cases hc:cap=1
  ·refine ⟨⟨b,0,none⟩,by simp [hc],fun t u hu=>?_⟩
   have h0:xs.length=0:=by omega
   rw[List.length_eq_zero_iff.1 h0] at hu;simp at hu
  ·refine ⟨⟨b,1,none⟩,by simp [hc],fun t u hu=>?_⟩
   have e:(⟨b,1,none⟩:Addr).add t=⟨b,1+t,none⟩:=by unfold Addr.add;split <;> simp_all
   rw[e];exact xa (1+t) u (by rw [Nat.add_comm];simpa using hu)
 have s1:Hid (xs.length=xs.length*1):=(Nat.mul_one _).symm;have s2:Hid (∀u∈xs,u.oneCell'=true):=h1;have s3:Hid (∀t,t < xs.length->(w.drew.cell? ⟨b,0+0*1+t,none⟩).isSome=true/\w.drew.frozen? ⟨b,0+0*1+t,none⟩=false):=fun t ht=>by
  rw[show 0+0*1+t=t by omega];refine⟨?_,h.frozenAt t⟩;show (w.cell? _).isSome=true;rw[xa t _ (L1b Q8)];rfl
 have o1:(w.drew.setCells b (0+0*1) xs).ownsRow 0 3 1 (.slice (some ⟨b,0,none⟩) (xs.length+1) cap) (xs.length+1) (xZ (x::xs) (0+0*1) xs):=cG xs _ _ _ h.drew;obtain⟨y,hy⟩:∃y,xZ (x::xs) (0+0*1) xs=xs++[y]:=by
  have e:=rF xs [] (x::xs) R5;rw[show 0+0*1=([]:List Value).length from rfl];rw[List.nil_append] at e;rw[e];obtain⟨y,hy⟩:∃y,(x::xs).drop xs.length=[y]:=List.length_eq_one_iff.1 R5
  exact⟨y,by rw [hy];simp⟩
 rw[hy] at o1;have xf:=bO b xs (0+0*1) w.drew;have xh:=bG b xs (0+0*1) w.drew;have xd:=bM b xs (0+0*1) w.drew;obtain⟨W1,xe⟩:∃W1,W1=w.drew.setCells b (0+0*1) xs:=⟨_,rfl⟩
 rw[<- xe] at o1 xf xh xd;have xn:∀ty,(Builtin.clear_ #[24] ty #[.slice (some ⟨b,xs.length,none⟩) 1 (cap - xs.length)]).run prog W1=.ok (.tuple #[]) (W1.setCells b xs.length [.int .i64 0]) :=
  fun ty=>Lib.run_clear_slice W1 24 3 ty _ underlying24 a5T rfl rfl b xs.length _ _ R4 (fun t ht=>by
   obtain rfl:t=0:=by omega
   rw[o1.cellAt _ R4];simp) (fun t ht=>o1.frozenAt _)
 have hW:Hid (W1=w.drew.setCells b (0+0*1) xs):=xe;have xc:Hid (gL b cap xs w (.returned (.slice (some ⟨b,0,none⟩) xs.length cap)) (W1.setCells b xs.length [.int .i64 0])):=by
  have o2:=cG [.int .i64 0] _ xs.length _ o1;rw[rF [Value.int .i64 0] xs [y] R5] at o2;have o3:=tM o2 (m:=xs.length) R4;refine⟨rfl,?_,?_,fun k hk=>?_,?_⟩
  ·simpa using o3
  ·rw [bO,xf];rfl
  ·rw [bG b _ _ _ _ hk];exact xh k hk
  ·obtain ⟨r1,r2,r3⟩:=bM b [Value.int .i64 0] xs.length W1
   exact⟨r1.trans xd.1,r2.trans xd.2.1,r3.trans xd.2.2⟩
 have xm:(1:Int)<=(xs.length:Int)+1:=by omega
 clear xe xf xh xd o1 h xa h1 xb;go_enter func211,ntmps211;go_wp2_with fail;go_region_law (refine step_append_room rfl (.tmp 22) (.tmp 25) 24 rfl 3 i3 1 underlying24 hi xl b 0 0 cap (by simp [Act.eval,Act.put]) A xs.length (cap - 1) xs (by simp [Act.eval,Act.put]) s1.out xg.out s2.out R4 s3.out ?_;rw [<- hW.out])
 all_goals go_wp2
 all_goals go_ret
 all_goals exact xc.out
def gT (l:List ObR) (dr:List Int) (j:Nat) (ds:List Int):Prop :=
 match dr with
 | []=>ds=[]/\V6 l j
 | d::r=>ds=r/\∃o,l[(d % (l.length:Int)).toNat]?=some o/\((o.kind=0/\j=(d % (l.length:Int)).toNat)\/(o.kind≠0/\V6 l j))
theorem gT.free {dr ds:List Int} (h:gT l dr j ds):∃o,l[j]?=some o/\o.kind=0:=by
 cases dr with
 | nil=>exact h.2.1
 | cons d r =>
  obtain⟨_,o,ho,⟨hk,rfl⟩ | ⟨_,hf⟩⟩:=h
  ·exact ⟨o,ho,hk⟩
  ·exact hf.1
theorem oE {o:ObR} (ho:l[j]?=some o) (hk:o.kind=0):taken l≠l.length:=by
 intro e;have:=(List.filter_sublist (p:=fun o:ObR=>o.kind != 0) (l:=l)).eq_of_length e;have hm:o∈l.filter fun o=>o.kind != 0:=by rw [this];exact L2a ho
 simp[hk] at hm
theorem A4.setDraws {w w':World} {own:Own} {mb:Nat} {g:PgR} {R:McR} {v:Value} {l:List Int} (h:A4 w own mb g R) (hsize:w.heap.size<=w'.heap.size)
  (hk:∀k,k < w.heap.size->k≠mb->own k≠some .draws->w'.heap[k]?=w.heap[k]?)
  (hc:∀j,j≠5->w'.cell? ⟨mb,j,none⟩=w.cell? ⟨mb,j,none⟩) (hc5:w'.cell? ⟨mb,5,none⟩=some v) (hfz:∀j,w'.frozen? ⟨mb,j,none⟩=false)
  (hrow:w'.ownsRow 0 3 1 v l.length (l.map fun n=>.int .i64 n)) (hon:F4 w own v .draws) :
  A4 w' (own.upd v.ownBlock .draws) mb g { R with dv:=v,dr:=l }:=by
 have xa:=h.lt;have keep:∀t,t≠.mach->t≠.draws->∀k,own k=some t->w'.heap[k]?=w.heap[k]?:=fun t h1 h2 k hk' =>
  hk k (xa k t hk') (fun e=>by rw [e,h.me] at hk';exact h1 (Option.some.inj hk').symm) (by rw [hk'];exact fun e=>h2 (Option.some.inj e))
 have xb:∀k,k < w.heap.size->own k=none->w'.heap[k]?=w.heap[k]?:=fun k hk1 hk2=>hk k hk1 (fun e=>by rw [e,h.me] at hk2;cases hk2) (by rw [hk2];simp)
 refine⟨Own.upd_lt xa hsize hrow,?_,?_,?_,?_,?_,?_,hfz,h.out.upd xa hon (keep _ R5 R5),h.called.upd xa hon (keep _ R5 R5),h.slots.upd xa hon (keep _ R5 R5),
  fun i x hx=>(h.loc i x hx).upd xa hon (keep _ R5 R5),fun i x hx=>(h.stk i x hx).upd xa hon (keep _ R5 R5),fun j o ho=>(h.fld j o ho).upd xa hon (keep _ R5 R5),?_,?_,?_,?_,hc5,⟨hrow,fun b hb=>by simp [Own.upd,hb]⟩⟩
 ·rw [Own.upd_old hon (xa mb _ h.me)];exact h.me
 ·rw [hc 0 R4];exact h.c0
 ·rw [hc 1 R4];exact h.c1
 ·rw [hc 2 R4];exact h.c2
 ·rw [hc 3 R4];exact h.c3
 ·rw [hc 4 R4];exact h.c4
 ·exact h.pg.held hsize fun k hb=>xb k (h.pg.blk_lt hb) (h.ro k hb)
 ·intro k hb;rw [Own.upd_old hon (h.pg.blk_lt hb)];exact h.ro k hb
 ·exact h.tab.held hsize (xb 0 h.tab.1 h.ro0)
 ·rw [Own.upd_old hon h.tab.1];exact h.ro0
def fT (own:Own) (mb:Nat) (g:PgR) (R:McR) (j:Nat) (ds:List Int) (w:World) (e:Ending) (w':World):Prop :=
 ∃dv,e=.returned (.int .i64 (j:Int))/\A4 w' own mb g { R with dv:=dv,dr:=ds }/\A2 own w own w'/\∀k,k < w.heap.size->k≠mb->own k≠some .draws->w'.heap[k]?=w.heap[k]?
end
section
variable {R:McR} {g:PgR} {mb:Nat} {own:Own} {w:World}
theorem rX (h:A4 w own mb g R) (hd:R.dr=[]) (j:Nat) (hj:V6 R.obs j) (hn:R.obs.length<=1000) :
  Calls prog 166 #[.pointer (some ⟨mb,4,none⟩)] w fun e w'=>e=.returned (.int .i64 (j:Int))/\Below w.heap.size w w':=by
 obtain⟨o,ho,_⟩:=id hj.1;obtain⟨hb,hc,fa,fc,he,xa,xg,_,_,_⟩:=h.slot ho;have c4:=h.c4;rw[he] at c4;obtain⟨da,dc,xb⟩:=G8 h.draws;have c5:=h.c5;rw[xb,hd,List.length_nil] at c5;have xf:mb < w.heap.size:=h.lt mb _ h.me;have xd:Hid (∀U,Below w.heap.size w U->Calls prog 213 #[.slice (some ⟨hb,0,none⟩) R.obs.length hc,.func (.func 212) #[] #[]] U fun e w'=>e=.returned (.int .i64 (j:Int))/\Below U.heap.size U w'):=fun U hU=>fL (h.same hU.size fun k hk=>hU.block k hk) j hj hn hb hc he
 clear h hj ho he xa xb hd;go_enter func166,ntmps166;go_wp2_with (go_at_call 213;refine (xd.out _ ?_).mono ?_;exact P5;rintro e w2 ⟨rfl,xc⟩;have xe:Hid (Below w.heap.size w w2):=A6 xc P5;clear xc)
 go_ret;exact⟨rfl,xe.out⟩
theorem a2t {R:McR} {U w2:World} (h:A4 w own mb g R) (hU:Below w.heap.size w U) {r:List Int} {db dc:Nat} (hdv:R.dv=.slice (some ⟨db,0,none⟩) (r.length+1) dc) {e:Ending} (hp:gL db dc (r.map fun n=>.int .i64 n) U e w2) :
  (∀k,k < w.heap.size->own k≠some .draws->w2.heap[k]?=w.heap[k]?)/\w.heap.size<=w2.heap.size/\(w2.frozen? ⟨mb,5,none⟩=false/\w2.cell? ⟨mb,5,none⟩=some R.dv) /\
   A4 (w2.setCell ⟨mb,5,none⟩ (.slice (some ⟨db,0,none⟩) r.length dc)) own mb g { R with dv:=.slice (some ⟨db,0,none⟩) r.length dc,dr:=r } /\
   A2 own w own (w2.setCell ⟨mb,5,none⟩ (.slice (some ⟨db,0,none⟩) r.length dc)) /\
   ∀k,k < w.heap.size->k≠mb->own k≠some .draws->(w2.setCell ⟨mb,5,none⟩ (.slice (some ⟨db,0,none⟩) r.length dc)).heap[k]?=w.heap[k]?:=by
 obtain⟨_,xf,xr,xj,xl,xg,xh⟩:=hp;have xb:own db=some .draws:=h.draws.2 db (by rw [hdv];rfl);have xo:db≠mb:=fun e=>by rw [e,h.me] at xb;cases xb
 have xc:∀k,k < w.heap.size->own k≠some .draws->w2.heap[k]?=w.heap[k]?:=fun k hk hn =>
  (xj k (fun e=>hn (by rw [e];exact xb))).trans (hU.block k hk)
 have xn:=h.lt mb _ h.me;have xd:=xc mb xn (by rw [h.me];simp);have xi:w.heap.size<=w2.heap.size:=by have:=hU.size;omega
 have xk:∀j,w2.frozen? ⟨mb,j,none⟩=false:=fun j=>by rw [L0c (w:=w) (a:=⟨mb,j,none⟩) xd];exact h.fz j
 have xq:w2.cell? ⟨mb,5,none⟩=some R.dv:=by rw [L0b (w:=w) (a:=⟨mb,5,none⟩) xd];exact h.c5
 have xm:mb < w2.heap.size:=by omega
 have xe:∀j,j≠5->(w2.setCell ⟨mb,5,none⟩ (.slice (some ⟨db,0,none⟩) r.length dc)).cell? ⟨mb,j,none⟩=w.cell? ⟨mb,j,none⟩:=fun j hj=>by
  rw[<- L0b (w:=w) (w':=w2) (a:=⟨mb,j,none⟩) xd];go_simp
 have xp:F4 w own (.slice (some ⟨db,0,none⟩) r.length dc) .draws:=fun b hb=>by
  obtain rfl:db=b:=by simpa [Value.ownBlock] using hb
  exact Or.inl xb
 have xa:∀k,k < w.heap.size->k≠mb->own k≠some .draws->(w2.setCell ⟨mb,5,none⟩ (.slice (some ⟨db,0,none⟩) r.length dc)).heap[k]?=w.heap[k]?:=fun k hk h1 h2=>by
  rw[heap_setCell_other _ _ _ _ h1];exact xc k hk h2
 rw[List.length_map] at xf;have hM:=A4.setDraws (v:=.slice (some ⟨db,0,none⟩) r.length dc) (l:=r) h (w':=w2.setCell ⟨mb,5,none⟩ (.slice (some ⟨db,0,none⟩) r.length dc)) (by simpa using xi) xa xe Q9 (fun j=>by have:=xk j;go_simp) (ownsRow_setCell_other xf (by simpa [Value.ownBlock] using xo) _) xp;rw[show (Value.slice (some ⟨db,0,none⟩) r.length dc).ownBlock=some db from rfl,Own.upd_same xb] at hM
 refine⟨xc,xi,⟨xk 5,xq⟩,hM,⟨xl.trans hU.os,xg.trans hU.tape,xh.trans hU.output,by simpa using xi,fun k hk hno=>?_,fun _ _=>rfl⟩,xa⟩;exact xa k hk (fun e=>by rw [e,h.me] at hno;cases hno) (by rw [hno];simp)
end
section
variable {R:McR} {g:PgR} {mb:Nat} {own:Own} {w:World}
theorem rY (h:A4 w own mb g R) {d:Int} {r:List Int} (hd:R.dr=d::r) (j:Nat) (hp:gT R.obs R.dr j r) (hn:R.obs.length<=1000) (hdn:R.dr.length<=1000) :
  Calls prog 166 #[.pointer (some ⟨mb,4,none⟩)] w fun e w'=>fT own mb g R j r w e w':=by
 obtain⟨o,ho,xb⟩:∃o,R.obs[(d % (R.obs.length:Int)).toNat]?=some o/\((o.kind=0/\j=(d % (R.obs.length:Int)).toNat)\/(o.kind≠0/\V6 R.obs j)):=by
  rw[hd] at hp;exact hp.2
 have xz:=(L1a.1 ho).1;have xw:0 < R.obs.length:=by omega
 obtain⟨k,hk⟩:=Int.eq_ofNat_of_zero_le (Int.emod_nonneg d (show (R.obs.length:Int)≠0 by omega));rw[hk,Int.toNat_natCast] at ho xb xz;obtain⟨hb,hc,fa,fc,he,xe,xq,_,k0,k1⟩:=h.slot ho;have c4:=h.c4;rw[he] at c4;have xx:R.dr.length=r.length+1:=by rw [hd];rfl
 obtain⟨db,dc,xf,_,xp⟩:=h.draws.1.form R4;rw[xx] at xf;have xo:own db=some .draws:=h.draws.2 db (by rw [xf];rfl);have xa:=h.draws.1;rw[xf,hd,List.length_cons,List.map_cons] at xa;have c5:=h.c5;rw[xf] at c5;have xr:mb < w.heap.size:=h.lt mb _ h.me;have d0:w.cell? ⟨db,0,none⟩=some (.int .i64 d):=by rw [xa.cellAt 0 R4];rfl
 have xd:Hid (∀U:World,Calls prog 210 #[.int .i64 d,.int .i64 (R.obs.length:Int)] U fun e w'=>e=.returned (.int .i64 (k:Int))/\∃m,w'=U.drewN m):=fun U=>by
  rw[<- hk];exact a3g d R.obs.length R4 hn U
 have xi:Hid (∀U:World,Below w.heap.size w U->Calls prog 211 #[.slice (some ⟨db,0,none⟩) (r.length+1) dc,.int .i64 0,.int .i64 1] U fun e w'=>gL db dc (r.map fun n=>.int .i64 n) U e w'):=by
  intro U hU;have ya:U.ownsRow 0 3 1 (.slice (some ⟨db,0,none⟩) (r.length+1) dc) (r.length+1) (.int .i64 d::r.map fun n=>.int .i64 n):=A7 xa fun b hb'=>by
   obtain rfl:db=b:=by simpa [Value.ownBlock] using hb'
   exact hU.block _ xp
  have:=vI db dc (.int .i64 d) (r.map fun n=>.int .i64 n) U (by simpa using ya) (by
   intro u hu;obtain⟨n,_,rfl⟩:=List.mem_map.1 hu;rfl) Q8
  simpa using this
 have xh:Hid (∀U w2 e,Below w.heap.size w U->gL db dc (r.map fun n=>.int .i64 n) U e w2->_):=fun U w2 e hU hp=>a2t h hU xf hp
 have xt:Hid (o.kind≠0->∀V U,A4 V own mb g { R with dv:=.slice (some ⟨db,0,none⟩) r.length dc,dr:=r }->Below V.heap.size V U->Calls prog 213 #[.slice (some ⟨hb,0,none⟩) R.obs.length hc,.func (.func 212) #[] #[]] U fun e w'=>e=.returned (.int .i64 (j:Int))/\Below U.heap.size U w'):=fun xm V U hV hU=>by
  rcases xb with ⟨h0,_⟩ | ⟨_,hf⟩
  ·exact absurd h0 xm
  ·exact fL (R:={ R with dv:=.slice (some ⟨db,0,none⟩) r.length dc,dr:=r }) (hV.same hU.size fun k hk=>hU.block k hk) j hf hn hb hc he
 have HJ:Hid ((o.kind == 0)=true->j=k):=fun h0=>by
  rcases xb with ⟨_,hj⟩ | ⟨xm,_⟩
  ·exact hj
  ·exact absurd (beq_iff_eq.1 h0) xm
 have xc:own hb≠some .draws:=by rw [xe];simp
 have xg:own mb≠some .draws:=by rw [h.me];simp
 have yb:hb≠mb:=fun e=>by rw [e,h.me] at xe;cases xe
 have xy:=hid xf;clear h hp hd xb he xa xf xo ho hk;go_enter func166,ntmps166;go_wp2_with fail;go_region_with (first | (go_at_call 210;refine (xd.out _).mono ?_;rintro e w1 ⟨rfl,m1,rfl⟩))
 all_goals
  go_wp2_with (go_at_call 211;refine (xi.out _ ?_).mono ?_;exact P5;intro e w2 hdel;obtain ⟨xl,xn,⟨z5,q5⟩,hM,hT,hO⟩:=xh.out _ w2 _ P5 hdel;have he:=hdel.1;rw [List.length_map] at he;subst he;rw [xy.out] at q5;have xu:mb < w2.heap.size:=L0a xr xn;have xv:hb < w2.heap.size:=L0a xq xn;have m4:=(L0b (w:=w) (a:=⟨mb,4,none⟩) (xl mb xr xg)).trans c4;have n0:=(L0b (w:=w) (a:=⟨hb,k*2,none⟩) (xl hb xq xc)).trans k0;have n1:=(L0b (w:=w) (a:=⟨hb,k*2+1,none⟩) (xl hb xq xc)).trans k1;have HM:=hid hM;have HT:=hid hT;have HO:=hid hO;clear hdel xl xn hM hT hO c4 c5 k0 k1 d0 xh xi xd)
  cases hkk:(o.kind == 0)
  ·go_wp2_with (first | (go_at_call 212;refine (Z2 _ _ _ _ _).mono ?_;rintro e w' ⟨rfl,o4,rfl⟩) | (go_at_call 213;refine (xt.out (fun e=>by rw [e] at hkk;cases hkk) _ _ HM.out ?_).mono ?_;exact P5;rintro e w3 ⟨rfl,xs⟩;have xk:Hid (Below _ (w2.setCell ⟨mb,5,none⟩ (.slice (some ⟨db,0,none⟩) r.length dc)) w3):=A6 xs P5;clear xs))
   go_ret;exact⟨_,rfl,HM.out.same xk.out.size fun k hk=>xk.out.block k hk,HT.out.trans (A2.of_below xk.out),fun k hk h1 h2=>(xk.out.block k (L0a hk HT.out.size)).trans (HO.out k hk h1 h2)⟩
  ·go_wp2_with (first | (go_at_call 212;refine (Z2 _ _ _ _ _).mono ?_;rintro e w' ⟨rfl,o4,rfl⟩))
   go_ret;have xj:Below (w2.setCell ⟨mb,5,none⟩ (.slice (some ⟨db,0,none⟩) r.length dc)).heap.size (w2.setCell ⟨mb,5,none⟩ (.slice (some ⟨db,0,none⟩) r.length dc)) ((w2.setCell ⟨mb,5,none⟩ (.slice (some ⟨db,0,none⟩) r.length dc)).alloc o4):=Below.alloc (Below.refl _ _) (L1c _) _;exact⟨_,by rw [HJ.out hkk];rfl,HM.out.same xj.size fun k hk=>xj.block k hk,HT.out.trans (A2.of_below xj),fun k hk h1 h2=>(xj.block k (L0a hk HT.out.size)).trans (HO.out k hk h1 h2)⟩
theorem uZ (h:A4 w own mb g R) (j:Nat) (ds:List Int) (hp:gT R.obs R.dr j ds) (hn:R.obs.length<=1000) (hdn:R.dr.length<=1000) :
  Calls prog 166 #[.pointer (some ⟨mb,4,none⟩)] w fun e w'=>fT own mb g R j ds w e w':=by
 cases hd:R.dr with
 | nil =>
  obtain⟨rfl,hf⟩:ds=[]/\V6 R.obs j:=by rw [hd] at hp;exact hp
  refine (rX h hd j hf hn).mono ?_;rintro e w' ⟨rfl,hb⟩;refine⟨R.dv,rfl,?_,A2.of_below hb,fun k hk _ _=>hb.block k hk⟩;have:=h.same hb.size fun k hk=>hb.block k hk
  rw[<- hd];exact this
 | cons d r =>
  obtain rfl:ds=r:=by rw [hd] at hp;exact hp.1
  exact rY h hd j hp hn hdn
end
end Go.Proofs.YtbkmgoffiigdbaaGreatDoor
