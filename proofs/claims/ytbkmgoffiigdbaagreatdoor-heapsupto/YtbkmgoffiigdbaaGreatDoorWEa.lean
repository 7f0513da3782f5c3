import Derived.Test.YtbkmgoffiigdbaaGreatDoorWDh
import Derived.Lib.SliceRun
namespace Go.Proofs.YtbkmgoffiigdbaaGreatDoor
open Go.RowKit Go.Sort Go.Proofs.Tryz
set_option maxHeartbeats 4000000
set_option maxRecDepth 1000000
section
variable {R:McR} {a mb sb:Nat} {f:FrR} {fs:List FrR} {g:PgR} {l rest:List Val} {own:Own} {va:Option Addr} {w:World} {x y:Val}
theorem A4.locals (h:A4 w own mb g R) (hf:R.frs=fs++[f]) (ha:f.loc[a]?=some x) :
  ∃lb lc,f.lv=.slice (some ⟨lb,0,none⟩) f.loc.length lc/\own lb=some (.loc fs.length)/\lb < w.heap.size/\w.cell? ⟨lb,a*2,none⟩=some (.int .u8 x.1)/\w.cell? ⟨lb,a*2+1,none⟩=some (.int .i64 x.2)/\(∀j,w.frozen? ⟨lb,j,none⟩=false) /\
   w.ownsRow 0 92 2 (.slice (some ⟨lb,0,none⟩) f.loc.length lc) f.loc.length (A5 f.loc):=by
 have hl:=h.loc fs.length f (by rw [hf];simp);have xb:=(L1a.1 ha).1;obtain⟨lb,lc,hv,_,hb⟩:=hl.1.form R4;rw[hv] at hl;have xa:∀i,i < 2->w.cell? ⟨lb,a*2+i,none⟩=(O4 x)[i]?:=fun i hi=>by
  rw[hl.1.cellAt _ R4];exact E0 F7 ha hi
 exact⟨lb,lc,hv,hl.2 lb rfl,hb,xa 0 R4,xa 1 R4,fun j=>hl.1.frozenAt j,hl.1⟩
theorem vI (h:C0 w own mb g R fs f rest [] va sb) (a:Nat) (x:Val) (ha:f.loc[a]?=some x) (vc:Nat) :
  Calls prog 260 #[.pointer (some ⟨mb,0,none⟩),.int .i64 (a:Int),.slice va 0 vc] w fun e w'=>C3 own mb g R fs f (f.pc+1) (rest++[x]) (.int .i64 0) w e w':=by
 obtain⟨cb,cc,hv,xa,xj,xf,x0,x1,x2,x3⟩:=h.m.top h.hf;obtain⟨lb,lc,xd,xc,xg,l0,l1,_,_⟩:=h.m.locals h.hf ha;have c3:=h.m.c3;rw[hv] at c3;rw[xd] at x2;have xi:mb < w.heap.size:=h.m.lt mb _ h.m.me;have xh:a < f.loc.length:=(L1a.1 ha).1;have hn:=h.hn;have HR:Hid (∀W:World,W.cell? ⟨mb,3,none⟩=some (.slice (some ⟨cb,0,none⟩) (fs.length+1) cc)->Calls prog 178 #[.pointer (some ⟨mb,3,none⟩)] W fun e w'=>e=.returned (.pointer (some ⟨cb,fs.length*4,none⟩))/\∃m,w'=W.drewN m):=fun W hW=>K3 mb cb fs.length cc W hn hW
 have HH:=hid h;clear h hv xa xf x0 x1 x3 xd xc ha;go_enter func260,ntmps260;go_wp2_with (go_at_call 178;refine (HR.out _ ?_).mono ?_;exact c3;rintro e w' ⟨rfl,m,rfl⟩)
 refine (HH.out.answer (L3a (Below.drewQ (L3b _ _) m) (L1c _) _) vc _ [x] (H3 HH.out.m (L1c _) (B1 rfl)) R5 0 rfl).mono ?_;rintro e w' ⟨xb,xe,rfl,hm,ht⟩;go_wp2_with fail;go_ret;exact⟨xb,xe,rfl,hm,ht⟩
theorem A4.setLoc {w':World} {R:McR} {f:FrR} {lb lc:Nat} (h:A4 w own mb g R) (hf:R.frs=fs++[f]) (hlv:f.lv=.slice (some ⟨lb,0,none⟩) f.loc.length lc) (holb:own lb=some (.loc fs.length)) (hsize:w.heap.size=w'.heap.size) (hk:∀k,k≠lb->w'.heap[k]?=w.heap[k]?) (hlen:l.length=f.loc.length)
  (hrow:w'.ownsRow 0 92 2 (.slice (some ⟨lb,0,none⟩) f.loc.length lc) f.loc.length (A5 l)):A4 w' own mb g { R with frs:=fs++[{ f with loc:=l }] }:=by
 have xf:=h.lt;have keep:∀t,t≠.loc fs.length->∀k,own k=some t->w'.heap[k]?=w.heap[k]?/\own k=some t:=fun t ht k hk'=>⟨hk k (fun e=>by rw [e,holb] at hk';exact ht (L5b hk').symm),hk'⟩
 have xa:=(keep .mach R5 mb h.me).1;have xc:∀k,own k=none->w'.heap[k]?=w.heap[k]?:=fun k hk'=>hk k (fun e=>by rw [e,holb] at hk';cases hk')
 have xg:(fs++[{ f with loc:=l }]).flatMap FrR.cells=R.frs.flatMap FrR.cells:=by rw [hf];simp [FrR.cells]
 have xd:∀i x,(fs++[{ f with loc:=l }])[i]?=some x->(i=fs.length/\x={ f with loc:=l })\/(i≠fs.length/\R.frs[i]?=some x):=fun i x hx=>by
  by_cases e:i=fs.length
  ·subst e;simp at hx;exact L4a ⟨rfl,hx.symm⟩
  ·refine L4b ⟨e,?_⟩
   rw[hf];rcases Nat.lt_or_ge i fs.length with hl | hl
   ·rw [List.getElem?_append_left hl] at hx ⊢;exact hx
   ·rw [List.getElem?_append_right hl] at hx
    rw[List.getElem?_eq_none Q8] at hx;cases hx
 refine⟨fun k t hk'=>by rw [<- hsize];exact xf k t hk',h.me,?_,?_,?_,?_,?_,?_,h.out.kept (keep _ R5),?_,h.slots.kept (keep _ R5),fun i x hx=>?_,fun i x hx=>?_,fun j o ho=>(h.fld j o ho).kept (keep _ R5),h.pg.held (Nat.le_of_eq hsize) fun k hb=>xc k (h.ro k hb),h.ro,h.tab.held (Nat.le_of_eq hsize) (xc 0 h.ro0),h.ro0,?_,h.draws.kept (keep _ R5)⟩
 ·rw [L0b (w:=w) (a:=⟨mb,0,none⟩) xa];exact h.c0
 ·rw [L0b (w:=w) (a:=⟨mb,1,none⟩) xa];exact h.c1
 ·rw [L0b (w:=w) (a:=⟨mb,2,none⟩) xa];exact h.c2
 ·rw [L0b (w:=w) (a:=⟨mb,3,none⟩) xa];exact h.c3
 ·rw [L0b (w:=w) (a:=⟨mb,4,none⟩) xa];exact h.c4
 ·intro j;rw [L0c (w:=w) (a:=⟨mb,j,none⟩) xa];exact h.fz j
 ·have:=h.called.kept (own':=own) (w':=w') (keep _ R5)
  have xe:(fs++[{ f with loc:=l }]).length=R.frs.length:=by rw [hf];simp
  show Row w' own .called 86 4 R.cv (fs++[{ f with loc:=l }]).length ((fs++[{ f with loc:=l }]).flatMap FrR.cells);rw[xg,xe];exact this
 ·rcases xd i x hx with ⟨rfl,rfl⟩ | ⟨xb,hx⟩
  ·show Row w' own (.loc fs.length) 92 2 f.lv l.length (A5 l)
   rw[hlv,hlen]
   exact⟨hrow,fun b hb=>by obtain rfl:lb=b:=by simpa [Value.ownBlock] using hb
                           exact holb⟩
  ·exact (h.loc i x hx).kept (keep _ (by simpa using xb))
 ·rcases xd i x hx with ⟨rfl,rfl⟩ | ⟨xb,hx⟩
  ·exact (h.stk fs.length f (by rw [hf];simp)).kept (keep _ R5)
  ·exact (h.stk i x hx).kept (keep _ R5)
 ·rw [L0b (w:=w) (a:=⟨mb,5,none⟩) xa];exact h.c5
theorem fA (ha:l[a]?=some x):A5 (l.set a y)=((A5 l).set (a*2) (.int .u8 y.1)).set (a*2+1) (.int .i64 y.2):=by
 have h1:=G2 (c:=O4) F7 (l:=l) (i:=a) (j:=0) (x:=x) (y:=(y.1,x.2)) (u:=.int .u8 y.1) ha R4 rfl;have xa:=(L1a.1 ha).1;have h2:=G2 (c:=O4) F7 (l:=l.set a (y.1,x.2)) (i:=a) (j:=1) (x:=(y.1,x.2)) (y:=y) (u:=.int .i64 y.2) (List.getElem?_set_self xa) R4 rfl;rw[List.set_set] at h2;unfold A5;rw[h2,h1,Nat.add_zero]
theorem a1J {R:McR} {f:FrR} {args:List Val} {W:World} (h:C0 w own mb g R fs f rest args va sb) (hB:L0d w W) {a:Nat} {x y:Val} (ha:f.loc[a]?=some x) {lb lc:Nat} (hlv:f.lv=.slice (some ⟨lb,0,none⟩) f.loc.length lc) (holb:own lb=some (.loc fs.length)) :
  C0 ((W.setCell ⟨lb,a*2,none⟩ (.int .u8 y.1)).setCell ⟨lb,a*2+1,none⟩ (.int .i64 y.2)) own mb g { R with frs:=fs++[{ f with loc:=f.loc.set a y }] } fs { f with loc:=f.loc.set a y } rest args va sb /\
   A2 own w own ((W.setCell ⟨lb,a*2,none⟩ (.int .u8 y.1)).setCell ⟨lb,a*2+1,none⟩ (.int .i64 y.2)):=by
 have hW:=h.later hB;have hl:=hW.m.loc fs.length f (by rw [h.hf];simp);rw[hlv] at hl;have hr:=(World.ownsRow.stored (World.ownsRow.stored hl.1 (a*2) (.int .u8 y.1)).1 (a*2+1) (.int .i64 y.2)).1;rw[<- fA ha] at hr;have xa:∀k,k≠lb->((W.setCell ⟨lb,a*2,none⟩ (.int .u8 y.1)).setCell ⟨lb,a*2+1,none⟩ (.int .i64 y.2)).heap[k]?=W.heap[k]?:=fun k hk=>by
  rw[heap_setCell_other _ _ _ _ hk,heap_setCell_other _ _ _ _ hk]
 refine⟨⟨hW.m.setLoc h.hf hlv holb R5 xa R5 hr,rfl,h.hst,fun h0=>?_,h.hn,h.hs,h.hpc⟩,⟨hB.os,hB.tape,hB.output,by have:=hB.size;simpa using this,fun k hk hno=>?_,fun _ _=>rfl⟩⟩
 ·obtain ⟨q1,q2,q3⟩:=hW.hva h0
  refine⟨q1,q2,fun j z hz=>?_⟩;have xb:sb≠lb:=fun e=>by rw [e,holb] at q2;cases q2
  rw[L0b (w:=W) (a:=⟨sb,_,none⟩) (xa sb xb),L0b (w:=W) (a:=⟨sb,_,none⟩) (xa sb xb)];exact q3 j z hz
 ·rw [xa k (fun e=>by rw [e,holb] at hno;cases hno)]
  exact hB.block k hk
def a5Q (R:McR) (fs:List FrR) (f:FrR) (rest:List Val) (a:Nat) (y:Val) (R':McR):Prop:=∃sv',R'={ R with frs:=fs++[{ f with pc:=f.pc+1,sv:=sv',loc:=f.loc.set a y,stk:=rest }] }
theorem sI (h:C0 w own mb g R fs f rest [y] va sb) (a:Nat) (ha:a < f.loc.length) (vc:Nat) :
  Calls prog 261 #[.pointer (some ⟨mb,0,none⟩),.int .i64 (a:Int),.slice va 1 vc] w fun e w'=>X7 own mb g (a5Q R fs f rest a y) 0 w e w':=by
 obtain⟨x,hx⟩:∃x,f.loc[a]?=some x:=⟨_,L1b ha⟩
 obtain⟨o,rfl,xk,s0,s1⟩:=h.one;obtain⟨y1,y2⟩:=y;simp only at s0 s1;obtain⟨cb,cc,hv,xd,xn,xj,x0,x1,x2,x3⟩:=h.m.top h.hf;obtain⟨lb,lc,xb,xa,xl,l0,l1,lz,_⟩:=h.m.locals h.hf hx;have c3:=h.m.c3;rw[hv] at c3;have xg:=hid xb;rw[xb] at x2;have xm:mb < w.heap.size:=h.m.lt mb _ h.m.me;have xi:=lz (a*2);have xh:=lz (a*2+1);have hn:=h.hn;have HR:Hid (∀W:World,W.cell? ⟨mb,3,none⟩=some (.slice (some ⟨cb,0,none⟩) (fs.length+1) cc)->Calls prog 178 #[.pointer (some ⟨mb,3,none⟩)] W fun e w'=>e=.returned (.pointer (some ⟨cb,fs.length*4,none⟩))/\∃m,w'=W.drewN m):=fun W hW=>K3 mb cb fs.length cc W hn hW
 have xc:=hid xa;have HX:=hid hx;have HH:=hid h;clear h hv xd xj x0 x1 x3 xb xa hx lz;go_enter func261,ntmps261;go_wp2_with fail;go_region_with (first | (go_at_call 178;refine (HR.out _ ?_).mono ?_;exact c3;rintro e w' ⟨rfl,m,rfl⟩))
 all_goals
  obtain⟨hA,hT⟩:=a1J (y:=(y1,y2)) HH.out (Below.drewQ (L3b _ _) (1+m)) HX.out xg.out xc.out;have HA:=hid hA;have HT:=hid hT;clear hA hT c3 x2 l0 l1 xi xh s0 s1;go_wp2_with (go_at_call 290;refine (HA.out.answer (L3b _ _) vc _ [] (U8 _ _) R5 1 rfl).mono ?_;rintro e w' ⟨xe,xf,rfl,hm,ht⟩)
  go_ret;exact⟨xe,_,rfl,hm,⟨xf,by rw [List.append_nil]⟩,HT.out.trans ht⟩
end
section
variable {R:McR} {f:FrR} {fs:List FrR} {g:PgR} {j mb sb:Nat} {more rest:List Val} {o:ObR} {own:Own} {va:Option Addr} {w:World}
theorem A4.slot (h:A4 w own mb g R) (hj:R.obs[j]?=some o) :
  ∃hb hc fa fc,R.hv=.slice (some ⟨hb,0,none⟩) R.obs.length hc/\own hb=some .slots/\hb < w.heap.size/\o.fv=.slice fa o.fl.length fc/\w.cell? ⟨hb,j*2,none⟩=some (.int .u8 o.kind)/\w.cell? ⟨hb,j*2+1,none⟩=some (.slice fa o.fl.length fc):=by
 have xc:=(L1a.1 hj).1;obtain⟨hb,hc,e,_,hl⟩:=h.slots.1.form R4;have hs:=h.slots;rw[e] at hs;obtain⟨fa,fc,xb⟩:=G3 (h.fld j o hj);have xa:∀i,i < 2->w.cell? ⟨hb,j*2+i,none⟩=o.cells[i]?:=fun i hi=>by
  rw[hs.1.cellAt _ R4];exact E0 ObR.cells_len hj hi
 have h1:w.cell? ⟨hb,j*2+1,none⟩=some o.fv:=xa 1 R4;rw[xb] at h1;exact⟨hb,hc,fa,fc,e,hs.2 hb rfl,hl,xb,xa 0 R4,h1⟩
theorem V9 (h:A4 w own mb g R) {j:Nat} {o:ObR} (hj:R.obs[j]?=some o) :
  Calls prog 225 #[.pointer (some ⟨mb,4,none⟩),.agg #[.int .u8 2,.int .i64 (j:Int)]] w fun e w'=>e=.returned (.agg #[.int .u8 o.kind,o.fv])/\L0d w w':=by
 obtain⟨hb,hc,fa,fc,e,_,hl,xa,k0,k1⟩:=h.slot hj;have c4:=h.c4;rw[e] at c4;have xc:mb < w.heap.size:=h.lt mb _ h.me;have xb:=(L1a.1 hj).1;rw[xa];clear h e xa hj;go_enter func225,ntmps225;go_wp2_with fail;go_region
 all_goals
  go_wp2_with fail;exact bodyPost_ret (v:=.agg #[.int .u8 o.kind,.slice fa o.fl.length fc]) (by simp [results,results225,go_sem]) rfl ⟨rfl,P5⟩
def J4 (k kind:Int) (n:Nat) (i1 i2:Int):Int:=if k=kind/\i1=1 then (if 0<=i2/\i2 < n then 0 else 3) else 2
theorem mJ (k:Int) (fa:Option Addr) (n fc:Nat) (i:Nat) (hi:i < n) (hn:n<=1000) (w:World) :
  Calls prog 306 #[.agg #[.int .u8 k,.slice fa n fc],.int .u8 k,.agg #[.int .u8 1,.int .i64 (i:Int)]] w fun e w'=>e=.returned (.int .i64 0)/\L0d w w':=by
 have xa:B0 (i:Int) 0 ((n:Int) - 1)=true:=I4 R4 R4;go_enter func306,ntmps306;go_wp2_with (first | (go_at_call 206;refine (C6 _ _ _).mono ?_;rintro e w' ⟨rfl,o4,rfl⟩) | (go_at_call 116;refine (B3 _ _ _ _).mono ?_;rintro e w' ⟨rfl,rfl⟩))
 go_ret;exact⟨rfl,P5⟩
theorem C0.first {x:Val} (h:C0 w own mb g R fs f rest (x::more) va sb) :
  va=some ⟨sb,rest.length*2,none⟩/\sb < w.heap.size/\own sb=some (.stk fs.length)/\w.cell? ⟨sb,rest.length*2,none⟩=some (.int .u8 x.1)/\w.cell? ⟨sb,rest.length*2+1,none⟩=some (.int .i64 x.2):=by
 obtain⟨h1,h2,h3⟩:=h.hva R5;obtain⟨h4,h5⟩:=h3 0 x rfl;exact⟨h1,h.m.lt sb _ h2,h2,by simpa using h4,by simpa using h5⟩
theorem dN {j i:Nat} {y:Val} (h:C0 w own mb g R fs f rest ((2,(j:Int))::more) va sb) (hj:R.obs[j]?=some o) (hi:o.fl[i]?=some y) (hfn:o.fl.length<=1000) (k:Nat) (hk:more.length+1=k) (hk3:k<=3) (vc:Nat) :
  Calls prog 301 #[.pointer (some ⟨mb,0,none⟩),.slice va k vc,.int .u8 o.kind,.agg #[.int .u8 1,.int .i64 (i:Int)]] w fun e w'=>C3 own mb g R fs f (f.pc+1) (rest++[y]) (.int .i64 0) w e w':=by
 obtain⟨rfl,ya,_,s0,s1⟩:=h.first
 simp only at s0 s1;have xn:=(L1a.1 hi).1;obtain⟨fb,fc,xg,_,yi⟩:=(h.m.fld j o hj).1.form R4;have xb:=(h.m.fld j o hj).1;rw[xg] at xb;have xa:∀t,t < 2->w.cell? ⟨fb,i*2+t,none⟩=(O4 y)[t]?:=fun t ht=>by
  rw[xb.cellAt _ R4];exact E0 F7 hi ht
 have y0:w.cell? ⟨fb,i*2,none⟩=some (.int .u8 y.1):=xa 0 R4;have y1:w.cell? ⟨fb,i*2+1,none⟩=some (.int .i64 y.2):=xa 1 R4;have yb:mb < w.heap.size:=h.m.lt mb _ h.m.me;have xf:Hid (∀W,L0d w W->Calls prog 225 #[.pointer (some ⟨mb,4,none⟩),.agg #[.int .u8 2,.int .i64 (j:Int)]] W fun e w'=>e=.returned (.agg #[.int .u8 o.kind,.slice (some ⟨fb,0,none⟩) o.fl.length fc])/\L0d W w'):=by
  intro W hW;have:=V9 (h.m.same hW.size fun k hk=>hW.block k hk) hj;rw[xg] at this;exact this
 have HH:=hid h;have xr:fb≠w.heap.size+1:=by omega
 have xx:sb≠w.heap.size+1:=by omega
 have yg:fb < w.heap.size+1:=by omega
 have yc:fb < w.heap.size+1+1:=by omega
 clear h hj hi xg xb xa;go_enter func301,ntmps301;go_wp2_with fail;go_region_with (first | (go_at_call 225;refine (xf.out _ ?_).mono ?_;exact P5;rintro e w2 ⟨rfl,xd⟩;obtain ⟨yf,yd⟩:=X4 xd;have xi:=xd.size;have ye:w.heap.size < w2.heap.size:=(by simp at xi;omega);have xv:fb < w2.heap.size:=R4;have xl:sb < w2.heap.size:=R4;have xw:mb < w2.heap.size:=R4;(try (have xp:w.heap.size+1 < w2.heap.size:=(by simp at xi;omega)));have xk:Hid (L0d w w2):=A7 xd P5;clear xd))
 all_goals
  go_wp2_with (first | (go_at_call 306;refine (mJ _ _ _ _ _ xn hfn _).mono ?_;rintro e w3 ⟨rfl,xc⟩;obtain ⟨xm,xy⟩:=X4 xc;have xj:=xc.size;have yj:w2.heap.size<=w3.heap.size:=(by simp at xj;omega);(try (have xz:w2.heap.size < w3.heap.size:=(by simp at xj;omega)));have yh:w.heap.size < w3.heap.size:=R4;have xu:fb < w3.heap.size:=R4;have xs:sb < w3.heap.size:=R4;have xq:mb < w3.heap.size:=R4;(try (have xt:w.heap.size+1 < w3.heap.size:=R4));have xe:Hid (L0d w w3):=A7 xc (by have hq:=xk.out.size;repeat (first | exact xk.out | refine L3c ?_ | refine Below.setCell ?_ Q1 _ | refine L3a ?_ Q1 _));clear xc) | (go_at_call 290;refine (HH.out.answer (by have hq:=xe.out.size;repeat (first | exact xe.out | refine L3c ?_ | refine Below.setCell ?_ Q1 _ | refine L3a ?_ Q1 _)) vc _ [y] (H3 HH.out.m (by have hq:=xe.out.size;first | omega | (simp;omega)) (by first | exact B1 R5 | exact J7 R5 | exact M3 R5)) R5 k hk).mono ?_;rintro e w' ⟨xh,xo,rfl,hm,ht⟩))
  go_ret;exact⟨xh,xo,rfl,hm,ht⟩
end
section
variable {R:McR} {f:FrR} {fs:List FrR} {g:PgR} {j mb sb:Nat} {o:ObR} {own:Own} {rest:List Val} {va:Option Addr} {w:World} {y:Val}
theorem a2s {j i:Nat} (h:C0 w own mb g R fs f rest [(2,(j:Int))] va sb) (hj:R.obs[j]?=some o) (hk:o.kind=1) (hi:o.fl[i]?=some y) (hfn:o.fl.length<=1000) (vc:Nat) :
  Calls prog 281 #[.pointer (some ⟨mb,0,none⟩),.int .i64 (i:Int),.slice va 1 vc] w fun e w'=>C3 own mb g R fs f (f.pc+1) (rest++[y]) (.int .i64 0) w e w':=by
 have HA:Hid (∀W,L0d w W->Calls prog 301 #[.pointer (some ⟨mb,0,none⟩),.slice va 1 vc,.int .u8 1,.agg #[.int .u8 1,.int .i64 (i:Int)]] W fun e w'=>C3 own mb g R fs f (f.pc+1) (rest++[y]) (.int .i64 0) W e w'):=by
  intro W hW;have:=dN (h.later hW) hj hi hfn 1 rfl R4 vc;rw[hk] at this;exact this
 clear h hj hi hk hfn;go_enter func281,ntmps281;go_wp2_with (first | (go_at_call 237;refine (L5 _ _).mono ?_;rintro e w' ⟨rfl,o,rfl⟩) | (go_at_call 301;refine (HA.out _ ?_).mono ?_;exact P5;rintro e w' ⟨xa,xb,rfl,hm,ht⟩;have HT:Hid (A2 own w xa w'):=(A2.of_below P5).trans ht))
 go_ret;exact⟨xa,xb,rfl,hm,HT.out⟩
theorem A4.setFld {w':World} {R:McR} {o:ObR} {l:List Val} {fb fc:Nat} (h:A4 w own mb g R) (hj:R.obs[j]?=some o) (hfv:o.fv=.slice (some ⟨fb,0,none⟩) o.fl.length fc) (hofb:own fb=some (.fld j)) (hsize:w.heap.size=w'.heap.size) (hk:∀k,k≠fb->w'.heap[k]?=w.heap[k]?) (hlen:l.length=o.fl.length)
  (hrow:w'.ownsRow 0 92 2 (.slice (some ⟨fb,0,none⟩) o.fl.length fc) o.fl.length (A5 l)):A4 w' own mb g { R with obs:=R.obs.set j { o with fl:=l } }:=by
 have xe:=h.lt;have keep:∀t,t≠.fld j->∀k,own k=some t->w'.heap[k]?=w.heap[k]?/\own k=some t:=fun t ht k hk'=>⟨hk k (fun e=>by rw [e,hofb] at hk';exact ht (L5b hk').symm),hk'⟩
 have xa:=(keep .mach R5 mb h.me).1;have xb:∀k,own k=none->w'.heap[k]?=w.heap[k]?:=fun k hk'=>hk k (fun e=>by rw [e,hofb] at hk';cases hk')
 have xc:=(L1a.1 hj).1;have xf:(R.obs.set j { o with fl:=l }).flatMap ObR.cells=R.obs.flatMap ObR.cells:=by
  have e:=G2 (c:=ObR.cells) ObR.cells_len (l:=R.obs) (i:=j) (j:=0) (x:=o) (y:={ o with fl:=l }) (u:=.int .u8 o.kind) hj R4 rfl;rw[e];have hg:(R.obs.flatMap ObR.cells)[j*2+0]?=some (.int .u8 o.kind):=E0 ObR.cells_len hj R4;obtain⟨hl,xd⟩:=L1a.1 hg;rw[<- xd];exact List.set_getElem_self hl
 refine⟨fun k t hk'=>by rw [<- hsize];exact xe k t hk',h.me,?_,?_,?_,?_,?_,?_,h.out.kept (keep _ R5),h.called.kept (keep _ R5),?_,fun i x hx=>(h.loc i x hx).kept (keep _ R5),fun i x hx=>(h.stk i x hx).kept (keep _ R5),fun i x hx=>?_,h.pg.held (Nat.le_of_eq hsize) fun k hb=>xb k (h.ro k hb),h.ro,h.tab.held (Nat.le_of_eq hsize) (xb 0 h.ro0),h.ro0,?_,h.draws.kept (keep _ R5)⟩
 ·rw [L0b (w:=w) (a:=⟨mb,0,none⟩) xa];exact h.c0
 ·rw [L0b (w:=w) (a:=⟨mb,1,none⟩) xa];exact h.c1
 ·rw [L0b (w:=w) (a:=⟨mb,2,none⟩) xa];exact h.c2
 ·rw [L0b (w:=w) (a:=⟨mb,3,none⟩) xa];exact h.c3
 ·rw [L0b (w:=w) (a:=⟨mb,4,none⟩) xa];exact h.c4
 ·intro i;rw [L0c (w:=w) (a:=⟨mb,i,none⟩) xa];exact h.fz i
 ·have:=h.slots.kept (own':=own) (w':=w') (keep _ R5)
  show Row w' own .slots 90 2 R.hv (R.obs.set j { o with fl:=l }).length ((R.obs.set j { o with fl:=l }).flatMap ObR.cells);rw[xf,List.length_set];exact this
 ·by_cases e:i=j
  ·subst e
   obtain rfl:{ o with fl:=l }=x:=by rw [List.getElem?_set_self xc] at hx;exact L5b hx
   show Row w' own (.fld i) 92 2 o.fv l.length (A5 l);rw[hfv,hlen]
   exact⟨hrow,fun b hb=>by obtain rfl:fb=b:=by simpa [Value.ownBlock] using hb
                           exact hofb⟩
  ·rw [List.getElem?_set_ne (Ne.symm e)] at hx
   exact (h.fld i x hx).kept (keep _ (by simpa using e))
 ·rw [L0b (w:=w) (a:=⟨mb,5,none⟩) xa];exact h.c5
theorem zO {R:McR} {args:List Val} {W:World} (h:C0 w own mb g R fs f rest args va sb) (hB:L0d w W) {j i:Nat} {o:ObR} {x y:Val} (hj:R.obs[j]?=some o) (hi:o.fl[i]?=some x) {fb fc:Nat} (hfv:o.fv=.slice (some ⟨fb,0,none⟩) o.fl.length fc) (hofb:own fb=some (.fld j)) :
  C0 ((W.setCell ⟨fb,i*2,none⟩ (.int .u8 y.1)).setCell ⟨fb,i*2+1,none⟩ (.int .i64 y.2)) own mb g { R with obs:=R.obs.set j { o with fl:=o.fl.set i y } } fs f rest args va sb /\
   A2 own w own ((W.setCell ⟨fb,i*2,none⟩ (.int .u8 y.1)).setCell ⟨fb,i*2+1,none⟩ (.int .i64 y.2)):=by
 have hW:=h.later hB;have hl:=hW.m.fld j o hj;rw[hfv] at hl;have hr:=(World.ownsRow.stored (World.ownsRow.stored hl.1 (i*2) (.int .u8 y.1)).1 (i*2+1) (.int .i64 y.2)).1;rw[<- fA hi] at hr;have xa:∀k,k≠fb->((W.setCell ⟨fb,i*2,none⟩ (.int .u8 y.1)).setCell ⟨fb,i*2+1,none⟩ (.int .i64 y.2)).heap[k]?=W.heap[k]?:=fun k hk=>by
  rw[heap_setCell_other _ _ _ _ hk,heap_setCell_other _ _ _ _ hk]
 refine⟨⟨hW.m.setFld hj hfv hofb R5 xa R5 hr,h.hf,h.hst,fun h0=>?_,h.hn,h.hs,h.hpc⟩,⟨hB.os,hB.tape,hB.output,by have:=hB.size;simpa using this,fun k hk hno=>?_,fun _ _=>rfl⟩⟩
 ·obtain ⟨q1,q2,q3⟩:=hW.hva h0
  refine⟨q1,q2,fun t z hz=>?_⟩;have xb:sb≠fb:=fun e=>by rw [e,hofb] at q2;cases q2
  rw[L0b (w:=W) (a:=⟨sb,_,none⟩) (xa sb xb),L0b (w:=W) (a:=⟨sb,_,none⟩) (xa sb xb)];exact q3 t z hz
 ·rw [xa k (fun e=>by rw [e,hofb] at hno;cases hno)]
  exact hB.block k hk
def kX (R:McR) (fs:List FrR) (f:FrR) (rest:List Val) (j i:Nat) (o:ObR) (y:Val) (R':McR):Prop:=∃sv',R'={ R with obs:=R.obs.set j { o with fl:=o.fl.set i y },frs:=fs++[{ f with pc:=f.pc+1,sv:=sv',stk:=rest }] }
theorem qX {j i:Nat} (h:C0 w own mb g R fs f rest [(2,(j:Int)),y] va sb) (hj:R.obs[j]?=some o) (hi:i < o.fl.length) (hfn:o.fl.length<=1000) (vc:Nat) :
  Calls prog 302 #[.pointer (some ⟨mb,0,none⟩),.slice va 2 vc,.int .u8 o.kind,.agg #[.int .u8 1,.int .i64 (i:Int)]] w fun e w'=>X7 own mb g (kX R fs f rest j i o y) 0 w e w':=by
 obtain⟨so,rfl,yg,s0,s1,s2,s3⟩:=h.two;obtain⟨y1,y2⟩:=y;simp only at s0 s1 s2 s3;obtain⟨x,hx⟩:∃x,o.fl[i]?=some x:=⟨_,L1b hi⟩
 obtain⟨fb,fc,xd,_,xo⟩:=(h.m.fld j o hj).1.form R4;have xc:own fb=some (.fld j):=(h.m.fld j o hj).2 fb (by rw [xd];rfl);have xa:=(h.m.fld j o hj).1;rw[xd] at xa;have xb:∀t,t < 2->w.cell? ⟨fb,i*2+t,none⟩=(O4 x)[t]?:=fun t ht=>by
  rw[xa.cellAt _ R4];exact E0 F7 hx ht
 have y0:w.cell? ⟨fb,i*2,none⟩=some (.int .u8 x.1):=xb 0 R4;have yy:w.cell? ⟨fb,i*2+1,none⟩=some (.int .i64 x.2):=xb 1 R4;have z0:=xa.frozenAt (i*2);have z1:=xa.frozenAt (i*2+1);have yh:mb < w.heap.size:=h.m.lt mb _ h.m.me;have xi:Hid (∀W,L0d w W->Calls prog 225 #[.pointer (some ⟨mb,4,none⟩),.agg #[.int .u8 2,.int .i64 (j:Int)]] W fun e w'=>e=.returned (.agg #[.int .u8 o.kind,.slice (some ⟨fb,0,none⟩) o.fl.length fc])/\L0d W w'):=by
  intro W hW;have:=V9 (h.m.same hW.size fun k hk=>hW.block k hk) hj;rw[xd] at this;exact this
 have yi:sb≠fb:=fun e=>by
  obtain⟨_,q2,_⟩:=h.hva R5;rw[e,xc] at q2;cases q2
 have HH:=hid h;have HJ:=hid hj;have HX:=hid hx;have xy:=hid xd;have xk:=hid xc;have xu:fb≠w.heap.size+1:=by omega
 have yd:sb≠w.heap.size+1:=by omega
 have yl:fb < w.heap.size+1:=by omega
 have yj:fb < w.heap.size+1+1:=by omega
 have yo:sb < w.heap.size+1:=by omega
 have ye:sb < w.heap.size+1+1:=by omega
 clear h hj hx xd xa xb xc;go_enter func302,ntmps302;go_wp2_with fail;go_region_with (first | (go_at_call 225;refine (xi.out _ ?_).mono ?_;exact P5;rintro e w2 ⟨rfl,xf⟩;obtain ⟨yc,xz⟩:=X4 xf;have xm:=xf.size;have yk:w.heap.size < w2.heap.size:=(by simp at xm;omega);have ya:fb < w2.heap.size:=R4;have xq:sb < w2.heap.size:=R4;have yb:mb < w2.heap.size:=R4;(try (have xs:w.heap.size+1 < w2.heap.size:=(by simp at xm;omega)));have xp:Hid (L0d w w2):=A7 xf P5;clear xf))
 all_goals
  go_wp2_with (first | (go_at_call 306;refine (mJ _ _ _ _ _ hi hfn _).mono ?_;rintro e w3 ⟨rfl,xe⟩;obtain ⟨xg,xl⟩:=X4 xe;have xn:=xe.size;have yn:w2.heap.size<=w3.heap.size:=(by simp at xn;omega);(try (have yf:w2.heap.size < w3.heap.size:=(by simp at xn;omega)));have ym:w.heap.size < w3.heap.size:=R4;have xx:fb < w3.heap.size:=R4;have xv:sb < w3.heap.size:=R4;have xt:mb < w3.heap.size:=R4;(try (have xw:w.heap.size+1 < w3.heap.size:=R4));have xh:Hid (L0d w w3):=A7 xe (by have hq:=xp.out.size;repeat (first | exact xp.out | refine L3c ?_ | refine Below.setCell ?_ Q1 _ | refine L3a ?_ Q1 _));clear xe))
  have g0:=(xh.out.frozen (p:=⟨fb,i*2,none⟩) xo).trans z0;have g1:=(xh.out.frozen (p:=⟨fb,i*2+1,none⟩) xo).trans z1;clear xz xl;go_region
  all_goals
   obtain⟨hA,hT⟩:=zO (y:=(y1,y2)) HH.out (L3c xh.out) HJ.out HX.out xy.out xk.out;have HA:=hid hA;have HT:=hid hT;clear hA hT yc xg g0 g1;go_wp2_with (go_at_call 290;refine (HA.out.answer (L3b _ _) vc _ [] (U8 _ _) R5 2 rfl).mono ?_;rintro e w' ⟨xj,xr,rfl,hm,ht⟩)
   go_ret;exact⟨xj,_,rfl,hm,⟨xr,by rw [List.append_nil]⟩,HT.out.trans ht⟩
theorem a2t {j i:Nat} (h:C0 w own mb g R fs f rest [(2,(j:Int)),y] va sb) (hj:R.obs[j]?=some o) (hk:o.kind=1) (hi:i < o.fl.length) (hfn:o.fl.length<=1000) (vc:Nat) :
  Calls prog 282 #[.pointer (some ⟨mb,0,none⟩),.int .i64 (i:Int),.slice va 2 vc] w fun e w'=>X7 own mb g (kX R fs f rest j i o y) 0 w e w':=by
 have HA:Hid (∀W,L0d w W->Calls prog 302 #[.pointer (some ⟨mb,0,none⟩),.slice va 2 vc,.int .u8 1,.agg #[.int .u8 1,.int .i64 (i:Int)]] W fun e w'=>X7 own mb g (kX R fs f rest j i o y) 0 W e w'):=by
  intro W hW;have:=qX (h.later hW) hj hi hfn vc;rw[hk] at this;exact this
 clear h hj hi hk hfn;go_enter func282,ntmps282;go_wp2_with (first | (go_at_call 237;refine (L5 _ _).mono ?_;rintro e w' ⟨rfl,o,rfl⟩) | (go_at_call 302;refine (HA.out _ ?_).mono ?_;exact P5;rintro e w' ⟨xa,R',rfl,hm,hp,ht⟩;have HT:Hid (A2 own w xa w'):=(A2.of_below P5).trans ht))
 go_ret;exact⟨xa,R',rfl,hm,hp,HT.out⟩
end
section
variable {R:McR} {g:PgR} {mb:Nat} {own:Own} {w:World}
theorem lT (h:A4 w own mb g R) (hpos:0 < R.obs.length) (hn:R.obs.length<=1000) :
  Calls prog 305 #[.pointer (some ⟨mb,4,none⟩)] w fun e w'=>e=.returned (.bool (taken R.obs == R.obs.length))/\L0d w w':=by
 have xd:mb < w.heap.size:=h.lt mb _ h.me;obtain⟨hb,hc,e,_,xf⟩:=h.slots.1.form hpos;have c4:=h.c4;rw[e] at c4;have xe:=iX R.obs;have xc:Hid (∀W,L0d w W->Calls prog 45 #[.pointer (some ⟨mb,4,none⟩)] W fun e w'=>e=.returned (.int .i64 (taken R.obs:Int))/\L0d W w'):=fun W hW=>eY (h.same hW.size fun k hk=>hW.block k hk) hpos hn
 clear h e;go_enter func305,ntmps305;go_wp2_with fail;go_region_with (first | (go_at_call 45;refine (xc.out _ ?_).mono ?_;exact P5;rintro e w2 ⟨rfl,xa⟩;have xb:Hid (L0d w w2):=A7 xa P5;clear xa;have r4:=(xb.out.cell (p:=⟨mb,4,none⟩) xd).trans c4))
 all_goals
  go_wp2_with fail;go_ret;refine⟨congrArg (fun b=>Ending.returned (Value.bool b)) ?_,xb.out⟩;rw[Bool.eq_iff_iff];simp only [beq_iff_eq];omega
theorem Y6 (k:Int) (fa:Option Addr) (n fc:Nat) (w:World):Calls prog 212 #[.agg #[.int .u8 k,.slice fa n fc]] w fun e w'=>e=.returned (.bool (k == 0))/\∃o,w'=w.alloc o:=by
 go_enter func212,ntmps212;go_wp2
 go_ret;exact⟨rfl,_,rfl⟩
def V2 (l:List ObR) (j:Nat):Prop:=(∃o,l[j]?=some o/\o.kind=0)/\∀i o,i < j->l[i]?=some o->o.kind≠0
theorem fG (h:A4 w own mb g R) (j:Nat) (hj:V2 R.obs j) (hn:R.obs.length<=1000) (hb hc:Nat) (he:R.hv=.slice (some ⟨hb,0,none⟩) R.obs.length hc) :
  Calls prog 213 #[.slice (some ⟨hb,0,none⟩) R.obs.length hc,.func (.func 212) #[] #[]] w fun e w'=>e=.returned (.int .i64 (j:Int))/\L0d w w':=by
 have xm:j < R.obs.length:=by obtain ⟨⟨o,ho,_⟩,_⟩:=hj;exact (L1a.1 ho).1
 have xc:=h.slots.1;rw[he] at xc;have xg:=(R6 xc).2;have xf:=hid xc;have HH:=hid h;have HJ:=hid hj;clear h he xc hj;go_enter func213,ntmps213;go_wp2_with fail;go_loopw [8] (fun v wr=>∃i:Nat,i<=j/\v=.int .i64 i/\L0d w wr) (fun v _=>R.obs.length - (intOf v).toNat)
 case atStart=>exact ⟨0,L4c _,rfl,L3b _ _⟩
 case round =>
  obtain⟨i,hi,rfl,xb⟩:=hrel;have xh:i < R.obs.length:=by omega
  obtain⟨o,ho⟩:∃o,R.obs[i]?=some o:=⟨_,L1b xh⟩
  have xa:∀t,t < 2->wr.cell? ⟨hb,i*2+t,none⟩=o.cells[t]?:=fun t ht=>by
   rw[xb.cell (p:=⟨hb,_,none⟩) xg,xf.out.cellAt _ R4];exact E0 ObR.cells_len ho ht
  obtain⟨fa,fc,xe⟩:=G3 (HH.out.fld i o ho);have k0:wr.cell? ⟨hb,i*2,none⟩=some (.int .u8 o.kind):=xa 0 R4;have k1:wr.cell? ⟨hb,i*2+1,none⟩=some o.fv:=xa 1 R4;rw[xe] at k1;have xl:hb < wr.heap.size:=L0a xg xb.size;have xd:=hid xb;by_cases hij:i=j
  ·have hk:(o.kind == 0)=true:=by
    obtain⟨⟨o',xi,xj⟩,_⟩:=HJ.out;rw[hij,xi] at ho;obtain rfl:=L5b ho;exact beq_iff_eq.2 xj
   have xk:=hid hij;clear xa xe xb ho hij;go_wp2_with (go_at_call 212;refine (Y6 _ _ _ _ _).mono ?_;rintro e w' ⟨rfl,o4,rfl⟩)
   go_ret;exact⟨by rw [xk.out];rfl,L3a xd.out xd.out.size _⟩
  ·have hk:(o.kind == 0)=false:=L2c.2 (HJ.out.2 i o R4 ho)
   clear xa xe xb ho;go_wp2_with (go_at_call 212;refine (Y6 _ _ _ _ _).mono ?_;rintro e w' ⟨rfl,o4,rfl⟩)
   go_roundw
   case rel=>exact ⟨i+1,by omega,by go_num,L3a xd.out xd.out.size _⟩
   case measure=>simp [intOf];omega
end
section
variable {j:Nat} {l:List ObR}
theorem a1P (d:Int) {n:Nat} (hn:0 < n):(d.tmod (n:Int)+(n:Int)).tmod (n:Int)=d % (n:Int):=by
 have xa:(0:Int) < (n:Int):=by omega
 have h1:0<=d.tmod (n:Int)+(n:Int):=by have:=Int.lt_tmod_of_pos d xa;omega
 rw[Int.tmod_eq_emod_of_nonneg h1,Int.add_emod_right];have h2:=Int.mul_tdiv_add_tmod d (n:Int);have h3:d.tmod (n:Int)=d - (n:Int)*d.tdiv (n:Int):=by omega
 rw[h3,Int.sub_mul_emod_self_left]
theorem yH (d:Int) {n:Nat} (hn:0 < n):(d.tmod (n:Int)+(n:Int)) % (n:Int)=d % (n:Int):=by
 have h1:0<=d.tmod (n:Int)+(n:Int):=by have:=Int.lt_tmod_of_pos d (show (0:Int) < (n:Int) by omega);omega
 rw[<- Int.tmod_eq_emod_of_nonneg h1];exact a1P d hn
def xX {α:Type} : List α->Nat->List α->List α
 | xs,_,[]=>xs
 | xs,o,v::vs=>xX (xs.set o v) (o+1) vs
theorem qY {α:Type} : ∀(vs pre ys:List α),vs.length<=ys.length->xX (pre++ys) pre.length vs=pre++vs++ys.drop vs.length
 | [],pre,ys,_=>by simp [xX]
 | v::vs,pre,[],h=>by simp at h
 | v::vs,pre,y::ys,h=>by
  have e:(pre++y::ys).set pre.length v=(pre++[v])++ys:=by simp
  have:=qY vs (pre++[v]) ys (by simpa using h);rw[xX,e,show pre.length+1=(pre++[v]).length by simp,this];simp
theorem bV {e n b cap:Nat} : ∀(vs xs:List Value) (o:Nat) (w:World),w.ownsRow 0 e 1 (.slice (some ⟨b,0,none⟩) n cap) n xs->(w.setCells b o vs).ownsRow 0 e 1 (.slice (some ⟨b,0,none⟩) n cap) n (xX xs o vs)
 | [],_,_,_,h=>h
 | v::vs,_,o,_,h=>bV vs _ (o+1) _ (World.ownsRow.stored h o v).1
theorem bF (b:Nat):∀(vs:List Value) (o:Nat) (w:World),(w.setCells b o vs).heap.size=w.heap.size
 | [],_,_=>rfl
 | v::vs,o,w=>by
  show ((w.setCell ⟨b,o,none⟩ v).setCells b (o+1) vs).heap.size=_;rw[bF b vs];simp
theorem aZ (b:Nat):∀(vs:List Value) (o:Nat) (w:World) (k:Nat),k≠b->(w.setCells b o vs).heap[k]?=w.heap[k]?
 | [],_,_,_,_=>rfl
 | v::vs,o,w,k,h=>by
  show ((w.setCell ⟨b,o,none⟩ v).setCells b (o+1) vs).heap[k]?=_;rw[aZ b vs _ _ _ h,heap_setCell_other _ _ _ _ h]
theorem bD (b:Nat):∀(vs:List Value) (o:Nat) (w:World),(w.setCells b o vs).os=w.os/\(w.setCells b o vs).tape=w.tape/\(w.setCells b o vs).output=w.output
 | [],_,_=>⟨rfl,rfl,rfl⟩
 | v::vs,o,w=>by
  show ((w.setCell ⟨b,o,none⟩ v).setCells b (o+1) vs).os=_/\((w.setCell ⟨b,o,none⟩ v).setCells b (o+1) vs).tape=_/\((w.setCell ⟨b,o,none⟩ v).setCells b (o+1) vs).output=_;exact bD b vs (o+1) (w.setCell ⟨b,o,none⟩ v)
theorem a3j (d:Int) (n:Nat) (h1:1<=n) (h2:n<=1000) (w:World) :
  Calls prog 210 #[.int .i64 d,.int .i64 (n:Int)] w fun e w'=>e=.returned (.int .i64 (d % (n:Int)))/\∃m,w'=w.drewN m:=by
 have xb:=Int.lt_tmod_of_pos d (show (0:Int) < (n:Int) by omega);have xd:=Int.tmod_lt_of_pos d (show (0:Int) < (n:Int) by omega);have hr:=yH d h1;have xc:=Int.emod_nonneg d (show (n:Int)≠0 by omega);have xa:=Int.emod_lt_of_pos d (show (0:Int) < (n:Int) by omega);have HR:=hid hr;clear hr;go_enter func210,ntmps210;go_wp2
 all_goals go_ret
 all_goals exact ⟨congrArg (fun x=>Ending.returned (Value.int .i64 x)) HR.out,0,rfl⟩
def gL (b cap:Nat) (xs:List Value) (w:World) (e:Ending) (w':World):Prop :=
 e=.returned (.slice (some ⟨b,0,none⟩) xs.length cap)/\w'.ownsRow 0 3 1 (.slice (some ⟨b,0,none⟩) xs.length cap) xs.length xs/\w'.heap.size=w.heap.size/\(∀k,k≠b->w'.heap[k]?=w.heap[k]?)/\w'.os=w.os/\w'.tape=w.tape/\w'.output=w.output
theorem a6Y:Tryz.t3.zero=some (.int .i64 0):=by kernel_rfl
theorem a5X:∀w:World,(zeroValue 3).run prog w=.ok (.int .i64 0) w:=fun w=>by simp [zeroValue,a6Y]
theorem vF (b cap:Nat) (x:Value) (xs:List Value) (w:World) (h:w.ownsRow 0 3 1 (.slice (some ⟨b,0,none⟩) (xs.length+1) cap) (xs.length+1) (x::xs)) (h1:∀u∈xs,u.oneCell'=true) (hn:xs.length<=1000) :
  Calls prog 211 #[.slice (some ⟨b,0,none⟩) (xs.length+1) cap,.int .i64 0,.int .i64 1] w fun e w'=>gL b cap xs w e w':=by
 obtain⟨i3,hi,hz,xk,xm⟩:=info_parts dW;obtain⟨xl,xn⟩:=R6 h;have xb:cap<=maxLen:=by
  rcases h.2 with ⟨h0,_⟩ | ⟨g',xj,xo,hv,_,_,_,h4,_⟩
  ·cases h0
  ·cases hv;exact h4
 have xi:cap<=9223372036854775807:=by unfold maxLen at xb;exact xb
 have xa:∀j u,(x::xs)[j]?=some u->w.cell? ⟨b,j,none⟩=some u:=fun j u hu=>by
  have hj:=(L1a.1 hu).1;rw[h.cellAt j (by simpa using hj)];exact hu
 obtain⟨A,hA,xh⟩:∃A:Addr,(if cap=1 then some (⟨b,0,none⟩:Addr) else some ⟨b,1,none⟩)=some A/\Hid (∀t u,xs[t]?=some u->w.drew.cell? (A.add t)=some u):=by
  by_cases hc:cap=1
  ·refine ⟨⟨b,0,none⟩,by simp [hc],fun t u hu=>?_⟩
   have h0:xs.length=0:=by omega
   rw[List.length_eq_zero_iff.1 h0] at hu;simp at hu
  ·refine ⟨⟨b,1,none⟩,by simp [hc],fun t u hu=>?_⟩
   have e:(⟨b,1,none⟩:Addr).add t=⟨b,1+t,none⟩:=by unfold Addr.add;split <;> simp_all
   rw[e];exact xa (1+t) u (by rw [Nat.add_comm];simpa using hu)
 have s1:Hid (xs.length=xs.length*1):=(Nat.mul_one _).symm;have s2:Hid (∀u∈xs,u.oneCell'=true):=h1;have s3:Hid (∀t,t < xs.length->(w.drew.cell? ⟨b,0+0*1+t,none⟩).isSome=true/\w.drew.frozen? ⟨b,0+0*1+t,none⟩=false):=fun t ht=>by
  rw[show 0+0*1+t=t by omega];refine⟨?_,h.frozenAt t⟩;show (w.cell? _).isSome=true;rw[xa t _ (L1b Q8)];rfl
 have o1:(w.drew.setCells b (0+0*1) xs).ownsRow 0 3 1 (.slice (some ⟨b,0,none⟩) (xs.length+1) cap) (xs.length+1) (xX (x::xs) (0+0*1) xs):=bV xs _ _ _ h.drew;obtain⟨y,hy⟩:∃y,xX (x::xs) (0+0*1) xs=xs++[y]:=by
  have e:=qY xs [] (x::xs) R5;rw[show 0+0*1=([]:List Value).length from rfl];rw[List.nil_append] at e;rw[e];obtain⟨y,hy⟩:∃y,(x::xs).drop xs.length=[y]:=List.length_eq_one_iff.1 R5
  exact⟨y,by rw [hy];simp⟩
 rw[hy] at o1;have xg:=bF b xs (0+0*1) w.drew;have xe:=aZ b xs (0+0*1) w.drew;have xc:=bD b xs (0+0*1) w.drew;obtain⟨W1,xf⟩:∃W1,W1=w.drew.setCells b (0+0*1) xs:=⟨_,rfl⟩
 rw[<- xf] at o1 xg xe xc;have xq:∀ty,(Builtin.clear_ #[24] ty #[.slice (some ⟨b,xs.length,none⟩) 1 (cap - xs.length)]).run prog W1=.ok (.tuple #[]) (W1.setCells b xs.length [.int .i64 0]) :=
  fun ty=>Lib.run_clear_slice W1 24 3 ty _ underlying24 a5X rfl rfl b xs.length _ _ R4 (fun t ht=>by
   obtain rfl:t=0:=by omega
   rw[o1.cellAt _ R4];simp) (fun t ht=>o1.frozenAt _)
 have hW:Hid (W1=w.drew.setCells b (0+0*1) xs):=xf;have xd:Hid (gL b cap xs w (.returned (.slice (some ⟨b,0,none⟩) xs.length cap)) (W1.setCells b xs.length [.int .i64 0])):=by
  have o2:=bV [.int .i64 0] _ xs.length _ o1;rw[qY [Value.int .i64 0] xs [y] R5] at o2;have o3:=tK o2 (m:=xs.length) R4;refine⟨rfl,?_,?_,fun k hk=>?_,?_⟩
  ·simpa using o3
  ·rw [bF,xg];rfl
  ·rw [aZ b _ _ _ _ hk];exact xe k hk
  ·obtain ⟨r1,r2,r3⟩:=bD b [Value.int .i64 0] xs.length W1
   exact⟨r1.trans xc.1,r2.trans xc.2.1,r3.trans xc.2.2⟩
 have xp:(1:Int)<=(xs.length:Int)+1:=by omega
 clear xf xg xe xc o1 h xa h1 xb;go_enter func211,ntmps211;go_wp2_with fail;go_region_law (refine step_append_room rfl (.tmp 22) (.tmp 25) 24 rfl 3 i3 1 underlying24 hi xk b 0 0 cap (by simp [Act.eval,Act.put]) A xs.length (cap - 1) xs (by simp [Act.eval,Act.put]) s1.out xh.out s2.out R4 s3.out ?_;rw [<- hW.out])
 all_goals go_wp2
 all_goals go_ret
 all_goals exact xd.out
def gS (l:List ObR) (dr:List Int) (j:Nat) (ds:List Int):Prop :=
 match dr with
 | []=>ds=[]/\V2 l j
 | d::r=>ds=r/\∃o,l[(d % (l.length:Int)).toNat]?=some o/\((o.kind=0/\j=(d % (l.length:Int)).toNat)\/(o.kind≠0/\V2 l j))
theorem gS.free {dr ds:List Int} (h:gS l dr j ds):∃o,l[j]?=some o/\o.kind=0:=by
 cases dr with
 | nil=>exact h.2.1
 | cons d r =>
  obtain⟨_,o,ho,⟨hk,rfl⟩ | ⟨_,hf⟩⟩:=h
  ·exact ⟨o,ho,hk⟩
  ·exact hf.1
theorem nX {o:ObR} (ho:l[j]?=some o) (hk:o.kind=0):taken l≠l.length:=by
 intro e;have:=(List.filter_sublist (p:=fun o:ObR=>o.kind != 0) (l:=l)).eq_of_length e;have hm:o∈l.filter fun o=>o.kind != 0:=by rw [this];exact L2a ho
 simp[hk] at hm
theorem A4.setDraws {w w':World} {own:Own} {mb:Nat} {g:PgR} {R:McR} {v:Value} {l:List Int} (h:A4 w own mb g R) (hsize:w.heap.size<=w'.heap.size)
  (hk:∀k,k < w.heap.size->k≠mb->own k≠some .draws->w'.heap[k]?=w.heap[k]?)
  (hc:∀j,j≠5->w'.cell? ⟨mb,j,none⟩=w.cell? ⟨mb,j,none⟩) (hc5:w'.cell? ⟨mb,5,none⟩=some v) (hfz:∀j,w'.frozen? ⟨mb,j,none⟩=false)
  (hrow:w'.ownsRow 0 3 1 v l.length (l.map fun n=>.int .i64 n)) (hon:E3 w own v .draws) :
  A4 w' (own.upd v.ownBlock .draws) mb g { R with dv:=v,dr:=l }:=by
 have xa:=h.lt;have keep:∀t,t≠.mach->t≠.draws->∀k,own k=some t->w'.heap[k]?=w.heap[k]?:=fun t h1 h2 k hk' =>
  hk k (xa k t hk') (fun e=>by rw [e,h.me] at hk';exact h1 (L5b hk').symm) (by rw [hk'];exact fun e=>h2 (L5b e))
 have xb:∀k,k < w.heap.size->own k=none->w'.heap[k]?=w.heap[k]?:=fun k hk1 hk2=>hk k hk1 (fun e=>by rw [e,h.me] at hk2;cases hk2) (by rw [hk2];simp)
 refine⟨Own.upd_lt xa hsize hrow,?_,?_,?_,?_,?_,?_,hfz,h.out.upd xa hon (keep _ R5 R5),h.called.upd xa hon (keep _ R5 R5),h.slots.upd xa hon (keep _ R5 R5),
  fun i x hx=>(h.loc i x hx).upd xa hon (keep _ R5 R5),fun i x hx=>(h.stk i x hx).upd xa hon (keep _ R5 R5),fun j o ho=>(h.fld j o ho).upd xa hon (keep _ R5 R5),?_,?_,?_,?_,hc5,⟨hrow,fun b hb=>by simp [Own.upd,hb]⟩⟩
 ·rw [Own.upd_old hon (xa mb _ h.me)];exact h.me
 ·rw [hc 0 R4];exact h.c0
 ·rw [hc 1 R4];exact h.c1
 ·rw [hc 2 R4];exact h.c2
 ·rw [hc 3 R4];exact h.c3
 ·rw [hc 4 R4];exact h.c4
 ·exact h.pg.held hsize fun k hb=>xb k (h.pg.blk_lt hb) (h.ro k hb)
 ·intro k hb;rw [Own.upd_old hon (h.pg.blk_lt hb)];exact h.ro k hb
 ·exact h.tab.held hsize (xb 0 h.tab.1 h.ro0)
 ·rw [Own.upd_old hon h.tab.1];exact h.ro0
def fO (own:Own) (mb:Nat) (g:PgR) (R:McR) (j:Nat) (ds:List Int) (w:World) (e:Ending) (w':World):Prop :=
 ∃dv,e=.returned (.int .i64 (j:Int))/\A4 w' own mb g { R with dv:=dv,dr:=ds }/\A2 own w own w'/\∀k,k < w.heap.size->k≠mb->own k≠some .draws->w'.heap[k]?=w.heap[k]?
end
section
variable {R:McR} {g:PgR} {mb:Nat} {own:Own} {w:World}
theorem rU (h:A4 w own mb g R) (hd:R.dr=[]) (j:Nat) (hj:V2 R.obs j) (hn:R.obs.length<=1000) :
  Calls prog 166 #[.pointer (some ⟨mb,4,none⟩)] w fun e w'=>e=.returned (.int .i64 (j:Int))/\L0d w w':=by
 obtain⟨o,ho,_⟩:=id hj.1;obtain⟨hb,hc,fa,fc,he,xa,xf,_,_,_⟩:=h.slot ho;have c4:=h.c4;rw[he] at c4;obtain⟨da,dc,xb⟩:=G3 h.draws;have c5:=h.c5;rw[xb,hd,List.length_nil] at c5;have xg:mb < w.heap.size:=h.lt mb _ h.me;have xd:Hid (∀U,L0d w U->Calls prog 213 #[.slice (some ⟨hb,0,none⟩) R.obs.length hc,.func (.func 212) #[] #[]] U fun e w'=>e=.returned (.int .i64 (j:Int))/\L0d U w'):=fun U hU=>fG (h.same hU.size fun k hk=>hU.block k hk) j hj hn hb hc he
 clear h hj ho he xa xb hd;go_enter func166,ntmps166;go_wp2_with (go_at_call 213;refine (xd.out _ ?_).mono ?_;exact P5;rintro e w2 ⟨rfl,xc⟩;have xe:Hid (L0d w w2):=A7 xc P5;clear xc)
 go_ret;exact⟨rfl,xe.out⟩
theorem a2y {R:McR} {U w2:World} (h:A4 w own mb g R) (hU:L0d w U) {r:List Int} {db dc:Nat} (hdv:R.dv=.slice (some ⟨db,0,none⟩) (r.length+1) dc) {e:Ending} (hp:gL db dc (r.map fun n=>.int .i64 n) U e w2) :
  (∀k,k < w.heap.size->own k≠some .draws->w2.heap[k]?=w.heap[k]?)/\w.heap.size<=w2.heap.size/\(w2.frozen? ⟨mb,5,none⟩=false/\w2.cell? ⟨mb,5,none⟩=some R.dv) /\
   A4 (w2.setCell ⟨mb,5,none⟩ (.slice (some ⟨db,0,none⟩) r.length dc)) own mb g { R with dv:=.slice (some ⟨db,0,none⟩) r.length dc,dr:=r } /\
   A2 own w own (w2.setCell ⟨mb,5,none⟩ (.slice (some ⟨db,0,none⟩) r.length dc)) /\
   ∀k,k < w.heap.size->k≠mb->own k≠some .draws->(w2.setCell ⟨mb,5,none⟩ (.slice (some ⟨db,0,none⟩) r.length dc)).heap[k]?=w.heap[k]?:=by
 obtain⟨_,xf,xr,xh,xq,xg,xi⟩:=hp;have xb:own db=some .draws:=h.draws.2 db (by rw [hdv];rfl);have xp:db≠mb:=fun e=>by rw [e,h.me] at xb;cases xb
 have xc:∀k,k < w.heap.size->own k≠some .draws->w2.heap[k]?=w.heap[k]?:=fun k hk hn =>
  (xh k (fun e=>hn (by rw [e];exact xb))).trans (hU.block k hk)
 have xm:=h.lt mb _ h.me;have xd:=xc mb xm (by rw [h.me];simp);have xj:w.heap.size<=w2.heap.size:=by have:=hU.size;omega
 have xk:∀j,w2.frozen? ⟨mb,j,none⟩=false:=fun j=>by rw [L0c (w:=w) (a:=⟨mb,j,none⟩) xd];exact h.fz j
 have xo:w2.cell? ⟨mb,5,none⟩=some R.dv:=by rw [L0b (w:=w) (a:=⟨mb,5,none⟩) xd];exact h.c5
 have xl:mb < w2.heap.size:=by omega
 have xe:∀j,j≠5->(w2.setCell ⟨mb,5,none⟩ (.slice (some ⟨db,0,none⟩) r.length dc)).cell? ⟨mb,j,none⟩=w.cell? ⟨mb,j,none⟩:=fun j hj=>by
  rw[<- L0b (w:=w) (w':=w2) (a:=⟨mb,j,none⟩) xd];go_simp
 have xn:E3 w own (.slice (some ⟨db,0,none⟩) r.length dc) .draws:=fun b hb=>by
  obtain rfl:db=b:=by simpa [Value.ownBlock] using hb
  exact L4a xb
 have xa:∀k,k < w.heap.size->k≠mb->own k≠some .draws->(w2.setCell ⟨mb,5,none⟩ (.slice (some ⟨db,0,none⟩) r.length dc)).heap[k]?=w.heap[k]?:=fun k hk h1 h2=>by
  rw[heap_setCell_other _ _ _ _ h1];exact xc k hk h2
 rw[List.length_map] at xf;have hM:=A4.setDraws (v:=.slice (some ⟨db,0,none⟩) r.length dc) (l:=r) h (w':=w2.setCell ⟨mb,5,none⟩ (.slice (some ⟨db,0,none⟩) r.length dc)) (by simpa using xj) xa xe Q9 (fun j=>by have:=xk j;go_simp) (ownsRow_setCell_other xf (by simpa [Value.ownBlock] using xp) _) xn;rw[show (Value.slice (some ⟨db,0,none⟩) r.length dc).ownBlock=some db from rfl,Own.upd_same xb] at hM
 refine⟨xc,xj,⟨xk 5,xo⟩,hM,⟨xq.trans hU.os,xg.trans hU.tape,xi.trans hU.output,by simpa using xj,fun k hk hno=>?_,fun _ _=>rfl⟩,xa⟩;exact xa k hk (fun e=>by rw [e,h.me] at hno;cases hno) (by rw [hno];simp)
end
section
variable {R:McR} {g:PgR} {mb:Nat} {own:Own} {w:World}
theorem rV (h:A4 w own mb g R) {d:Int} {r:List Int} (hd:R.dr=d::r) (j:Nat) (hp:gS R.obs R.dr j r) (hn:R.obs.length<=1000) (hdn:R.dr.length<=1000) :
  Calls prog 166 #[.pointer (some ⟨mb,4,none⟩)] w fun e w'=>fO own mb g R j r w e w':=by
 obtain⟨o,ho,xb⟩:∃o,R.obs[(d % (R.obs.length:Int)).toNat]?=some o/\((o.kind=0/\j=(d % (R.obs.length:Int)).toNat)\/(o.kind≠0/\V2 R.obs j)):=by
  rw[hd] at hp;exact hp.2
 have xx:=(L1a.1 ho).1;have xy:0 < R.obs.length:=by omega
 obtain⟨k,hk⟩:=L5c (Int.emod_nonneg d (show (R.obs.length:Int)≠0 by omega));rw[hk,Int.toNat_natCast] at ho xb xx;obtain⟨hb,hc,fa,fc,he,xf,xm,_,k0,k1⟩:=h.slot ho;have c4:=h.c4;rw[he] at c4;have xw:R.dr.length=r.length+1:=by rw [hd];rfl
 obtain⟨db,dc,xe,_,xq⟩:=h.draws.1.form R4;rw[xw] at xe;have xp:own db=some .draws:=h.draws.2 db (by rw [xe];rfl);have xa:=h.draws.1;rw[xe,hd,List.length_cons,List.map_cons] at xa;have c5:=h.c5;rw[xe] at c5;have xr:mb < w.heap.size:=h.lt mb _ h.me;have d0:w.cell? ⟨db,0,none⟩=some (.int .i64 d):=by rw [xa.cellAt 0 R4];rfl
 have xd:Hid (∀U:World,Calls prog 210 #[.int .i64 d,.int .i64 (R.obs.length:Int)] U fun e w'=>e=.returned (.int .i64 (k:Int))/\∃m,w'=U.drewN m):=fun U=>by
  rw[<- hk];exact a3j d R.obs.length R4 hn U
 have xi:Hid (∀U:World,L0d w U->Calls prog 211 #[.slice (some ⟨db,0,none⟩) (r.length+1) dc,.int .i64 0,.int .i64 1] U fun e w'=>gL db dc (r.map fun n=>.int .i64 n) U e w'):=by
  intro U hU;have xv:U.ownsRow 0 3 1 (.slice (some ⟨db,0,none⟩) (r.length+1) dc) (r.length+1) (.int .i64 d::r.map fun n=>.int .i64 n):=A6 xa fun b hb'=>by
   obtain rfl:db=b:=by simpa [Value.ownBlock] using hb'
   exact hU.block _ xq
  have:=vF db dc (.int .i64 d) (r.map fun n=>.int .i64 n) U (by simpa using xv) (by
   intro u hu;obtain⟨n,_,rfl⟩:=List.mem_map.1 hu;rfl) Q8
  simpa using this
 have xh:Hid (∀U w2 e,L0d w U->gL db dc (r.map fun n=>.int .i64 n) U e w2->_):=fun U w2 e hU hp=>a2y h hU xe hp
 have xt:Hid (o.kind≠0->∀V U,A4 V own mb g { R with dv:=.slice (some ⟨db,0,none⟩) r.length dc,dr:=r }->L0d V U->Calls prog 213 #[.slice (some ⟨hb,0,none⟩) R.obs.length hc,.func (.func 212) #[] #[]] U fun e w'=>e=.returned (.int .i64 (j:Int))/\L0d U w'):=fun xo V U hV hU=>by
  rcases xb with ⟨h0,_⟩ | ⟨_,hf⟩
  ·exact absurd h0 xo
  ·exact fG (R:={ R with dv:=.slice (some ⟨db,0,none⟩) r.length dc,dr:=r }) (hV.same hU.size fun k hk=>hU.block k hk) j hf hn hb hc he
 have HJ:Hid ((o.kind == 0)=true->j=k):=fun h0=>by
  rcases xb with ⟨_,hj⟩ | ⟨xo,_⟩
  ·exact hj
  ·exact absurd (beq_iff_eq.1 h0) xo
 have xc:own hb≠some .draws:=by rw [xf];simp
 have xg:own mb≠some .draws:=by rw [h.me];simp
 have yb:hb≠mb:=fun e=>by rw [e,h.me] at xf;cases xf
 have ya:=hid xe;clear h hp hd xb he xa xe xp ho hk;go_enter func166,ntmps166;go_wp2_with fail;go_region_with (first | (go_at_call 210;refine (xd.out _).mono ?_;rintro e w1 ⟨rfl,m1,rfl⟩))
 all_goals
  go_wp2_with (go_at_call 211;refine (xi.out _ ?_).mono ?_;exact P5;intro e w2 hdel;obtain ⟨xl,xn,⟨z5,q5⟩,hM,hT,hO⟩:=xh.out _ w2 _ P5 hdel;have he:=hdel.1;rw [List.length_map] at he;subst he;rw [ya.out] at q5;have xu:mb < w2.heap.size:=L0a xr xn;have xz:hb < w2.heap.size:=L0a xm xn;have m4:=(L0b (w:=w) (a:=⟨mb,4,none⟩) (xl mb xr xg)).trans c4;have n0:=(L0b (w:=w) (a:=⟨hb,k*2,none⟩) (xl hb xm xc)).trans k0;have n1:=(L0b (w:=w) (a:=⟨hb,k*2+1,none⟩) (xl hb xm xc)).trans k1;have HM:=hid hM;have HT:=hid hT;have HO:=hid hO;clear hdel xl xn hM hT hO c4 c5 k0 k1 d0 xh xi xd)
  cases hkk:(o.kind == 0)
  ·go_wp2_with (first | (go_at_call 212;refine (Y6 _ _ _ _ _).mono ?_;rintro e w' ⟨rfl,o4,rfl⟩) | (go_at_call 213;refine (xt.out (fun e=>by rw [e] at hkk;cases hkk) _ _ HM.out ?_).mono ?_;exact P5;rintro e w3 ⟨rfl,xs⟩;have xk:Hid (Below _ (w2.setCell ⟨mb,5,none⟩ (.slice (some ⟨db,0,none⟩) r.length dc)) w3):=A7 xs P5;clear xs))
   go_ret;exact⟨_,rfl,HM.out.same xk.out.size fun k hk=>xk.out.block k hk,HT.out.trans (A2.of_below xk.out),fun k hk h1 h2=>(xk.out.block k (L0a hk HT.out.size)).trans (HO.out k hk h1 h2)⟩
  ·go_wp2_with (first | (go_at_call 212;refine (Y6 _ _ _ _ _).mono ?_;rintro e w' ⟨rfl,o4,rfl⟩))
   go_ret;have xj:Below (w2.setCell ⟨mb,5,none⟩ (.slice (some ⟨db,0,none⟩) r.length dc)).heap.size (w2.setCell ⟨mb,5,none⟩ (.slice (some ⟨db,0,none⟩) r.length dc)) ((w2.setCell ⟨mb,5,none⟩ (.slice (some ⟨db,0,none⟩) r.length dc)).alloc o4):=L3a (L3b _ _) (L1c _) _;exact⟨_,by rw [HJ.out hkk];rfl,HM.out.same xj.size fun k hk=>xj.block k hk,HT.out.trans (A2.of_below xj),fun k hk h1 h2=>(xj.block k (L0a hk HT.out.size)).trans (HO.out k hk h1 h2)⟩
theorem uW (h:A4 w own mb g R) (j:Nat) (ds:List Int) (hp:gS R.obs R.dr j ds) (hn:R.obs.length<=1000) (hdn:R.dr.length<=1000) :
  Calls prog 166 #[.pointer (some ⟨mb,4,none⟩)] w fun e w'=>fO own mb g R j ds w e w':=by
 cases hd:R.dr with
 | nil =>
  obtain⟨rfl,hf⟩:ds=[]/\V2 R.obs j:=by rw [hd] at hp;exact hp
  refine (rU h hd j hf hn).mono ?_;rintro e w' ⟨rfl,hb⟩;refine⟨R.dv,rfl,?_,A2.of_below hb,fun k hk _ _=>hb.block k hk⟩;have:=h.same hb.size fun k hk=>hb.block k hk
  rw[<- hd];exact this
 | cons d r =>
  obtain rfl:ds=r:=by rw [hd] at hp;exact hp.1
  exact rV h hd j hp hn hdn
end
end Go.Proofs.YtbkmgoffiigdbaaGreatDoor
