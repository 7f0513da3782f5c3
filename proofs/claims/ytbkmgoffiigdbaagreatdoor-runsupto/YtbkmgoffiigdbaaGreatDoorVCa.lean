import Derived.Test.YtbkmgoffiigdbaaGreatDoorVBi
namespace Go.Proofs.YtbkmgoffiigdbaaGreatDoor
open Go.RowKit Go.Sort Go.Proofs.Tryz
set_option maxHeartbeats 4000000
set_option maxRecDepth 100000
section
variable {W:World} {fs:List FrR} {g:PgR} {mb:Nat} {own:Own}
theorem a1b {R:RfR} {f:FrR} (h:A8 W own mb g R) (hf:R.frs=fs++[f]) (k l:Nat) (hk:k < g.n) (hgn:g.n<=1000) (hp:(g.f k).p=0) (hl:(g.f k).l=(l:Int)) (hl8:l<=1000) (hd:fs.length+1 < 12) {rest:List Val} (hst:f.stk=rest) (hsn:f.stk.length<=1000) {sb sc:Nat} (hsv:f.sv=.slice (some ⟨sb,0,none⟩) f.stk.length sc) (hcut:sc=rest.length) :
  Calls prog 137 #[.pointer (some ⟨mb,0,none⟩),.int .i64 (k:Int)] W fun e w'=>e=.returned (.int .i64 0)/\∃own' cv lv sv,A8 w' own' mb g { R with cv:=cv,frs:=fs++[{ f with sv:=sv,stk:=rest }]++[⟨k,0,lv,.slice none 0 0,List.replicate l (0,0),[]⟩] }/\A2 own W own' w':=by
 have yy:=h.lt _ _ h.me;obtain⟨ca,cc,xh,_,xu⟩:=Row.cells FrR.cells_len h.called;have xi:R.frs.length=fs.length+1:=by rw [hf];simp
 have xm:R.frs[fs.length]?=some f:=by rw [hf];simp
 obtain⟨cb,rfl,yv,ye,xq,xp⟩:=xu R4;have k3:=xp fs.length 3 f _ xm R3 rfl;have yp:=xq (fs.length*4+3);have m4:=h.c4;rw[xh,xi] at m4;obtain⟨g1,g2,g3⟩:=h.pg.2.1 R4;obtain⟨x0,x1,x2⟩:=g3 k hk;rw[hp] at x0;rw[hl] at x1;have m0:=h.c0;rw[g1] at m0;have xs:f.stk.length=rest.length:=by rw [hst]
 rw[hsv,xs] at k3;have ys:(k:Int) < (g.n:Int):=by omega
 have yt:¬(12:Int)<=(fs.length:Int)+1:=by omega
 have xc:=h.stk fs.length f xm;obtain⟨yr,ya,e5,ym,yh⟩:=xc.vals;rw[hsv] at e5;have yu:rest.length<=sc:=by
  have:ya=sc:=by injection e5 with _ _ q;exact q.symm
  omega
 have xt:Row W own (.stk fs.length) 92 2 (.slice (some ⟨sb,0,none⟩) rest.length sc) rest.length (A5 rest):=by
  have h9:=xc;rw[hsv,hst] at h9;exact h9
 obtain⟨hM,xr⟩:=h.cutTop hf xh xt;have HM:=hid hM;have xe:Hid ((W.setCell ⟨cb,fs.length*4+3,none⟩ (.slice (some ⟨sb,0,none⟩) rest.length sc)).ownsRow 0 86 4 (.slice (some ⟨cb,0,none⟩) (fs.length+1) cc) (fs.length+1) ((fs++[{ f with sv:=.slice (some ⟨sb,0,none⟩) rest.length sc,stk:=rest }]).flatMap FrR.cells)):=hid (by
  have h9:=hM.called.1;rw[show ({ R with frs:=fs++[{ f with sv:=.slice (some ⟨sb,0,none⟩) rest.length sc,stk:=rest }] } : RfR).cv=.slice (some ⟨cb,0,none⟩) R.frs.length cc from xh,xi] at h9;simpa using h9)
 have xl:=hid xh;have xj:=hid xi;have yn:=hid xr;have HH:=hid h;obtain⟨xk,hi,hz,xx,xv⟩:=info_parts I5;have xn:Hid (∀W:World,(Instr.makeSlice 84 (.int .i64 (l:Int)) (.int .i64 (l:Int))).run prog W=.ok (.slice (some ⟨W.heap.size,0,none⟩) l l) (W.alloc (.cells (madeCells #[.int .u8 0,.int .i64 0] (l*2)) 92))):=by
  intro W;have hr:=run_make (P:=prog) W 84 92 xk _ underlying84 hi hz .i64 .i64 l l R4 (Int.le_refl _) (by rw [xv];omega) R4;simpa [xx,Value.cells] using hr
 have yx:=xn.out;have yq:(Builtin.copy_ #[84,84] 3 #[.slice (some ⟨W.heap.size+1,0,none⟩) l l,.slice (some ⟨sb,0,none⟩) 0 0]).run prog ((W.alloc (.cells #[.int .i64 0,.int .i64 (l:Int),.slice (g.f k).a (g.f k).n (g.f k).c] 163)).alloc (.cells (madeCells #[.int .u8 0,.int .i64 0] (l*2)) 92))=.ok (goInt 0) ((W.alloc (.cells #[.int .i64 0,.int .i64 (l:Int),.slice (g.f k).a (g.f k).n (g.f k).c] 163)).alloc (.cells (A5 (List.replicate l (0,0))).toArray 92)):=by
  have h9:=eT (w:=W) (va:=(some ⟨sb,0,none⟩)) (vc:=0) (l:=l) (args:=[]) (Nat.zero_le _) (fun h0=>by simp at h0) (.cells #[.int .i64 0,.int .i64 (l:Int),.slice (g.f k).a (g.f k).n (g.f k).c] 163);simpa using h9
 obtain⟨yb,xo,xy,xf,xd⟩:=info_parts eH;have HI:=hid xo;have HZ:=hid xy;have yk:=hid xf;have yg:=hid xd;have yi:rest.length<=sc:=by omega
 have xz:mb < W.heap.size+1:=by omega
 have yd:cb < W.heap.size+1:=by omega
 have yc:mb < W.heap.size+1+1:=by omega
 have yo:cb < W.heap.size+1+1:=by omega
 have yj:rest.length<=1000:=by omega
 clear h hf hp hl hst hsv xh xu xp xq xm xi g1 g3 hM xr xc e5 ym yh xt hi hz xx xv xo xy xf xd xn xs hsn;subst hcut;go_enter func137,ntmps137;go_wp2_with fail;go_region
 go_wp2_with (at_builtin;go_must (refine B0 _ rfl (.tmp 67) (.tmp 71) 66 rfl 0 86 yb _ 4 64 underlying66 HI.out HZ.out yk.out yg.out rfl R3 (.slice (some ⟨cb,0,none⟩) (fs.length+1) cc) (fs.length+1) ((fs++[{ f with sv:=.slice (some ⟨sb,0,none⟩) rest.length rest.length,stk:=rest }]).flatMap FrR.cells) rfl (by repeat (first | exact xe.out | refine World.ownsRow.alloc ?_ _ | refine World.ownsRow.drew ?_)) (some ⟨W.heap.size+1+1,0,none⟩) 1 1 [.int .i64 (k:Int),.int .i64 0,.slice (some ⟨W.heap.size+1,0,none⟩) l l,.slice none 0 0] rfl rfl (fun _=>⟨_,rfl,World.news_of_block (cs:=#[.int .i64 (k:Int),.int .i64 0,.slice (some ⟨W.heap.size+1,0,none⟩) l l,.slice none 0 0]) (t:=86) (fr:=(0,0)) (B1 R5)⟩) (by intro u hu;simp at hu;rcases hu with rfl | rfl | rfl | rfl <;> rfl) Q5 R4 R5 ?_))
 intro v4 w4 hown4 hgrow4 hat4;obtain⟨va,vc,yl,_⟩:=B4 hown4;subst yl;have xa:(List.replicate l ((0,0):Val)).length=l:=by simp
 have xg:(((W.setCell ⟨cb,fs.length*4+3,none⟩ (.slice (some ⟨sb,0,none⟩) rest.length rest.length)).alloc (Obj.cells #[.int .i64 0,.int .i64 (l:Int),.slice (g.f k).a (g.f k).n (g.f k).c] 163)).alloc (Obj.cells (A5 (List.replicate l (0,0))).toArray 92)).ownsRow 0 92 2 (.slice (some ⟨W.heap.size+1,0,none⟩) l l) (List.replicate l ((0,0):Val)).length (A5 (List.replicate l (0,0))):=by
  have h9:=World.ownsRow_lit (base:=0) (e:=92) (size:=2) ((W.setCell ⟨cb,fs.length*4+3,none⟩ (.slice (some ⟨sb,0,none⟩) rest.length rest.length)).alloc (Obj.cells #[.int .i64 0,.int .i64 (l:Int),.slice (g.f k).a (g.f k).n (g.f k).c] 163)) (A5 (List.replicate l (0,0))).toArray l (Nat.zero_le _) Q5 (by simp only [List.size_toArray];rw [D3,xa]);rw[xa];simpa using h9
 have xb:∀b,(Value.slice (some ⟨W.heap.size+1,0,none⟩) l l).ownBlock=some b->b=W.heap.size+1:=fun b hb=>by
  have:W.heap.size+1=b:=by simpa [Value.ownBlock] using hb
  exact this.symm
 have xw:M9 own g (.slice (some ⟨W.heap.size+1,0,none⟩) l l):=fun b hb=>by
  have:=xb b hb;subst this;refine⟨?_,fun q hq e=>?_,by omega⟩
  ·cases e:own (W.heap.size+1) with
   | none=>rfl
   | some t=>have:=HH.out.lt _ t e;omega
  ·have:=HH.out.pg.blk_lt hq;omega
 obtain⟨q1,q2,q3,q4,q5,q6⟩:=jL (p:=⟨k,0,(.slice (some ⟨W.heap.size+1,0,none⟩) l l),.slice none 0 0,List.replicate l (0,0),[]⟩) (HM.out.same (Below.alloc (Below.alloc (Below.refl _ _) (L1c _) _) Q2 _)) (Below.drew (Below.alloc (Below.refl _ _) (L1c _) _)) (by rw [show ({ R with frs:=fs++[{ f with sv:=.slice (some ⟨sb,0,none⟩) rest.length rest.length,stk:=rest }] } : RfR).cv=.slice (some ⟨cb,0,none⟩) (fs.length+1) cc by rw [<- xj.out];exact xl.out];exact hgrow4) (by simpa [FrR.cells] using hown4) (fun b hb=>by
  rcases hat4 b hb with e | e
  ·exact Or.inl (by rw [show ({ R with frs:=fs++[{ f with sv:=.slice (some ⟨sb,0,none⟩) rest.length rest.length,stk:=rest }] } : RfR).cv=.slice (some ⟨cb,0,none⟩) (fs.length+1) cc by rw [<- xj.out];exact xl.out];exact e)
  ·exact Or.inr Q8) xg xw (fun b o e hb=>by
  have:=xb b hb;have:=(HH.out.dro b o e).1;omega) ⟨rfl,rfl⟩
 have yw:w4.cell? ⟨mb,4,none⟩=some (.slice (some ⟨cb,0,none⟩) (fs.length+1) cc):=by rw [q1];show some R.cv=_;rw [xl.out,xj.out]
 have HT:=hid (((yn.out.touB (L1c _)).trans (aO.of_below ((Below.alloc (Below.alloc (Below.refl _ _) (L1c _) _) Q2 _).mono R5))).trans (q6 W.heap.size Q2 (fun b hb=>by have:=xb b hb;omega))).touched;have yf:=hid q5;clear q1 q4 q5 q6 hown4 hgrow4 hat4 xg xw;go_wp2_with fail;go_ret;exact⟨rfl,_,⟨_,_,_,by have h9:=yf.out;rw [List.append_assoc] at h9;exact h9⟩,HT.out⟩
theorem a1c {R:RfR} {f:FrR} (h:A8 W own mb g R) (hf:R.frs=fs++[f]) (k l:Nat) (hk:k < g.n) (hgn:g.n<=1000) (hp:(g.f k).p=0) (hl:(g.f k).l=(l:Int)) (hl8:l<=1000) (hd:fs.length+1 < 12) {rest:List Val} (hst:f.stk=rest) (hsn:f.stk.length<=1000) (hsv:f.sv=.slice none 0 0) (hr0:rest=[]) :
  Calls prog 137 #[.pointer (some ⟨mb,0,none⟩),.int .i64 (k:Int)] W fun e w'=>e=.returned (.int .i64 0)/\∃own' cv lv sv,A8 w' own' mb g { R with cv:=cv,frs:=fs++[{ f with sv:=sv,stk:=rest }]++[⟨k,0,lv,.slice none 0 0,List.replicate l (0,0),[]⟩] }/\A2 own W own' w':=by
 have yr:=h.lt _ _ h.me;obtain⟨ca,cc,xd,_,xu⟩:=Row.cells FrR.cells_len h.called;have xh:R.frs.length=fs.length+1:=by rw [hf];simp
 have xr:R.frs[fs.length]?=some f:=by rw [hf];simp
 obtain⟨cb,rfl,ym,yj,xv,xo⟩:=xu R4;have k3:=xo fs.length 3 f _ xr R3 rfl;have yk:=xv (fs.length*4+3);have m4:=h.c4;rw[xd,xh] at m4;obtain⟨g1,g2,g3⟩:=h.pg.2.1 R4;obtain⟨x0,x1,x2⟩:=g3 k hk;rw[hp] at x0;rw[hl] at x1;have m0:=h.c0;rw[g1] at m0;have yg:f.stk.length=rest.length:=by rw [hst]
 rw[hsv] at k3;have yq:(k:Int) < (g.n:Int):=by omega
 have yo:¬(12:Int)<=(fs.length:Int)+1:=by omega
 have xs:Row W own (.stk fs.length) 92 2 (.slice none 0 0) rest.length (A5 rest):=by
  rw[hr0];exact⟨World.ownsRow_nil _ _ _ _,fun b hb=>by cases hb⟩
 obtain⟨hM,xm⟩:=h.cutTop hf xd xs;have HM:=hid hM;have xg:Hid ((W.setCell ⟨cb,fs.length*4+3,none⟩ (.slice none 0 0)).ownsRow 0 86 4 (.slice (some ⟨cb,0,none⟩) (fs.length+1) cc) (fs.length+1) ((fs++[{ f with sv:=.slice none 0 0,stk:=rest }]).flatMap FrR.cells)):=hid (by
  have h9:=hM.called.1;rw[show ({ R with frs:=fs++[{ f with sv:=.slice none 0 0,stk:=rest }] } : RfR).cv=.slice (some ⟨cb,0,none⟩) R.frs.length cc from xd,xh] at h9;simpa using h9)
 have xj:=hid xd;have xk:=hid xh;have yd:=hid xm;have HH:=hid h;obtain⟨xi,hi,hz,xq,xw⟩:=info_parts I5;have xl:Hid (∀W:World,(Instr.makeSlice 84 (.int .i64 (l:Int)) (.int .i64 (l:Int))).run prog W=.ok (.slice (some ⟨W.heap.size,0,none⟩) l l) (W.alloc (.cells (madeCells #[.int .u8 0,.int .i64 0] (l*2)) 92))):=by
  intro W;have hr:=run_make (P:=prog) W 84 92 xi _ underlying84 hi hz .i64 .i64 l l R4 (Int.le_refl _) (by rw [xw];omega) R4;simpa [xq,Value.cells] using hr
 have yp:=xl.out;have yl:(Builtin.copy_ #[84,84] 3 #[.slice (some ⟨W.heap.size+1,0,none⟩) l l,.slice none 0 0]).run prog ((W.alloc (.cells #[.int .i64 0,.int .i64 (l:Int),.slice (g.f k).a (g.f k).n (g.f k).c] 163)).alloc (.cells (madeCells #[.int .u8 0,.int .i64 0] (l*2)) 92))=.ok (goInt 0) ((W.alloc (.cells #[.int .i64 0,.int .i64 (l:Int),.slice (g.f k).a (g.f k).n (g.f k).c] 163)).alloc (.cells (A5 (List.replicate l (0,0))).toArray 92)):=by
  have h9:=eT (w:=W) (va:=none) (vc:=0) (l:=l) (args:=[]) (Nat.zero_le _) (fun h0=>by simp at h0) (.cells #[.int .i64 0,.int .i64 (l:Int),.slice (g.f k).a (g.f k).n (g.f k).c] 163);simpa using h9
 obtain⟨xz,xn,xt,xf,xe⟩:=info_parts eH;have HI:=hid xn;have HZ:=hid xt;have yi:=hid xf;have ya:=hid xe;have yb:mb < W.heap.size+1:=by omega
 have yh:cb < W.heap.size+1:=by omega
 have yc:mb < W.heap.size+1+1:=by omega
 have yf:cb < W.heap.size+1+1:=by omega
 have ye:rest.length<=1000:=by omega
 clear h hf hp hl hst hsv xd xu xo xv xr xh g1 g3 hM xm xs hr0 hi hz xq xw xn xt xf xe xl yg hsn;go_enter func137,ntmps137;go_wp2_with fail;go_region
 go_wp2_with (at_builtin;go_must (refine B0 _ rfl (.tmp 67) (.tmp 71) 66 rfl 0 86 xz _ 4 64 underlying66 HI.out HZ.out yi.out ya.out rfl R3 (.slice (some ⟨cb,0,none⟩) (fs.length+1) cc) (fs.length+1) ((fs++[{ f with sv:=.slice none 0 0,stk:=rest }]).flatMap FrR.cells) rfl (by repeat (first | exact xg.out | refine World.ownsRow.alloc ?_ _ | refine World.ownsRow.drew ?_)) (some ⟨W.heap.size+1+1,0,none⟩) 1 1 [.int .i64 (k:Int),.int .i64 0,.slice (some ⟨W.heap.size+1,0,none⟩) l l,.slice none 0 0] rfl rfl (fun _=>⟨_,rfl,World.news_of_block (cs:=#[.int .i64 (k:Int),.int .i64 0,.slice (some ⟨W.heap.size+1,0,none⟩) l l,.slice none 0 0]) (t:=86) (fr:=(0,0)) (B1 R5)⟩) (by intro u hu;simp at hu;rcases hu with rfl | rfl | rfl | rfl <;> rfl) Q5 R4 R5 ?_))
 intro v4 w4 hown4 hgrow4 hat4;obtain⟨va,vc,xx,_⟩:=B4 hown4;subst xx;have xa:(List.replicate l ((0,0):Val)).length=l:=by simp
 have xc:(((W.setCell ⟨cb,fs.length*4+3,none⟩ (.slice none 0 0)).alloc (Obj.cells #[.int .i64 0,.int .i64 (l:Int),.slice (g.f k).a (g.f k).n (g.f k).c] 163)).alloc (Obj.cells (A5 (List.replicate l (0,0))).toArray 92)).ownsRow 0 92 2 (.slice (some ⟨W.heap.size+1,0,none⟩) l l) (List.replicate l ((0,0):Val)).length (A5 (List.replicate l (0,0))):=by
  have h9:=World.ownsRow_lit (base:=0) (e:=92) (size:=2) ((W.setCell ⟨cb,fs.length*4+3,none⟩ (.slice none 0 0)).alloc (Obj.cells #[.int .i64 0,.int .i64 (l:Int),.slice (g.f k).a (g.f k).n (g.f k).c] 163)) (A5 (List.replicate l (0,0))).toArray l (Nat.zero_le _) Q5 (by simp only [List.size_toArray];rw [D3,xa]);rw[xa];simpa using h9
 have xb:∀b,(Value.slice (some ⟨W.heap.size+1,0,none⟩) l l).ownBlock=some b->b=W.heap.size+1:=fun b hb=>by
  have:W.heap.size+1=b:=by simpa [Value.ownBlock] using hb
  exact this.symm
 have xp:M9 own g (.slice (some ⟨W.heap.size+1,0,none⟩) l l):=fun b hb=>by
  have:=xb b hb;subst this;refine⟨?_,fun q hq e=>?_,by omega⟩
  ·cases e:own (W.heap.size+1) with
   | none=>rfl
   | some t=>have:=HH.out.lt _ t e;omega
  ·have:=HH.out.pg.blk_lt hq;omega
 obtain⟨q1,q2,q3,q4,q5,q6⟩:=jL (p:=⟨k,0,(.slice (some ⟨W.heap.size+1,0,none⟩) l l),.slice none 0 0,List.replicate l (0,0),[]⟩) (HM.out.same (Below.alloc (Below.alloc (Below.refl _ _) (L1c _) _) Q2 _)) (Below.drew (Below.alloc (Below.refl _ _) (L1c _) _)) (by rw [show ({ R with frs:=fs++[{ f with sv:=.slice none 0 0,stk:=rest }] } : RfR).cv=.slice (some ⟨cb,0,none⟩) (fs.length+1) cc by rw [<- xk.out];exact xj.out];exact hgrow4) (by simpa [FrR.cells] using hown4) (fun b hb=>by
  rcases hat4 b hb with e | e
  ·exact Or.inl (by rw [show ({ R with frs:=fs++[{ f with sv:=.slice none 0 0,stk:=rest }] } : RfR).cv=.slice (some ⟨cb,0,none⟩) (fs.length+1) cc by rw [<- xk.out];exact xj.out];exact e)
  ·exact Or.inr Q8) xc xp (fun b o e hb=>by
  have:=xb b hb;have:=(HH.out.dro b o e).1;omega) ⟨rfl,rfl⟩
 have yn:w4.cell? ⟨mb,4,none⟩=some (.slice (some ⟨cb,0,none⟩) (fs.length+1) cc):=by rw [q1];show some R.cv=_;rw [xj.out,xk.out]
 have HT:=hid (((yd.out.touB (L1c _)).trans (aO.of_below ((Below.alloc (Below.alloc (Below.refl _ _) (L1c _) _) Q2 _).mono R5))).trans (q6 W.heap.size Q2 (fun b hb=>by have:=xb b hb;omega))).touched;have xy:=hid q5;clear q1 q4 q5 q6 hown4 hgrow4 hat4 xc xp;go_wp2_with fail;go_ret;exact⟨rfl,_,⟨_,_,_,by have h9:=xy.out;rw [List.append_assoc] at h9;exact h9⟩,HT.out⟩
end
section
variable {R:RfR} {a:Int} {args rest:List Val} {cap k:Nat} {f:FrA} {fs:List FrA} {g:PgR} {obs:List Ob} {s t:McA}
def L8 (obs:List Ob):Prop:=∀o,o∈obs->(o.1=1\/o.1=2\/o.1=3)/\o.2.length<=12/\(o.1=3->o.2.length=1)/\∀v,v∈o.2->v.1=2->0<=v.2
theorem L8.nil:L8 []:=fun o ho=>by cases ho
theorem L8.forget (h:L8 obs) (al:List Nat):L8 (R9 al obs):=fun o ho=>by
 obtain⟨i,hi⟩:=List.mem_iff_getElem?.1 ho;rw[V9] at hi
 cases hq:obs[i]? with
 | none=>rw [hq] at hi;cases hi
 | some q =>
  rw[hq] at hi;have e:o=H9 al i q:=by simpa using hi.symm
  obtain⟨h1,h2,h3,h4⟩:=h q (L2a hq);have hl:(H9 al i q).2.length=q.2.length:=by unfold H9;split <;> simp
  rw[e];refine⟨by rw [U1];exact h1,by rw [hl];exact h2,fun hk=>by rw [hl];exact h3 (by rwa [U1] at hk),fun v hv hv2=>?_⟩;rcases cY hv with hv | rfl
  ·exact h4 v hv hv2
  ·exact Int.le_refl 0
theorem L8.set (h:L8 obs) {o:Ob} (ho:o∈obs) (i n:Nat) {y:Val} (hy:y.1=2->0<=y.2):L8 (obs.set i (o.1,o.2.set n y)):=fun q hq=>by
 rcases List.mem_or_eq_of_mem_set hq with hq | rfl
 ·exact h q hq
 ·obtain ⟨h1,h2,h3,h4⟩:=h o ho
  refine⟨h1,by simpa using h2,fun hk=>by simpa using h3 hk,fun v hv hv2=>?_⟩;rcases List.mem_or_eq_of_mem_set hv with hv | rfl
  ·exact h4 v hv hv2
  ·exact hy hv2
theorem L8.add (h:L8 obs) {kind:Int} {fl:List Val} (hk:kind=1\/kind=2\/kind=3) (hl:fl.length<=12) (h3:kind=3->fl.length=1) (hf:∀v,v∈fl->v.1=2->0<=v.2):L8 (obs++[(kind,fl)]):=fun q hq=>by
 rcases List.mem_append.1 hq with hq | hq
 ·exact h q hq
 ·rw [List.mem_singleton] at hq
  subst hq;exact⟨hk,hl,h3,hf⟩
theorem L8.room {sl:List Int} (h:L8 s.obs):L8 (U4 cap sl s).2.obs:=by
 unfold U4;split
 ·exact h.forget _
 ·exact h
theorem L8.new {sl:List Int} (h:L8 s.obs) (fs:List FrA) (f:FrA) (rest:List Val) {kind:Int} {fl:List Val} (hk:kind=1\/kind=2\/kind=3) (hl:fl.length<=12) (h3:kind=3->fl.length=1) (hf:∀v,v∈fl->v.1=2->0<=v.2):L8 (bK cap sl s fs f rest kind fl).2.obs:=by
 unfold bK;split
 ·exact h
 ·split
  ·exact h
  ·exact h.room.add hk hl h3 hf
theorem qS {v:Val} (h:(A0 obs v).1≠0):A0 obs v∈obs:=by
 unfold A0 at h ⊢;split at h
 ·rename_i h2
  rw[if_pos h2];rw[List.getD_eq_getElem?_getD] at h ⊢
  cases hq:obs[v.2.toNat]? with
  | none=>rw [hq] at h;exact absurd rfl h
  | some q=>exact L2a hq
 ·exact absurd rfl h
theorem L8.setE (h:L8 s.obs) (fs:List FrA) (f:FrA) (rest:List Val) (v:Val) {kind:Int} (hk:kind≠0) (ix:Val) {y:Val} (hy:y.1=2->0<=y.2):L8 (setE s fs f rest v kind ix y).obs:=by
 unfold Go.Proofs.YtbkmgoffiigdbaaGreatDoor.setE;split
 ·rename_i hr
  refine L8.set h (qS fun h0=>?_) _ _ hy;unfold E5 at hr;rw[if_pos (Or.inl (by rw [h0];exact fun e=>hk e.symm))] at hr
  cases hr
 ·exact h
theorem fQ (n:Nat):∀v,v∈List.replicate n ((0,0):Val)->v.1=2->0<=v.2:=fun v hv h2=>by
 rw[(List.mem_replicate.1 hv).2] at h2
 cases h2
theorem a3K {sl:List Int} (h:L8 s.obs) (hv:∀v,v∈args->v.1=2->0<=v.2) (ha:k=16->a<=12):L8 (doD g cap k a sl s fs f rest args).2.obs:=by
 unfold doD;split
 ·exact h.new _ _ _ (Or.inl rfl) (by have:=ha rfl;rw [List.length_replicate];omega) (fun e=>by cases e) (fQ _)
 ·split
  ·exact h
  ·split
   ·rename_i hc
    exact h.new _ _ _ (Or.inr (Or.inl rfl)) (by rw [List.length_replicate];omega) (fun e=>by cases e) (fQ _)
   ·exact h
 ·split
  ·exact h.new _ _ _ (Or.inr (Or.inr rfl)) R5 (fun _=>rfl) hv
  ·exact h
 ·rename_i h16 h17 h18
  show L8 (doA g _ _ _ _ _ _ _).obs;unfold doA;split <;> first | exact h | exact h.setE _ _ _ _ R3 _ (hv _ R5) | skip
  all_goals first
   | (unfold F9;split <;> exact h)
   | (unfold bF;split <;> exact h)
   | (unfold V8;split <;> exact h)
   | (unfold D2;split <;> exact h)
   | (exact absurd rfl (h16 rfl))
   | (split <;> first | exact h | (split <;> exact h))
   | skip
  all_goals first
   | exact (h16 _ rfl rfl).elim
   | exact (h17 _ rfl rfl).elim
   | exact (h18 _ rfl rfl).elim
   | skip
theorem a3D {sl:List Int} (hf:s.frs=fs++[f]) (o:fH g f k a rest args):nB g cap (sl,s)=doD g cap k a sl s fs f rest args:=by
 have e1:s.frs.getLast?=some f:=by rw [hf];simp
 have e2:s.frs.dropLast=fs:=by rw [hf];simp
 unfold nB;simp only;rw[e1,e2];simp only;rw[o.op,o.ar,o.pops,o.stk];have e3:(rest++args).length - ((args.length:Nat):Int).toNat=rest.length:=by simp
 rw[e3,List.take_left,List.drop_left];rfl
structure RV (g:PgR) (R:RfR) (t:McA):Prop where
 v:D4 (R.ths.map ThR.slot) R.abs t
 i:C4 g t
 th:L8 R.abs.obs
 cap:R.cap=t.obs.length
theorem RV.frame (h:RV g R t) (hp:R8 g) {f:FrR} (hf:f∈R.frs):f.loc.length<=8/\f.stk.length<=18/\f.pc < 60/\f.pc < (g.f f.fn).n:=by
 have hm:D8 (sig (R.ths.map ThR.slot)) f.abs∈t.frs:=by rw [h.v.frs];exact List.mem_map.2 ⟨_,List.mem_map.2 ⟨f,hf,rfl⟩,rfl⟩
 have:=h.i.frame hp hm;have e1:(D8 (sig (R.ths.map ThR.slot)) f.abs).loc.length=f.loc.length:=by show (f.abs.loc.map _).length=_;rw [List.length_map];rfl
 have e2:(D8 (sig (R.ths.map ThR.slot)) f.abs).stk.length=f.stk.length:=by show (f.abs.stk.map _).length=_;rw [List.length_map];rfl
 rw[e1,e2] at this;exact this
theorem RV.frs_len (h:RV g R t):R.frs.length<=12:=by
 have:=h.i.depth;rw[h.v.frs,List.length_map] at this;have e:R.abs.frs.length=R.frs.length:=by show (R.frs.map _).length=_;rw [List.length_map]
 omega
theorem RV.bd (h:RV g R t) (hp:R8 g) (hn:R.ths.length<=100000000000):fI R :=
 ⟨by have:=h.frs_len;omega,fun f hf=>by have:=h.frame hp hf;omega,hn,fun o ho=>by
  have:=(h.th o.abs (List.mem_map.2 ⟨o,ho,rfl⟩)).2.1;have e:o.abs.2.length=o.fl.length:=rfl;omega⟩
theorem RV.rin (h:RV g R t):cI R :=
 ⟨fun v hv h2=>by
  have:=h.v.vals v hv h2;have hl:=this.2.lt;rw[List.length_map] at hl;exact⟨this.1,hl⟩,fun o ho v hv h2=>⟨(h.th o.abs (List.mem_map.2 ⟨o,ho,rfl⟩)).2.2.2 v hv h2,by
  have:=h.v.within o.abs (List.mem_map.2 ⟨o,ho,rfl⟩) v hv h2;have e:R.abs.obs.length=R.ths.length:=by show (R.ths.map _).length=_;rw [List.length_map]
  omega⟩⟩
theorem RV.sl (h:RV g R t):a0a R :=
 ⟨fun o ho=>by
  obtain⟨i,hi⟩:=List.mem_iff_getElem?.1 ho;have:=h.v.bd i o.slot (by rw [List.getElem?_map,hi];rfl);omega,fun o ho hk=>(h.th o.abs (List.mem_map.2 ⟨o,ho,rfl⟩)).2.2.1 hk⟩
theorem RV.kind (h:RV g R t):∀o,o∈R.ths->o.kind=1\/o.kind=2\/o.kind=3:=fun o ho=>(h.th o.abs (List.mem_map.2 ⟨o,ho,rfl⟩)).1
theorem RV.fl (h:RV g R t) {j:Nat} {o:ThR} (ho:R.ths[j]?=some o):o.fl.length<=12:=(h.th o.abs (List.mem_map.2 ⟨o,L2a ho,rfl⟩)).2.1
theorem RV.refIn (h:RV g R t) {f:FrR} (hf:f∈R.frs) {v:Val} (hv:v∈f.loc++f.stk):dZ R v:=fun h2 =>
 h.rin.vals v (E0.2 ⟨f.abs,List.mem_map.2 ⟨f,hf,rfl⟩,hv⟩) h2
end
section
variable {R:RfR} {W:World} {f:FrR} {fs:List FrR} {g:PgR} {mb:Nat} {own:Own}
theorem oX (h:A8 W own mb g R) (hf:R.frs=fs++[f]) (hfn:f.fn < g.n) (hpc:f.pc < (g.f f.fn).n) (hgn:g.n<=1000) (hcn:(g.f f.fn).n<=1000) (hfs:fs.length<=1000) (hstn:f.stk.length<=1000) (hop:(g.f f.fn).op f.pc=14) {st:Int} {P:RfR->Prop}
  (hcall:∀U,Below W.heap.size W U->Calls prog 137 #[.pointer (some ⟨mb,0,none⟩),.int .i64 ((g.f f.fn).ar f.pc)] U fun e w'=>e=.returned (.int .i64 st)/\∃own' R',P R'/\A8 w' own' mb g R'/\A2 own U own' w') :
  Calls prog 100 #[.pointer (some ⟨mb,0,none⟩)] W fun e w'=>e=.returned (.tuple #[])/\∃own' R',P R'/\A8 w' own' mb g { R' with st:=st }/\A2 own W own' w':=by
 have xx:=h.lt _ _ h.me;obtain⟨cb,cc,xs,m4,xm,xf,xw,k0,k1,k2,k3,m0,xp,x2,xv,y0,y1⟩:=h.front hf hfn hpc;obtain⟨sa,sc,xi,xy,xr⟩:=(h.stk fs.length f (by rw [hf];simp)).vals;obtain⟨la,lc,xh,_,_⟩:=(h.loc fs.length f (by rw [hf];simp)).vals;have xt:Hid (∀k,W.heap.size<=k->own k=none):=hid fun k hk=>by
  cases e:own k with
  | none=>rfl
  | some t=>have:=h.lt k t e;omega
 have HH:=hid h;have HC:=hid hcall;rw[xh] at k2;rw[xi] at k3;rw[hop] at y0;generalize har:(g.f f.fn).ar f.pc=ar at *
 have xl:(f.fn:Int) < (g.n:Int):=(fun (_:g.n<=1000) (_:(g.f f.fn).n<=1000) (_:fs.length<=1000) (_:f.stk.length<=1000)=>by omega) hgn hcn hfs hstn;have xu:(f.pc:Int) < ((g.f f.fn).n:Int):=by omega
 have xc:mb < W.heap.size+1:=by omega
 have xe:g.b < W.heap.size+1:=by omega
 have xd:(g.f f.fn).b < W.heap.size+1:=by omega
 clear h hcall xs hf xi xh xr xw har xy hop;go_enter func100,ntmps100;go_wp2_with fail;go_region
 go_wp2_with fail;refine (HC.out _ P4).mono ?_;rintro e w1 ⟨rfl,xb,R1,xj,xa,xg⟩;have xk:Hid (A2 own W xb w1):=hid ((A2.of_below P4).trans xg)
 have xq:=xa.lt _ _ xa.me;have n2:=xa.c2;have z2:=xa.fz 2;have xo:=hid xa;have xn:=hid xj;clear xa xg xj m4 xm xf k0 k1 k2 k3 m0 xp x2 xv y0 y1 xx xc xe xd;go_wp2_with fail;obtain⟨hF,hT⟩:=xo.out.setSt st;refine bodyPost_ret (v:=.tuple #[]) (by simp [results,results100,go_sem]) rfl ?_;exact⟨rfl,xb,R1,xn.out,hF,xk.out.trans hT⟩
theorem kH (h:A8 W own mb g R) (hf:R.frs=fs++[f]) (hfn:f.fn < g.n) (hpc:f.pc < (g.f f.fn).n) (hgn:g.n<=1000) (hcn:(g.f f.fn).n<=1000) (hfs:fs.length<=1000) (hstn:f.stk.length<=1000) (hop:(g.f f.fn).op f.pc=15) {st:Int} {P:RfR->Prop}
  (hcall:∀U,Below W.heap.size W U->Calls prog 138 #[.pointer (some ⟨mb,0,none⟩)] U fun e w'=>e=.returned (.int .i64 st)/\∃own' R',P R'/\A8 w' own' mb g R'/\A2 own U own' w') :
  Calls prog 100 #[.pointer (some ⟨mb,0,none⟩)] W fun e w'=>e=.returned (.tuple #[])/\∃own' R',P R'/\A8 w' own' mb g { R' with st:=st }/\A2 own W own' w':=by
 have xx:=h.lt _ _ h.me;obtain⟨cb,cc,xs,m4,xm,xf,xw,k0,k1,k2,k3,m0,xp,x2,xv,y0,y1⟩:=h.front hf hfn hpc;obtain⟨sa,sc,xi,xy,xr⟩:=(h.stk fs.length f (by rw [hf];simp)).vals;obtain⟨la,lc,xh,_,_⟩:=(h.loc fs.length f (by rw [hf];simp)).vals;have xt:Hid (∀k,W.heap.size<=k->own k=none):=hid fun k hk=>by
  cases e:own k with
  | none=>rfl
  | some t=>have:=h.lt k t e;omega
 have HH:=hid h;have HC:=hid hcall;rw[xh] at k2;rw[xi] at k3;rw[hop] at y0;generalize har:(g.f f.fn).ar f.pc=ar at *
 have xl:(f.fn:Int) < (g.n:Int):=(fun (_:g.n<=1000) (_:(g.f f.fn).n<=1000) (_:fs.length<=1000) (_:f.stk.length<=1000)=>by omega) hgn hcn hfs hstn;have xu:(f.pc:Int) < ((g.f f.fn).n:Int):=by omega
 have xc:mb < W.heap.size+1:=by omega
 have xe:g.b < W.heap.size+1:=by omega
 have xd:(g.f f.fn).b < W.heap.size+1:=by omega
 clear h hcall xs hf xi xh xr xw har xy hop;go_enter func100,ntmps100;go_wp2_with fail;go_region
 go_wp2_with fail;refine (HC.out _ P4).mono ?_;rintro e w1 ⟨rfl,xb,R1,xj,xa,xg⟩;have xk:Hid (A2 own W xb w1):=hid ((A2.of_below P4).trans xg)
 have xq:=xa.lt _ _ xa.me;have n2:=xa.c2;have z2:=xa.fz 2;have xo:=hid xa;have xn:=hid xj;clear xa xg xj m4 xm xf k0 k1 k2 k3 m0 xp x2 xv y0 y1 xx xc xe xd;go_wp2_with fail;obtain⟨hF,hT⟩:=xo.out.setSt st;refine bodyPost_ret (v:=.tuple #[]) (by simp [results,results100,go_sem]) rfl ?_;exact⟨rfl,xb,R1,xn.out,hF,xk.out.trans hT⟩
end
section
variable {x y:Val}
structure OpR (W:World) (own:Own) (mb:Nat) (g:PgR) (R:RfR) (t:McA) (fs:List FrR) (f:FrR) (k:Nat) (a:Int) (rest args:List Val):Prop where
 h:A8 W own mb g R
 hp:R8 g
 rv:RV g R t
 st:R.st=0
 hf:R.frs=fs++[f]
 stk:f.stk=rest++args
 op:(g.f f.fn).op f.pc=(k:Int)
 ar:(g.f f.fn).ar f.pc=a
 pops:N7 k (g.f a.toNat).p=args.length
 leg:E9 g.n (g.f f.fn).l (g.f f.fn).n k a=true
 fn:f.fn < g.n
 hloc:(f.loc.length:Int)=(g.f f.fn).l
 ths:R.ths.length<=10000000000
def F5 (own:Own) (mb:Nat) (g:PgR) (R:RfR) (m:List Int × McA) (W:World) (e:Ending) (w':World):Prop :=
 e=.returned (.tuple #[])/\∃own' R',A8 w' own' mb g R'/\R'.cap=R.cap/\(R'.ths.map ThR.slot,R'.abs)=m/\A2 own W own' w'/\∀b q,R'.da=some ⟨b,q,none⟩->∃q',R.da=some ⟨b,q',none⟩
section
variable {W:World} {own:Own} {mb:Nat} {g:PgR} {R:RfR} {t:McA} {fs:List FrR} {f:FrR} {k:Nat} {a:Int} {rest args:List Val}
theorem OpR.mem (o:OpR W own mb g R t fs f k a rest args):f∈R.frs:=by rw [o.hf];simp
theorem OpR.bds (o:OpR W own mb g R t fs f k a rest args):f.loc.length<=8/\f.stk.length<=18/\f.pc < 60/\f.pc < (g.f f.fn).n:=o.rv.frame o.hp o.mem
theorem OpR.gn (o:OpR W own mb g R t fs f k a rest args):g.n<=1000:=by have:=o.hp.sized.2.1;omega
theorem OpR.cn (o:OpR W own mb g R t fs f k a rest args):(g.f f.fn).n<=1000:=by have:=o.hp.sized.bd o.fn;omega
theorem OpR.fsn (o:OpR W own mb g R t fs f k a rest args):fs.length<=11:=by have:=o.rv.frs_len;rw [o.hf] at this;simp at this;omega
theorem OpR.bd (o:OpR W own mb g R t fs f k a rest args):fI R:=o.rv.bd o.hp (by have:=o.ths;omega)
theorem OpR.ref (o:OpR W own mb g R t fs f k a rest args) {v:Val} (hv:v∈args):dZ R v:=o.rv.refIn o.mem (by rw [o.stk];simp [hv])
theorem OpR.hfA (o:OpR W own mb g R t fs f k a rest args):R.abs.frs=fs.map FrR.abs++[f.abs]:=by show R.frs.map FrR.abs=_;rw [o.hf];simp
theorem OpR.hfl (o:OpR W own mb g R t fs f k a rest args):R.frs[fs.length]?=some f:=by rw [o.hf];simp
theorem OpR.opAt (o:OpR W own mb g R t fs f k a rest args):fH g f.abs k a rest args:=⟨o.op,o.ar,o.stk,o.pops⟩
theorem OpR.slen (o:OpR W own mb g R t fs f k a rest args):f.stk.length=rest.length+args.length:=by rw [o.stk,List.length_append]
theorem OpR.thn (o:OpR W own mb g R t fs f k a rest args):R.ths.length<=100000000000:=by have:=o.ths;omega
theorem OpR.lists (o:OpR W own mb g R t fs f k a rest args):∃sa sc la lc,f.sv=.slice sa f.stk.length sc/\f.lv=.slice la f.loc.length lc/\f.stk.length<=sc/\f.loc.length<=lc /\
  (0 < f.stk.length->∃sb,sa=some ⟨sb,0,none⟩/\sb < W.heap.size/\own sb=some (.stk fs.length)/\∀V,Below W.heap.size W V->∀(i:Nat) (x:Val),f.stk[i]?=some x->V.cell? ⟨sb,i*2,none⟩=some (.int .u8 x.1)/\V.cell? ⟨sb,i*2+1,none⟩=some (.int .i64 x.2)) /\
  (0 < f.loc.length->∃lb,la=some ⟨lb,0,none⟩/\lb < W.heap.size/\own lb=some (.loc fs.length)/\∀V,Below W.heap.size W V->∀(i:Nat) (x:Val),f.loc[i]?=some x->V.cell? ⟨lb,i*2,none⟩=some (.int .u8 x.1)/\V.cell? ⟨lb,i*2+1,none⟩=some (.int .i64 x.2)):=by
 have hs:=o.h.stk fs.length f o.hfl;have hl:=o.h.loc fs.length f o.hfl;obtain⟨sa,sc,xa,xe,xf⟩:=hs.vals;obtain⟨la,lc,xb,xd,xc⟩:=hl.vals;refine⟨sa,sc,la,lc,xa,xb,xe,xd,fun h0=>?_,fun h0=>?_⟩
 ·obtain ⟨sb,rfl,h1,h2⟩:=xf h0
  exact⟨sb,rfl,h1,hs.2 sb (by rw [xa];rfl),fun V hV i x hx=>⟨keep hV h1 (h2 i x hx).1,keep hV h1 (h2 i x hx).2⟩⟩
 ·obtain ⟨sb,rfl,h1,h2⟩:=xc h0
  exact⟨sb,rfl,h1,hl.2 sb (by rw [xb];rfl),fun V hV i x hx=>⟨keep hV h1 (h2 i x hx).1,keep hV h1 (h2 i x hx).2⟩⟩
theorem OpR.at1 (o:OpR W own mb g R t fs f k a rest [x]):∃sb sc la lc,f.sv=.slice (some ⟨sb,0,none⟩) (rest.length+1) sc/\f.lv=.slice la f.loc.length lc/\own sb=some (.stk fs.length)/\∀V,Below W.heap.size W V->sb < V.heap.size/\V.cell? ⟨sb,rest.length*2,none⟩=some (.int .u8 x.1)/\V.cell? ⟨sb,rest.length*2+1,none⟩=some (.int .i64 x.2):=by
 obtain⟨sa,sc,la,lc,xa,xd,_,_,hs,_⟩:=o.lists;have hl:f.stk.length=rest.length+1:=o.slen;obtain⟨sb,rfl,xc,xb,hc⟩:=hs R4;rw[hl] at xa;have e:f.stk[rest.length]?=some x:=by rw [o.stk];simp
 exact⟨sb,sc,la,lc,xa,xd,xb,fun V hV=>⟨L0a xc hV.size,hc V hV _ _ e⟩⟩
theorem OpR.at2 (o:OpR W own mb g R t fs f k a rest [x,y]):∃sb sc la lc,f.sv=.slice (some ⟨sb,0,none⟩) (rest.length+2) sc/\f.lv=.slice la f.loc.length lc/\own sb=some (.stk fs.length)/\∀V,Below W.heap.size W V->sb < V.heap.size/\V.cell? ⟨sb,rest.length*2,none⟩=some (.int .u8 x.1)/\V.cell? ⟨sb,rest.length*2+1,none⟩=some (.int .i64 x.2)/\V.cell? ⟨sb,(rest.length+1)*2,none⟩=some (.int .u8 y.1)/\V.cell? ⟨sb,(rest.length+1)*2+1,none⟩=some (.int .i64 y.2):=by
 obtain⟨sa,sc,la,lc,xa,xd,_,_,hs,_⟩:=o.lists;have hl:f.stk.length=rest.length+2:=o.slen;obtain⟨sb,rfl,xc,xb,hc⟩:=hs R4;rw[hl] at xa;have e:f.stk[rest.length]?=some x:=by rw [o.stk];simp
 have e2:f.stk[rest.length+1]?=some y:=by rw [o.stk,List.getElem?_append_right R4];simp
 exact⟨sb,sc,la,lc,xa,xd,xb,fun V hV=>⟨L0a xc hV.size,(hc V hV _ _ e).1,(hc V hV _ _ e).2,hc V hV _ _ e2⟩⟩
theorem OpR.at3 {z:Val} (o:OpR W own mb g R t fs f k a rest [x,y,z]):∃sb sc la lc,f.sv=.slice (some ⟨sb,0,none⟩) (rest.length+3) sc/\f.lv=.slice la f.loc.length lc/\own sb=some (.stk fs.length)/\∀V,Below W.heap.size W V->sb < V.heap.size/\V.cell? ⟨sb,rest.length*2,none⟩=some (.int .u8 x.1)/\V.cell? ⟨sb,rest.length*2+1,none⟩=some (.int .i64 x.2)/\V.cell? ⟨sb,(rest.length+1)*2,none⟩=some (.int .u8 y.1)/\V.cell? ⟨sb,(rest.length+1)*2+1,none⟩=some (.int .i64 y.2)/\V.cell? ⟨sb,(rest.length+2)*2,none⟩=some (.int .u8 z.1)/\V.cell? ⟨sb,(rest.length+2)*2+1,none⟩=some (.int .i64 z.2):=by
 obtain⟨sa,sc,la,lc,xa,xd,_,_,hs,_⟩:=o.lists;have hl:f.stk.length=rest.length+3:=o.slen;obtain⟨sb,rfl,xc,xb,hc⟩:=hs R4;rw[hl] at xa;have e:f.stk[rest.length]?=some x:=by rw [o.stk];simp
 have e2:f.stk[rest.length+1]?=some y:=by rw [o.stk,List.getElem?_append_right R4];simp
 have e3:f.stk[rest.length+2]?=some z:=by rw [o.stk,List.getElem?_append_right R4];simp
 exact⟨sb,sc,la,lc,xa,xd,xb,fun V hV=>⟨L0a xc hV.size,(hc V hV _ _ e).1,(hc V hV _ _ e).2,(hc V hV _ _ e2).1,(hc V hV _ _ e2).2,hc V hV _ _ e3⟩⟩
theorem OpR.go (o:OpR W own mb g R t fs f k a rest args) (h14:k≠14) (h15:k≠15) (h27:k≠27) {P:RfR->Prop} {drop to:Nat} {push:List Val} {m:List Int × McA} (hdr:drop<=f.stk.length) (hpu:push.length<=1000)
  (hP:∀R',P R'->(∃l,R'.frs=fs++[{ f with loc:=l }])/\R'.cv=R.cv/\∀b q,R'.da=some ⟨b,q,none⟩->b < W.heap.size)
  (hdo:∀U,Below W.heap.size W U->Calls prog 139 #[.pointer (some ⟨mb,0,none⟩),.agg #[.int .i64 (k:Int),.int .i64 a],.agg #[.int .i64 (f.fn:Int),.int .i64 (f.pc:Int),f.lv,f.sv]] U fun e w'=>J3 own mb g P (drop:Int) push (to:Int) 0 U e w')
  (hend:∀R' sv l,P R'->R'.frs=fs++[{ f with loc:=l }]->R'.cap=R.cap/\(R'.ths.map ThR.slot,RfR.abs { R' with frs:=fs++[{ f with loc:=l,pc:=to,sv:=sv,stk:=f.stk.take (f.stk.length - drop)++push }] })=m/\∀b q,R'.da=some ⟨b,q,none⟩->∃q',R.da=some ⟨b,q',none⟩) :
  Calls prog 100 #[.pointer (some ⟨mb,0,none⟩)] W fun e w'=>F5 own mb g R m W e w':=by
 have hb:=o.bds;have xd:=o.fsn;refine (a5o o.h o.hf o.fn hb.2.2.2 o.gn o.cn R4 R4 (by rw [o.op];omega) (by rw [o.op];omega) (by rw [o.op];omega) hdr hpu hP (fun U hB=>by rw [o.op,o.ar];exact hdo U hB)).mono ?_;rintro e w' ⟨rfl,xa,R',sv,l,xc,xb,hR,hT⟩;obtain⟨h1,h2,h3⟩:=hend R' sv l xc xb;exact⟨rfl,xa,_,hR,h1,h2,hT,h3⟩
theorem OpR.goP (o:OpR W own mb g R t fs f k a rest args) (h14:k≠14) (h15:k≠15) (h27:k≠27) (drop to:Nat) {dI tI:Int} {push l:List Val} (hdI:dI=(drop:Int)) (htI:tI=(to:Int)) (hdr:drop<=f.stk.length) (hpu:push.length<=1000) (hl:f.stk.take (f.stk.length - drop)++push=l)
  (hdo:∀U,Below W.heap.size W U->Calls prog 139 #[.pointer (some ⟨mb,0,none⟩),.agg #[.int .i64 (k:Int),.int .i64 a],.agg #[.int .i64 (f.fn:Int),.int .i64 (f.pc:Int),f.lv,f.sv]] U fun e w'=>J3 own mb g (fun R'=>R'=R) dI push tI 0 U e w') :
  Calls prog 100 #[.pointer (some ⟨mb,0,none⟩)] W fun e w'=>F5 own mb g R (R.ths.map ThR.slot,goA R.abs (fs.map FrR.abs) f.abs to l) W e w':=by
 subst hdI htI;refine o.go h14 h15 h27 hdr hpu (fun R' e=>?_) hdo (fun R' sv l' e hfr=>?_)
 ·subst e
  exact⟨⟨f.loc,by rw [o.hf]⟩,rfl,fun b q e=>(o.h.dro b q e).1⟩
 ·subst e
  rw[o.hf] at hfr;have e2:f.loc=l':=by
   have:=List.append_cancel_left hfr;simp only[List.cons.injEq,and_true] at this;rw[this]
  subst e2;refine⟨rfl,Prod.ext rfl ?_,fun b q e=>⟨q,e⟩⟩;show (⟨R'.st,R'.out,(fs++[_]).map FrR.abs,_,R'.dr⟩:McA)=_;rw[o.st,List.map_append,List.map_cons,List.map_nil,hl];rfl
theorem OpR.trap (o:OpR W own mb g R t fs f k a rest args) (h14:k≠14) (h15:k≠15) (h27:k≠27) {st:Int} (ht:st≠0)
  (hdo:∀U,Below W.heap.size W U->Calls prog 139 #[.pointer (some ⟨mb,0,none⟩),.agg #[.int .i64 (k:Int),.int .i64 a],.agg #[.int .i64 (f.fn:Int),.int .i64 (f.pc:Int),f.lv,f.sv]] U fun e w'=>J3 own mb g (fun R'=>R'=R) 0 [] 0 st U e w') :
  Calls prog 100 #[.pointer (some ⟨mb,0,none⟩)] W fun e w'=>F5 own mb g R (R.ths.map ThR.slot,C7 R.abs st) W e w':=by
 have hb:=o.bds;have xb:=o.fsn;refine (a1F o.h o.hf o.fn hb.2.2.2 o.gn o.cn R4 R4 (by rw [o.op];omega) (by rw [o.op];omega) (by rw [o.op];omega) ht (fun U hB=>by rw [o.op,o.ar];exact hdo U hB)).mono ?_;rintro e w' ⟨rfl,xa,hR,hT⟩;exact⟨rfl,xa,_,hR,rfl,rfl,hT,fun b q e=>⟨q,e⟩⟩
theorem OpR.simple (o:OpR W own mb g R t fs f k a rest args) (hk:k < 16\/24 < k) {P:RfR->Prop} {drop:Int} {push:List Val} {to trap:Int} (hpd:∀R',P R'->∀b q,R'.da=some ⟨b,q,none⟩->b < W.heap.size)
  (hc:∀V,Below W.heap.size W V->Calls prog 185 #[.pointer (some ⟨mb,0,none⟩),.agg #[.int .i64 (k:Int),.int .i64 a],.int .i64 (f.pc:Int),.agg #[.int .i64 (f.fn:Int),.int .i64 (f.pc:Int),f.lv,f.sv]] V fun e w'=>J3 own mb g P drop push to trap V e w') :
  ∀U,Below W.heap.size W U->Calls prog 139 #[.pointer (some ⟨mb,0,none⟩),.agg #[.int .i64 (k:Int),.int .i64 a],.agg #[.int .i64 (f.fn:Int),.int .i64 (f.pc:Int),f.lv,f.sv]] U fun e w'=>J3 own mb g P drop push to trap U e w':=by
 intro U hB;have xb:(k:Int) < 16\/24 < (k:Int):=by omega
 obtain⟨sa,sc,la,lc,xc,xf,_,_,hs,_⟩:=o.lists;have hb:=o.bds;rw[xc,xf] at hc ⊢;by_cases h0:f.stk.length=0
 ·rw [h0] at hc ⊢
  exact xK (o.h.same hB) f.fn f.pc a k xb (fun R' h b q e=>L0a (hpd R' h b q e) hB.size) fun V hV=>hc V (hB.trans (hV.mono hB.size))
 ·obtain ⟨sb,rfl,xd,_,xe⟩:=hs R4
  obtain⟨m,hm⟩:∃m,f.stk.length=m+1:=⟨f.stk.length - 1,by omega⟩
  have hx:f.stk[m]?=some f.stk[m]:=L1b R4;have xa:=xe U hB m _ hx;rw[hm] at hc ⊢;exact a1f (o.h.same hB) f.fn f.pc a k xb (L0a xd hB.size) xa.1 xa.2 R4 (fun R' h b q e=>L0a (hpd R' h b q e) hB.size) fun V hV=>hc V (hB.trans (hV.mono hB.size))
theorem OpR.pd (o:OpR W own mb g R t fs f k a rest args):∀R',R'=R->∀b q,R'.da=some ⟨b,q,none⟩->b < W.heap.size:=fun R' e b q hq=>by subst e;exact (o.h.dro b q hq).1
theorem OpR.does (o:OpR W own mb g R t fs f k a rest args) {sb m sc nl lc:Nat} {la:Option Addr} (hsv:f.sv=.slice (some ⟨sb,0,none⟩) (m+1) sc) (hlv:f.lv=.slice la nl lc) {tk tn:Int} (ht:∀V,Below W.heap.size W V->sb < V.heap.size/\V.cell? ⟨sb,m*2,none⟩=some (.int .u8 tk)/\V.cell? ⟨sb,m*2+1,none⟩=some (.int .i64 tn)) (hm:m<=1000) ⦃P:RfR->Prop⦄ ⦃drop:Int⦄ ⦃push:List Val⦄ ⦃to trap:Int⦄ ⦃c:Nat⦄ ⦃X:Value⦄ (hpd:∀R',P R'->∀b q,R'.da=some ⟨b,q,none⟩->b < W.heap.size)
  (hc:∀V,Below W.heap.size W V->Calls prog c #[.pointer (some ⟨mb,0,none⟩),.agg #[.int .i64 (k:Int),.int .i64 a],.int .i64 (f.pc:Int),X] V fun e w'=>J3 own mb g P drop push to trap V e w') (hk:((k:Int),c,X)∈eD (.agg #[.int .u8 tk,.int .i64 tn]) (.slice (some ⟨sb,0,none⟩) (m+1) sc):=by simp [eD];try rfl) :
  ∀U,Below W.heap.size W U->Calls prog 139 #[.pointer (some ⟨mb,0,none⟩),.agg #[.int .i64 (k:Int),.int .i64 a],.agg #[.int .i64 (f.fn:Int),.int .i64 (f.pc:Int),f.lv,f.sv]] U fun e w'=>J3 own mb g P drop push to trap U e w':=fun U hB=>by
 rw[hsv,hlv];exact qQ (o.h.same hB) f.fn f.pc a k c X (ht U hB).1 (ht U hB).2.1 (ht U hB).2.2 hm hk (fun R' h b q e=>L0a (hpd R' h b q e) hB.size) fun V hV=>hc V (hB.trans (hV.mono hB.size))
theorem OpR.doesP (o:OpR W own mb g R t fs f k a rest args) {sb m sc nl lc:Nat} {la:Option Addr} (hsv:f.sv=.slice (some ⟨sb,0,none⟩) (m+1) sc) (hlv:f.lv=.slice la nl lc) {tk tn:Int} (ht:∀V,Below W.heap.size W V->sb < V.heap.size/\V.cell? ⟨sb,m*2,none⟩=some (.int .u8 tk)/\V.cell? ⟨sb,m*2+1,none⟩=some (.int .i64 tn)) (hm:m<=1000) ⦃drop:Int⦄ ⦃push:List Val⦄ ⦃to trap:Int⦄ ⦃c:Nat⦄ ⦃X:Value⦄
  (hc:∀V,Below W.heap.size W V->Calls prog c #[.pointer (some ⟨mb,0,none⟩),.agg #[.int .i64 (k:Int),.int .i64 a],.int .i64 (f.pc:Int),X] V fun e w'=>C3 drop push to trap V e w') (hk:((k:Int),c,X)∈eD (.agg #[.int .u8 tk,.int .i64 tn]) (.slice (some ⟨sb,0,none⟩) (m+1) sc):=by simp [eD];try rfl) :
  ∀U,Below W.heap.size W U->Calls prog 139 #[.pointer (some ⟨mb,0,none⟩),.agg #[.int .i64 (k:Int),.int .i64 a],.agg #[.int .i64 (f.fn:Int),.int .i64 (f.pc:Int),f.lv,f.sv]] U fun e w'=>J3 own mb g (fun R'=>R'=R) drop push to trap U e w' :=
 o.does hsv hlv ht hm o.pd (fun V hV=>(hc V hV).mono fun _ _ hd=>hd.toQ (o.h.same hV)) hk
theorem OpR.simpleP (o:OpR W own mb g R t fs f k a rest args) (hk:k < 16\/24 < k) {drop:Int} {push:List Val} {to trap:Int}
  (hc:∀V,Below W.heap.size W V->Calls prog 185 #[.pointer (some ⟨mb,0,none⟩),.agg #[.int .i64 (k:Int),.int .i64 a],.int .i64 (f.pc:Int),.agg #[.int .i64 (f.fn:Int),.int .i64 (f.pc:Int),f.lv,f.sv]] V fun e w'=>C3 drop push to trap V e w') :
  ∀U,Below W.heap.size W U->Calls prog 139 #[.pointer (some ⟨mb,0,none⟩),.agg #[.int .i64 (k:Int),.int .i64 a],.agg #[.int .i64 (f.fn:Int),.int .i64 (f.pc:Int),f.lv,f.sv]] U fun e w'=>J3 own mb g (fun R'=>R'=R) drop push to trap U e w' :=
 o.simple hk o.pd fun V hV=>(hc V hV).mono fun _ _ hd=>hd.toQ (o.h.same hV)
end
end
section
variable {cb cc mb:Nat} {f:FrR} {fs:List FrR} {g:PgR} {own:Own} {w:World}
theorem A8.cutFrames {R:RfR} (h:A8 w own mb g R) (hf:R.frs=fs++[f]) (hcv:R.cv=.slice (some ⟨cb,0,none⟩) R.frs.length cc) :
  A8 (w.setCell ⟨mb,4,none⟩ (.slice (some ⟨cb,0,none⟩) fs.length cc)) own mb g { R with cv:=.slice (some ⟨cb,0,none⟩) fs.length cc,frs:=fs }/\A2 own w own (w.setCell ⟨mb,4,none⟩ (.slice (some ⟨cb,0,none⟩) fs.length cc)):=by
 obtain⟨k1,k2⟩:=h.mach 4 (.slice (some ⟨cb,0,none⟩) fs.length cc);have hs:(w.setCell ⟨mb,4,none⟩ (.slice (some ⟨cb,0,none⟩) fs.length cc)).heap.size=w.heap.size:=by simp
 have keep:∀t,t≠.mach->∀k,own k=some t->(w.setCell ⟨mb,4,none⟩ (.slice (some ⟨cb,0,none⟩) fs.length cc)).heap[k]?=w.heap[k]?/\own k=some t:=fun t ht k e=>⟨k1 t k e ht,e⟩
 have xb:=h.called;rw[hcv] at xb;have xa:=xb.cut (m:=fs.length) (by rw [hf];simp);rw[hf,List.flatMap_append,List.take_append_of_le_length (by rw [X5 FrR.cells_len];exact L1c _),List.take_of_length_le (by rw [X5 FrR.cells_len];exact L1c _)] at xa;have xc:∀i x,fs[i]?=some x->R.frs[i]?=some x:=fun i x hx=>by
  rw[hf,List.getElem?_append_left (L1a.1 hx).1];exact hx
 refine⟨h.edit (R':={ R with cv:=.slice (some ⟨cb,0,none⟩) fs.length cc,frs:=fs }) (by rw [hs];exact L1c _) (fun k t e=>by rw [hs];exact h.lt k t e) h.me (fun k hn _ _=>⟨hn,k2 k hn⟩) (B8 _ R3) ((B8 _ R3).trans h.c1) ((B8 _ R3).trans h.c2) ((B8 _ R3).trans h.c3) (World.cell?_setCell_same _ _ _ h.c4) ((B8 _ R3).trans h.c5) (B8 _ R3) (fun j=>by go_simp;exact h.fz j)
  (h.out.kept (keep _ R5)) (xa.kept (keep _ R5)) (h.things.kept (keep _ R5)) (fun i x hx=>(h.loc i x (xc i x hx)).kept (keep _ R5)) (fun i x hx=>(h.stk i x (xc i x hx)).kept (keep _ R5)) (fun i x hx=>(h.fld i x hx).kept (keep _ R5)) (fun b o e=>(h.dro b o e).2) rfl rfl rfl,⟨rfl,rfl,rfl,by simp,fun k _ hn=>k2 k hn,fun _ _=>rfl⟩⟩
theorem A8.growTop {w':World} {R:RfR} {f':FrR} (h:A8 w own mb g R) (hf:R.frs=fs++[f]) (hcv:R.cv=.slice (some ⟨cb,0,none⟩) R.frs.length cc) (hlv:f'.lv=f.lv) (hloc:f'.loc=f.loc) (hsize:w.heap.size<=w'.heap.size) (hk:∀k,k < w.heap.size->k≠cb->own k≠some (.stk fs.length)->w'.heap[k]?=w.heap[k]?)
  (hrow:w'.ownsRow 0 86 4 (.slice (some ⟨cb,0,none⟩) R.frs.length cc) R.frs.length ((fs++[f']).flatMap FrR.cells)) (hst:w'.ownsRow 0 92 2 f'.sv f'.stk.length (A5 f'.stk)) (hon:F4 w own f'.sv (.stk fs.length)) :
  A8 w' (own.upd f'.sv.ownBlock (.stk fs.length)) mb g { R with frs:=fs++[f'] }:=by
 have xb:=h.lt;have xd:own cb=some .called:=h.called.2 cb (by rw [hcv];rfl);have xa:∀k,k < w.heap.size->(own.upd f'.sv.ownBlock (.stk fs.length)) k=own k:=fun k hk'=>Own.upd_old hon hk'
 have keep:∀t,t≠.called->t≠.stk fs.length->∀k,own k=some t->w'.heap[k]?=w.heap[k]?/\(own.upd f'.sv.ownBlock (.stk fs.length)) k=some t:=fun t ht ht2 k hk'=>⟨hk k (xb k t hk') (fun e=>by rw [e,xd] at hk';exact ht (Option.some.inj hk').symm) (by rw [hk'];exact fun e=>ht2 (Option.some.inj e)),by rw [xa k (xb k t hk')];exact hk'⟩
 have xe:=(keep .mach R5 R5 mb h.me).1;have kc:∀i,w'.cell? ⟨mb,i,none⟩=w.cell? ⟨mb,i,none⟩:=fun i=>L0b (w:=w) (a:=⟨mb,i,none⟩) xe
 have xf:(fs++[f']).length=R.frs.length:=by rw [hf];simp
 have xg:R.frs[fs.length]?=some f:=by rw [hf];simp
 have xc:∀i x,(fs++[f'])[i]?=some x->(i=fs.length/\x=f')\/(i < fs.length/\R.frs[i]?=some x):=fun i x hx=>by
  rcases Nat.lt_or_ge i fs.length with hl | hl
  ·rw [List.getElem?_append_left hl] at hx
   exact Or.inr ⟨hl,by rw [hf,List.getElem?_append_left hl];exact hx⟩
  ·rw [List.getElem?_append_right hl] at hx
   have:i - fs.length=0:=by
    have:=(L1a.1 hx).1;simp at this;omega
   rw[this] at hx;exact Or.inl ⟨by omega,by simpa using hx.symm⟩
 refine h.edit (R':={ R with frs:=fs++[f'] }) hsize (Own.upd_lt xb hsize hst) (by rw [xa _ (xb _ _ h.me)];exact h.me) (fun k hn hks _=>⟨by rw [xa k hks];exact hn,hk k hks (fun e=>by rw [e,xd] at hn;cases hn) (by rw [hn];simp)⟩) (kc 0) ((kc 1).trans h.c1) ((kc 2).trans h.c2) ((kc 3).trans h.c3) ((kc 4).trans h.c4) ((kc 5).trans h.c5) (kc 6) (fun j=>by rw [L0c (w:=w) (a:=⟨mb,j,none⟩) xe];exact h.fz j)
  (h.out.kept (keep _ R5 R5)) ⟨?_,fun b hb=>?_⟩ (h.things.kept (keep _ R5 R5)) (fun i x hx=>?_) (fun i x hx=>?_) (fun i x hx=>(h.fld i x hx).kept (keep _ R5 R5)) (fun b o e=>by rw [xa b (h.dro b o e).1];exact (h.dro b o e).2) rfl rfl rfl
 ·rw [show ({ R with frs:=fs++[f'] } : RfR).frs.length=R.frs.length from xf]
  show w'.ownsRow 0 86 4 R.cv R.frs.length _;rw[hcv];exact hrow
 ·have:=h.called.2 b hb
  rw[xa b (xb b _ this)];exact this
 ·rcases xc i x hx with ⟨rfl,rfl⟩ | ⟨hi,hx⟩
  ·rw [hlv,hloc]
   exact (h.loc _ f xg).kept (keep _ R5 R5)
  ·exact (h.loc i x hx).kept (keep _ R5 R5)
 ·rcases xc i x hx with ⟨rfl,rfl⟩ | ⟨hi,hx⟩
  ·exact ⟨hst,fun b hb=>by simp [Own.upd,hb]⟩
  ·exact (h.stk i x hx).kept (keep _ R5 Q8)
theorem a1Z {X w4:World} {R:RfR} {f:FrR} {x:Val} {va:Option Addr} {vc:Nat} (h:A8 w own mb g R) (hf:R.frs=fs++[f]) (hcv:R.cv=.slice (some ⟨cb,0,none⟩) R.frs.length cc) (hX:Below w.heap.size w X) (hgrow:X.grownBy w4 f.sv.ownBlock) (hown:w4.ownsRow 0 92 2 (.slice va (f.stk.length+1) vc) (f.stk.length+1) (A5 f.stk++O1 x)) (hat:∀b,(Value.slice va (f.stk.length+1) vc).ownBlock=some b->f.sv.ownBlock=some b\/w.heap.size<=b) :
  w4.cell? ⟨mb,4,none⟩=some R.cv/\mb < w4.heap.size/\cb < w4.heap.size/\w4.cell? ⟨cb,fs.length*4+3,none⟩=some f.sv/\w4.cell? ⟨cb,fs.length*4+1,none⟩=some (.int .i64 (f.pc:Int))/\(∀j,w4.frozen? ⟨cb,j,none⟩=false)/\cb≠mb /\
   A8 ((w4.setCell ⟨cb,fs.length*4+3,none⟩ (.slice va (f.stk.length+1) vc)).setCell ⟨cb,fs.length*4+1,none⟩ (.int .i64 ((f.pc:Int)+1))) (own.upd (Value.slice va (f.stk.length+1) vc).ownBlock (.stk fs.length)) mb g { R with frs:=fs++[{ f with pc:=f.pc+1,sv:=.slice va (f.stk.length+1) vc,stk:=f.stk++[x] }] } /\
   A2 own w (own.upd (Value.slice va (f.stk.length+1) vc).ownBlock (.stk fs.length)) ((w4.setCell ⟨cb,fs.length*4+3,none⟩ (.slice va (f.stk.length+1) vc)).setCell ⟨cb,fs.length*4+1,none⟩ (.int .i64 ((f.pc:Int)+1))):=by
 have xm:=h.lt _ _ h.me;have xa:own cb=some .called:=h.called.2 cb (by rw [hcv];rfl);have xc:=h.lt _ _ xa;have xn:cb≠mb:=fun e=>by rw [e,h.me] at xa;cases xa
 have xe:R.frs[fs.length]?=some f:=by rw [hf];simp
 have xj:∀b,f.sv.ownBlock=some b->own b=some (.stk fs.length):=(h.stk fs.length f xe).2
 have xd:w.heap.size<=w4.heap.size:=Nat.le_trans hX.size hgrow.size;have xb:∀k,k < w.heap.size->own k≠some (.stk fs.length)->w4.heap[k]?=w.heap[k]?:=fun k hk ho=>by
  rw[hgrow.block k (L0a hk hX.size) (fun e=>ho (xj k e.symm)),hX.block k hk]
 have xf:=xb cb xc (by rw [xa];simp);have xr:=xb mb xm (by rw [h.me];simp);have xi:F4 w own (.slice va (f.stk.length+1) vc) (.stk fs.length):=fun b hb=>by
  rcases hat b hb with e | e
  ·exact Or.inl (xj b e)
  ·exact Or.inr e
 have xk:(Value.slice va (f.stk.length+1) vc).ownBlock≠some cb:=fun e=>by
  rcases xi cb e with e | e
  ·rw [xa] at e;cases e
  ·omega
 have hl:w4.ownsRow 0 86 4 (.slice (some ⟨cb,0,none⟩) R.frs.length cc) R.frs.length (R.frs.flatMap FrR.cells):=by
  have h9:=h.called.1;rw[hcv] at h9;exact A7 h9 fun b hb=>by
   obtain rfl:cb=b:=by simpa [Value.ownBlock] using hb
   exact xf
 have hr:=(World.ownsRow.stored (World.ownsRow.stored hl (fs.length*4+3) (.slice va (f.stk.length+1) vc)).1 (fs.length*4+1) (.int .i64 ((f.pc:Int)+1))).1;rw[<- G6 (c:=FrR.cells) FrR.cells_len (l:=R.frs) (i:=fs.length) (j:=3) (x:=f) (y:={ f with sv:=.slice va (f.stk.length+1) vc,stk:=f.stk++[x] }) (u:=.slice va (f.stk.length+1) vc) xe R4 rfl,
  <- G6 (c:=FrR.cells) FrR.cells_len (l:=R.frs.set fs.length { f with sv:=.slice va (f.stk.length+1) vc,stk:=f.stk++[x] }) (i:=fs.length) (j:=1) (x:={ f with sv:=.slice va (f.stk.length+1) vc,stk:=f.stk++[x] }) (y:={ f with pc:=f.pc+1,sv:=.slice va (f.stk.length+1) vc,stk:=f.stk++[x] }) (u:=.int .i64 ((f.pc:Int)+1)) (by rw [List.getElem?_set_self (by rw [hf];simp)]) R4 (by simp [FrR.cells]),List.set_set] at hr
 have xh:R.frs.set fs.length { f with pc:=f.pc+1,sv:=.slice va (f.stk.length+1) vc,stk:=f.stk++[x] }=fs++[{ f with pc:=f.pc+1,sv:=.slice va (f.stk.length+1) vc,stk:=f.stk++[x] }]:=by rw [hf];simp
 rw[xh] at hr;have hF:∀k,k≠cb->((w4.setCell ⟨cb,fs.length*4+3,none⟩ (.slice va (f.stk.length+1) vc)).setCell ⟨cb,fs.length*4+1,none⟩ (.int .i64 ((f.pc:Int)+1))).heap[k]?=w4.heap[k]?:=fun k hk=>by
  rw[heap_setCell_other _ _ _ _ hk,heap_setCell_other _ _ _ _ hk]
 obtain⟨a',xw,xq,_,xt⟩:=Row.cells FrR.cells_len h.called;have xg:0 < R.frs.length:=by rw [hf];simp
 obtain⟨b',e',xv,_,xs,xl⟩:=xt xg;have xu:b'=cb:=by
  rw[xq,e'] at hcv
  injection hcv with q _ _
  injection q with q
  injection q with q
 subst xu;have xo:w4.cell? ⟨b',fs.length*4+3,none⟩=some f.sv:=by rw [L0b (w:=w) (a:=⟨b',fs.length*4+3,none⟩) xf];exact xl fs.length 3 f _ xe R3 rfl
 have xp:w4.cell? ⟨b',fs.length*4+1,none⟩=some (.int .i64 (f.pc:Int)):=by rw [L0b (w:=w) (a:=⟨b',fs.length*4+1,none⟩) xf];exact xl fs.length 1 f _ xe R3 rfl
 refine⟨by rw [L0b (w:=w) (a:=⟨mb,4,none⟩) xr];exact h.c4,L0a xm xd,L0a xc xd,xo,xp,fun j=>by rw [L0c (w:=w) (a:=⟨b',j,none⟩) xf];exact xs j,xn,?_,?_⟩
 ·exact h.growTop (f':={ f with pc:=f.pc+1,sv:=.slice va (f.stk.length+1) vc,stk:=f.stk++[x] }) hf hcv rfl rfl (by simpa using xd) (fun k hk hne ho=>(hF k hne).trans (xb k hk ho)) hr
   (by
    have h9:=ownsRow_setCell_other (a:=⟨b',fs.length*4+1,none⟩) (ownsRow_setCell_other (a:=⟨b',fs.length*4+3,none⟩) hown xk (.slice va (f.stk.length+1) vc)) xk (.int .i64 ((f.pc:Int)+1));rw[List.length_append,G9];simpa [A5] using h9) xi
 ·refine ⟨hgrow.os.trans hX.os,hgrow.tape.trans hX.tape,hgrow.output.trans hX.output,by simpa using xd,fun k hk hn=>?_,fun k hk=>Own.upd_old xi hk⟩
  rw[hF k (fun e=>by rw [e,xa] at hn;cases hn)];exact xb k hk (by rw [hn];simp)
end
end Go.Proofs.YtbkmgoffiigdbaaGreatDoor
