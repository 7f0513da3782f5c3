import Derived.Test.YtbkmgoffiigdbaaGreatDoorVBa
namespace Go.Proofs.YtbkmgoffiigdbaaGreatDoor
open Go.RowKit Go.Sort Go.Proofs.Tryz
set_option maxHeartbeats 2000000
set_option maxRecDepth 100000
section
variable {R:RfR} {a:Int} {args rest:List Val} {cap k:Nat} {f:FrA} {fs:List FrA} {g:PgR} {obs:List Ob} {s t:McA}
def N6 (obs:List Ob):Prop:=∀o,o∈obs->(o.1=1\/o.1=2\/o.1=3)/\o.2.length<=12/\(o.1=3->o.2.length=1)/\∀v,v∈o.2->v.1=2->0<=v.2
theorem N6.nil:N6 []:=fun o ho=>by cases ho
theorem N6.forget (h:N6 obs) (al:List Nat):N6 (W7 al obs):=fun o ho=>by
 obtain⟨i,hi⟩:=List.mem_iff_getElem?.1 ho;rw[Z8] at hi
 cases hq:obs[i]? with
 | none=>rw [hq] at hi;cases hi
 | some q =>
  rw[hq] at hi;have e:o=I1 al i q:=by simpa using hi.symm
  obtain⟨h1,h2,h3,h4⟩:=h q (L2a hq);have hl:(I1 al i q).2.length=q.2.length:=by unfold I1;split <;> simp
  rw[e];refine⟨by rw [X9];exact h1,by rw [hl];exact h2,fun hk=>by rw [hl];exact h3 (by rwa [X9] at hk),fun v hv hv2=>?_⟩;rcases eP hv with hv | rfl
  ·exact h4 v hv hv2
  ·exact Int.le_refl 0
theorem N6.set (h:N6 obs) {o:Ob} (ho:o∈obs) (i n:Nat) {y:Val} (hy:y.1=2->0<=y.2):N6 (obs.set i (o.1,o.2.set n y)):=fun q hq=>by
 rcases List.mem_or_eq_of_mem_set hq with hq | rfl
 ·exact h q hq
 ·obtain ⟨h1,h2,h3,h4⟩:=h o ho
  refine⟨h1,by simpa using h2,fun hk=>by simpa using h3 hk,fun v hv hv2=>?_⟩;rcases List.mem_or_eq_of_mem_set hv with hv | rfl
  ·exact h4 v hv hv2
  ·exact hy hv2
theorem N6.add (h:N6 obs) {kind:Int} {fl:List Val} (hk:kind=1\/kind=2\/kind=3) (hl:fl.length<=12) (h3:kind=3->fl.length=1) (hf:∀v,v∈fl->v.1=2->0<=v.2):N6 (obs++[(kind,fl)]):=fun q hq=>by
 rcases List.mem_append.1 hq with hq | hq
 ·exact h q hq
 ·rw [List.mem_singleton] at hq
  subst hq;exact⟨hk,hl,h3,hf⟩
theorem N6.room {sl:List Int} (h:N6 s.obs):N6 (Y5 cap sl s).2.obs:=by
 unfold Y5;split
 ·exact h.forget _
 ·exact h
theorem N6.new {sl:List Int} (h:N6 s.obs) (fs:List FrA) (f:FrA) (rest:List Val) {kind:Int} {fl:List Val} (hk:kind=1\/kind=2\/kind=3) (hl:fl.length<=12) (h3:kind=3->fl.length=1) (hf:∀v,v∈fl->v.1=2->0<=v.2):N6 (cN cap sl s fs f rest kind fl).2.obs:=by
 unfold cN;split
 ·exact h
 ·split
  ·exact h
  ·exact h.room.add hk hl h3 hf
theorem tS {v:Val} (h:(A1 obs v).1≠0):A1 obs v∈obs:=by
 unfold A1 at h ⊢;split at h
 ·rename_i h2
  rw[if_pos h2];rw[List.getD_eq_getElem?_getD] at h ⊢
  cases hq:obs[v.2.toNat]? with
  | none=>rw [hq] at h;exact absurd rfl h
  | some q=>exact L2a hq
 ·exact absurd rfl h
theorem N6.setE (h:N6 s.obs) (fs:List FrA) (f:FrA) (rest:List Val) (v:Val) {kind:Int} (hk:kind≠0) (ix:Val) {y:Val} (hy:y.1=2->0<=y.2):N6 (setE s fs f rest v kind ix y).obs:=by
 unfold Go.Proofs.YtbkmgoffiigdbaaGreatDoor.setE;split
 ·rename_i hr
  refine N6.set h (tS fun h0=>?_) _ _ hy;unfold F6 at hr;rw[if_pos (L4a (by rw [h0];exact fun e=>hk e.symm))] at hr
  cases hr
 ·exact h
theorem iG (n:Nat):∀v,v∈List.replicate n ((0,0):Val)->v.1=2->0<=v.2:=fun v hv h2=>by
 rw[(List.mem_replicate.1 hv).2] at h2
 cases h2
theorem a6x {sl:List Int} (h:N6 s.obs) (hv:∀v,v∈args->v.1=2->0<=v.2) (ha:k=16->a<=12):N6 (doD g cap k a sl s fs f rest args).2.obs:=by
 unfold doD;split
 ·exact h.new _ _ _ (L4a rfl) (by have:=ha rfl;rw [List.length_replicate];omega) (fun e=>by cases e) (iG _)
 ·split
  ·exact h
  ·split
   ·rename_i hc
    exact h.new _ _ _ (L4b (L4a rfl)) (by rw [List.length_replicate];omega) (fun e=>by cases e) (iG _)
   ·exact h
 ·split
  ·exact h.new _ _ _ (L4b (L4b rfl)) R6 (fun _=>rfl) hv
  ·exact h
 ·rename_i h16 h17 h18
  show N6 (doA g _ _ _ _ _ _ _).obs;unfold doA;split <;> first | exact h | exact h.setE _ _ _ _ R4 _ (hv _ R6) | skip
  all_goals first
   | (unfold J6;split <;> exact h)
   | (unfold cU;split <;> exact h)
   | (unfold aO;split <;> exact h)
   | (unfold C9;split <;> exact h)
   | (exact absurd rfl (h16 rfl))
   | (split <;> first | exact h | (split <;> exact h))
   | skip
  all_goals first
   | exact (h16 _ rfl rfl).elim
   | exact (h17 _ rfl rfl).elim
   | exact (h18 _ rfl rfl).elim
   | skip
theorem a6p {sl:List Int} (hf:s.frs=fs++[f]) (o:hZ g f k a rest args):qA g cap (sl,s)=doD g cap k a sl s fs f rest args:=by
 have e1:s.frs.getLast?=some f:=by rw [hf];simp
 have e2:s.frs.dropLast=fs:=by rw [hf];simp
 unfold qA;simp only;rw[e1,e2];simp only;rw[o.op,o.ar,o.pops,o.stk];have e3:(rest++args).length - ((args.length:Nat):Int).toNat=rest.length:=by simp
 rw[e3,List.take_left,List.drop_left];rfl
structure RV (g:PgR) (R:RfR) (t:McA):Prop where
 v:C7 (R.ths.map ThR.slot) R.abs t
 i:C8 g t
 th:N6 R.abs.obs
 cap:R.cap=t.obs.length
theorem RV.frame (h:RV g R t) (hp:N3 g) {f:FrR} (hf:f∈R.frs):f.loc.length<=8/\f.stk.length<=18/\f.pc < 60/\f.pc < (g.f f.fn).n:=by
 have hm:G5 (sig (R.ths.map ThR.slot)) f.abs∈t.frs:=by rw [h.v.frs];exact List.mem_map.2 ⟨_,List.mem_map.2 ⟨f,hf,rfl⟩,rfl⟩
 have:=h.i.frame hp hm;have e1:(G5 (sig (R.ths.map ThR.slot)) f.abs).loc.length=f.loc.length:=by show (f.abs.loc.map _).length=_;rw [List.length_map];rfl
 have e2:(G5 (sig (R.ths.map ThR.slot)) f.abs).stk.length=f.stk.length:=by show (f.abs.stk.map _).length=_;rw [List.length_map];rfl
 rw[e1,e2] at this;exact this
theorem RV.frs_len (h:RV g R t):R.frs.length<=12:=by
 have:=h.i.depth;rw[h.v.frs,List.length_map] at this;have e:R.abs.frs.length=R.frs.length:=by show (R.frs.map _).length=_;rw [List.length_map]
 omega
theorem RV.bd (h:RV g R t) (hp:N3 g) (hn:R.ths.length<=100000000000):iA R :=
 ⟨by have:=h.frs_len;omega,fun f hf=>by have:=h.frame hp hf;omega,hn,fun o ho=>by
  have:=(h.th o.abs (List.mem_map.2 ⟨o,ho,rfl⟩)).2.1;have e:o.abs.2.length=o.fl.length:=rfl;omega⟩
theorem RV.rin (h:RV g R t):dX R :=
 ⟨fun v hv h2=>by
  have:=h.v.vals v hv h2;have hl:=this.2.lt;rw[List.length_map] at hl;exact⟨this.1,hl⟩,fun o ho v hv h2=>⟨(h.th o.abs (List.mem_map.2 ⟨o,ho,rfl⟩)).2.2.2 v hv h2,by
  have:=h.v.within o.abs (List.mem_map.2 ⟨o,ho,rfl⟩) v hv h2;have e:R.abs.obs.length=R.ths.length:=by show (R.ths.map _).length=_;rw [List.length_map]
  omega⟩⟩
theorem RV.sl (h:RV g R t):a1Z R :=
 ⟨fun o ho=>by
  obtain⟨i,hi⟩:=List.mem_iff_getElem?.1 ho;have:=h.v.bd i o.slot (by rw [List.getElem?_map,hi];rfl);omega,fun o ho hk=>(h.th o.abs (List.mem_map.2 ⟨o,ho,rfl⟩)).2.2.1 hk⟩
theorem RV.kind (h:RV g R t):∀o,o∈R.ths->o.kind=1\/o.kind=2\/o.kind=3:=fun o ho=>(h.th o.abs (List.mem_map.2 ⟨o,ho,rfl⟩)).1
theorem RV.fl (h:RV g R t) {j:Nat} {o:ThR} (ho:R.ths[j]?=some o):o.fl.length<=12:=(h.th o.abs (List.mem_map.2 ⟨o,L2a ho,rfl⟩)).2.1
theorem RV.refIn (h:RV g R t) {f:FrR} (hf:f∈R.frs) {v:Val} (hv:v∈f.loc++f.stk):fQ R v:=fun h2 =>
 h.rin.vals v (I2.2 ⟨f.abs,List.mem_map.2 ⟨f,hf,rfl⟩,hv⟩) h2
end
section
variable {R:RfR} {W:World} {f:FrR} {fs:List FrR} {g:PgR} {mb:Nat} {own:Own}
theorem rU (h:A9 W own mb g R) (hf:R.frs=fs++[f]) (hfn:f.fn < g.n) (hpc:f.pc < (g.f f.fn).n) (hgn:g.n<=1000) (hcn:(g.f f.fn).n<=1000) (hfs:fs.length<=1000) (hstn:f.stk.length<=1000) (hop:(g.f f.fn).op f.pc=14) {st:Int} {P:RfR->Prop}
  (hcall:∀U,L0d W U->Calls prog 137 #[zB mb,J ((g.f f.fn).ar f.pc)] U fun e w'=>e=.returned (J st)/\∃own' R',P R'/\A9 w' own' mb g R'/\A2 own U own' w') :
  Calls prog 100 #[zB mb] W fun e w'=>e=.returned (.tuple #[])/\∃own' R',P R'/\A9 w' own' mb g { R' with st:=st }/\A2 own W own' w':=by
 have xs:=h.lt _ _ h.me;obtain⟨cb,cc,xl,m4,xn,xe,xp,k0,k1,k2,k3,m0,xk,x2,xq,y0,y1⟩:=h.front hf hfn hpc;obtain⟨sa,sc,xh,xt,xv⟩:=(h.stk fs.length f (by rw [hf];simp)).vals;obtain⟨la,lc,xg,_,_⟩:=(h.loc fs.length f (by rw [hf];simp)).vals;have xy:Hid (∀k,W.heap.size<=k->own k=none):=hid fun k hk=>by
  cases e:own k with
  | none=>rfl
  | some t=>have:=h.lt k t e;omega
 have HH:=hid h;have HC:=hid hcall;rw[xg] at k2;rw[xh] at k3;rw[hop] at y0;generalize har:(g.f f.fn).ar f.pc=ar at *
 have xu:(f.fn:Int) < (g.n:Int):=(fun (_:g.n<=1000) (_:(g.f f.fn).n<=1000) (_:fs.length<=1000) (_:f.stk.length<=1000)=>by omega) hgn hcn hfs hstn;have xo:(f.pc:Int) < ((g.f f.fn).n:Int):=by omega
 have xc:mb < W.heap.size+1:=by omega
 have xd:g.b < W.heap.size+1:=by omega
 have xf:(g.f f.fn).b < W.heap.size+1:=by omega
 clear h hcall xl hf xh xg xv xp har xt hop;go_enter func100,ntmps100;go_wp2_with fail;go_region
 go_wp2_with fail;refine (HC.out _ P4).mono ?_;rintro e w1 ⟨rfl,xb,R1,xj,xa,xi⟩;have xr:Hid (A2 own W xb w1):=hid ((A2.of_below P4).trans xi)
 have xx:=xa.lt _ _ xa.me;have n2:=xa.c2;have z2:=xa.fz 2;have xw:=hid xa;have xm:=hid xj;clear xa xi xj m4 xn xe k0 k1 k2 k3 m0 xk x2 xq y0 y1 xs xc xd xf;go_wp2_with fail;obtain⟨hF,hT⟩:=xw.out.setSt st;refine bodyPost_ret (v:=.tuple #[]) (by simp [results,results100,go_sem]) rfl ?_;exact⟨rfl,xb,R1,xm.out,hF,xr.out.trans hT⟩
theorem mO (h:A9 W own mb g R) (hf:R.frs=fs++[f]) (hfn:f.fn < g.n) (hpc:f.pc < (g.f f.fn).n) (hgn:g.n<=1000) (hcn:(g.f f.fn).n<=1000) (hfs:fs.length<=1000) (hstn:f.stk.length<=1000) (hop:(g.f f.fn).op f.pc=15) {st:Int} {P:RfR->Prop}
  (hcall:∀U,L0d W U->Calls prog 138 #[zB mb] U fun e w'=>e=.returned (J st)/\∃own' R',P R'/\A9 w' own' mb g R'/\A2 own U own' w') :
  Calls prog 100 #[zB mb] W fun e w'=>e=.returned (.tuple #[])/\∃own' R',P R'/\A9 w' own' mb g { R' with st:=st }/\A2 own W own' w':=by
 have xs:=h.lt _ _ h.me;obtain⟨cb,cc,xl,m4,xn,xe,xp,k0,k1,k2,k3,m0,xk,x2,xq,y0,y1⟩:=h.front hf hfn hpc;obtain⟨sa,sc,xh,xt,xv⟩:=(h.stk fs.length f (by rw [hf];simp)).vals;obtain⟨la,lc,xg,_,_⟩:=(h.loc fs.length f (by rw [hf];simp)).vals;have xy:Hid (∀k,W.heap.size<=k->own k=none):=hid fun k hk=>by
  cases e:own k with
  | none=>rfl
  | some t=>have:=h.lt k t e;omega
 have HH:=hid h;have HC:=hid hcall;rw[xg] at k2;rw[xh] at k3;rw[hop] at y0;generalize har:(g.f f.fn).ar f.pc=ar at *
 have xu:(f.fn:Int) < (g.n:Int):=(fun (_:g.n<=1000) (_:(g.f f.fn).n<=1000) (_:fs.length<=1000) (_:f.stk.length<=1000)=>by omega) hgn hcn hfs hstn;have xo:(f.pc:Int) < ((g.f f.fn).n:Int):=by omega
 have xc:mb < W.heap.size+1:=by omega
 have xd:g.b < W.heap.size+1:=by omega
 have xf:(g.f f.fn).b < W.heap.size+1:=by omega
 clear h hcall xl hf xh xg xv xp har xt hop;go_enter func100,ntmps100;go_wp2_with fail;go_region
 go_wp2_with fail;refine (HC.out _ P4).mono ?_;rintro e w1 ⟨rfl,xb,R1,xj,xa,xi⟩;have xr:Hid (A2 own W xb w1):=hid ((A2.of_below P4).trans xi)
 have xx:=xa.lt _ _ xa.me;have n2:=xa.c2;have z2:=xa.fz 2;have xw:=hid xa;have xm:=hid xj;clear xa xi xj m4 xn xe k0 k1 k2 k3 m0 xk x2 xq y0 y1 xs xc xd xf;go_wp2_with fail;obtain⟨hF,hT⟩:=xw.out.setSt st;refine bodyPost_ret (v:=.tuple #[]) (by simp [results,results100,go_sem]) rfl ?_;exact⟨rfl,xb,R1,xm.out,hF,xr.out.trans hT⟩
end
section
variable {x y:Val}
structure OpR (W:World) (own:Own) (mb:Nat) (g:PgR) (R:RfR) (t:McA) (fs:List FrR) (f:FrR) (k:Nat) (a:Int) (rest args:List Val):Prop where
 h:A9 W own mb g R
 hp:N3 g
 rv:RV g R t
 st:R.st=0
 hf:R.frs=fs++[f]
 stk:f.stk=rest++args
 op:(g.f f.fn).op f.pc=(k:Int)
 ar:(g.f f.fn).ar f.pc=a
 pops:U5 k (g.f a.toNat).p=args.length
 leg:F5 g.n (g.f f.fn).l (g.f f.fn).n k a=true
 fn:f.fn < g.n
 hloc:(f.loc.length:Int)=(g.f f.fn).l
 ths:R.ths.length<=10000000000
def G4 (own:Own) (mb:Nat) (g:PgR) (R:RfR) (m:List Int × McA) (W:World) (e:Ending) (w':World):Prop :=
 e=.returned (.tuple #[])/\∃own' R',A9 w' own' mb g R'/\R'.cap=R.cap/\(R'.ths.map ThR.slot,R'.abs)=m/\A2 own W own' w'/\∀b q,R'.da=some ⟨b,q,none⟩->∃q',R.da=some ⟨b,q',none⟩
section
variable {W:World} {own:Own} {mb:Nat} {g:PgR} {R:RfR} {t:McA} {fs:List FrR} {f:FrR} {k:Nat} {a:Int} {rest args:List Val}
theorem OpR.mem (o:OpR W own mb g R t fs f k a rest args):f∈R.frs:=by rw [o.hf];simp
theorem OpR.bds (o:OpR W own mb g R t fs f k a rest args):f.loc.length<=8/\f.stk.length<=18/\f.pc < 60/\f.pc < (g.f f.fn).n:=o.rv.frame o.hp o.mem
theorem OpR.gn (o:OpR W own mb g R t fs f k a rest args):g.n<=1000:=by have:=o.hp.sized.2.1;omega
theorem OpR.cn (o:OpR W own mb g R t fs f k a rest args):(g.f f.fn).n<=1000:=by have:=o.hp.sized.bd o.fn;omega
theorem OpR.fsn (o:OpR W own mb g R t fs f k a rest args):fs.length<=11:=by have:=o.rv.frs_len;rw [o.hf] at this;simp at this;omega
theorem OpR.bd (o:OpR W own mb g R t fs f k a rest args):iA R:=o.rv.bd o.hp (by have:=o.ths;omega)
theorem OpR.ref (o:OpR W own mb g R t fs f k a rest args) {v:Val} (hv:v∈args):fQ R v:=o.rv.refIn o.mem (by rw [o.stk];simp [hv])
theorem OpR.hfA (o:OpR W own mb g R t fs f k a rest args):R.abs.frs=fs.map FrR.abs++[f.abs]:=by show R.frs.map FrR.abs=_;rw [o.hf];simp
theorem OpR.hfl (o:OpR W own mb g R t fs f k a rest args):R.frs[fs.length]?=some f:=by rw [o.hf];simp
theorem OpR.opAt (o:OpR W own mb g R t fs f k a rest args):hZ g f.abs k a rest args:=⟨o.op,o.ar,o.stk,o.pops⟩
theorem OpR.slen (o:OpR W own mb g R t fs f k a rest args):f.stk.length=rest.length+args.length:=by rw [o.stk,List.length_append]
theorem OpR.thn (o:OpR W own mb g R t fs f k a rest args):R.ths.length<=100000000000:=by have:=o.ths;omega
theorem OpR.lists (o:OpR W own mb g R t fs f k a rest args):∃sa sc la lc,f.sv=.slice sa f.stk.length sc/\f.lv=.slice la f.loc.length lc/\f.stk.length<=sc/\f.loc.length<=lc /\
  (0 < f.stk.length->∃sb,sa=some ⟨sb,0,none⟩/\sb < W.heap.size/\own sb=some (.stk fs.length)/\∀V,L0d W V->∀(i:Nat) (x:Val),f.stk[i]?=some x->V.cell? ⟨sb,i*2,none⟩=some (zC x.1)/\V.cell? ⟨sb,i*2+1,none⟩=some (J x.2)) /\
  (0 < f.loc.length->∃lb,la=some ⟨lb,0,none⟩/\lb < W.heap.size/\own lb=some (.loc fs.length)/\∀V,L0d W V->∀(i:Nat) (x:Val),f.loc[i]?=some x->V.cell? ⟨lb,i*2,none⟩=some (zC x.1)/\V.cell? ⟨lb,i*2+1,none⟩=some (J x.2)):=by
 have hs:=o.h.stk fs.length f o.hfl;have hl:=o.h.loc fs.length f o.hfl;obtain⟨sa,sc,xb,xf,xc⟩:=hs.vals;obtain⟨la,lc,xa,xd,xe⟩:=hl.vals;refine⟨sa,sc,la,lc,xb,xa,xf,xd,fun h0=>?_,fun h0=>?_⟩
 ·obtain ⟨sb,rfl,h1,h2⟩:=xc h0
  exact⟨sb,rfl,h1,hs.2 sb (by rw [xb];rfl),fun V hV i x hx=>⟨keep hV h1 (h2 i x hx).1,keep hV h1 (h2 i x hx).2⟩⟩
 ·obtain ⟨sb,rfl,h1,h2⟩:=xe h0
  exact⟨sb,rfl,h1,hl.2 sb (by rw [xa];rfl),fun V hV i x hx=>⟨keep hV h1 (h2 i x hx).1,keep hV h1 (h2 i x hx).2⟩⟩
theorem OpR.at1 (o:OpR W own mb g R t fs f k a rest [x]):∃sb sc la lc,f.sv=.slice (zA sb) (rest.length+1) sc/\f.lv=.slice la f.loc.length lc/\own sb=some (.stk fs.length)/\∀V,L0d W V->sb < V.heap.size/\V.cell? ⟨sb,rest.length*2,none⟩=some (zC x.1)/\V.cell? ⟨sb,rest.length*2+1,none⟩=some (J x.2):=by
 obtain⟨sa,sc,la,lc,xa,xb,_,_,hs,_⟩:=o.lists;have hl:f.stk.length=rest.length+1:=o.slen;obtain⟨sb,rfl,xd,xc,hc⟩:=hs R5;rw[hl] at xa;have e:f.stk[rest.length]?=some x:=by rw [o.stk];simp
 exact⟨sb,sc,la,lc,xa,xb,xc,fun V hV=>⟨L0a xd hV.size,hc V hV _ _ e⟩⟩
theorem OpR.at2 (o:OpR W own mb g R t fs f k a rest [x,y]):∃sb sc la lc,f.sv=.slice (zA sb) (rest.length+2) sc/\f.lv=.slice la f.loc.length lc/\own sb=some (.stk fs.length)/\∀V,L0d W V->sb < V.heap.size/\V.cell? ⟨sb,rest.length*2,none⟩=some (zC x.1)/\V.cell? ⟨sb,rest.length*2+1,none⟩=some (J x.2)/\V.cell? ⟨sb,(rest.length+1)*2,none⟩=some (zC y.1)/\V.cell? ⟨sb,(rest.length+1)*2+1,none⟩=some (J y.2):=by
 obtain⟨sa,sc,la,lc,xa,xb,_,_,hs,_⟩:=o.lists;have hl:f.stk.length=rest.length+2:=o.slen;obtain⟨sb,rfl,xd,xc,hc⟩:=hs R5;rw[hl] at xa;have e:f.stk[rest.length]?=some x:=by rw [o.stk];simp
 have e2:f.stk[rest.length+1]?=some y:=by rw [o.stk,List.getElem?_append_right R5];simp
 exact⟨sb,sc,la,lc,xa,xb,xc,fun V hV=>⟨L0a xd hV.size,(hc V hV _ _ e).1,(hc V hV _ _ e).2,hc V hV _ _ e2⟩⟩
theorem OpR.at3 {z:Val} (o:OpR W own mb g R t fs f k a rest [x,y,z]):∃sb sc la lc,f.sv=.slice (zA sb) (rest.length+3) sc/\f.lv=.slice la f.loc.length lc/\own sb=some (.stk fs.length)/\∀V,L0d W V->sb < V.heap.size/\V.cell? ⟨sb,rest.length*2,none⟩=some (zC x.1)/\V.cell? ⟨sb,rest.length*2+1,none⟩=some (J x.2)/\V.cell? ⟨sb,(rest.length+1)*2,none⟩=some (zC y.1)/\V.cell? ⟨sb,(rest.length+1)*2+1,none⟩=some (J y.2)/\V.cell? ⟨sb,(rest.length+2)*2,none⟩=some (zC z.1)/\V.cell? ⟨sb,(rest.length+2)*2+1,none⟩=some (J z.2):=by
 obtain⟨sa,sc,la,lc,xa,xb,_,_,hs,_⟩:=o.lists;have hl:f.stk.length=rest.length+3:=o.slen;obtain⟨sb,rfl,xd,xc,hc⟩:=hs R5;rw[hl] at xa;have e:f.stk[rest.length]?=some x:=by rw [o.stk];simp
 have e2:f.stk[rest.length+1]?=some y:=by rw [o.stk,List.getElem?_append_right R5];simp
 have e3:f.stk[rest.length+2]?=some z:=by rw [o.stk,List.getElem?_append_right R5];simp
 exact⟨sb,sc,la,lc,xa,xb,xc,fun V hV=>⟨L0a xd hV.size,(hc V hV _ _ e).1,(hc V hV _ _ e).2,(hc V hV _ _ e2).1,(hc V hV _ _ e2).2,hc V hV _ _ e3⟩⟩
theorem OpR.go (o:OpR W own mb g R t fs f k a rest args) (h14:k≠14) (h15:k≠15) (h27:k≠27) {P:RfR->Prop} {drop to:Nat} {push:List Val} {m:List Int × McA} (hdr:drop<=f.stk.length) (hpu:push.length<=1000)
  (hP:∀R',P R'->(∃l,R'.frs=fs++[{ f with loc:=l }])/\R'.cv=R.cv/\∀b q,R'.da=some ⟨b,q,none⟩->b < W.heap.size)
  (hdo:∀U,L0d W U->Calls prog 139 #[zB mb,.agg #[J (k:Int),J a],.agg #[J (f.fn:Int),J (f.pc:Int),f.lv,f.sv]] U fun e w'=>K8 own mb g P (drop:Int) push (to:Int) 0 U e w')
  (hend:∀R' sv l,P R'->R'.frs=fs++[{ f with loc:=l }]->R'.cap=R.cap/\(R'.ths.map ThR.slot,RfR.abs { R' with frs:=fs++[{ f with loc:=l,pc:=to,sv:=sv,stk:=f.stk.take (f.stk.length - drop)++push }] })=m/\∀b q,R'.da=some ⟨b,q,none⟩->∃q',R.da=some ⟨b,q',none⟩) :
  Calls prog 100 #[zB mb] W fun e w'=>G4 own mb g R m W e w':=by
 have hb:=o.bds;have xd:=o.fsn;refine (a8k o.h o.hf o.fn hb.2.2.2 o.gn o.cn R5 R5 (by rw [o.op];omega) (by rw [o.op];omega) (by rw [o.op];omega) hdr hpu hP (fun U hB=>by rw [o.op,o.ar];exact hdo U hB)).mono ?_;rintro e w' ⟨rfl,xa,R',sv,l,xb,xc,hR,hT⟩;obtain⟨h1,h2,h3⟩:=hend R' sv l xb xc;exact⟨rfl,xa,_,hR,h1,h2,hT,h3⟩
theorem OpR.goP (o:OpR W own mb g R t fs f k a rest args) (h14:k≠14) (h15:k≠15) (h27:k≠27) (drop to:Nat) {dI tI:Int} {push l:List Val} (hdI:dI=(drop:Int)) (htI:tI=(to:Int)) (hdr:drop<=f.stk.length) (hpu:push.length<=1000) (hl:f.stk.take (f.stk.length - drop)++push=l)
  (hdo:∀U,L0d W U->Calls prog 139 #[zB mb,.agg #[J (k:Int),J a],.agg #[J (f.fn:Int),J (f.pc:Int),f.lv,f.sv]] U fun e w'=>K8 own mb g (fun R'=>R'=R) dI push tI 0 U e w') :
  Calls prog 100 #[zB mb] W fun e w'=>G4 own mb g R (R.ths.map ThR.slot,goA R.abs (fs.map FrR.abs) f.abs to l) W e w':=by
 subst hdI htI;refine o.go h14 h15 h27 hdr hpu (fun R' e=>?_) hdo (fun R' sv l' e hfr=>?_)
 ·subst e
  exact⟨⟨f.loc,by rw [o.hf]⟩,rfl,fun b q e=>(o.h.dro b q e).1⟩
 ·subst e
  rw[o.hf] at hfr;have e2:f.loc=l':=by
   have:=List.append_cancel_left hfr;simp only[List.cons.injEq,and_true] at this;rw[this]
  subst e2;refine⟨rfl,Prod.ext rfl ?_,fun b q e=>⟨q,e⟩⟩;show (⟨R'.st,R'.out,(fs++[_]).map FrR.abs,_,R'.dr⟩:McA)=_;rw[o.st,List.map_append,List.map_cons,List.map_nil,hl];rfl
theorem OpR.trap (o:OpR W own mb g R t fs f k a rest args) (h14:k≠14) (h15:k≠15) (h27:k≠27) {st:Int} (ht:st≠0)
  (hdo:∀U,L0d W U->Calls prog 139 #[zB mb,.agg #[J (k:Int),J a],.agg #[J (f.fn:Int),J (f.pc:Int),f.lv,f.sv]] U fun e w'=>K8 own mb g (fun R'=>R'=R) 0 [] 0 st U e w') :
  Calls prog 100 #[zB mb] W fun e w'=>G4 own mb g R (R.ths.map ThR.slot,D4 R.abs st) W e w':=by
 have hb:=o.bds;have xb:=o.fsn;refine (a3W o.h o.hf o.fn hb.2.2.2 o.gn o.cn R5 R5 (by rw [o.op];omega) (by rw [o.op];omega) (by rw [o.op];omega) ht (fun U hB=>by rw [o.op,o.ar];exact hdo U hB)).mono ?_;rintro e w' ⟨rfl,xa,hR,hT⟩;exact⟨rfl,xa,_,hR,rfl,rfl,hT,fun b q e=>⟨q,e⟩⟩
theorem OpR.simple (o:OpR W own mb g R t fs f k a rest args) (hk:k < 16\/24 < k) {P:RfR->Prop} {drop:Int} {push:List Val} {to trap:Int} (hpd:∀R',P R'->∀b q,R'.da=some ⟨b,q,none⟩->b < W.heap.size)
  (hc:∀V,L0d W V->Calls prog 185 #[zB mb,.agg #[J (k:Int),J a],J (f.pc:Int),.agg #[J (f.fn:Int),J (f.pc:Int),f.lv,f.sv]] V fun e w'=>K8 own mb g P drop push to trap V e w') :
  ∀U,L0d W U->Calls prog 139 #[zB mb,.agg #[J (k:Int),J a],.agg #[J (f.fn:Int),J (f.pc:Int),f.lv,f.sv]] U fun e w'=>K8 own mb g P drop push to trap U e w':=by
 intro U hB;have xb:(k:Int) < 16\/24 < (k:Int):=by omega
 obtain⟨sa,sc,la,lc,xe,xc,_,_,hs,_⟩:=o.lists;have hb:=o.bds;rw[xe,xc] at hc ⊢;by_cases h0:f.stk.length=0
 ·rw [h0] at hc ⊢
  exact a0I (o.h.same hB) f.fn f.pc a k xb (fun R' h b q e=>L0a (hpd R' h b q e) hB.size) fun V hV=>hc V (hB.trans (hV.mono hB.size))
 ·obtain ⟨sb,rfl,xd,_,xf⟩:=hs R5
  obtain⟨m,hm⟩:∃m,f.stk.length=m+1:=⟨f.stk.length - 1,by omega⟩
  have hx:f.stk[m]?=some f.stk[m]:=L1b R5;have xa:=xf U hB m _ hx;rw[hm] at hc ⊢;exact a3u (o.h.same hB) f.fn f.pc a k xb (L0a xd hB.size) xa.1 xa.2 R5 (fun R' h b q e=>L0a (hpd R' h b q e) hB.size) fun V hV=>hc V (hB.trans (hV.mono hB.size))
theorem OpR.pd (o:OpR W own mb g R t fs f k a rest args):∀R',R'=R->∀b q,R'.da=some ⟨b,q,none⟩->b < W.heap.size:=fun R' e b q hq=>by subst e;exact (o.h.dro b q hq).1
theorem OpR.does (o:OpR W own mb g R t fs f k a rest args) {sb m sc nl lc:Nat} {la:Option Addr} (hsv:f.sv=.slice (zA sb) (m+1) sc) (hlv:f.lv=.slice la nl lc) {tk tn:Int} (ht:∀V,L0d W V->sb < V.heap.size/\V.cell? ⟨sb,m*2,none⟩=some (zC tk)/\V.cell? ⟨sb,m*2+1,none⟩=some (J tn)) (hm:m<=1000) ⦃P:RfR->Prop⦄ ⦃drop:Int⦄ ⦃push:List Val⦄ ⦃to trap:Int⦄ ⦃c:Nat⦄ ⦃X:Value⦄ (hpd:∀R',P R'->∀b q,R'.da=some ⟨b,q,none⟩->b < W.heap.size)
  (hc:∀V,L0d W V->Calls prog c #[zB mb,.agg #[J (k:Int),J a],J (f.pc:Int),X] V fun e w'=>K8 own mb g P drop push to trap V e w') (hk:((k:Int),c,X)∈fV (.agg #[zC tk,J tn]) (.slice (zA sb) (m+1) sc):=by simp [fV];try rfl) :
  ∀U,L0d W U->Calls prog 139 #[zB mb,.agg #[J (k:Int),J a],.agg #[J (f.fn:Int),J (f.pc:Int),f.lv,f.sv]] U fun e w'=>K8 own mb g P drop push to trap U e w':=fun U hB=>by
 rw[hsv,hlv];exact tP (o.h.same hB) f.fn f.pc a k c X (ht U hB).1 (ht U hB).2.1 (ht U hB).2.2 hm hk (fun R' h b q e=>L0a (hpd R' h b q e) hB.size) fun V hV=>hc V (hB.trans (hV.mono hB.size))
theorem OpR.doesP (o:OpR W own mb g R t fs f k a rest args) {sb m sc nl lc:Nat} {la:Option Addr} (hsv:f.sv=.slice (zA sb) (m+1) sc) (hlv:f.lv=.slice la nl lc) {tk tn:Int} (ht:∀V,L0d W V->sb < V.heap.size/\V.cell? ⟨sb,m*2,none⟩=some (zC tk)/\V.cell? ⟨sb,m*2+1,none⟩=some (J tn)) (hm:m<=1000) ⦃drop:Int⦄ ⦃push:List Val⦄ ⦃to trap:Int⦄ ⦃c:Nat⦄ ⦃X:Value⦄
  (hc:∀V,L0d W V->Calls prog c #[zB mb,.agg #[J (k:Int),J a],J (f.pc:Int),X] V fun e w'=>D2 drop push to trap V e w') (hk:((k:Int),c,X)∈fV (.agg #[zC tk,J tn]) (.slice (zA sb) (m+1) sc):=by simp [fV];try rfl) :
  ∀U,L0d W U->Calls prog 139 #[zB mb,.agg #[J (k:Int),J a],.agg #[J (f.fn:Int),J (f.pc:Int),f.lv,f.sv]] U fun e w'=>K8 own mb g (fun R'=>R'=R) drop push to trap U e w' :=
 o.does hsv hlv ht hm o.pd (fun V hV=>(hc V hV).mono fun _ _ hd=>hd.toQ (o.h.same hV)) hk
theorem OpR.simpleP (o:OpR W own mb g R t fs f k a rest args) (hk:k < 16\/24 < k) {drop:Int} {push:List Val} {to trap:Int}
  (hc:∀V,L0d W V->Calls prog 185 #[zB mb,.agg #[J (k:Int),J a],J (f.pc:Int),.agg #[J (f.fn:Int),J (f.pc:Int),f.lv,f.sv]] V fun e w'=>D2 drop push to trap V e w') :
  ∀U,L0d W U->Calls prog 139 #[zB mb,.agg #[J (k:Int),J a],.agg #[J (f.fn:Int),J (f.pc:Int),f.lv,f.sv]] U fun e w'=>K8 own mb g (fun R'=>R'=R) drop push to trap U e w' :=
 o.simple hk o.pd fun V hV=>(hc V hV).mono fun _ _ hd=>hd.toQ (o.h.same hV)
end
end
end Go.Proofs.YtbkmgoffiigdbaaGreatDoor
