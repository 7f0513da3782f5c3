import Derived.Test.YtbkmgoffiigdbaaGreatDoorWCa
import Derived.Test.YtbkmgoffiigdbaaGreatDoorWAi
namespace Go.Proofs.YtbkmgoffiigdbaaGreatDoor
open Go.RowKit Go.Sort Go.Proofs.Tryz
set_option maxHeartbeats 2000000
set_option maxRecDepth 100000
section
variable {R:RfR} {a:Int} {args rest:List Val} {cap k:Nat} {f:FrA} {fs:List FrA} {g:PgR} {obs:List Ob} {s t:McA}
def L6 (obs:List Ob):Prop:=∀o,o∈obs->(o.1=1\/o.1=2\/o.1=3)/\o.2.length<=12/\(o.1=3->o.2.length=1)/\∀v,v∈o.2->v.1=2->0<=v.2
theorem L6.nil:L6 []:=fun o ho=>by cases ho
theorem L6.forget (h:L6 obs) (al:List Nat):L6 (S6 al obs):=fun o ho=>by
 obtain⟨i,hi⟩:=List.mem_iff_getElem?.1 ho;rw[V3] at hi
 cases hq:obs[i]? with
 | none=>rw [hq] at hi;cases hi
 | some q =>
  rw[hq] at hi;have e:o=H4 al i q:=by simpa using hi.symm
  obtain⟨h1,h2,h3,h4⟩:=h q (L2a hq);have hl:(H4 al i q).2.length=q.2.length:=by unfold H4;split <;> simp
  rw[e];refine⟨by rw [T8];exact h1,by rw [hl];exact h2,fun hk=>by rw [hl];exact h3 (by rwa [T8] at hk),fun v hv hv2=>?_⟩;rcases cJ hv with hv | rfl
  ·exact h4 v hv hv2
  ·exact Int.le_refl 0
theorem L6.set (h:L6 obs) {o:Ob} (ho:o∈obs) (i n:Nat) {y:Val} (hy:y.1=2->0<=y.2):L6 (obs.set i (o.1,o.2.set n y)):=fun q hq=>by
 rcases List.mem_or_eq_of_mem_set hq with hq | rfl
 ·exact h q hq
 ·obtain ⟨h1,h2,h3,h4⟩:=h o ho
  refine⟨h1,by simpa using h2,fun hk=>by simpa using h3 hk,fun v hv hv2=>?_⟩;rcases List.mem_or_eq_of_mem_set hv with hv | rfl
  ·exact h4 v hv hv2
  ·exact hy hv2
theorem L6.add (h:L6 obs) {kind:Int} {fl:List Val} (hk:kind=1\/kind=2\/kind=3) (hl:fl.length<=12) (h3:kind=3->fl.length=1) (hf:∀v,v∈fl->v.1=2->0<=v.2):L6 (obs++[(kind,fl)]):=fun q hq=>by
 rcases List.mem_append.1 hq with hq | hq
 ·exact h q hq
 ·rw [List.mem_singleton] at hq
  subst hq;exact⟨hk,hl,h3,hf⟩
theorem L6.room {sl:List Int} (h:L6 s.obs):L6 (U2 cap sl s).2.obs:=by
 unfold U2;split
 ·exact h.forget _
 ·exact h
theorem L6.new {sl:List Int} (h:L6 s.obs) (fs:List FrA) (f:FrA) (rest:List Val) {kind:Int} {fl:List Val} (hk:kind=1\/kind=2\/kind=3) (hl:fl.length<=12) (h3:kind=3->fl.length=1) (hf:∀v,v∈fl->v.1=2->0<=v.2):L6 (bB cap sl s fs f rest kind fl).2.obs:=by
 unfold bB;split
 ·exact h
 ·split
  ·exact h
  ·exact h.room.add hk hl h3 hf
theorem qM {v:Val} (h:(A0 obs v).1≠0):A0 obs v∈obs:=by
 unfold A0 at h ⊢;split at h
 ·rename_i h2
  rw[if_pos h2];rw[List.getD_eq_getElem?_getD] at h ⊢
  cases hq:obs[v.2.toNat]? with
  | none=>rw [hq] at h;exact absurd rfl h
  | some q=>exact L2a hq
 ·exact absurd rfl h
theorem L6.setE (h:L6 s.obs) (fs:List FrA) (f:FrA) (rest:List Val) (v:Val) {kind:Int} (hk:kind≠0) (ix:Val) {y:Val} (hy:y.1=2->0<=y.2):L6 (setE s fs f rest v kind ix y).obs:=by
 unfold Go.Proofs.YtbkmgoffiigdbaaGreatDoor.setE;split
 ·rename_i hr
  refine L6.set h (qM fun h0=>?_) _ _ hy;unfold F8 at hr;rw[if_pos (L4a (by rw [h0];exact fun e=>hk e.symm))] at hr
  cases hr
 ·exact h
theorem fK (n:Nat):∀v,v∈List.replicate n ((0,0):Val)->v.1=2->0<=v.2:=fun v hv h2=>by
 rw[(List.mem_replicate.1 hv).2] at h2
 cases h2
theorem a3N {sl:List Int} (h:L6 s.obs) (hv:∀v,v∈args->v.1=2->0<=v.2) (ha:k=16->a<=12):L6 (doD g cap k a sl s fs f rest args).2.obs:=by
 unfold doD;split
 ·exact h.new _ _ _ (L4a rfl) (by have:=ha rfl;rw [List.length_replicate];omega) (fun e=>by cases e) (fK _)
 ·split
  ·exact h
  ·split
   ·rename_i hc
    exact h.new _ _ _ (L4b (L4a rfl)) (by rw [List.length_replicate];omega) (fun e=>by cases e) (fK _)
   ·exact h
 ·split
  ·exact h.new _ _ _ (L4b (L4b rfl)) R5 (fun _=>rfl) hv
  ·exact h
 ·rename_i h16 h17 h18
  show L6 (doA g _ _ _ _ _ _ _).obs;unfold doA;split <;> first | exact h | exact h.setE _ _ _ _ R3 _ (hv _ R5) | skip
  all_goals first
   | (unfold F6;split <;> exact h)
   | (unfold cA;split <;> exact h)
   | (unfold aB;split <;> exact h)
   | (unfold D2;split <;> exact h)
   | (exact absurd rfl (h16 rfl))
   | (split <;> first | exact h | (split <;> exact h))
   | skip
  all_goals first
   | exact (h16 _ rfl rfl).elim
   | exact (h17 _ rfl rfl).elim
   | exact (h18 _ rfl rfl).elim
   | skip
theorem a3F {sl:List Int} (hf:s.frs=fs++[f]) (o:fC g f k a rest args):mV g cap (sl,s)=doD g cap k a sl s fs f rest args:=by
 have e1:s.frs.getLast?=some f:=by rw [hf];simp
 have e2:s.frs.dropLast=fs:=by rw [hf];simp
 unfold mV;simp only;rw[e1,e2];simp only;rw[o.op,o.ar,o.pops,o.stk];have e3:(rest++args).length - ((args.length:Nat):Int).toNat=rest.length:=by simp
 rw[e3,List.take_left,List.drop_left];rfl
structure RV (g:PgR) (R:RfR) (t:McA):Prop where
 v:C8 (R.ths.map ThR.slot) R.abs t
 i:D4 g t
 th:L6 R.abs.obs
 cap:R.cap=t.obs.length
theorem RV.frame (h:RV g R t) (hp:S5 g) {f:FrR} (hf:f∈R.frs):f.loc.length<=8/\f.stk.length<=18/\f.pc < 60/\f.pc < (g.f f.fn).n:=by
 have hm:G4 (sig (R.ths.map ThR.slot)) f.abs∈t.frs:=by rw [h.v.frs];exact List.mem_map.2 ⟨_,List.mem_map.2 ⟨f,hf,rfl⟩,rfl⟩
 have:=h.i.frame hp hm;have e1:(G4 (sig (R.ths.map ThR.slot)) f.abs).loc.length=f.loc.length:=by show (f.abs.loc.map _).length=_;rw [List.length_map];rfl
 have e2:(G4 (sig (R.ths.map ThR.slot)) f.abs).stk.length=f.stk.length:=by show (f.abs.stk.map _).length=_;rw [List.length_map];rfl
 rw[e1,e2] at this;exact this
theorem RV.frs_len (h:RV g R t):R.frs.length<=12:=by
 have:=h.i.depth;rw[h.v.frs,List.length_map] at this;have e:R.abs.frs.length=R.frs.length:=by show (R.frs.map _).length=_;rw [List.length_map]
 omega
theorem RV.bd (h:RV g R t) (hp:S5 g) (hn:R.ths.length<=100000000000):fD R :=
 ⟨by have:=h.frs_len;omega,fun f hf=>by have:=h.frame hp hf;omega,hn,fun o ho=>by
  have:=(h.th o.abs (List.mem_map.2 ⟨o,ho,rfl⟩)).2.1;have e:o.abs.2.length=o.fl.length:=rfl;omega⟩
theorem RV.rin (h:RV g R t):bX R :=
 ⟨fun v hv h2=>by
  have:=h.v.vals v hv h2;have hl:=this.2.lt;rw[List.length_map] at hl;exact⟨this.1,hl⟩,fun o ho v hv h2=>⟨(h.th o.abs (List.mem_map.2 ⟨o,ho,rfl⟩)).2.2.2 v hv h2,by
  have:=h.v.within o.abs (List.mem_map.2 ⟨o,ho,rfl⟩) v hv h2;have e:R.abs.obs.length=R.ths.length:=by show (R.ths.map _).length=_;rw [List.length_map]
  omega⟩⟩
theorem RV.sl (h:RV g R t):zY R :=
 ⟨fun o ho=>by
  obtain⟨i,hi⟩:=List.mem_iff_getElem?.1 ho;have:=h.v.bd i o.slot (by rw [List.getElem?_map,hi];rfl);omega,fun o ho hk=>(h.th o.abs (List.mem_map.2 ⟨o,ho,rfl⟩)).2.2.1 hk⟩
theorem RV.kind (h:RV g R t):∀o,o∈R.ths->o.kind=1\/o.kind=2\/o.kind=3:=fun o ho=>(h.th o.abs (List.mem_map.2 ⟨o,ho,rfl⟩)).1
theorem RV.fl (h:RV g R t) {j:Nat} {o:ThR} (ho:R.ths[j]?=some o):o.fl.length<=12:=(h.th o.abs (List.mem_map.2 ⟨o,L2a ho,rfl⟩)).2.1
theorem RV.refIn (h:RV g R t) {f:FrR} (hf:f∈R.frs) {v:Val} (hv:v∈f.loc++f.stk):dM R v:=fun h2 =>
 h.rin.vals v (F9.2 ⟨f.abs,List.mem_map.2 ⟨f,hf,rfl⟩,hv⟩) h2
end
section
variable {R:RfR} {W:World} {f:FrR} {fs:List FrR} {g:PgR} {mb:Nat} {own:Own}
theorem oQ (h:A8 W own mb g R) (hf:R.frs=fs++[f]) (hfn:f.fn < g.n) (hpc:f.pc < (g.f f.fn).n) (hgn:g.n<=1000) (hcn:(g.f f.fn).n<=1000) (hfs:fs.length<=1000) (hstn:f.stk.length<=1000) (hop:(g.f f.fn).op f.pc=14) {st:Int} {P:RfR->Prop}
  (hcall:∀U,L0d W U->Calls prog 137 #[.pointer (some ⟨mb,0,none⟩),.int .i64 ((g.f f.fn).ar f.pc)] U fun e w'=>e=.returned (.int .i64 st)/\∃own' R',P R'/\A8 w' own' mb g R'/\A2 own U own' w') :
  Calls prog 100 #[.pointer (some ⟨mb,0,none⟩)] W fun e w'=>e=.returned (.tuple #[])/\∃own' R',P R'/\A8 w' own' mb g { R' with st:=st }/\A2 own W own' w':=by
 have xl:=h.lt _ _ h.me;obtain⟨cb,cc,xr,m4,xo,xd,xu,k0,k1,k2,k3,m0,xx,x2,xv,y0,y1⟩:=h.front hf hfn hpc;obtain⟨sa,sc,xi,xm,xn⟩:=(h.stk fs.length f (by rw [hf];simp)).vals;obtain⟨la,lc,xg,_,_⟩:=(h.loc fs.length f (by rw [hf];simp)).vals;have xt:Hid (∀k,W.heap.size<=k->own k=none):=hid fun k hk=>by
  cases e:own k with
  | none=>rfl
  | some t=>have:=h.lt k t e;omega
 have HH:=hid h;have HC:=hid hcall;rw[xg] at k2;rw[xi] at k3;rw[hop] at y0;generalize har:(g.f f.fn).ar f.pc=ar at *
 have xq:(f.fn:Int) < (g.n:Int):=(fun (_:g.n<=1000) (_:(g.f f.fn).n<=1000) (_:fs.length<=1000) (_:f.stk.length<=1000)=>by omega) hgn hcn hfs hstn;have xs:(f.pc:Int) < ((g.f f.fn).n:Int):=by omega
 have xe:mb < W.heap.size+1:=by omega
 have xf:g.b < W.heap.size+1:=by omega
 have xc:(g.f f.fn).b < W.heap.size+1:=by omega
 clear h hcall xr hf xi xg xn xu har xm hop;go_enter func100,ntmps100;go_wp2_with fail;go_region
 go_wp2_with fail;refine (HC.out _ P4).mono ?_;rintro e w1 ⟨rfl,xb,R1,xh,xa,xj⟩;have xy:Hid (A2 own W xb w1):=hid ((A2.of_below P4).trans xj)
 have xk:=xa.lt _ _ xa.me;have n2:=xa.c2;have z2:=xa.fz 2;have xp:=hid xa;have xw:=hid xh;clear xa xj xh m4 xo xd k0 k1 k2 k3 m0 xx x2 xv y0 y1 xl xe xf xc;go_wp2_with fail;obtain⟨hF,hT⟩:=xp.out.setSt st;refine bodyPost_ret (v:=.tuple #[]) (by simp [results,results100,go_sem]) rfl ?_;exact⟨rfl,xb,R1,xw.out,hF,xy.out.trans hT⟩
theorem kC (h:A8 W own mb g R) (hf:R.frs=fs++[f]) (hfn:f.fn < g.n) (hpc:f.pc < (g.f f.fn).n) (hgn:g.n<=1000) (hcn:(g.f f.fn).n<=1000) (hfs:fs.length<=1000) (hstn:f.stk.length<=1000) (hop:(g.f f.fn).op f.pc=15) {st:Int} {P:RfR->Prop}
  (hcall:∀U,L0d W U->Calls prog 138 #[.pointer (some ⟨mb,0,none⟩)] U fun e w'=>e=.returned (.int .i64 st)/\∃own' R',P R'/\A8 w' own' mb g R'/\A2 own U own' w') :
  Calls prog 100 #[.pointer (some ⟨mb,0,none⟩)] W fun e w'=>e=.returned (.tuple #[])/\∃own' R',P R'/\A8 w' own' mb g { R' with st:=st }/\A2 own W own' w':=by
 have xl:=h.lt _ _ h.me;obtain⟨cb,cc,xr,m4,xo,xd,xu,k0,k1,k2,k3,m0,xx,x2,xv,y0,y1⟩:=h.front hf hfn hpc;obtain⟨sa,sc,xi,xm,xn⟩:=(h.stk fs.length f (by rw [hf];simp)).vals;obtain⟨la,lc,xg,_,_⟩:=(h.loc fs.length f (by rw [hf];simp)).vals;have xt:Hid (∀k,W.heap.size<=k->own k=none):=hid fun k hk=>by
  cases e:own k with
  | none=>rfl
  | some t=>have:=h.lt k t e;omega
 have HH:=hid h;have HC:=hid hcall;rw[xg] at k2;rw[xi] at k3;rw[hop] at y0;generalize har:(g.f f.fn).ar f.pc=ar at *
 have xq:(f.fn:Int) < (g.n:Int):=(fun (_:g.n<=1000) (_:(g.f f.fn).n<=1000) (_:fs.length<=1000) (_:f.stk.length<=1000)=>by omega) hgn hcn hfs hstn;have xs:(f.pc:Int) < ((g.f f.fn).n:Int):=by omega
 have xe:mb < W.heap.size+1:=by omega
 have xf:g.b < W.heap.size+1:=by omega
 have xc:(g.f f.fn).b < W.heap.size+1:=by omega
 clear h hcall xr hf xi xg xn xu har xm hop;go_enter func100,ntmps100;go_wp2_with fail;go_region
 go_wp2_with fail;refine (HC.out _ P4).mono ?_;rintro e w1 ⟨rfl,xb,R1,xh,xa,xj⟩;have xy:Hid (A2 own W xb w1):=hid ((A2.of_below P4).trans xj)
 have xk:=xa.lt _ _ xa.me;have n2:=xa.c2;have z2:=xa.fz 2;have xp:=hid xa;have xw:=hid xh;clear xa xj xh m4 xo xd k0 k1 k2 k3 m0 xx x2 xv y0 y1 xl xe xf xc;go_wp2_with fail;obtain⟨hF,hT⟩:=xp.out.setSt st;refine bodyPost_ret (v:=.tuple #[]) (by simp [results,results100,go_sem]) rfl ?_;exact⟨rfl,xb,R1,xw.out,hF,xy.out.trans hT⟩
end
section
variable {x y:Val}
structure OpR (W:World) (own:Own) (mb:Nat) (g:PgR) (R:RfR) (t:McA) (fs:List FrR) (f:FrR) (k:Nat) (a:Int) (rest args:List Val):Prop where
 h:A8 W own mb g R
 hp:S5 g
 rv:RV g R t
 st:R.st=0
 hf:R.frs=fs++[f]
 stk:f.stk=rest++args
 op:(g.f f.fn).op f.pc=(k:Int)
 ar:(g.f f.fn).ar f.pc=a
 pops:O1 k (g.f a.toNat).p=args.length
 leg:E7 g.n (g.f f.fn).l (g.f f.fn).n k a=true
 fn:f.fn < g.n
 hloc:(f.loc.length:Int)=(g.f f.fn).l
 ths:R.ths.length<=10000000000
def E8 (own:Own) (mb:Nat) (g:PgR) (R:RfR) (m:List Int × McA) (W:World) (e:Ending) (w':World):Prop :=
 e=.returned (.tuple #[])/\∃own' R',A8 w' own' mb g R'/\R'.cap=R.cap/\(R'.ths.map ThR.slot,R'.abs)=m/\A2 own W own' w'/\∀b q,R'.da=some ⟨b,q,none⟩->∃q',R.da=some ⟨b,q',none⟩
section
variable {W:World} {own:Own} {mb:Nat} {g:PgR} {R:RfR} {t:McA} {fs:List FrR} {f:FrR} {k:Nat} {a:Int} {rest args:List Val}
theorem OpR.mem (o:OpR W own mb g R t fs f k a rest args):f∈R.frs:=by rw [o.hf];simp
theorem OpR.bds (o:OpR W own mb g R t fs f k a rest args):f.loc.length<=8/\f.stk.length<=18/\f.pc < 60/\f.pc < (g.f f.fn).n:=o.rv.frame o.hp o.mem
theorem OpR.gn (o:OpR W own mb g R t fs f k a rest args):g.n<=1000:=by have:=o.hp.sized.2.1;omega
theorem OpR.cn (o:OpR W own mb g R t fs f k a rest args):(g.f f.fn).n<=1000:=by have:=o.hp.sized.bd o.fn;omega
theorem OpR.fsn (o:OpR W own mb g R t fs f k a rest args):fs.length<=11:=by have:=o.rv.frs_len;rw [o.hf] at this;simp at this;omega
theorem OpR.bd (o:OpR W own mb g R t fs f k a rest args):fD R:=o.rv.bd o.hp (by have:=o.ths;omega)
theorem OpR.ref (o:OpR W own mb g R t fs f k a rest args) {v:Val} (hv:v∈args):dM R v:=o.rv.refIn o.mem (by rw [o.stk];simp [hv])
theorem OpR.hfA (o:OpR W own mb g R t fs f k a rest args):R.abs.frs=fs.map FrR.abs++[f.abs]:=by show R.frs.map FrR.abs=_;rw [o.hf];simp
theorem OpR.hfl (o:OpR W own mb g R t fs f k a rest args):R.frs[fs.length]?=some f:=by rw [o.hf];simp
theorem OpR.opAt (o:OpR W own mb g R t fs f k a rest args):fC g f.abs k a rest args:=⟨o.op,o.ar,o.stk,o.pops⟩
theorem OpR.slen (o:OpR W own mb g R t fs f k a rest args):f.stk.length=rest.length+args.length:=by rw [o.stk,List.length_append]
theorem OpR.thn (o:OpR W own mb g R t fs f k a rest args):R.ths.length<=100000000000:=by have:=o.ths;omega
theorem OpR.lists (o:OpR W own mb g R t fs f k a rest args):∃sa sc la lc,f.sv=.slice sa f.stk.length sc/\f.lv=.slice la f.loc.length lc/\f.stk.length<=sc/\f.loc.length<=lc /\
  (0 < f.stk.length->∃sb,sa=some ⟨sb,0,none⟩/\sb < W.heap.size/\own sb=some (.stk fs.length)/\∀V,L0d W V->∀(i:Nat) (x:Val),f.stk[i]?=some x->V.cell? ⟨sb,i*2,none⟩=some (.int .u8 x.1)/\V.cell? ⟨sb,i*2+1,none⟩=some (.int .i64 x.2)) /\
  (0 < f.loc.length->∃lb,la=some ⟨lb,0,none⟩/\lb < W.heap.size/\own lb=some (.loc fs.length)/\∀V,L0d W V->∀(i:Nat) (x:Val),f.loc[i]?=some x->V.cell? ⟨lb,i*2,none⟩=some (.int .u8 x.1)/\V.cell? ⟨lb,i*2+1,none⟩=some (.int .i64 x.2)):=by
 have hs:=o.h.stk fs.length f o.hfl;have hl:=o.h.loc fs.length f o.hfl;obtain⟨sa,sc,xa,xf,xc⟩:=hs.vals;obtain⟨la,lc,xb,xd,xe⟩:=hl.vals;refine⟨sa,sc,la,lc,xa,xb,xf,xd,fun h0=>?_,fun h0=>?_⟩
 ·obtain ⟨sb,rfl,h1,h2⟩:=xc h0
  exact⟨sb,rfl,h1,hs.2 sb (by rw [xa];rfl),fun V hV i x hx=>⟨keep hV h1 (h2 i x hx).1,keep hV h1 (h2 i x hx).2⟩⟩
 ·obtain ⟨sb,rfl,h1,h2⟩:=xe h0
  exact⟨sb,rfl,h1,hl.2 sb (by rw [xb];rfl),fun V hV i x hx=>⟨keep hV h1 (h2 i x hx).1,keep hV h1 (h2 i x hx).2⟩⟩
theorem OpR.at1 (o:OpR W own mb g R t fs f k a rest [x]):∃sb sc la lc,f.sv=.slice (some ⟨sb,0,none⟩) (rest.length+1) sc/\f.lv=.slice la f.loc.length lc/\own sb=some (.stk fs.length)/\∀V,L0d W V->sb < V.heap.size/\V.cell? ⟨sb,rest.length*2,none⟩=some (.int .u8 x.1)/\V.cell? ⟨sb,rest.length*2+1,none⟩=some (.int .i64 x.2):=by
 obtain⟨sa,sc,la,lc,xa,xd,_,_,hs,_⟩:=o.lists;have hl:f.stk.length=rest.length+1:=o.slen;obtain⟨sb,rfl,xb,xc,hc⟩:=hs R4;rw[hl] at xa;have e:f.stk[rest.length]?=some x:=by rw [o.stk];simp
 exact⟨sb,sc,la,lc,xa,xd,xc,fun V hV=>⟨L0a xb hV.size,hc V hV _ _ e⟩⟩
theorem OpR.at2 (o:OpR W own mb g R t fs f k a rest [x,y]):∃sb sc la lc,f.sv=.slice (some ⟨sb,0,none⟩) (rest.length+2) sc/\f.lv=.slice la f.loc.length lc/\own sb=some (.stk fs.length)/\∀V,L0d W V->sb < V.heap.size/\V.cell? ⟨sb,rest.length*2,none⟩=some (.int .u8 x.1)/\V.cell? ⟨sb,rest.length*2+1,none⟩=some (.int .i64 x.2)/\V.cell? ⟨sb,(rest.length+1)*2,none⟩=some (.int .u8 y.1)/\V.cell? ⟨sb,(rest.length+1)*2+1,none⟩=some (.int .i64 y.2):=by
 obtain⟨sa,sc,la,lc,xa,xd,_,_,hs,_⟩:=o.lists;have hl:f.stk.length=rest.length+2:=o.slen;obtain⟨sb,rfl,xb,xc,hc⟩:=hs R4;rw[hl] at xa;have e:f.stk[rest.length]?=some x:=by rw [o.stk];simp
 have e2:f.stk[rest.length+1]?=some y:=by rw [o.stk,List.getElem?_append_right R4];simp
 exact⟨sb,sc,la,lc,xa,xd,xc,fun V hV=>⟨L0a xb hV.size,(hc V hV _ _ e).1,(hc V hV _ _ e).2,hc V hV _ _ e2⟩⟩
theorem OpR.at3 {z:Val} (o:OpR W own mb g R t fs f k a rest [x,y,z]):∃sb sc la lc,f.sv=.slice (some ⟨sb,0,none⟩) (rest.length+3) sc/\f.lv=.slice la f.loc.length lc/\own sb=some (.stk fs.length)/\∀V,L0d W V->sb < V.heap.size/\V.cell? ⟨sb,rest.length*2,none⟩=some (.int .u8 x.1)/\V.cell? ⟨sb,rest.length*2+1,none⟩=some (.int .i64 x.2)/\V.cell? ⟨sb,(rest.length+1)*2,none⟩=some (.int .u8 y.1)/\V.cell? ⟨sb,(rest.length+1)*2+1,none⟩=some (.int .i64 y.2)/\V.cell? ⟨sb,(rest.length+2)*2,none⟩=some (.int .u8 z.1)/\V.cell? ⟨sb,(rest.length+2)*2+1,none⟩=some (.int .i64 z.2):=by
 obtain⟨sa,sc,la,lc,xa,xd,_,_,hs,_⟩:=o.lists;have hl:f.stk.length=rest.length+3:=o.slen;obtain⟨sb,rfl,xb,xc,hc⟩:=hs R4;rw[hl] at xa;have e:f.stk[rest.length]?=some x:=by rw [o.stk];simp
 have e2:f.stk[rest.length+1]?=some y:=by rw [o.stk,List.getElem?_append_right R4];simp
 have e3:f.stk[rest.length+2]?=some z:=by rw [o.stk,List.getElem?_append_right R4];simp
 exact⟨sb,sc,la,lc,xa,xd,xc,fun V hV=>⟨L0a xb hV.size,(hc V hV _ _ e).1,(hc V hV _ _ e).2,(hc V hV _ _ e2).1,(hc V hV _ _ e2).2,hc V hV _ _ e3⟩⟩
theorem OpR.go (o:OpR W own mb g R t fs f k a rest args) (h14:k≠14) (h15:k≠15) (h27:k≠27) {P:RfR->Prop} {drop to:Nat} {push:List Val} {m:List Int × McA} (hdr:drop<=f.stk.length) (hpu:push.length<=1000)
  (hP:∀R',P R'->(∃l,R'.frs=fs++[{ f with loc:=l }])/\R'.cv=R.cv/\∀b q,R'.da=some ⟨b,q,none⟩->b < W.heap.size)
  (hdo:∀U,L0d W U->Calls prog 139 #[.pointer (some ⟨mb,0,none⟩),.agg #[.int .i64 (k:Int),.int .i64 a],.agg #[.int .i64 (f.fn:Int),.int .i64 (f.pc:Int),f.lv,f.sv]] U fun e w'=>J6 own mb g P (drop:Int) push (to:Int) 0 U e w')
  (hend:∀R' sv l,P R'->R'.frs=fs++[{ f with loc:=l }]->R'.cap=R.cap/\(R'.ths.map ThR.slot,RfR.abs { R' with frs:=fs++[{ f with loc:=l,pc:=to,sv:=sv,stk:=f.stk.take (f.stk.length - drop)++push }] })=m/\∀b q,R'.da=some ⟨b,q,none⟩->∃q',R.da=some ⟨b,q',none⟩) :
  Calls prog 100 #[.pointer (some ⟨mb,0,none⟩)] W fun e w'=>E8 own mb g R m W e w':=by
 have hb:=o.bds;have xd:=o.fsn;refine (a5s o.h o.hf o.fn hb.2.2.2 o.gn o.cn R4 R4 (by rw [o.op];omega) (by rw [o.op];omega) (by rw [o.op];omega) hdr hpu hP (fun U hB=>by rw [o.op,o.ar];exact hdo U hB)).mono ?_;rintro e w' ⟨rfl,xa,R',sv,l,xc,xb,hR,hT⟩;obtain⟨h1,h2,h3⟩:=hend R' sv l xc xb;exact⟨rfl,xa,_,hR,h1,h2,hT,h3⟩
theorem OpR.goP (o:OpR W own mb g R t fs f k a rest args) (h14:k≠14) (h15:k≠15) (h27:k≠27) (drop to:Nat) {dI tI:Int} {push l:List Val} (hdI:dI=(drop:Int)) (htI:tI=(to:Int)) (hdr:drop<=f.stk.length) (hpu:push.length<=1000) (hl:f.stk.take (f.stk.length - drop)++push=l)
  (hdo:∀U,L0d W U->Calls prog 139 #[.pointer (some ⟨mb,0,none⟩),.agg #[.int .i64 (k:Int),.int .i64 a],.agg #[.int .i64 (f.fn:Int),.int .i64 (f.pc:Int),f.lv,f.sv]] U fun e w'=>J6 own mb g (fun R'=>R'=R) dI push tI 0 U e w') :
  Calls prog 100 #[.pointer (some ⟨mb,0,none⟩)] W fun e w'=>E8 own mb g R (R.ths.map ThR.slot,goA R.abs (fs.map FrR.abs) f.abs to l) W e w':=by
 subst hdI htI;refine o.go h14 h15 h27 hdr hpu (fun R' e=>?_) hdo (fun R' sv l' e hfr=>?_)
 ·subst e
  exact⟨⟨f.loc,by rw [o.hf]⟩,rfl,fun b q e=>(o.h.dro b q e).1⟩
 ·subst e
  rw[o.hf] at hfr;have e2:f.loc=l':=by
   have:=List.append_cancel_left hfr;simp only[List.cons.injEq,and_true] at this;rw[this]
  subst e2;refine⟨rfl,Prod.ext rfl ?_,fun b q e=>⟨q,e⟩⟩;show (⟨R'.st,R'.out,(fs++[_]).map FrR.abs,_,R'.dr⟩:McA)=_;rw[o.st,List.map_append,List.map_cons,List.map_nil,hl];rfl
theorem OpR.trap (o:OpR W own mb g R t fs f k a rest args) (h14:k≠14) (h15:k≠15) (h27:k≠27) {st:Int} (ht:st≠0)
  (hdo:∀U,L0d W U->Calls prog 139 #[.pointer (some ⟨mb,0,none⟩),.agg #[.int .i64 (k:Int),.int .i64 a],.agg #[.int .i64 (f.fn:Int),.int .i64 (f.pc:Int),f.lv,f.sv]] U fun e w'=>J6 own mb g (fun R'=>R'=R) 0 [] 0 st U e w') :
  Calls prog 100 #[.pointer (some ⟨mb,0,none⟩)] W fun e w'=>E8 own mb g R (R.ths.map ThR.slot,C7 R.abs st) W e w':=by
 have hb:=o.bds;have xb:=o.fsn;refine (a1H o.h o.hf o.fn hb.2.2.2 o.gn o.cn R4 R4 (by rw [o.op];omega) (by rw [o.op];omega) (by rw [o.op];omega) ht (fun U hB=>by rw [o.op,o.ar];exact hdo U hB)).mono ?_;rintro e w' ⟨rfl,xa,hR,hT⟩;exact⟨rfl,xa,_,hR,rfl,rfl,hT,fun b q e=>⟨q,e⟩⟩
theorem OpR.simple (o:OpR W own mb g R t fs f k a rest args) (hk:k < 16\/24 < k) {P:RfR->Prop} {drop:Int} {push:List Val} {to trap:Int} (hpd:∀R',P R'->∀b q,R'.da=some ⟨b,q,none⟩->b < W.heap.size)
  (hc:∀V,L0d W V->Calls prog 185 #[.pointer (some ⟨mb,0,none⟩),.agg #[.int .i64 (k:Int),.int .i64 a],.int .i64 (f.pc:Int),.agg #[.int .i64 (f.fn:Int),.int .i64 (f.pc:Int),f.lv,f.sv]] V fun e w'=>J6 own mb g P drop push to trap V e w') :
  ∀U,L0d W U->Calls prog 139 #[.pointer (some ⟨mb,0,none⟩),.agg #[.int .i64 (k:Int),.int .i64 a],.agg #[.int .i64 (f.fn:Int),.int .i64 (f.pc:Int),f.lv,f.sv]] U fun e w'=>J6 own mb g P drop push to trap U e w':=by
 intro U hB;have xa:(k:Int) < 16\/24 < (k:Int):=by omega
 obtain⟨sa,sc,la,lc,xd,xe,_,_,hs,_⟩:=o.lists;have hb:=o.bds;rw[xd,xe] at hc ⊢;by_cases h0:f.stk.length=0
 ·rw [h0] at hc ⊢
  exact xH (o.h.same hB) f.fn f.pc a k xa (fun R' h b q e=>L0a (hpd R' h b q e) hB.size) fun V hV=>hc V (hB.trans (hV.mono hB.size))
 ·obtain ⟨sb,rfl,xc,_,xf⟩:=hs R4
  obtain⟨m,hm⟩:∃m,f.stk.length=m+1:=⟨f.stk.length - 1,by omega⟩
  have hx:f.stk[m]?=some f.stk[m]:=L1b R4;have xb:=xf U hB m _ hx;rw[hm] at hc ⊢;exact a1h (o.h.same hB) f.fn f.pc a k xa (L0a xc hB.size) xb.1 xb.2 R4 (fun R' h b q e=>L0a (hpd R' h b q e) hB.size) fun V hV=>hc V (hB.trans (hV.mono hB.size))
theorem OpR.pd (o:OpR W own mb g R t fs f k a rest args):∀R',R'=R->∀b q,R'.da=some ⟨b,q,none⟩->b < W.heap.size:=fun R' e b q hq=>by subst e;exact (o.h.dro b q hq).1
theorem OpR.does (o:OpR W own mb g R t fs f k a rest args) {sb m sc nl lc:Nat} {la:Option Addr} (hsv:f.sv=.slice (some ⟨sb,0,none⟩) (m+1) sc) (hlv:f.lv=.slice la nl lc) {tk tn:Int} (ht:∀V,L0d W V->sb < V.heap.size/\V.cell? ⟨sb,m*2,none⟩=some (.int .u8 tk)/\V.cell? ⟨sb,m*2+1,none⟩=some (.int .i64 tn)) (hm:m<=1000) ⦃P:RfR->Prop⦄ ⦃drop:Int⦄ ⦃push:List Val⦄ ⦃to trap:Int⦄ ⦃c:Nat⦄ ⦃X:Value⦄ (hpd:∀R',P R'->∀b q,R'.da=some ⟨b,q,none⟩->b < W.heap.size)
  (hc:∀V,L0d W V->Calls prog c #[.pointer (some ⟨mb,0,none⟩),.agg #[.int .i64 (k:Int),.int .i64 a],.int .i64 (f.pc:Int),X] V fun e w'=>J6 own mb g P drop push to trap V e w') (hk:((k:Int),c,X)∈dR (.agg #[.int .u8 tk,.int .i64 tn]) (.slice (some ⟨sb,0,none⟩) (m+1) sc):=by simp [dR];try rfl) :
  ∀U,L0d W U->Calls prog 139 #[.pointer (some ⟨mb,0,none⟩),.agg #[.int .i64 (k:Int),.int .i64 a],.agg #[.int .i64 (f.fn:Int),.int .i64 (f.pc:Int),f.lv,f.sv]] U fun e w'=>J6 own mb g P drop push to trap U e w':=fun U hB=>by
 rw[hsv,hlv];exact qK (o.h.same hB) f.fn f.pc a k c X (ht U hB).1 (ht U hB).2.1 (ht U hB).2.2 hm hk (fun R' h b q e=>L0a (hpd R' h b q e) hB.size) fun V hV=>hc V (hB.trans (hV.mono hB.size))
theorem OpR.doesP (o:OpR W own mb g R t fs f k a rest args) {sb m sc nl lc:Nat} {la:Option Addr} (hsv:f.sv=.slice (some ⟨sb,0,none⟩) (m+1) sc) (hlv:f.lv=.slice la nl lc) {tk tn:Int} (ht:∀V,L0d W V->sb < V.heap.size/\V.cell? ⟨sb,m*2,none⟩=some (.int .u8 tk)/\V.cell? ⟨sb,m*2+1,none⟩=some (.int .i64 tn)) (hm:m<=1000) ⦃drop:Int⦄ ⦃push:List Val⦄ ⦃to trap:Int⦄ ⦃c:Nat⦄ ⦃X:Value⦄
  (hc:∀V,L0d W V->Calls prog c #[.pointer (some ⟨mb,0,none⟩),.agg #[.int .i64 (k:Int),.int .i64 a],.int .i64 (f.pc:Int),X] V fun e w'=>C2 drop push to trap V e w') (hk:((k:Int),c,X)∈dR (.agg #[.int .u8 tk,.int .i64 tn]) (.slice (some ⟨sb,0,none⟩) (m+1) sc):=by simp [dR];try rfl) :
  ∀U,L0d W U->Calls prog 139 #[.pointer (some ⟨mb,0,none⟩),.agg #[.int .i64 (k:Int),.int .i64 a],.agg #[.int .i64 (f.fn:Int),.int .i64 (f.pc:Int),f.lv,f.sv]] U fun e w'=>J6 own mb g (fun R'=>R'=R) drop push to trap U e w' :=
 o.does hsv hlv ht hm o.pd (fun V hV=>(hc V hV).mono fun _ _ hd=>hd.toQ (o.h.same hV)) hk
theorem OpR.simpleP (o:OpR W own mb g R t fs f k a rest args) (hk:k < 16\/24 < k) {drop:Int} {push:List Val} {to trap:Int}
  (hc:∀V,L0d W V->Calls prog 185 #[.pointer (some ⟨mb,0,none⟩),.agg #[.int .i64 (k:Int),.int .i64 a],.int .i64 (f.pc:Int),.agg #[.int .i64 (f.fn:Int),.int .i64 (f.pc:Int),f.lv,f.sv]] V fun e w'=>C2 drop push to trap V e w') :
  ∀U,L0d W U->Calls prog 139 #[.pointer (some ⟨mb,0,none⟩),.agg #[.int .i64 (k:Int),.int .i64 a],.agg #[.int .i64 (f.fn:Int),.int .i64 (f.pc:Int),f.lv,f.sv]] U fun e w'=>J6 own mb g (fun R'=>R'=R) drop push to trap U e w' :=
 o.simple hk o.pd fun V hV=>(hc V hV).mono fun _ _ hd=>hd.toQ (o.h.same hV)
end
end
theorem qV {W:World} {own:Own} {mb:Nat} {g:PgR} {R:RfR} (h:A8 W own mb g R) {j:Nat} {o:ThR} (ho:R.ths[j]?=some o) (a:Int) (pc:Nat) (hpc:pc<=1000) (hk:o.kind=3) {i:Nat} (hfl:o.fl=[(2,(i:Int))]) (hb:fD R) (hr:bX R) (hin:i∈A1 R.abs) (hn:o.fl.length<=1000) (hth:R.ths.length<=100000000000) :
  Calls prog 184 #[.pointer (some ⟨mb,0,none⟩),.agg #[.int .i64 24,.int .i64 a],.int .i64 (pc:Int),.agg #[.int .u8 2,.int .i64 (j:Int)]] W fun e w'=>C2 1 [(2,(i:Int))] ((pc:Int)+1) 0 W e w':=by
 have HK:=dV h ho;have yg:=(fun (_:pc<=1000) (_:o.fl.length<=1000) (_:R.ths.length<=100000000000)=>h.lt _ _ h.me) hpc hn hth;obtain⟨tb,tc,fa,fc,m5,yh,t1,xx,yv,xi⟩:=h.thing ho;have yt:=(L1a.1 ho).1;have xp:(j:Int) < (R.ths.length:Int):=by omega
 obtain⟨fb,rfl,ys,xc⟩:=xi (by rw [hfl];simp);obtain⟨f0,f1⟩:=xc 0 (2,(i:Int)) (by rw [hfl];rfl);rw[Nat.zero_mul] at f0 f1;have xe:o.fl.length=1:=by rw [hfl];rfl
 rw[xe] at t1;simp only at f0 f1;rw[hk] at HK;have xf:Hid (∀U,L0d W U->Calls prog 86 #[.pointer (some ⟨mb,0,none⟩)] U fun e w'=>∃v,e=.returned v/\w'.ownsRow U.heap.size 3 1 v (A1 R.abs).length (X2 (A1 R.abs))/\L0d U w'):=hid fun U hU=>cB (h.same hU) hb hr
 have yx:(A1 R.abs).length<=100000000000:=L5a (eM hr) hb.ths;have xl:=cE (l:=A1 R.abs) (j:=i);generalize A1 R.abs=al at *
 have hq:¬D8 (al.map fun n:Nat=>(n:Int)) 0 (i:Int) < 0:=fun c=>xl.1 c hin
 obtain⟨xv,ye,yc,xn,xw⟩:=N7 (show fb < W.heap.size by omega);generalize hnt:R.ths.length=nt at *
 generalize hnf:o.fl.length=nf at *
 obtain⟨yd,xo,ya,xq,xr⟩:=N7 (show mb < W.heap.size by omega);obtain⟨xz,yb,xm,xt,yf⟩:=N7 (show tb < W.heap.size by omega);clear h ho xi xc xx hk hb hr xl;go_enter func184,ntmps184;go_wp2_with (go_at_call 221;refine CE (HK.out _ P4) ?_)
 go_region
 go_wp2_with fail;refine (xf.out _ P4).mono ?_;rintro e w1 ⟨v1,rfl,xj,xa⟩;obtain⟨la,lc,rfl,xb⟩:=O3 xj;have q0:w1.cell? ⟨W.heap.size+1+1+1+1,0,none⟩=some (.int .u8 2):=keep xa R5 Q9
 have q1:w1.cell? ⟨W.heap.size+1+1+1+1,1,none⟩=some (.int .i64 (i:Int)):=keep xa R5 Q9;have yq:w1.frozen? ⟨W.heap.size+1+1+1+1,0,none⟩=false:=B9 xa R5 Q9;have yp:w1.frozen? ⟨W.heap.size+1+1+1+1,1,none⟩=false:=B9 xa R5 Q9;have d0:w1.cell? ⟨W.heap.size+1+1,0,none⟩=some (.int .i64 0):=keep xa R5 Q9;have d1:w1.cell? ⟨W.heap.size+1+1,1,none⟩=some (.slice none 0 0):=keep xa R5 Q9
 have d2:w1.cell? ⟨W.heap.size+1+1,2,none⟩=some (.int .i64 0):=keep xa R5 Q9;have d3:w1.cell? ⟨W.heap.size+1+1,3,none⟩=some (.int .i64 0):=keep xa R5 Q9;have yo:w1.frozen? ⟨W.heap.size+1+1,0,none⟩=false:=B9 xa R5 Q9;have yu:w1.frozen? ⟨W.heap.size+1+1,1,none⟩=false:=B9 xa R5 Q9;have yr:w1.frozen? ⟨W.heap.size+1+1,2,none⟩=false:=B9 xa R5 Q9
 have yl:w1.frozen? ⟨W.heap.size+1+1,3,none⟩=false:=B9 xa R5 Q9;have yw:W.heap.size+1+1+1+1+1<=w1.heap.size:=(by have:=xa.size;simpa using this);have xy:W.heap.size+1+1+1+1 < w1.heap.size:=by omega
 have xd:W.heap.size+1+1 < w1.heap.size:=by omega
 have xg:W.heap.size+1+1 < w1.heap.size+1:=by omega
 have xh:W.heap.size+1+1 < w1.heap.size+1+1:=by omega
 have xu:W.heap.size+1+1 < w1.heap.size+1+1+1:=by omega
 have xs:Hid (L0d W w1):=(hid (C5 xa P4 Q2));have xk:=(hid (eU la lc (al.map fun n:Nat=>(n:Int)) (i:Int) xb (by rw [List.length_map];omega)))
 rw[List.length_map] at xk;clear xj xa xb;generalize hTT:W.heap.size+1+1+1+1=tB at *
 generalize hDD:W.heap.size+1+1=dB at *
 have yk:tB≠dB:=by omega
 have yj:dB≠tB:=by omega
 have ym:W.heap.size<=dB:=by omega
 have yi:W.heap.size<=tB:=by omega
 have yn:W.heap.size<=w1.heap.size:=by omega
 go_wp2_with (first | (go_at_call 103;refine xk.out.mono ?_;rintro e w' ⟨rfl,hw⟩;rw [hw];clear hw w') | (go_at_call 220;refine CE (L9 _ _ (2,(i:Int)) _ hpc) ?_))
 refine bodyPost_ret (v:=.agg #[.int .i64 1,.slice (some ⟨w1.heap.size+1+1,0,none⟩) 1 1,.int .i64 ((pc:Int)+1),.int .i64 0]) (by simp [results,results184,go_sem,d0,d1,d2,d3,xd,xg,xh]) rfl ?_;refine⟨_,1,rfl,(by repeat (first | refine Below.setCell ?_ Q1 _ | refine L3a ?_ Q1 _ | exact xs.out)),rfl,L4b ⟨w1.heap.size+1+1,1,#[.int .u8 2,.int .i64 (i:Int)],rfl,by omega,?_,L1c _,by decide,rfl,rfl⟩⟩
 exact B1 R5
theorem qT {W:World} {own:Own} {mb:Nat} {g:PgR} {R:RfR} (h:A8 W own mb g R) {j:Nat} {o:ThR} (ho:R.ths[j]?=some o) (a:Int) (pc:Nat) (hpc:pc<=1000) (hk:o.kind=3) {i:Nat} (hfl:o.fl=[(2,(i:Int))]) (hb:fD R) (hr:bX R) (hin:i∉A1 R.abs) (hn:o.fl.length<=1000) (hth:R.ths.length<=100000000000) :
  Calls prog 184 #[.pointer (some ⟨mb,0,none⟩),.agg #[.int .i64 24,.int .i64 a],.int .i64 (pc:Int),.agg #[.int .u8 2,.int .i64 (j:Int)]] W fun e w'=>C2 1 [(0,0)] ((pc:Int)+1) 0 W e w':=by
 have HK:=dV h ho;have yw:=(fun (_:pc<=1000) (_:o.fl.length<=1000) (_:R.ths.length<=100000000000)=>h.lt _ _ h.me) hpc hn hth;obtain⟨tb,tc,fa,fc,m5,yy,t1,yq,yv,xn⟩:=h.thing ho;have za:=(L1a.1 ho).1;have xs:(j:Int) < (R.ths.length:Int):=by omega
 obtain⟨fb,rfl,yz,xc⟩:=xn (by rw [hfl];simp);obtain⟨f0,f1⟩:=xc 0 (2,(i:Int)) (by rw [hfl];rfl);rw[Nat.zero_mul] at f0 f1;have xj:o.fl.length=1:=by rw [hfl];rfl
 rw[xj] at t1;simp only at f0 f1;rw[hk] at HK;have xg:Hid (∀U,L0d W U->Calls prog 86 #[.pointer (some ⟨mb,0,none⟩)] U fun e w'=>∃v,e=.returned v/\w'.ownsRow U.heap.size 3 1 v (A1 R.abs).length (X2 (A1 R.abs))/\L0d U w'):=hid fun U hU=>cB (h.same hU) hb hr
 have yx:(A1 R.abs).length<=100000000000:=L5a (eM hr) hb.ths;have xm:=cE (l:=A1 R.abs) (j:=i);generalize A1 R.abs=al at *
 have hq:D8 (al.map fun n:Nat=>(n:Int)) 0 (i:Int) < 0:=xm.2 hin;obtain⟨yp,yr,ye,xw,yg⟩:=N7 (show fb < W.heap.size by omega);generalize hnt:R.ths.length=nt at *
 generalize hnf:o.fl.length=nf at *
 obtain⟨ya,xx,xz,yn,yo⟩:=N7 (show mb < W.heap.size by omega);obtain⟨xt,xv,xr,xy,yc⟩:=N7 (show tb < W.heap.size by omega);clear h ho xn xc yq hk hb hr xm;go_enter func184,ntmps184;go_wp2_with (go_at_call 221;refine CE (HK.out _ P4) ?_)
 go_region
 go_wp2_with fail;refine (xg.out _ P4).mono ?_;rintro e w1 ⟨v1,rfl,xq,xa⟩;obtain⟨la,lc,rfl,xb⟩:=O3 xq;have q0:w1.cell? ⟨W.heap.size+1+1+1+1,0,none⟩=some (.int .u8 2):=keep xa R5 Q9
 have q1:w1.cell? ⟨W.heap.size+1+1+1+1,1,none⟩=some (.int .i64 (i:Int)):=keep xa R5 Q9;have yl:w1.frozen? ⟨W.heap.size+1+1+1+1,0,none⟩=false:=B9 xa R5 Q9;have xu:w1.frozen? ⟨W.heap.size+1+1+1+1,1,none⟩=false:=B9 xa R5 Q9;have d0:w1.cell? ⟨W.heap.size+1+1,0,none⟩=some (.int .i64 0):=keep xa R5 Q9;have d1:w1.cell? ⟨W.heap.size+1+1,1,none⟩=some (.slice none 0 0):=keep xa R5 Q9
 have d2:w1.cell? ⟨W.heap.size+1+1,2,none⟩=some (.int .i64 0):=keep xa R5 Q9;have d3:w1.cell? ⟨W.heap.size+1+1,3,none⟩=some (.int .i64 0):=keep xa R5 Q9;have yk:w1.frozen? ⟨W.heap.size+1+1,0,none⟩=false:=B9 xa R5 Q9;have ys:w1.frozen? ⟨W.heap.size+1+1,1,none⟩=false:=B9 xa R5 Q9;have yb:w1.frozen? ⟨W.heap.size+1+1,2,none⟩=false:=B9 xa R5 Q9
 have yh:w1.frozen? ⟨W.heap.size+1+1,3,none⟩=false:=B9 xa R5 Q9;have yd:W.heap.size+1+1+1+1+1<=w1.heap.size:=(by have:=xa.size;simpa using this);have yi:W.heap.size+1+1+1+1 < w1.heap.size:=by omega
 have xf:W.heap.size+1+1 < w1.heap.size:=by omega
 have xd:W.heap.size+1+1 < w1.heap.size+1:=by omega
 have xe:W.heap.size+1+1 < w1.heap.size+1+1:=by omega
 have xh:W.heap.size+1+1 < w1.heap.size+1+1+1:=by omega
 have yf:Hid (L0d W w1):=(hid (C5 xa P4 Q2));have xl:=(hid (eU la lc (al.map fun n:Nat=>(n:Int)) (i:Int) xb (by rw [List.length_map];omega)))
 rw[List.length_map] at xl;clear xq xa xb;generalize hTT:W.heap.size+1+1+1+1=tB at *
 generalize hDD:W.heap.size+1+1=dB at *
 have yt:tB≠dB:=by omega
 have xo:dB≠tB:=by omega
 have yu:W.heap.size<=dB:=by omega
 have xp:W.heap.size<=tB:=by omega
 have yj:W.heap.size<=w1.heap.size:=by omega
 go_wp2_with fail;refine xl.out.mono ?_;rintro e w' ⟨rfl,hw⟩;rw[hw];clear hw w';go_wp2_with fail;have xi:((w1.setCell ⟨tB,0,none⟩ (.int .u8 0)).setCell ⟨tB,1,none⟩ (.int .i64 0)).heap[dB]?=w1.heap[dB]?:=by rw [heap_setCell_other _ _ _ _ xo,heap_setCell_other _ _ _ _ xo]
 rw[<- L0b (a:=⟨dB,_,none⟩) xi] at d0 d1 d2 d3;rw[<- L0c (a:=⟨dB,_,none⟩) xi] at yk ys yb yh;have ym:Hid (L0d W ((w1.setCell ⟨tB,0,none⟩ (.int .u8 0)).setCell ⟨tB,1,none⟩ (.int .i64 0))):=hid (Below.setCell (Below.setCell yf.out xp _) xp _);have xk:((w1.setCell ⟨tB,0,none⟩ (.int .u8 0)).setCell ⟨tB,1,none⟩ (.int .i64 0)).heap.size=w1.heap.size:=by simp
 rw[<- xk] at xf xd xe xh yj;clear xi xk q0 q1 yl xu yd;generalize ((w1.setCell ⟨tB,0,none⟩ (.int .u8 0)).setCell ⟨tB,1,none⟩ (.int .i64 0))=w2 at *
 refine (L9 _ _ (0,0) _ hpc).mono ?_;rintro e w' ⟨rfl,rfl⟩;go_wp2_with fail;refine bodyPost_ret (v:=.agg #[.int .i64 1,.slice (some ⟨w2.heap.size+1+1,0,none⟩) 1 1,.int .i64 ((pc:Int)+1),.int .i64 0]) (by simp [results,results184,go_sem,d0,d1,d2,d3,xf,xd,xe]) rfl ?_;refine⟨_,1,rfl,(by repeat (first | refine Below.setCell ?_ Q1 _ | refine L3a ?_ Q1 _ | exact ym.out)),rfl,L4b ⟨w2.heap.size+1+1,1,#[.int .u8 0,.int .i64 0],rfl,by omega,?_,L1c _,by decide,rfl,rfl⟩⟩
 exact B1 R5
section
variable {args:List Val} {ix x y:Val} {k:Nat}
theorem eP {R:RfR} {kind:Int} (hx:dM R x) (hk:kind≠0) :
  ((A0 R.abs.obs x).1≠kind/\F8 (A0 R.abs.obs x) kind ix=2) \/
  ∃(j:Nat) (o:ThR),x=(2,(j:Int))/\R.ths[j]?=some o/\A0 R.abs.obs x=o.abs/\o.kind=kind /\
   ((ix.1≠1/\F8 o.abs kind ix=2)\/(ix.1=1/\ix.2 < 0/\F8 o.abs kind ix=3)\/(ix.1=1/\0<=ix.2/\(o.fl.length:Int)<=ix.2/\F8 o.abs kind ix=3)\/∃(i:Nat) (y:Val),ix=(1,(i:Int))/\o.fl[i]?=some y/\F8 o.abs kind ix=0):=by
 by_cases h1:(A0 R.abs.obs x).1=kind
 ·obtain ⟨j,o,e1,e2,e3⟩:=T5 hx (by rw [h1];exact hk)
  have xa:o.kind=kind:=by rw [e3] at h1;exact h1
  refine L4b ⟨j,o,e1,e2,e3,xa,?_⟩;have xb:o.abs.1=kind:=xa;unfold F8;by_cases i1:ix.1=1
  ·rw [if_neg (by rw [xb];simp [i1])]
   by_cases i2:ix.2 < 0
   ·exact L4b (L4a ⟨i1,i2,by rw [if_neg R4]⟩)
   ·by_cases i3:(o.fl.length:Int)<=ix.2
    ·refine L4b (L4b (L4a ⟨i1,by omega,i3,?_⟩))
     rw[if_neg];have e:o.abs.2.length=o.fl.length:=rfl;omega
    ·obtain ⟨i,hi⟩:=L5c (show 0<=ix.2 by omega)
     have hl:i < o.fl.length:=by omega
     refine L4b (L4b (L4b ⟨i,o.fl[i],Prod.ext i1 hi,L1b hl,?_⟩));rw[if_pos];have e:o.abs.2.length=o.fl.length:=rfl;omega
  ·exact L4a ⟨i1,by rw [if_pos (L4b i1)]⟩
 ·exact L4a ⟨h1,by unfold F8;rw [if_pos (L4a h1)]⟩
section
variable {W:World} {own:Own} {mb:Nat} {g:PgR} {R:RfR} {t:McA} {fs:List FrR} {f:FrR} {a:Int} {rest:List Val}
theorem OpR.kz (o:OpR W own mb g R t fs f k a rest args):∀q,q∈R.ths->q.kind≠0:=fun q hq e=>by have:=o.rv.kind q hq;omega
theorem yZ {o:ThR} {i:Nat} (h:o.fl[i]?=some y):o.abs.2.getD (i:Int).toNat (0,0)=y:=by
 show o.fl.getD _ _=y;rw[Int.toNat_natCast,List.getD_eq_getElem?_getD,h];rfl
theorem a6q (o:OpR W own mb g R t fs f 19 a rest [x]):Calls prog 100 #[.pointer (some ⟨mb,0,none⟩)] W fun e w'=>E8 own mb g R (doD g R.cap 19 a (R.ths.map ThR.slot) R.abs (fs.map FrR.abs) f.abs rest [x]) W e w':=by
 obtain⟨sb,sc,la,lc,xe,xc,xg,hc⟩:=o.at1;have hb:=o.bds;have xf:=o.slen;simp only[List.length_cons,List.length_nil] at xf;have D:=o.doesP xe xc hc R4;have xb:B0 a 0 7=true:=o.leg;rw[E2] at xb;show Calls prog 100 _ W fun e w'=>E8 own mb g R (R.ths.map ThR.slot,cA R.abs (fs.map FrR.abs) f.abs rest x 1 (1,a)) W e w'
 unfold cA;rcases eP (ix:=(1,a)) (o.ref (v:=x) R5) (show (1:Int)≠0 by decide) with ⟨h1,h2⟩ | ⟨j,q,rfl,hq,xd,xa,hh⟩
 ·rw [h2,if_neg R3]
  exact o.trap R3 R3 R3 R3 (D fun V hV=>a1j (o.h.same hV) x a f.pc (hc V hV).1 (hc V hV).2.1 (hc V hV).2.2 R4 o.kz (o.ref R5) h1)
 ·have hn:=o.rv.fl hq
  rw[xd];rcases hh with ⟨i1,_⟩ | ⟨_,i2,_⟩ | ⟨_,_,i3,h3⟩ | ⟨i,y,hi,hy,h3⟩
  ·exact absurd rfl i1
  ·exact absurd xb.1 (by simp at i2;omega)
  ·rw [h3,if_neg R3]
   exact o.trap R3 R3 R3 R3 (D fun V hV=>xP (o.h.same hV) hq a f.pc R4 (hc V hV).1 (hc V hV).2.1 (hc V hV).2.2 R4 xa i3 R4 o.thn)
  ·obtain rfl:a=(i:Int):=congrArg Prod.snd hi
   rw[h3,if_pos rfl];refine o.goP R3 R3 R3 1 (f.pc+1) (dI:=1) (tI:=(f.pc:Int)+1) (push:=[y]) rfl rfl R4 R5 (by rw [o.stk,yZ hy];simp) (D fun V hV=>a4X (o.h.same hV) hq i f.pc R4 (hc V hV).1 (hc V hV).2.1 (hc V hV).2.2 R4 xa hy R4 o.thn)
theorem a6V (o:OpR W own mb g R t fs f 21 a rest [x,ix]):Calls prog 100 #[.pointer (some ⟨mb,0,none⟩)] W fun e w'=>E8 own mb g R (doD g R.cap 21 a (R.ths.map ThR.slot) R.abs (fs.map FrR.abs) f.abs rest [x,ix]) W e w':=by
 obtain⟨sb,sc,la,lc,xd,xb,xf,hc⟩:=o.at2;have hb:=o.bds;have xe:=o.slen;simp only[List.length_cons,List.length_nil] at xe;have HT:=fun V hV=>And.intro (hc V hV).1 (hc V hV).2.2.2
 have D:=o.doesP (m:=rest.length+1) xd xb HT R4;show Calls prog 100 _ W fun e w'=>E8 own mb g R (R.ths.map ThR.slot,cA R.abs (fs.map FrR.abs) f.abs rest x 2 ix) W e w'
 unfold cA;rcases eP (ix:=ix) (o.ref (v:=x) R5) (show (2:Int)≠0 by decide) with ⟨h1,h2⟩ | ⟨j,q,rfl,hq,xc,xa,hh⟩
 ·rw [h2,if_neg R3]
  exact o.trap R3 R3 R3 R3 (D fun V hV=>a3f (o.h.same hV) x ix a f.pc (hc V hV).1 (hc V hV).2.1 (hc V hV).2.2.1 (hc V hV).2.2.2.1 (hc V hV).2.2.2.2 R4 o.kz (o.ref R5) h1)
 ·have hn:=o.rv.fl hq
  rw[xc];rcases hh with ⟨i1,h3⟩ | ⟨i1,i2,h3⟩ | ⟨i1,i2,i3,h3⟩ | ⟨i,y,hi,hy,h3⟩
  ·rw [h3,if_neg R3]
   exact o.trap R3 R3 R3 R3 (D fun V hV=>a1c (o.h.same hV) hq ix a f.pc R4 (hc V hV).1 (hc V hV).2.1 (hc V hV).2.2.1 (hc V hV).2.2.2.1 (hc V hV).2.2.2.2 R4 xa i1 R4 o.thn)
  ·rw [h3,if_neg R3]
   exact o.trap R3 R3 R3 R3 (D fun V hV=>a4W (o.h.same hV) hq ix a f.pc R4 (hc V hV).1 (hc V hV).2.1 (hc V hV).2.2.1 (hc V hV).2.2.2.1 (hc V hV).2.2.2.2 R4 xa i1 i2 R4 o.thn)
  ·rw [h3,if_neg R3]
   exact o.trap R3 R3 R3 R3 (D fun V hV=>a4V (o.h.same hV) hq ix a f.pc R4 (hc V hV).1 (hc V hV).2.1 (hc V hV).2.2.1 (hc V hV).2.2.2.1 (hc V hV).2.2.2.2 R4 xa i1 i2 i3 R4 o.thn)
  ·subst hi
   rw[h3,if_pos rfl];refine o.goP R3 R3 R3 2 (f.pc+1) (dI:=2) (tI:=(f.pc:Int)+1) (push:=[y]) rfl rfl R4 R5 (by rw [o.stk,yZ hy];simp) (D fun V hV=>a6j (o.h.same hV) hq (1,(i:Int)) a i f.pc R4 (hc V hV).1 (hc V hV).2.1 (hc V hV).2.2.1 (hc V hV).2.2.2.1 (hc V hV).2.2.2.2 R4 xa rfl hy R4 o.thn)
theorem OpR.put_end (o:OpR W own mb g R t fs f k a rest args) {j i drop:Nat} {q:ThR} {y:Val} (hq:R.ths[j]?=some q) (hd:drop=args.length) {R':RfR} {sv:Value} {l:List Val} (e:R'={ R with ths:=R.ths.set j { q with fl:=q.fl.set i y } }) (hfr:R'.frs=fs++[{ f with loc:=l }]) :
  R'.cap=R.cap/\(R'.ths.map ThR.slot,RfR.abs { R' with frs:=fs++[{ f with loc:=l,pc:=f.pc+1,sv:=sv,stk:=f.stk.take (f.stk.length - drop)++[] }] })=(R.ths.map ThR.slot,(⟨0,R.abs.out,fs.map FrR.abs++[⟨f.abs.fn,f.abs.pc+1,f.abs.loc,rest⟩],R.abs.obs.set ((2,(j:Int)):Val).2.toNat (q.abs.1,q.abs.2.set (i:Int).toNat y),R.abs.dr⟩:McA))/\∀b q,R'.da=some ⟨b,q,none⟩->∃q',R.da=some ⟨b,q',none⟩:=by
 subst e;have xa:fs++[f]=fs++[{ f with loc:=l }]:=by rw [<- o.hf];exact hfr
 have e2:f.loc=l:=by
  have:=List.append_cancel_left xa;simp only[List.cons.injEq,and_true] at this;rw[this]
 subst e2;refine⟨rfl,Prod.ext ?_ ?_,fun b q e=>⟨q,e⟩⟩
 ·show (R.ths.set j _).map ThR.slot=_
  refine List.ext_getElem? fun p=>?_
  rw[List.getElem?_map,List.getElem?_map,List.getElem?_set];split
  ·rename_i e
   subst e;split
   ·rw [hq];rfl
   ·rename_i hlt
    rw[List.getElem?_eq_none R4]
  ·rfl
 ·show (⟨R.st,R.out,(fs++[_]).map FrR.abs,(R.ths.set j _).map ThR.abs,R.dr⟩:McA)=_
  rw[o.st,List.map_append,List.map_cons,List.map_nil,o.stk,hd];rw[List.map_set];simp[FrR.abs,RfR.abs,ThR.abs]
theorem a6w (o:OpR W own mb g R t fs f 20 a rest [x,y]):Calls prog 100 #[.pointer (some ⟨mb,0,none⟩)] W fun e w'=>E8 own mb g R (doD g R.cap 20 a (R.ths.map ThR.slot) R.abs (fs.map FrR.abs) f.abs rest [x,y]) W e w':=by
 obtain⟨sb,sc,la,lc,xc,xa,xf,hc⟩:=o.at2;have hb:=o.bds;have xe:=o.slen;simp only[List.length_cons,List.length_nil] at xe;have HT:=fun V hV=>And.intro (hc V hV).1 (hc V hV).2.2.2
 have D:=o.doesP (m:=rest.length+1) xc xa HT R4;have xd:B0 a 0 7=true:=o.leg;rw[E2] at xd;show Calls prog 100 _ W fun e w'=>E8 own mb g R (R.ths.map ThR.slot,setE R.abs (fs.map FrR.abs) f.abs rest x 1 (1,a) y) W e w'
 unfold setE;rcases eP (ix:=(1,a)) (o.ref (v:=x) R5) (show (1:Int)≠0 by decide) with ⟨h1,h2⟩ | ⟨j,q,rfl,hq,xg,xb,hh⟩
 ·rw [h2,if_neg R3]
  exact o.trap R3 R3 R3 R3 (D fun V hV=>a1o (o.h.same hV) x y a f.pc (hc V hV).1 (hc V hV).2.1 (hc V hV).2.2.1 (hc V hV).2.2.2.1 (hc V hV).2.2.2.2 R4 o.kz (o.ref R5) h1)
 ·have hn:=o.rv.fl hq
  rw[xg];rcases hh with ⟨i1,_⟩ | ⟨_,i2,_⟩ | ⟨_,_,i3,h3⟩ | ⟨i,z,hi,hz,h3⟩
  ·exact absurd rfl i1
  ·exact absurd xd.1 (by simp at i2;omega)
  ·rw [h3,if_neg R3]
   exact o.trap R3 R3 R3 R3 (D fun V hV=>xS (o.h.same hV) hq y a f.pc R4 (hc V hV).1 (hc V hV).2.1 (hc V hV).2.2.1 (hc V hV).2.2.2.1 (hc V hV).2.2.2.2 R4 xb i3 R4 o.thn)
  ·obtain rfl:a=(i:Int):=congrArg Prod.snd hi
   rw[h3,if_pos rfl];refine o.go R3 R3 R3 (drop:=2) (to:=f.pc+1) (push:=[]) (P:=fun R'=>R'={ R with ths:=R.ths.set j { q with fl:=q.fl.set i y } }) (by rw [xe];omega) R3 (fun R' e=>?_) (fun U hB=>?_) (fun R' sv l e hfr=>o.put_end hq rfl e hfr)
   ·subst e
    exact⟨⟨f.loc,by show R.frs=_;rw [o.hf]⟩,rfl,fun b q hq=>(o.h.dro b q hq).1⟩
   ·exact o.does (m:=rest.length+1) xc xa HT R4 (fun R' e b q hq=>by subst e;exact (o.h.dro b q hq).1) (fun V hV=>a5a (o.h.same hV) hq y i f.pc R4 (fun b hb' e=>by rw [e,hb'] at xf;cases xf) (hc V hV).1 (hc V hV).2.1 (hc V hV).2.2.1 (hc V hV).2.2.2.1 (hc V hV).2.2.2.2 R4 xb hz R4 o.thn) (by simp [dR];try rfl) U hB
theorem a6x (o:OpR W own mb g R t fs f 22 a rest [x,ix,y]):Calls prog 100 #[.pointer (some ⟨mb,0,none⟩)] W fun e w'=>E8 own mb g R (doD g R.cap 22 a (R.ths.map ThR.slot) R.abs (fs.map FrR.abs) f.abs rest [x,ix,y]) W e w':=by
 obtain⟨sb,sc,la,lc,xc,xb,xe,hc⟩:=o.at3;have hb:=o.bds;have xd:=o.slen;simp only[List.length_cons,List.length_nil] at xd;have HT:=fun V hV=>And.intro (hc V hV).1 (hc V hV).2.2.2.2.2
 have D:=o.doesP (m:=rest.length+2) xc xb HT R4;show Calls prog 100 _ W fun e w'=>E8 own mb g R (R.ths.map ThR.slot,setE R.abs (fs.map FrR.abs) f.abs rest x 2 ix y) W e w'
 unfold setE;rcases eP (ix:=ix) (o.ref (v:=x) R5) (show (2:Int)≠0 by decide) with ⟨h1,h2⟩ | ⟨j,q,rfl,hq,xf,xa,hh⟩
 ·rw [h2,if_neg R3]
  exact o.trap R3 R3 R3 R3 (D fun V hV=>a1s (o.h.same hV) x ix y a f.pc (hc V hV).1 (hc V hV).2.1 (hc V hV).2.2.1 (hc V hV).2.2.2.1 (hc V hV).2.2.2.2.1 (hc V hV).2.2.2.2.2.1 (hc V hV).2.2.2.2.2.2 R4 o.kz (o.ref R5) h1)
 ·have hn:=o.rv.fl hq
  rw[xf];rcases hh with ⟨i1,h3⟩ | ⟨i1,i2,h3⟩ | ⟨i1,i2,i3,h3⟩ | ⟨i,z,hi,hz,h3⟩
  ·rw [h3,if_neg R3]
   exact o.trap R3 R3 R3 R3 (D fun V hV=>xW (o.h.same hV) hq ix y a f.pc R4 (hc V hV).1 (hc V hV).2.1 (hc V hV).2.2.1 (hc V hV).2.2.2.1 (hc V hV).2.2.2.2.1 (hc V hV).2.2.2.2.2.1 (hc V hV).2.2.2.2.2.2 R4 xa i1 R4 o.thn)
  ·rw [h3,if_neg R3]
   exact o.trap R3 R3 R3 R3 (D fun V hV=>a3v (o.h.same hV) hq ix y a f.pc R4 (hc V hV).1 (hc V hV).2.1 (hc V hV).2.2.1 (hc V hV).2.2.2.1 (hc V hV).2.2.2.2.1 (hc V hV).2.2.2.2.2.1 (hc V hV).2.2.2.2.2.2 R4 xa i1 i2 R4 o.thn)
  ·rw [h3,if_neg R3]
   exact o.trap R3 R3 R3 R3 (D fun V hV=>a3u (o.h.same hV) hq ix y a f.pc R4 (hc V hV).1 (hc V hV).2.1 (hc V hV).2.2.1 (hc V hV).2.2.2.1 (hc V hV).2.2.2.2.1 (hc V hV).2.2.2.2.2.1 (hc V hV).2.2.2.2.2.2 R4 xa i1 i2 i3 R4 o.thn)
  ·subst hi
   rw[h3,if_pos rfl];refine o.go R3 R3 R3 (drop:=3) (to:=f.pc+1) (push:=[]) (P:=fun R'=>R'={ R with ths:=R.ths.set j { q with fl:=q.fl.set i y } }) (by rw [xd];omega) R3 (fun R' e=>?_) (fun U hB=>?_) (fun R' sv l e hfr=>o.put_end hq rfl e hfr)
   ·subst e
    exact⟨⟨f.loc,by show R.frs=_;rw [o.hf]⟩,rfl,fun b q hq=>(o.h.dro b q hq).1⟩
   ·exact o.does (m:=rest.length+2) xc xb HT R4 (fun R' e b q hq=>by subst e;exact (o.h.dro b q hq).1) (fun V hV=>a5f (o.h.same hV) hq (1,(i:Int)) y a i f.pc R4 (fun b hb' e=>by rw [e,hb'] at xe;cases xe) (hc V hV).1 (hc V hV).2.1 (hc V hV).2.2.1 (hc V hV).2.2.2.1 (hc V hV).2.2.2.2.1 (hc V hV).2.2.2.2.2.1 (hc V hV).2.2.2.2.2.2 R4 xa rfl hz R4 o.thn) (by simp [dR];try rfl) U hB
theorem a6s (o:OpR W own mb g R t fs f 23 a rest [x]):Calls prog 100 #[.pointer (some ⟨mb,0,none⟩)] W fun e w'=>E8 own mb g R (doD g R.cap 23 a (R.ths.map ThR.slot) R.abs (fs.map FrR.abs) f.abs rest [x]) W e w':=by
 obtain⟨sb,sc,la,lc,xa,xb,xe,hc⟩:=o.at1;have hb:=o.bds;have xc:=o.slen;simp only[List.length_cons,List.length_nil] at xc;have D:=o.doesP xa xb hc R4;show Calls prog 100 _ W fun e w'=>E8 own mb g R (R.ths.map ThR.slot,if (A0 R.abs.obs x).1=1\/(A0 R.abs.obs x).1=2 then goA R.abs (fs.map FrR.abs) f.abs (f.pc+1) (rest++[(1,((A0 R.abs.obs x).2.length:Int))]) else C7 R.abs 2) W e w'
 by_cases hk:(A0 R.abs.obs x).1=1\/(A0 R.abs.obs x).1=2
 ·rw [if_pos hk]
  obtain⟨j,q,rfl,hq,xd⟩:=T5 (o.ref (v:=x) R5) R4;have hn:=o.rv.fl hq;rw[xd] at hk ⊢;refine o.goP R3 R3 R3 1 (f.pc+1) (dI:=1) (tI:=(f.pc:Int)+1) (push:=[(1,(q.fl.length:Int))]) rfl rfl R4 R5 (by rw [o.stk];simp [ThR.abs]) (D fun V hV=>a4Y (o.h.same hV) hq a f.pc R4 hk R4 o.thn)
 ·rw [if_neg hk]
  exact o.trap R3 R3 R3 R3 (D fun V hV=>a1k (o.h.same hV) x a f.pc o.rv.kind (o.ref R5) (fun e=>hk (L4a e)) (fun e=>hk (L4b e)))
theorem a1D (o:OpR W own mb g R t fs f 24 a rest [x]):Calls prog 100 #[.pointer (some ⟨mb,0,none⟩)] W fun e w'=>E8 own mb g R (doD g R.cap 24 a (R.ths.map ThR.slot) R.abs (fs.map FrR.abs) f.abs rest [x]) W e w':=by
 obtain⟨sb,sc,la,lc,xe,xc,xl,hc⟩:=o.at1;have hb:=o.bds;have xh:=o.slen;simp only[List.length_cons,List.length_nil] at xh;have D:=o.doesP xe xc hc R4;show Calls prog 100 _ W fun e w'=>E8 own mb g R (R.ths.map ThR.slot,if (A0 R.abs.obs x).1=3 then goA R.abs (fs.map FrR.abs) f.abs (f.pc+1) (rest++[O7 R.abs ((A0 R.abs.obs x).2.headD (0,0))]) else C7 R.abs 2) W e w'
 by_cases hk:(A0 R.abs.obs x).1=3
 ·rw [if_pos hk]
  obtain⟨j,q,rfl,hq,xd⟩:=T5 (o.ref (v:=x) R5) R4;have hn:=o.rv.fl hq;have xj:=o.rv.sl.weak q (L2a hq);have xf:=o.rv.rin.flds q (L2a hq);rw[xd] at hk ⊢;have xa:q.kind=3:=hk;obtain⟨v,hv⟩:=List.length_eq_one_iff.1 (xj xa);have hh:(q.abs.2.headD (0,0))=v:=by show q.fl.headD (0,0)=v;rw [hv];rfl
  rw[hh];by_cases h2:v.1=2
  ·obtain ⟨h0,_⟩:=xf v (by rw [hv];simp) h2
   obtain⟨i,hi⟩:=L5c h0;obtain rfl:v=(2,(i:Int)):=Prod.ext h2 hi;by_cases hal:i∈A1 R.abs
   ·have e:O7 R.abs (2,(i:Int))=(2,(i:Int)):=if_pos ⟨rfl,by simpa using hal⟩
    rw[e];refine o.goP R3 R3 R3 1 (f.pc+1) (dI:=1) (tI:=(f.pc:Int)+1) (push:=[(2,(i:Int))]) rfl rfl R4 R5 (by rw [o.stk];simp) (D fun V hV=>qV (o.h.same hV) hq a f.pc R4 xa hv o.bd o.rv.rin hal R4 o.thn)
   ·have e:O7 R.abs (2,(i:Int))=(0,0):=if_neg fun hc=>hal (by simpa using hc.2)
    rw[e];refine o.goP R3 R3 R3 1 (f.pc+1) (dI:=1) (tI:=(f.pc:Int)+1) (push:=[(0,0)]) rfl rfl R4 R5 (by rw [o.stk];simp) (D fun V hV=>qT (o.h.same hV) hq a f.pc R4 xa hv o.bd o.rv.rin hal R4 o.thn)
  ·have xi:=o.rv.v.vals (2,(j:Int)) (F9.2 ⟨f.abs,by rw [o.hfA];simp,by show _∈f.loc++f.stk;rw [o.stk];simp⟩) rfl
   obtain⟨p,xb,xg⟩:=o.rv.v.get xi.2;have e1:p=q.abs:=by
    have:R.abs.obs[((2,(j:Int)):Val).2.toNat]?=some q.abs:=by show (R.ths.map ThR.abs)[(j:Int).toNat]?=_;rw [Int.toNat_natCast,List.getElem?_map,hq];rfl
    rw[this] at xb;exact (L5b xb).symm
   subst e1;have hw:=(jA o.rv.i xg hk).2;have e2:((q.abs.1,q.abs.2.map (ren (sig (R.ths.map ThR.slot)))):Ob).2.headD (0,0)=v:=by
    show (q.fl.map _).headD _=v;rw[hv];exact K4 h2
   rw[e2] at hw;have xk:=hw h2;subst xk;have e:O7 R.abs (0,0)=(0,0):=if_neg fun hc=>by cases hc.1
   rw[e];refine o.goP R3 R3 R3 1 (f.pc+1) (dI:=1) (tI:=(f.pc:Int)+1) (push:=[(0,0)]) rfl rfl R4 R5 (by rw [o.stk];simp) (D fun V hV=>nS (o.h.same hV) hq a f.pc R4 xa hv h2 R4 o.thn)
 ·rw [if_neg hk]
  exact o.trap R3 R3 R3 R3 (D fun V hV=>qU (o.h.same hV) x a f.pc o.rv.kind (o.ref R5) hk)
end
end
end Go.Proofs.YtbkmgoffiigdbaaGreatDoor
