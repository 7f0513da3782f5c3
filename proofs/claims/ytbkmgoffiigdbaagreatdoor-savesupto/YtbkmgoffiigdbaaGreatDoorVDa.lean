import Derived.Test.YtbkmgoffiigdbaaGreatDoorVCj
import Derived.Laws.AppendOwnNone
import Derived.OneCell
import Derived.Deep.RegionWith
import Derived.Deep.RegionLaw
namespace Go.Proofs.YtbkmgoffiigdbaaGreatDoor
open Go.RowKit Go.Proofs.Tryz
set_option maxHeartbeats 4000000
set_option maxRecDepth 100000
section
variable {R:McR} {cap cb cc e mb n size:Nat} {f:FrR} {fs:List FrR} {g:PgR} {own:Own} {w:World} {xs:List Value}
def a4k (cb n:Nat) (sv:Value) (s k:Nat) (xs:List Value) (w:World) (e:Ending) (w':World):Prop :=
 ∃m sv1,e=.returned (.tuple #[])/\w'=(w.drewN m).setCell ⟨cb,n*4+3,none⟩ sv1/\sv1.ownBlock=sv.ownBlock/\w.ownsRow 0 92 2 sv1 (s - k) (xs.take ((s - k)*2))
theorem xA {g:Nat} (h:w.ownsRow 0 e size (.slice (zA g) n cap) n xs) {m:Nat} (hm:m<=n):w.ownsRow 0 e size (.slice (zA g) m cap) m (xs.take (m*size)) :=
 (Row.cut (own:=fun _=>some .mach) (t:=.mach) ⟨h,fun _ _=>rfl⟩ hm).1
theorem W3 {base g:Nat} (h:w.ownsRow base e size (.slice (zA g) n cap) n xs):n<=cap/\g < w.heap.size:=by
 rcases h.2 with ⟨h0,_⟩ | ⟨g',xa,xb,hv,_,hg,h3,_⟩
 ·cases h0
 ·cases hv
  exact⟨h3,(L2b.1 hg).1⟩
theorem cP {B:Nat} {v:Value} (h:w.ownsRow B e size v n xs) (q:Nat):(w.drewN q).ownsRow B e size v n xs:=h
theorem oF (mb cb n cc:Nat) (sv:Value) (s k:Nat) (xs:List Value) (w:World) (hn:n<=1000) (hs:s<=1000) (hk:k<=s) (hc:w.cell? ⟨mb,3,none⟩=some (.slice (zA cb) (n+1) cc))
  (hst:w.cell? ⟨cb,n*4+3,none⟩=some sv) (hfz:w.frozen? ⟨cb,n*4+3,none⟩=false) (hown:w.ownsRow 0 92 2 sv s xs) :
  Calls prog 298 #[.pointer (some ⟨mb,3,none⟩),J (k:Int)] w fun e w'=>a4k cb n sv s k xs w e w':=by
 rcases id hown.2 with ⟨rfl,rfl⟩ | ⟨sb,sc,xb,rfl,_,hg,xa,_⟩
 ·obtain rfl:k=0:=by omega
  refine (a4Y mb cb n cc w hn hc hst hfz).mono ?_;rintro e w' ⟨rfl,m,rfl⟩;have:xs=[]:=List.length_eq_zero_iff.1 (by simpa using hown.1);subst this;exact⟨m,_,rfl,rfl,rfl,World.ownsRow_nil _ _ _ _⟩
 ·refine (a4Z mb cb n cc sb s sc k w hn hs xa hk hc hst hfz).mono ?_
  rintro e w' ⟨rfl,m,rfl⟩;exact⟨m,_,rfl,rfl,rfl,xA hown R5⟩
theorem J2:(prog.info? 92).map (fun i=>(i.zero,i.size,i.bytes))=some (some (.agg #[zC 0,J 0]),2,16):=by kernel_rfl
theorem aH (l:List Val):∀u∈A7 l,u.oneCell'=true:=by
 intro u hu;simp only[A7,O9,List.mem_flatMap,List.mem_cons,List.not_mem_nil,or_false] at hu;obtain⟨v,_,rfl | rfl⟩:=hu <;> rfl
theorem J7 (a b:List Val):A7 (a++b)=A7 a++A7 b:=List.flatMap_append
theorem D8 (l:List Val):(A7 l).length=l.length*2:=aR E6 l
def fP (w:World) (own:Own) (pv:Value) (ps:List Val):Prop :=
 (pv=.slice none 0 0/\ps=[])\/(0 < ps.length/\∃pb c,pv=.slice (zA pb) ps.length c/\own pb=none/\pb < w.heap.size/\∀j u,(A7 ps)[j]?=some u->w.cell? ⟨pb,j,none⟩=some u)
def C3 (own:Own) (mb:Nat) (g:PgR) (R:McR) (fs:List FrR) (f:FrR) (pc:Nat) (l:List Val) (r:Value) (w:World) (e:Ending) (w':World):Prop :=
 ∃own' sv',e=.returned r/\A4 w' own' mb g { R with frs:=fs++[{ f with pc:=pc,sv:=sv',stk:=l }] }/\A2 own w own' w'
theorem rJ {f:FrR} (pc:Nat) (v v1:Value) (l:List Val) :
  (fs++[{ f with pc:=pc,sv:=v,stk:=l }]).flatMap FrR.cells=((((fs++[f]).flatMap FrR.cells).set (fs.length*4+3) v1).set (fs.length*4+3) v).set (fs.length*4+1) (J pc):=by
 rw[List.set_set];have h1:((fs++[f]).flatMap FrR.cells).set (fs.length*4+3) v=((fs++[f]).set fs.length { f with sv:=v }).flatMap FrR.cells:=(I7 FrR.cells_len (x:=f) R6 R5 rfl).symm;rw[h1];rw[<- I7 FrR.cells_len (x:={ f with sv:=v }) (y:={ f with pc:=pc,sv:=v,stk:=l }) R6 R5 rfl];simp
theorem A4.topRow (h:A4 w own mb g R) (hf:R.frs=fs++[f]) (hv:R.cv=.slice (zA cb) (fs.length+1) cc) :
  w.ownsRow 0 86 4 (.slice (zA cb) (fs.length+1) cc) (fs.length+1) ((fs++[f]).flatMap FrR.cells):=by
 have:=h.called.1;rw[hf,hv] at this;simpa using this
theorem X8 (b j:Nat):(⟨b,0,none⟩:Addr).add j=⟨b,j,none⟩:=by unfold Addr.add;split <;> simp_all
theorem wH {w1 w5:World} {v' sv1:Value} {n':Nat} {l:List Val} {pc:Nat} (h:A4 w own mb g R) (hf:R.frs=fs++[f]) (hv:R.cv=.slice (zA cb) (fs.length+1) cc)
  (hocb:own cb=some .called) (hsb:∀b,f.sv.ownBlock=some b->b≠cb/\b≠mb/\own b=some (.stk fs.length)) (hb1:sv1.ownBlock=f.sv.ownBlock) (hs1:w1.heap.size=w.heap.size) (hk1:∀b,b≠cb->w1.heap[b]?=w.heap[b]?)
  (he1:w1.os=w.os/\w1.tape=w.tape/\w1.output=w.output) (hr1:w1.ownsRow 0 86 4 (.slice (zA cb) (fs.length+1) cc) (fs.length+1) (((fs++[f]).flatMap FrR.cells).set (fs.length*4+3) sv1))
  (hgrow:w1.grownBy w5 sv1.ownBlock) (hown:w5.ownsRow 0 92 2 v' n' (A7 l)) (hl:l.length=n') (hat:∀b,v'.ownBlock=some b->sv1.ownBlock=some b\/w1.heap.size<=b) (r:Value) :
  C3 own mb g R fs f pc l r w (.returned r) ((w5.setCell ⟨cb,fs.length*4+3,none⟩ v').setCell ⟨cb,fs.length*4+1,none⟩ (J (pc:Int))):=by
 subst hl;have xj:cb < w.heap.size:=h.lt cb _ hocb;have xb:sv1.ownBlock≠some cb:=fun e=>(hsb cb (hb1▸e)).1 rfl
 have xe:E7 w own v' (.stk fs.length):=fun b hb=>by
  rcases hat b hb with hb' | hb'
  ·exact L4a (hsb b (hb1▸hb')).2.2
  ·exact L4b R5
 have xc:v'.ownBlock≠some cb:=fun e=>by
  rcases hat cb e with hb' | hb'
  ·exact xb hb'
  ·omega
 have xd:∀k,k < w.heap.size->own k≠some .called->own k≠some (.stk fs.length)->w5.heap[k]?=w.heap[k]?:=fun k hk h1 h2=>by
  have xa:k≠cb:=fun e=>h1 (by rw [e];exact hocb)
  rw[hgrow.block k R5 (fun e=>h2 (hsb k (by rw [<- hb1];exact e.symm)).2.2),hk1 k xa]
 have xf:w.heap.size<=w5.heap.size:=by have:=hgrow.size;omega
 have xi:w5.ownsRow 0 86 4 (.slice (zA cb) (fs.length+1) cc) (fs.length+1) (((fs++[f]).flatMap FrR.cells).set (fs.length*4+3) sv1):=hr1.kept hgrow (L4b (by simpa [Value.ownBlock] using Ne.symm xb));have xh:=(World.ownsRow.stored xi (fs.length*4+3) v').1;have xg:=(World.ownsRow.stored xh (fs.length*4+1) (J (pc:Int))).1;rw[<- rJ pc v' sv1 l] at xg;refine⟨_,v',rfl,A4.setTop (f':={ f with pc:=pc,sv:=v',stk:=l }) h hf rfl rfl (by simpa using xf) (fun k hk h1 h2=>?_) (by rw [hv];exact xg) (ownsRow_setCell_other (ownsRow_setCell_other hown xc _) xc _) xe,?_⟩
 ·have xa:k≠cb:=fun e=>h1 (by rw [e];exact hocb)
  rw[heap_setCell_other _ _ _ _ xa,heap_setCell_other _ _ _ _ xa];exact xd k hk h1 h2
 ·refine ⟨hgrow.os.trans he1.1,hgrow.tape.trans he1.2.1,hgrow.output.trans he1.2.2,by simpa using xf,fun k hk hno=>?_,fun k hk=>Own.upd_old xe hk⟩
  have xa:k≠cb:=fun e=>by rw [e,hocb] at hno;cases hno
  rw[heap_setCell_other _ _ _ _ xa,heap_setCell_other _ _ _ _ xa];exact xd k hk (by rw [hno];simp) (by rw [hno];simp)
theorem wG (h:A4 w own mb g R) (hf:R.frs=fs++[f]) (k:Nat) (hk:k<=f.stk.length) (pv:Value) (ps:List Val) (hp:fP w own pv ps)
  (hn:fs.length<=1000) (hs:f.stk.length<=1000) (hpl:ps.length<=100) (hpc:f.pc<=1000) :
  Calls prog 304 #[.pointer (some ⟨mb,3,none⟩),J (k:Int),pv] w fun e w'=>C3 own mb g R fs f (f.pc+1) (f.stk.take (f.stk.length - k)++ps) (.tuple #[]) w e w':=by
 obtain⟨cb,cc,hv,xa,yn,xq,x0,x1,x2,x3⟩:=h.top hf;have hc:=h.c3;rw[hv] at hc;have xo:=h.topRow hf hv;have yl:mb < w.heap.size:=h.lt mb _ h.me;have yk:mb≠cb:=fun e=>by have:=h.me;rw [e,xa] at this;cases this
 have xf:=h.stk fs.length f (by rw [hf];simp);have xt:∀b,f.sv.ownBlock=some b->b≠cb/\b≠mb/\own b=some (.stk fs.length):=fun b hb=>by
  have xl:=xf.2 b hb;exact⟨fun e=>(by rw [e,xa] at xl;cases xl),fun e=>(by rw [e,h.me] at xl;cases xl),xl⟩
 obtain⟨xn,hi,hz,yd,yg⟩:=info_parts J2;have xj:=xq (fs.length*4+3);have xs:=xq (fs.length*4+1);go_enter func304,ntmps304;go_wp2_with fail;refine (oF mb cb fs.length cc f.sv f.stk.length k _ w hn hs hk hc x3 xj xf.1).mono ?_;rintro e w1 ⟨m1,sv1,rfl,xb,xu,xc⟩;have xe:sv1.ownBlock≠some cb:=fun e=>(xt cb (xu▸e)).1 rfl
 have d0:w1.cell? ⟨mb,3,none⟩=some (.slice (zA cb) (fs.length+1) cc):=by rw [xb];go_simp
 have d1:w1.cell? ⟨cb,fs.length*4+1,none⟩=some (J (f.pc:Int)):=by rw [xb];go_simp
 have d3:w1.cell? ⟨cb,fs.length*4+3,none⟩=some sv1:=by rw [xb];go_simp
 have z1:∀j,w1.frozen? ⟨cb,j,none⟩=false:=fun j=>by have:=xq j;rw [xb];go_simp
 have o1:w1.ownsRow 0 92 2 sv1 (f.stk.length - k) (A7 (f.stk.take (f.stk.length - k))):=by
  rw[xb,A7,gU E6];exact ownsRow_setCell_other (cP xc m1) xe _
 have r1:w1.ownsRow 0 86 4 (.slice (zA cb) (fs.length+1) cc) (fs.length+1) (((fs++[f]).flatMap FrR.cells).set (fs.length*4+3) sv1):=by
  rw[xb];exact (World.ownsRow.stored (cP xo m1) _ sv1).1
 have s1:w1.heap.size=w.heap.size:=by rw [xb];simp
 have k1:∀b,b≠cb->w1.heap[b]?=w.heap[b]?:=fun b hb=>by rw [xb];exact heap_setCell_other _ _ _ _ hb
 have e1:w1.os=w.os/\w1.tape=w.tape/\w1.output=w.output:=by rw [xb];exact ⟨rfl,rfl,rfl⟩
 have xz:fP w1 own pv ps:=by
  rcases hp with hp | ⟨h0,pb,c,h1,h2,h3,h4⟩
  ·exact L4a hp
  ·refine L4b ⟨h0,pb,c,h1,h2,by omega,fun j u hj=>?_⟩
   rw[L0b (w:=w) (a:=⟨pb,j,none⟩) (k1 pb (fun e=>by rw [e,xa] at h2;cases h2))];exact h4 j u hj
 have z3:=z1 (fs.length*4+3);have z4:=z1 (fs.length*4+1);have xk:cb < w1.heap.size:=by omega
 have ye:mb < w1.heap.size:=by omega
 have H:=(show Hid _ from h);clear h;have HF:=(show Hid _ from hf);clear hf;have HV:=(show Hid _ from hv);clear hv;have xv:=(show Hid _ from xt);clear xt;have xx:=(show Hid _ from xu);clear xu;have xp:=(show Hid _ from xe);clear xe;have HP:=(show Hid _ from xz);clear xz hp;have yc:=(show Hid _ from s1);clear s1;have xy:=(show Hid _ from k1);clear k1;have ya:=(show Hid _ from e1);clear e1
 have xr:=(show Hid _ from o1);clear o1;have yb:=(show Hid _ from r1);clear r1;have xm:=(show Hid _ from xa);clear xa;clear xb x0 x1 x2 x3 hc xj xs xq z1 xo xf xc;rcases HP.out with ⟨rfl,rfl⟩ | ⟨yi,pb,c,rfl,xw,yh,xd⟩
 ·clear HP
  have xg:sv1=.slice none 0 0\/∃gb cap,sv1=.slice (zA gb) (f.stk.length - k) cap:=by
   rcases xr.out.2 with ⟨e,_⟩ | ⟨gb,cap,_,e,_⟩
   ·exact L4a e
   ·exact L4b ⟨gb,cap,e⟩
  rcases xg with e | ⟨gb,cap,e⟩
  all_goals
   rw[e] at d3;go_wp2_with (first | (go_at_call 178;refine (L6 mb cb fs.length cc _ hn d0).mono ?_;rintro e w2 ⟨rfl,m2,rfl⟩) | (at_builtin;go_must (refine wpList_append_own_none rfl (.tmp 16) (.tmp 17) 84 rfl 0 92 xn 2 underlying84 hi _ (f.stk.length - k) (A7 (f.stk.take (f.stk.length - k))) rfl (e▸cP xr.out _) rfl ?_)))
   go_end0
   have:=wH (pc:=f.pc+1) (w5:=w1.drewN m2) (l:=f.stk.take (f.stk.length - k)) (v':=sv1) H.out HF.out HV.out xm.out xv.out xx.out yc.out xy.out ya.out yb.out ⟨rfl,rfl,rfl,L1c _,fun _ _ _=>rfl⟩ (cP xr.out m2) R6 (fun b hb=>L4a hb) (.tuple #[]);rw[e] at this;simpa using this
 ·have ym:=(show Hid _ from xw);clear xw
  have xi:=(show Hid _ from xd);clear xd;go_wp2_with (first | (go_at_call 178;refine (L6 mb cb fs.length cc _ hn d0).mono ?_;rintro e w2 ⟨rfl,m2,rfl⟩) | (at_builtin;go_must (refine wpList_append_lies _ rfl (.tmp 16) (.tmp 17) 84 rfl 0 92 xn _ 2 16 underlying84 hi hz yd yg rfl R4 sv1 (f.stk.length - k) (A7 (f.stk.take (f.stk.length - k))) rfl (cP xr.out _) ⟨pb,0,none⟩ ps.length c (A7 ps) rfl (D8 ps) (fun j u hj=>by rw [X8];exact xi.out j u hj) (aH ps) yi Q7 R5 (L4c _) _ rfl ?_)))
  intro gb cap w5 hown5 hgrow5 hat5 hlt5;have q1:w5.cell? ⟨cb,fs.length*4+1,none⟩=some (J (f.pc:Int)):=hgrow5.cell d1 (Ne.symm xp.out);have q3:w5.cell? ⟨cb,fs.length*4+3,none⟩=some sv1:=hgrow5.cell d3 (Ne.symm xp.out);have y1:w5.frozen? ⟨cb,fs.length*4+1,none⟩=false:=by rw [hgrow5.frozen_far _ xk (Ne.symm xp.out)];exact z4
  have y3:w5.frozen? ⟨cb,fs.length*4+3,none⟩=false:=by rw [hgrow5.frozen_far _ xk (Ne.symm xp.out)];exact z3
  have xh:=(show Hid _ from hgrow5);clear hgrow5;have yj:=(show Hid _ from hown5);clear hown5;have yf:=(show Hid _ from hat5);clear hat5;go_wp2_with fail;go_end0
  have:=wH (pc:=f.pc+1) (w5:=w5) (l:=f.stk.take (f.stk.length - k)++ps) H.out HF.out HV.out xm.out xv.out xx.out yc.out xy.out ya.out yb.out ⟨xh.out.os,xh.out.tape,xh.out.output,xh.out.size,xh.out.block⟩ (by rw [J7];exact yj.out) R6 (fun b hb=>by
   obtain rfl:gb=b:=by simpa [Value.ownBlock] using hb
   rcases yf.out with e | e
   ·exact L4a e
   ·exact L4b (by rw [e];exact L1c _)) (.tuple #[])
  simpa using this
end
theorem hid {p:Prop} (h:p):Hid p:=h
theorem N5 (n:Int) (w:World):Calls prog 237 #[J n] w fun e w'=>e=.returned (.agg #[zC 1,J n])/\∃o,w'=w.alloc o:=by
 go_enter func237,ntmps237;go_wp2
 exact bodyPost_ret (v:=.agg #[zC 1,J n]) (by simp [results,results237,go_sem]) rfl ⟨rfl,_,rfl⟩
theorem D5 (k n:Int) (w:World):Calls prog 206 #[.agg #[zC k,J n]] w fun e w'=>e=.returned (.bool (k == 1))/\∃o,w'=w.alloc o:=by
 go_enter func206,ntmps206;go_wp2
 go_ret;exact⟨rfl,_,rfl⟩
theorem O7 (k n:Int) (w:World):Calls prog 164 #[.agg #[zC k,J n]] w fun e w'=>e=.returned (.bool (k == 2))/\∃o,w'=w.alloc o:=by
 go_enter func164,ntmps164;go_wp2
 go_ret;exact⟨rfl,_,rfl⟩
def D6 (b:Bool):Int:=if b then 1 else 0
theorem lZ (b:Bool) (w:World):Calls prog 296 #[.bool b] w fun e w'=>e=.returned (.agg #[zC 1,J (D6 b)])/\∃o o',w'=(w.alloc o).alloc o':=by
 cases b
 all_goals
  go_enter func296,ntmps296;go_wp2_with (go_at_call 237;refine (N5 _ _).mono ?_;rintro e w' ⟨rfl,o,rfl⟩)
  exact bodyPost_ret (v:=.agg #[zC 1,J (D6 _)]) (by simp [results,results296,go_sem,D6]) rfl ⟨rfl,_,_,rfl⟩
theorem yL {own:Own} {mb:Nat} {g:PgR} {R:McR} {fs:List FrR} {f:FrR} {w:World} (h:A4 w own mb g R) (hf:R.frs=fs++[f]) (va:Option Addr) (k vc:Nat) (hk:k<=f.stk.length) (pv:Value) (ps:List Val) (hp:fP w own pv ps)
  (hn:fs.length<=1000) (hs:f.stk.length<=1000) (hpl:ps.length<=100) (hpc:f.pc<=1000) :
  Calls prog 290 #[zB mb,.slice va k vc,pv] w fun e w'=>C3 own mb g R fs f (f.pc+1) (f.stk.take (f.stk.length - k)++ps) (J 0) w e w':=by
 have HG:=hid (wG h hf k hk pv ps hp hn hs hpl hpc);clear h hf hp;go_enter func290,ntmps290;go_wp2_with (go_at_call 304;refine HG.out.mono ?_;rintro e w' ⟨xa,xb,rfl,hm,ht⟩)
 go_ret;exact⟨xa,xb,rfl,hm,ht⟩
section
variable {R:McR} {W w w':World} {f:FrR} {fs:List FrR} {g:PgR} {mb n sb:Nat} {o:Obj} {own:Own} {rest:List Val} {va:Option Addr} {x:Val}
structure C0 (w:World) (own:Own) (mb:Nat) (g:PgR) (R:McR) (fs:List FrR) (f:FrR) (rest args:List Val) (va:Option Addr) (sb:Nat):Prop where
 m:A4 w own mb g R
 hf:R.frs=fs++[f]
 hst:f.stk=rest++args
 hva:0 < args.length->va=some ⟨sb,rest.length*2,none⟩/\own sb=some (.stk fs.length)/\∀j x,args[j]?=some x->w.cell? ⟨sb,rest.length*2+j*2,none⟩=some (zC x.1)/\w.cell? ⟨sb,rest.length*2+j*2+1,none⟩=some (J x.2)
 hn:fs.length<=1000
 hs:f.stk.length<=1000
 hpc:f.pc<=1000
theorem A4.same (h:A4 w own mb g R) (hs:w.heap.size<=w'.heap.size) (hb:∀k,k < w.heap.size->w'.heap[k]?=w.heap[k]?):A4 w' own mb g R:=by
 have xa:=hb mb (h.lt mb _ h.me);have keep:∀t k,own k=some t->w'.heap[k]?=w.heap[k]?/\own k=some t:=fun t k hk=>⟨hb k (h.lt k t hk),hk⟩
 refine⟨fun k t hk=>L0a (h.lt k t hk) hs,h.me,?_,?_,?_,?_,?_,?_,h.out.kept (keep _),h.called.kept (keep _),h.slots.kept (keep _),fun i f hf=>(h.loc i f hf).kept (keep _),fun i f hf=>(h.stk i f hf).kept (keep _),
  fun j o ho=>(h.fld j o ho).kept (keep _),h.pg.held hs fun k hk=>hb k (h.pg.blk_lt hk),h.ro,h.tab.held hs (hb 0 h.tab.1),h.ro0,?_,h.draws.kept (keep _)⟩
 ·rw [L0b (w:=w) (a:=⟨mb,0,none⟩) xa];exact h.c0
 ·rw [L0b (w:=w) (a:=⟨mb,1,none⟩) xa];exact h.c1
 ·rw [L0b (w:=w) (a:=⟨mb,2,none⟩) xa];exact h.c2
 ·rw [L0b (w:=w) (a:=⟨mb,3,none⟩) xa];exact h.c3
 ·rw [L0b (w:=w) (a:=⟨mb,4,none⟩) xa];exact h.c4
 ·intro j;rw [L0c (w:=w) (a:=⟨mb,j,none⟩) xa];exact h.fz j
 ·rw [L0b (w:=w) (a:=⟨mb,5,none⟩) xa];exact h.c5
theorem A4.new (h:A4 w own mb g R) {k:Nat} (hk:w.heap.size<=k):own k=none:=by
 cases e:own k with
 | none=>rfl
 | some t=>have:=h.lt k t e;omega
theorem A2.of_below (h:L0d w W):A2 own w own W:=⟨h.os,h.tape,h.output,h.size,fun k hk _=>h.block k hk,fun _ _=>rfl⟩
theorem C0.answer {args:List Val} (h:C0 w own mb g R fs f rest args va sb) (hB:L0d w W) (vc:Nat) (pv:Value) (ps:List Val) (hp:fP W own pv ps) (hpl:ps.length<=100) (k:Nat) (hk:args.length=k) :
  Calls prog 290 #[zB mb,.slice va k vc,pv] W fun e w'=>C3 own mb g R fs f (f.pc+1) (rest++ps) (J 0) w e w':=by
 subst hk;have hm:=h.m.same hB.size fun k hk=>hB.block k hk
 have hl:args.length<=f.stk.length:=by rw [h.hst];simp
 refine (yL hm h.hf va args.length vc hl pv ps hp h.hn h.hs hpl h.hpc).mono ?_;rintro e w' ⟨xa,xc,rfl,xb,ht⟩;have he:f.stk.take (f.stk.length - args.length)=rest:=by rw [h.hst];simp
 rw[he] at xb;exact⟨xa,xc,rfl,xb,(A2.of_below hB).trans ht⟩
theorem B0 (h:w.heap.size=n):(w.alloc o).heap[n]?=some o:=by subst h;exact Go.Deep.blk_alloc_new w o
theorem K9 (h:w.heap.size=n):(w.alloc o).drew.heap[n]?=some o:=B0 h
theorem O4 {q:Nat} (h:w.heap.size=n):((w.alloc o).drewN q).heap[n]?=some o:=B0 h
theorem Below.drewQ {B:Nat} (h:Below B w w') (q:Nat):Below B w (w'.drewN q):=⟨h.os,h.tape,h.output,h.size,h.block⟩
theorem Z1 (W:World) (own:Own):fP W own zD []:=L4a ⟨rfl,rfl⟩
theorem G9 (h:A4 w own mb g R) {pb:Nat} {a b:Int} {c:Nat} (hp:w.heap.size<=pb) (hW:W.heap[pb]?=some (.cells #[zC a,J b] 92)):fP W own (.slice (zA pb) 1 c) [(a,b)]:=by
 refine L4b ⟨by simp,pb,c,rfl,h.new hp,(L2b.1 hW).1,fun j u hj=>?_⟩;have:=World.news_of_block hW j u;rw[X8] at this;exact this (by simpa [A7,O9] using hj)
theorem pJ (h:A4 w own mb g R) {pb:Nat} {a b a' b':Int} {c:Nat} (hp:w.heap.size<=pb) (hW:W.heap[pb]?=some (.cells #[zC a,J b,zC a',J b'] 92)):fP W own (.slice (zA pb) 2 c) [(a,b),(a',b')]:=by
 refine L4b ⟨by simp,pb,c,rfl,h.new hp,(L2b.1 hW).1,fun j u hj=>?_⟩;have:=World.news_of_block hW j u;rw[X8] at this;exact this (by simpa [A7,O9] using hj)
theorem C0.one (h:C0 w own mb g R fs f rest [x] va sb) :
  ∃o,va=some ⟨sb,o,none⟩/\sb < w.heap.size/\w.cell? ⟨sb,o,none⟩=some (zC x.1)/\w.cell? ⟨sb,o+1,none⟩=some (J x.2):=by
 obtain⟨h1,h2,h3⟩:=h.hva R6;obtain⟨h4,h5⟩:=h3 0 x rfl;exact⟨_,h1,h.m.lt sb _ h2,by simpa using h4,by simpa using h5⟩
theorem C0.two {y:Val} (h:C0 w own mb g R fs f rest [x,y] va sb) :
  ∃o,va=some ⟨sb,o,none⟩/\sb < w.heap.size/\w.cell? ⟨sb,o,none⟩=some (zC x.1)/\w.cell? ⟨sb,o+1,none⟩=some (J x.2)/\w.cell? ⟨sb,o+2,none⟩=some (zC y.1)/\w.cell? ⟨sb,o+3,none⟩=some (J y.2):=by
 obtain⟨h1,h2,h3⟩:=h.hva R6;obtain⟨h4,h5⟩:=h3 0 x rfl;obtain⟨h6,h7⟩:=h3 1 y rfl;exact⟨_,h1,h.m.lt sb _ h2,by simpa using h4,by simpa using h5,by simpa using h6,by simpa using h7⟩
theorem a2o (h:C0 w own mb g R fs f rest [] va sb) (a:Int) (vc:Nat) :
  Calls prog 256 #[zB mb,J a,.slice va 0 vc] w fun e w'=>C3 own mb g R fs f (f.pc+1) (rest++[(1,a)]) (J 0) w e w':=by
 have HH:=hid h;clear h;go_enter func256,ntmps256;go_wp2_with (go_at_call 237;refine (N5 _ _).mono ?_;rintro e w' ⟨rfl,o,rfl⟩)
 refine (HH.out.answer P7 vc _ [(1,a)] (G9 HH.out.m R5 (B0 R6)) R6 0 rfl).mono ?_;rintro e w' ⟨xa,xb,rfl,hm,ht⟩;go_wp2_with fail;go_ret;exact⟨xa,xb,rfl,hm,ht⟩
end
section
variable {R:McR} {f:FrR} {fs:List FrR} {g:PgR} {mb sb:Nat} {own:Own} {rest:List Val} {va:Option Addr} {w:World} {x y:Val}
theorem a2q (h:C0 w own mb g R fs f rest [] va sb) (a:Int) (vc:Nat) :
  Calls prog 258 #[zB mb,J a,.slice va 0 vc] w fun e w'=>C3 own mb g R fs f (f.pc+1) (rest++[(0,0)]) (J 0) w e w':=by
 have HH:=hid h;clear h;go_enter func258,ntmps258;go_wp2_with (fail)
 refine (HH.out.answer P5 vc _ [(0,0)] (G9 HH.out.m Q4 (by first | exact B0 R6 | exact K9 R6 | exact O4 R6)) R6 0 rfl).mono ?_;rintro e w' ⟨xa,xb,rfl,hm,ht⟩;go_wp2_with fail
 go_ret;exact⟨xa,xb,rfl,hm,ht⟩
theorem a2m (h:C0 w own mb g R fs f rest [x] va sb) (a:Int) (vc:Nat) :
  Calls prog 262 #[zB mb,J a,.slice va 1 vc] w fun e w'=>C3 own mb g R fs f (f.pc+1) (rest++[x,x]) (J 0) w e w':=by
 obtain⟨o,rfl,xc,c0,c1⟩:=h.one;have HH:=hid h;clear h;go_enter func262,ntmps262;go_wp2_with fail;go_region_with (first | (go_at_call 290;refine (HH.out.answer P5 vc _ [x,x] (pJ HH.out.m Q4 (by first | exact B0 R6 | exact K9 R6 | exact O4 R6)) R6 1 rfl).mono ?_;rintro e w' ⟨xa,xb,rfl,hm,ht⟩) | (fail))
 all_goals go_wp2_with fail
 all_goals go_ret
 all_goals exact ⟨xa,xb,rfl,hm,ht⟩
theorem a2r (h:C0 w own mb g R fs f rest [x] va sb) (a:Int) (vc:Nat) :
  Calls prog 263 #[zB mb,J a,.slice va 1 vc] w fun e w'=>C3 own mb g R fs f (f.pc+1) (rest++[]) (J 0) w e w':=by
 obtain⟨o,rfl,xc,c0,c1⟩:=h.one;have HH:=hid h;clear h;go_enter func263,ntmps263;go_wp2_with (fail)
 refine (HH.out.answer P5 vc _ [] (Z1 _ _) R6 1 rfl).mono ?_;rintro e w' ⟨xa,xb,rfl,hm,ht⟩;go_wp2_with fail;go_ret;exact⟨xa,xb,rfl,hm,ht⟩
theorem oE (h:C0 w own mb g R fs f rest [x,y] va sb) (a:Int) (vc:Nat) :
  Calls prog 264 #[zB mb,J a,.slice va 2 vc] w fun e w'=>C3 own mb g R fs f (f.pc+1) (rest++[y,x]) (J 0) w e w':=by
 obtain⟨o,rfl,xc,c0,c1,c2,c3⟩:=h.two;have HH:=hid h;clear h;go_enter func264,ntmps264;go_wp2_with fail;go_region_with (first | (go_at_call 290;refine (HH.out.answer P5 vc _ [y,x] (pJ HH.out.m Q4 (by first | exact B0 R6 | exact K9 R6 | exact O4 R6)) R6 2 rfl).mono ?_;rintro e w' ⟨xa,xb,rfl,hm,ht⟩) | (fail))
 all_goals go_wp2_with fail
 all_goals go_ret
 all_goals exact ⟨xa,xb,rfl,hm,ht⟩
theorem vS (h:C0 w own mb g R fs f rest [x] va sb) (a:Int) (vc:Nat) :
  Calls prog 287 #[zB mb,J a,.slice va 1 vc] w fun e w'=>C3 own mb g R fs f (f.pc+1) (rest++[(1,D6 (x.1 == 2))]) (J 0) w e w':=by
 obtain⟨o,rfl,xc,c0,c1⟩:=h.one;have HH:=hid h;clear h;go_enter func287,ntmps287;go_wp2_with (first | (go_at_call 296;refine (lZ _ _).mono ?_;rintro e w' ⟨rfl,o1,o2,rfl⟩) | (go_at_call 164;refine (O7 _ _ _).mono ?_;rintro e w' ⟨rfl,o3,rfl⟩))
 refine (HH.out.answer P5 vc _ [(1,D6 (x.1 == 2))] (G9 HH.out.m Q4 (by first | exact B0 R6 | exact K9 R6 | exact O4 R6)) R6 1 rfl).mono ?_;rintro e w' ⟨xa,xb,rfl,hm,ht⟩
 go_wp2_with fail;go_ret;exact⟨xa,xb,rfl,hm,ht⟩
theorem oD (h:C0 w own mb g R fs f rest [x,y] va sb) (a:Int) (vc:Nat) :
  Calls prog 269 #[zB mb,J a,.slice va 2 vc] w fun e w'=>C3 own mb g R fs f (f.pc+1) (rest++[(1,D6 (x.1 == y.1 && x.2 == y.2))]) (J 0) w e w':=by
 obtain⟨o,rfl,xc,c0,c1,c2,c3⟩:=h.two;obtain⟨x1,x2⟩:=x;obtain⟨y1,y2⟩:=y;simp only at c0 c1 c2 c3;have HH:=hid h;clear h
 cases h1:(x1 == y1)
 all_goals cases h2:(x2 == y2)
 all_goals (
  go_enter func269,ntmps269;go_wp2_with fail;go_region_with (first | (go_at_call 290;refine (HH.out.answer P5 vc _ _ (G9 HH.out.m Q4 (by first | exact B0 R6 | exact K9 R6 | exact O4 R6)) R6 2 rfl).mono ?_;rintro e w' ⟨xa,xb,rfl,hm,ht⟩) | (go_at_call 296;refine (lZ _ _).mono ?_;rintro e w' ⟨rfl,o1,o2,rfl⟩))
  all_goals go_wp2_with fail
  all_goals go_ret
  all_goals exact ⟨xa,xb,rfl,hm,ht⟩)
end
section
variable {R:McR} {f:FrR} {fs:List FrR} {g:PgR} {mb sb:Nat} {own:Own} {rest:List Val} {va:Option Addr} {w:World} {x y:Int}
def F7 (st:Int) (w:World) (e:Ending) (w':World):Prop:=e=.returned (J st)/\L0d w w'
theorem nE (x y:Int) (w:World):Calls prog 292 #[J x,J y] w fun e w'=>e=.returned (.agg #[zC 1,J (wrap64 (x+y))])/\∃o o',w'=(w.alloc o).alloc o':=by
 go_enter func292,ntmps292;go_wp2_with (go_at_call 237;refine (N5 _ _).mono ?_;rintro e w' ⟨rfl,o,rfl⟩)
 exact bodyPost_ret (v:=.agg #[zC 1,J (wrap64 (x+y))]) (by simp [results,results292,go_sem]) rfl ⟨rfl,_,_,rfl⟩
theorem a0L (h:C0 w own mb g R fs f rest [(1,x),(1,y)] va sb) (vc:Nat) :
  Calls prog 291 #[zB mb,.slice va 2 vc,.func (.func 292) #[] #[]] w fun e w'=>C3 own mb g R fs f (f.pc+1) (rest++[(1,wrap64 (x+y))]) (J 0) w e w':=by
 obtain⟨o,rfl,xc,c0,c1,c2,c3⟩:=h.two;simp only at c0 c1 c2 c3;have HH:=hid h;clear h;go_enter func291,ntmps291;go_wp2_with (first | (go_at_call 206;refine (D5 _ _ _).mono ?_;rintro e w' ⟨rfl,o4,rfl⟩) | (go_at_call 292;refine (nE _ _ _).mono ?_;rintro e w' ⟨rfl,o1,o2,rfl⟩))
 go_region_with (first | (go_at_call 290;refine (HH.out.answer P5 vc _ [(1,wrap64 (x+y))] (G9 HH.out.m Q4 (by first | exact B0 R6 | exact K9 R6 | exact O4 R6)) R6 2 rfl).mono ?_;rintro e w' ⟨xa,xb,rfl,hm,ht⟩) | (first | (go_at_call 206;refine (D5 _ _ _).mono ?_;rintro e w' ⟨rfl,o4,rfl⟩) | (go_at_call 292;refine (nE _ _ _).mono ?_;rintro e w' ⟨rfl,o1,o2,rfl⟩)))
 all_goals go_wp2_with fail
 all_goals go_ret
 all_goals exact ⟨xa,xb,rfl,hm,ht⟩
theorem pN {x y:Val} (h:C0 w own mb g R fs f rest [x,y] va sb) (hk:¬(x.1=1/\y.1=1)) (vc:Nat) :
  Calls prog 291 #[zB mb,.slice va 2 vc,.func (.func 292) #[] #[]] w fun e w'=>F7 2 w e w':=by
 obtain⟨o,rfl,xa,c0,c1,c2,c3⟩:=h.two;obtain⟨x1,x2⟩:=x;obtain⟨y1,y2⟩:=y;simp only at c0 c1 c2 c3 hk;clear h
 cases h1:(x1 == 1)
 ·clear hk
  go_enter func291,ntmps291;go_wp2_with (first | (go_at_call 206;refine (D5 _ _ _).mono ?_;rintro e w' ⟨rfl,o4,rfl⟩) | (go_at_call 292;refine (nE _ _ _).mono ?_;rintro e w' ⟨rfl,o1,o2,rfl⟩))
  go_ret;exact⟨rfl,P5⟩
 ·have h2:(y1 == 1)=false:=L2c.2 fun e=>hk ⟨beq_iff_eq.1 h1,e⟩
  clear hk;go_enter func291,ntmps291;go_wp2_with (first | (go_at_call 206;refine (D5 _ _ _).mono ?_;rintro e w' ⟨rfl,o4,rfl⟩) | (go_at_call 292;refine (nE _ _ _).mono ?_;rintro e w' ⟨rfl,o1,o2,rfl⟩))
  go_ret;exact⟨rfl,P5⟩
theorem a8P (h:C0 w own mb g R fs f rest [(1,x),(1,y)] va sb) (a:Int) (vc:Nat) :
  Calls prog 265 #[zB mb,J a,.slice va 2 vc] w fun e w'=>C3 own mb g R fs f (f.pc+1) (rest++[(1,wrap64 (x+y))]) (J 0) w e w':=by
 have HR:=hid (a0L h vc);clear h;go_enter func265,ntmps265;go_wp2_with (go_at_call 291;refine HR.out.mono ?_;rintro e w' ⟨xa,xb,rfl,hm,ht⟩)
 go_ret;exact⟨xa,xb,rfl,hm,ht⟩
theorem zL {x y:Val} (h:C0 w own mb g R fs f rest [x,y] va sb) (hk:¬(x.1=1/\y.1=1)) (a:Int) (vc:Nat) :
  Calls prog 265 #[zB mb,J a,.slice va 2 vc] w fun e w'=>F7 2 w e w':=by
 have HR:=hid (pN h hk vc);clear h hk;go_enter func265,ntmps265;go_wp2_with (go_at_call 291;refine HR.out.mono ?_;rintro e w' ⟨rfl,hb⟩)
 go_ret;exact⟨rfl,hb⟩
theorem nI (x y:Int) (w:World):Calls prog 293 #[J x,J y] w fun e w'=>e=.returned (.agg #[zC 1,J (wrap64 (x - y))])/\∃o o',w'=(w.alloc o).alloc o':=by
 go_enter func293,ntmps293;go_wp2_with (go_at_call 237;refine (N5 _ _).mono ?_;rintro e w' ⟨rfl,o,rfl⟩)
 exact bodyPost_ret (v:=.agg #[zC 1,J (wrap64 (x - y))]) (by simp [results,results293,go_sem]) rfl ⟨rfl,_,_,rfl⟩
theorem a0N (h:C0 w own mb g R fs f rest [(1,x),(1,y)] va sb) (vc:Nat) :
  Calls prog 291 #[zB mb,.slice va 2 vc,.func (.func 293) #[] #[]] w fun e w'=>C3 own mb g R fs f (f.pc+1) (rest++[(1,wrap64 (x - y))]) (J 0) w e w':=by
 obtain⟨o,rfl,xc,c0,c1,c2,c3⟩:=h.two;simp only at c0 c1 c2 c3;have HH:=hid h;clear h;go_enter func291,ntmps291;go_wp2_with (first | (go_at_call 206;refine (D5 _ _ _).mono ?_;rintro e w' ⟨rfl,o4,rfl⟩) | (go_at_call 293;refine (nI _ _ _).mono ?_;rintro e w' ⟨rfl,o1,o2,rfl⟩))
 go_region_with (first | (go_at_call 290;refine (HH.out.answer P5 vc _ [(1,wrap64 (x - y))] (G9 HH.out.m Q4 (by first | exact B0 R6 | exact K9 R6 | exact O4 R6)) R6 2 rfl).mono ?_;rintro e w' ⟨xa,xb,rfl,hm,ht⟩) | (first | (go_at_call 206;refine (D5 _ _ _).mono ?_;rintro e w' ⟨rfl,o4,rfl⟩) | (go_at_call 293;refine (nI _ _ _).mono ?_;rintro e w' ⟨rfl,o1,o2,rfl⟩)))
 all_goals go_wp2_with fail
 all_goals go_ret
 all_goals exact ⟨xa,xb,rfl,hm,ht⟩
theorem pP {x y:Val} (h:C0 w own mb g R fs f rest [x,y] va sb) (hk:¬(x.1=1/\y.1=1)) (vc:Nat) :
  Calls prog 291 #[zB mb,.slice va 2 vc,.func (.func 293) #[] #[]] w fun e w'=>F7 2 w e w':=by
 obtain⟨o,rfl,xa,c0,c1,c2,c3⟩:=h.two;obtain⟨x1,x2⟩:=x;obtain⟨y1,y2⟩:=y;simp only at c0 c1 c2 c3 hk;clear h
 cases h1:(x1 == 1)
 ·clear hk
  go_enter func291,ntmps291;go_wp2_with (first | (go_at_call 206;refine (D5 _ _ _).mono ?_;rintro e w' ⟨rfl,o4,rfl⟩) | (go_at_call 293;refine (nI _ _ _).mono ?_;rintro e w' ⟨rfl,o1,o2,rfl⟩))
  go_ret;exact⟨rfl,P5⟩
 ·have h2:(y1 == 1)=false:=L2c.2 fun e=>hk ⟨beq_iff_eq.1 h1,e⟩
  clear hk;go_enter func291,ntmps291;go_wp2_with (first | (go_at_call 206;refine (D5 _ _ _).mono ?_;rintro e w' ⟨rfl,o4,rfl⟩) | (go_at_call 293;refine (nI _ _ _).mono ?_;rintro e w' ⟨rfl,o1,o2,rfl⟩))
  go_ret;exact⟨rfl,P5⟩
theorem a8R (h:C0 w own mb g R fs f rest [(1,x),(1,y)] va sb) (a:Int) (vc:Nat) :
  Calls prog 266 #[zB mb,J a,.slice va 2 vc] w fun e w'=>C3 own mb g R fs f (f.pc+1) (rest++[(1,wrap64 (x - y))]) (J 0) w e w':=by
 have HR:=hid (a0N h vc);clear h;go_enter func266,ntmps266;go_wp2_with (go_at_call 291;refine HR.out.mono ?_;rintro e w' ⟨xa,xb,rfl,hm,ht⟩)
 go_ret;exact⟨xa,xb,rfl,hm,ht⟩
theorem zN {x y:Val} (h:C0 w own mb g R fs f rest [x,y] va sb) (hk:¬(x.1=1/\y.1=1)) (a:Int) (vc:Nat) :
  Calls prog 266 #[zB mb,J a,.slice va 2 vc] w fun e w'=>F7 2 w e w':=by
 have HR:=hid (pP h hk vc);clear h hk;go_enter func266,ntmps266;go_wp2_with (go_at_call 291;refine HR.out.mono ?_;rintro e w' ⟨rfl,hb⟩)
 go_ret;exact⟨rfl,hb⟩
theorem nH (x y:Int) (w:World):Calls prog 294 #[J x,J y] w fun e w'=>e=.returned (.agg #[zC 1,J (wrap64 (x*y))])/\∃o o',w'=(w.alloc o).alloc o':=by
 go_enter func294,ntmps294;go_wp2_with (go_at_call 237;refine (N5 _ _).mono ?_;rintro e w' ⟨rfl,o,rfl⟩)
 exact bodyPost_ret (v:=.agg #[zC 1,J (wrap64 (x*y))]) (by simp [results,results294,go_sem]) rfl ⟨rfl,_,_,rfl⟩
theorem a0M (h:C0 w own mb g R fs f rest [(1,x),(1,y)] va sb) (vc:Nat) :
  Calls prog 291 #[zB mb,.slice va 2 vc,.func (.func 294) #[] #[]] w fun e w'=>C3 own mb g R fs f (f.pc+1) (rest++[(1,wrap64 (x*y))]) (J 0) w e w':=by
 obtain⟨o,rfl,xc,c0,c1,c2,c3⟩:=h.two;simp only at c0 c1 c2 c3;have HH:=hid h;clear h;go_enter func291,ntmps291;go_wp2_with (first | (go_at_call 206;refine (D5 _ _ _).mono ?_;rintro e w' ⟨rfl,o4,rfl⟩) | (go_at_call 294;refine (nH _ _ _).mono ?_;rintro e w' ⟨rfl,o1,o2,rfl⟩))
 go_region_with (first | (go_at_call 290;refine (HH.out.answer P5 vc _ [(1,wrap64 (x*y))] (G9 HH.out.m Q4 (by first | exact B0 R6 | exact K9 R6 | exact O4 R6)) R6 2 rfl).mono ?_;rintro e w' ⟨xa,xb,rfl,hm,ht⟩) | (first | (go_at_call 206;refine (D5 _ _ _).mono ?_;rintro e w' ⟨rfl,o4,rfl⟩) | (go_at_call 294;refine (nH _ _ _).mono ?_;rintro e w' ⟨rfl,o1,o2,rfl⟩)))
 all_goals go_wp2_with fail
 all_goals go_ret
 all_goals exact ⟨xa,xb,rfl,hm,ht⟩
theorem pO {x y:Val} (h:C0 w own mb g R fs f rest [x,y] va sb) (hk:¬(x.1=1/\y.1=1)) (vc:Nat) :
  Calls prog 291 #[zB mb,.slice va 2 vc,.func (.func 294) #[] #[]] w fun e w'=>F7 2 w e w':=by
 obtain⟨o,rfl,xa,c0,c1,c2,c3⟩:=h.two;obtain⟨x1,x2⟩:=x;obtain⟨y1,y2⟩:=y;simp only at c0 c1 c2 c3 hk;clear h
 cases h1:(x1 == 1)
 ·clear hk
  go_enter func291,ntmps291;go_wp2_with (first | (go_at_call 206;refine (D5 _ _ _).mono ?_;rintro e w' ⟨rfl,o4,rfl⟩) | (go_at_call 294;refine (nH _ _ _).mono ?_;rintro e w' ⟨rfl,o1,o2,rfl⟩))
  go_ret;exact⟨rfl,P5⟩
 ·have h2:(y1 == 1)=false:=L2c.2 fun e=>hk ⟨beq_iff_eq.1 h1,e⟩
  clear hk;go_enter func291,ntmps291;go_wp2_with (first | (go_at_call 206;refine (D5 _ _ _).mono ?_;rintro e w' ⟨rfl,o4,rfl⟩) | (go_at_call 294;refine (nH _ _ _).mono ?_;rintro e w' ⟨rfl,o1,o2,rfl⟩))
  go_ret;exact⟨rfl,P5⟩
theorem a8Q (h:C0 w own mb g R fs f rest [(1,x),(1,y)] va sb) (a:Int) (vc:Nat) :
  Calls prog 267 #[zB mb,J a,.slice va 2 vc] w fun e w'=>C3 own mb g R fs f (f.pc+1) (rest++[(1,wrap64 (x*y))]) (J 0) w e w':=by
 have HR:=hid (a0M h vc);clear h;go_enter func267,ntmps267;go_wp2_with (go_at_call 291;refine HR.out.mono ?_;rintro e w' ⟨xa,xb,rfl,hm,ht⟩)
 go_ret;exact⟨xa,xb,rfl,hm,ht⟩
theorem zM {x y:Val} (h:C0 w own mb g R fs f rest [x,y] va sb) (hk:¬(x.1=1/\y.1=1)) (a:Int) (vc:Nat) :
  Calls prog 267 #[zB mb,J a,.slice va 2 vc] w fun e w'=>F7 2 w e w':=by
 have HR:=hid (pO h hk vc);clear h hk;go_enter func267,ntmps267;go_wp2_with (go_at_call 291;refine HR.out.mono ?_;rintro e w' ⟨rfl,hb⟩)
 go_ret;exact⟨rfl,hb⟩
theorem kL (x y:Int) (w:World):Calls prog 295 #[J x,J y] w fun e w'=>e=.returned (.agg #[zC 1,J (D6 (decide (x < y)))])/\∃o o' o'',w'=((w.alloc o).alloc o').alloc o'':=by
 go_enter func295,ntmps295;go_wp2_with (go_at_call 296;refine (lZ _ _).mono ?_;rintro e w' ⟨rfl,o,o',rfl⟩)
 exact bodyPost_ret (v:=.agg #[zC 1,J (D6 (decide (x < y)))]) (by simp [results,results295,go_sem]) rfl ⟨rfl,_,_,_,rfl⟩
theorem xI (h:C0 w own mb g R fs f rest [(1,x),(1,y)] va sb) (vc:Nat) :
  Calls prog 291 #[zB mb,.slice va 2 vc,.func (.func 295) #[] #[]] w fun e w'=>C3 own mb g R fs f (f.pc+1) (rest++[(1,D6 (decide (x < y)))]) (J 0) w e w':=by
 obtain⟨o,rfl,xc,c0,c1,c2,c3⟩:=h.two;simp only at c0 c1 c2 c3;have HH:=hid h;clear h;go_enter func291,ntmps291;go_wp2_with (first | (go_at_call 206;refine (D5 _ _ _).mono ?_;rintro e w' ⟨rfl,o4,rfl⟩) | (go_at_call 295;refine (kL _ _ _).mono ?_;rintro e w' ⟨rfl,o1,o2,o3,rfl⟩))
 go_region_with (first | (go_at_call 290;refine (HH.out.answer P5 vc _ [(1,D6 (decide (x < y)))] (G9 HH.out.m Q4 (by first | exact B0 R6 | exact K9 R6 | exact O4 R6)) R6 2 rfl).mono ?_;rintro e w' ⟨xa,xb,rfl,hm,ht⟩) | (first | (go_at_call 206;refine (D5 _ _ _).mono ?_;rintro e w' ⟨rfl,o4,rfl⟩) | (go_at_call 295;refine (kL _ _ _).mono ?_;rintro e w' ⟨rfl,o1,o2,o3,rfl⟩)))
 all_goals go_wp2_with fail
 all_goals go_ret
 all_goals exact ⟨xa,xb,rfl,hm,ht⟩
theorem mW {x y:Val} (h:C0 w own mb g R fs f rest [x,y] va sb) (hk:¬(x.1=1/\y.1=1)) (vc:Nat) :
  Calls prog 291 #[zB mb,.slice va 2 vc,.func (.func 295) #[] #[]] w fun e w'=>F7 2 w e w':=by
 obtain⟨o,rfl,xa,c0,c1,c2,c3⟩:=h.two;obtain⟨x1,x2⟩:=x;obtain⟨y1,y2⟩:=y;simp only at c0 c1 c2 c3 hk;clear h
 cases h1:(x1 == 1)
 ·clear hk
  go_enter func291,ntmps291;go_wp2_with (first | (go_at_call 206;refine (D5 _ _ _).mono ?_;rintro e w' ⟨rfl,o4,rfl⟩) | (go_at_call 295;refine (kL _ _ _).mono ?_;rintro e w' ⟨rfl,o1,o2,o3,rfl⟩))
  go_ret;exact⟨rfl,P5⟩
 ·have h2:(y1 == 1)=false:=L2c.2 fun e=>hk ⟨beq_iff_eq.1 h1,e⟩
  clear hk;go_enter func291,ntmps291;go_wp2_with (first | (go_at_call 206;refine (D5 _ _ _).mono ?_;rintro e w' ⟨rfl,o4,rfl⟩) | (go_at_call 295;refine (kL _ _ _).mono ?_;rintro e w' ⟨rfl,o1,o2,o3,rfl⟩))
  go_ret;exact⟨rfl,P5⟩
theorem a7l (h:C0 w own mb g R fs f rest [(1,x),(1,y)] va sb) (a:Int) (vc:Nat) :
  Calls prog 268 #[zB mb,J a,.slice va 2 vc] w fun e w'=>C3 own mb g R fs f (f.pc+1) (rest++[(1,D6 (decide (x < y)))]) (J 0) w e w':=by
 have HR:=hid (xI h vc);clear h;go_enter func268,ntmps268;go_wp2_with (go_at_call 291;refine HR.out.mono ?_;rintro e w' ⟨xa,xb,rfl,hm,ht⟩)
 go_ret;exact⟨xa,xb,rfl,hm,ht⟩
theorem vY {x y:Val} (h:C0 w own mb g R fs f rest [x,y] va sb) (hk:¬(x.1=1/\y.1=1)) (a:Int) (vc:Nat) :
  Calls prog 268 #[zB mb,J a,.slice va 2 vc] w fun e w'=>F7 2 w e w':=by
 have HR:=hid (mW h hk vc);clear h hk;go_enter func268,ntmps268;go_wp2_with (go_at_call 291;refine HR.out.mono ?_;rintro e w' ⟨rfl,hb⟩)
 go_ret;exact⟨rfl,hb⟩
end
section
variable {R:McR} {f:FrR} {fs:List FrR} {g:PgR} {mb sb:Nat} {n:Int} {own:Own} {rest:List Val} {va:Option Addr} {w:World}
theorem A4.setOut {w':World} {R:McR} {v:Value} {l:List Int} (h:A4 w own mb g R) (hsize:w.heap.size<=w'.heap.size)
  (hk:∀k,k < w.heap.size->k≠mb->own k≠some .out->w'.heap[k]?=w.heap[k]?)
  (hc:∀j,j≠2->w'.cell? ⟨mb,j,none⟩=w.cell? ⟨mb,j,none⟩) (hc2:w'.cell? ⟨mb,2,none⟩=some v) (hfz:∀j,w'.frozen? ⟨mb,j,none⟩=false)
  (hrow:w'.ownsRow 0 3 1 v l.length (l.map fun n=>J n)) (hon:E7 w own v .out) :
  A4 w' (own.upd v.ownBlock .out) mb g { R with ov:=v,out:=l }:=by
 have xa:=h.lt;have keep:∀t,t≠.mach->t≠.out->∀k,own k=some t->w'.heap[k]?=w.heap[k]?:=fun t h1 h2 k hk' =>
  hk k (xa k t hk') (fun e=>by rw [e,h.me] at hk';exact h1 (L5b hk').symm) (by rw [hk'];exact fun e=>h2 (L5b e))
 have xb:∀k,k < w.heap.size->own k=none->w'.heap[k]?=w.heap[k]?:=fun k hk1 hk2=>hk k hk1 (fun e=>by rw [e,h.me] at hk2;cases hk2) (by rw [hk2];simp)
 refine⟨Own.upd_lt xa hsize hrow,?_,?_,?_,hc2,?_,?_,hfz,⟨hrow,fun b hb=>by simp [Own.upd,hb]⟩,h.called.upd xa hon (keep _ R6 R6),h.slots.upd xa hon (keep _ R6 R6),
  fun i x hx=>(h.loc i x hx).upd xa hon (keep _ R6 R6),fun i x hx=>(h.stk i x hx).upd xa hon (keep _ R6 R6),fun j o ho=>(h.fld j o ho).upd xa hon (keep _ R6 R6),?_,?_,?_,?_,?_,h.draws.upd xa hon (keep _ R6 R6)⟩
 ·rw [Own.upd_old hon (xa mb _ h.me)];exact h.me
 ·rw [hc 0 R5];exact h.c0
 ·rw [hc 1 R5];exact h.c1
 ·rw [hc 3 R5];exact h.c3
 ·rw [hc 4 R5];exact h.c4
 ·exact h.pg.held hsize fun k hb=>xb k (h.pg.blk_lt hb) (h.ro k hb)
 ·intro k hb;rw [Own.upd_old hon (h.pg.blk_lt hb)];exact h.ro k hb
 ·exact h.tab.held hsize (xb 0 h.tab.1 h.ro0)
 ·rw [Own.upd_old hon h.tab.1];exact h.ro0
 ·rw [hc 5 R5];exact h.c5
theorem iE:(prog.info? 3).map (fun i=>(i.zero,i.size,i.bytes))=some (some (J 0),1,8):=by kernel_rfl
def aW (own:Own) (mb:Nat) (g:PgR) (P:McR->Prop) (st:Int) (w:World) (e:Ending) (w':World):Prop :=
 ∃own' R',e=.returned (J st)/\A4 w' own' mb g R'/\P R'/\A2 own w own' w'
def a7b (R:McR) (fs:List FrR) (f:FrR) (rest:List Val) (n:Int) (R':McR):Prop:=∃ov' sv',R'={ R with ov:=ov',out:=R.out++[n],frs:=fs++[{ f with pc:=f.pc+1,sv:=sv',stk:=rest }] }
theorem a3n {R:McR} {W w5:World} {gb cap:Nat} (h:C0 w own mb g R fs f rest [(1,n)] va sb) (hB:L0d w W) (hgrow:W.grownBy w5 R.ov.ownBlock)
  (hown:w5.ownsRow 0 3 1 (.slice (zA gb) (R.out.length+1) cap) (R.out.length+1) ((R.out.map fun n=>J n)++[J n])) (hat:R.ov.ownBlock=some gb\/gb=W.heap.size) :
  w5.frozen? ⟨mb,2,none⟩=false/\w5.cell? ⟨mb,2,none⟩=some R.ov/\mb < w5.heap.size /\
   C0 (w5.setCell ⟨mb,2,none⟩ (.slice (zA gb) (R.out.length+1) cap)) (own.upd (some gb) .out) mb g { R with ov:=.slice (zA gb) (R.out.length+1) cap,out:=R.out++[n] } fs f rest [(1,n)] va sb /\
   A2 own w (own.upd (some gb) .out) (w5.setCell ⟨mb,2,none⟩ (.slice (zA gb) (R.out.length+1) cap)):=by
 have hm:=h.m;have xk:mb < w.heap.size:=hm.lt mb _ hm.me;have xd:∀b,R.ov.ownBlock=some b->own b=some .out:=hm.out.2
 have xj:R.ov.ownBlock≠some mb:=fun e=>by have:=xd mb e;rw [hm.me] at this;cases this
 have xi:gb≠mb:=fun e=>by
  rcases hat with h1 | h1
  ·exact xj (e▸h1)
  ·have:=hB.size;omega
 have xf:w.heap.size<=w5.heap.size:=L5a hB.size hgrow.size;have xc:E7 w own (.slice (zA gb) (R.out.length+1) cap) .out:=fun b hb=>by
  obtain rfl:gb=b:=by simpa [Value.ownBlock] using hb
  rcases hat with h1 | h1
  ·exact L4a (xd gb h1)
  ·exact L4b (by have:=hB.size;omega)
 have xb:∀k,k < w.heap.size->own k≠some .out->w5.heap[k]?=w.heap[k]?:=fun k hk ho=>by
  rw[hgrow.block k (L0a hk hB.size) (fun e=>ho (xd k e.symm)),hB.block k hk]
 have xa:=xb mb xk (by rw [hm.me];simp);have xh:∀j,w5.frozen? ⟨mb,j,none⟩=false:=fun j=>by rw [L0c (w:=w) (a:=⟨mb,j,none⟩) xa];exact hm.fz j
 have xm:w5.cell? ⟨mb,2,none⟩=some R.ov:=by rw [L0b (w:=w) (a:=⟨mb,2,none⟩) xa];exact hm.c2
 have xe:mb < w5.heap.size:=by omega
 have hM:A4 (w5.setCell ⟨mb,2,none⟩ (.slice (zA gb) (R.out.length+1) cap)) (own.upd (some gb) .out) mb g { R with ov:=.slice (zA gb) (R.out.length+1) cap,out:=R.out++[n] }:=by
  refine A4.setOut (v:=.slice (zA gb) (R.out.length+1) cap) (l:=R.out++[n]) hm (by simpa using xf) (fun k hk h1 h2=>?_) (fun j hj=>?_) ?_ (fun j=>?_) ?_ xc
  ·rw [heap_setCell_other _ _ _ _ h1];exact xb k hk h2
  ·rw [<- L0b (w:=w) (w':=w5) (a:=⟨mb,j,none⟩) xa]
   go_simp
  ·go_simp
  ·have:=xh j
   go_simp
  ·have:=ownsRow_setCell_other hown (a:=⟨mb,2,none⟩) (by simpa [Value.ownBlock] using xi) (.slice (zA gb) (R.out.length+1) cap)
   simpa using this
 refine⟨xh 2,xm,xe,⟨hM,h.hf,h.hst,fun h0=>?_,h.hn,h.hs,h.hpc⟩,⟨?_,?_,?_,by simpa using xf,fun k hk hno=>?_,fun k hk=>Own.upd_old xc hk⟩⟩
 ·obtain ⟨q1,q2,q3⟩:=h.hva h0
  have xg:sb < w.heap.size:=hm.lt sb _ q2;have xl:sb≠mb:=fun e=>by rw [e,hm.me] at q2;cases q2
  refine⟨q1,(Own.upd_old xc xg).trans q2,fun j x hx=>?_⟩;have e:(w5.setCell ⟨mb,2,none⟩ (.slice (zA gb) (R.out.length+1) cap)).heap[sb]?=w.heap[sb]?:=by
   rw[heap_setCell_other _ _ _ _ xl];exact xb sb xg (by rw [q2];simp)
  rw[L0b (w:=w) (a:=⟨sb,rest.length*2+j*2,none⟩) e,L0b (w:=w) (a:=⟨sb,rest.length*2+j*2+1,none⟩) e];exact q3 j x hx
 ·exact hgrow.os.trans hB.os
 ·exact hgrow.tape.trans hB.tape
 ·exact hgrow.output.trans hB.output
 ·rw [heap_setCell_other _ _ _ _ (fun e=>by rw [e,hm.me] at hno;cases hno)]
  exact xb k hk (by rw [hno];simp)
theorem vT (h:C0 w own mb g R fs f rest [(1,n)] va sb) (hl:R.out.length < 40) (a:Int) (vc:Nat) :
  Calls prog 288 #[zB mb,J a,.slice va 1 vc] w fun e w'=>aW own mb g (a7b R fs f rest n) 0 w e w':=by
 obtain⟨o,rfl,xk,c0,c1⟩:=h.one;simp only at c0 c1;have d2:=h.m.c2;have xl:mb < w.heap.size:=h.m.lt mb _ h.m.me;have xb:∃xf cc,R.ov=.slice xf R.out.length cc:=by
  rcases h.m.out.1.2 with ⟨e,e0⟩ | ⟨gb,xm,_,e,_⟩
  ·exact ⟨none,0,by rw [e,e0]⟩
  ·exact ⟨_,_,e⟩
 obtain⟨xf,cc,xc⟩:=xb;have HO:=hid h.m.out.1;rw[xc] at d2;have xj:=hid xc;have HH:=hid h;clear h xc;go_enter func288,ntmps288;go_wp2_with (go_at_call 206;refine (D5 _ _ _).mono ?_;rintro e w' ⟨rfl,o4,rfl⟩)
 obtain⟨i3,hi,hz,xd,xe⟩:=info_parts iE;have HI:=hid hi;have HZ:=hid hz;have xi:=hid xd;have xh:=hid xe;clear hi hz xd xe;go_region_law ((first | (refine step_append_lies _ rfl (.tmp 22) (.tmp 27) 24 rfl 0 3 i3 _ 1 8 underlying24 HI.out HZ.out xi.out xh.out rfl R4 R.ov R.out.length (R.out.map fun n=>J n) (by rw [xj.out];first | rfl | simp [Act.eval]) (by repeat (first | exact HO.out | exact HO.out.drew | refine World.ownsRow.alloc ?_ _ | refine World.ownsRow.drew ?_)) _ 1 1 [J n] Q3 rfl (World.news_of_block (cs:=#[J n]) (t:=3) (fr:=(0,0)) (by first | exact B0 R6 | exact K9 R6)) (by simp [Value.oneCell']) R5 Q7 R5 (L4c _) _ rfl ?_;intro gq capq w5 hown5 hgrow5 hat5 hlt5;obtain ⟨y0,y1,y2,hM,hT⟩:=a3n HH.out P6 hgrow5 hown5 hat5;clear hown5 hgrow5 hat5 hlt5)))
 all_goals
  have HM:=hid hM;have HT:=hid hT;clear hM hT y0 y1 y2;go_wp2_with (go_at_call 290;refine (HM.out.answer (L3b _ _) vc _ [] (Z1 _ _) R6 1 rfl).mono ?_;rintro e w' ⟨xa,xg,rfl,hm,ht⟩)
  go_ret;exact⟨xa,_,rfl,hm,⟨_,xg,by rw [List.append_nil]⟩,HT.out.trans ht⟩
theorem vU {x:Val} (h:C0 w own mb g R fs f rest [x] va sb) (hk:x.1≠1) (a:Int) (vc:Nat) :
  Calls prog 288 #[zB mb,J a,.slice va 1 vc] w fun e w'=>F7 2 w e w':=by
 obtain⟨o,rfl,xa,c0,c1⟩:=h.one;have h1:(x.1 == 1)=false:=L2c.2 hk;clear h hk;go_enter func288,ntmps288;go_wp2_with (go_at_call 206;refine (D5 _ _ _).mono ?_;rintro e w' ⟨rfl,o4,rfl⟩)
 go_ret;exact⟨rfl,P5⟩
theorem sR (h:C0 w own mb g R fs f rest [(1,n)] va sb) (hl:40<=R.out.length) (a:Int) (vc:Nat) :
  Calls prog 288 #[zB mb,J a,.slice va 1 vc] w fun e w'=>F7 7 w e w':=by
 obtain⟨o,rfl,xd,c0,c1⟩:=h.one;simp only at c0 c1;have d2:=h.m.c2;have xe:mb < w.heap.size:=h.m.lt mb _ h.m.me;have xa:∃xb cc,R.ov=.slice xb R.out.length cc:=by
  rcases h.m.out.1.2 with ⟨e,e0⟩ | ⟨gb,xf,_,e,_⟩
  ·exact ⟨none,0,by rw [e,e0]⟩
  ·exact ⟨_,_,e⟩
 obtain⟨xb,cc,xc⟩:=xa;rw[xc] at d2;clear h xc;go_enter func288,ntmps288;go_wp2_with (go_at_call 206;refine (D5 _ _ _).mono ?_;rintro e w' ⟨rfl,o4,rfl⟩)
 go_ret;exact⟨rfl,P5⟩
end
end Go.Proofs.YtbkmgoffiigdbaaGreatDoor
