import Derived.Test.YtbkmgoffiigdbabGreatDoorVUb
import Derived.Lib.SlBytesConst
namespace Go.Proofs.YtbkmgoffiigdbabGreatDoor
open Go.RowKit Go.Sort
set_option maxHeartbeats 8000000
set_option maxRecDepth 100000
structure G5 (s:McA):Prop where
 st:0≤s.st∧s.st≤7
 out:∀z,z∈s.out→I64 z
 frs:∀f,f∈s.frs→∀v,v∈f.loc++f.stk→I64 v.2
 obs:∀o,o∈s.obs→∀v,v∈o.2→I64 v.2
def VsI (l:List Val):Prop:=∀v,v∈l→I64 v.2
theorem O4 {z:Int} (h1 : -1000000≤z) (h2:z≤1000000):I64 z:=by unfold I64;omega
theorem VsI.app {l k:List Val} (h:VsI l) (h':VsI k):VsI (l++k):=fun v hv=>by
 rcases List.mem_append.1 hv with hv | hv
 ·exact h v hv
 ·exact h' v hv
theorem VsI.left {l k:List Val} (h:VsI (l++k)):VsI l:=fun v hv=>h v (by simp [hv])
theorem VsI.right {l k:List Val} (h:VsI (l++k)):VsI k:=fun v hv=>h v (by simp [hv])
theorem VsI.one {v:Val} (h:I64 v.2):VsI [v]:=fun u hu=>by rw [List.mem_singleton] at hu;subst hu;exact h
theorem VsI.nil:VsI []:=fun v hv=>by simp at hv
theorem VsI.nils (n:Nat):VsI (List.replicate n (0,0)):=fun v hv=>by rw [(List.mem_replicate.1 hv).2];exact O4 Q7 Q7
theorem VsI.getD {l:List Val} (h:VsI l) (i:Nat):I64 (l.getD i (0,0)).2:=by
 rw[List.getD_eq_getElem?_getD]
 cases e:l[i]? with
 | none=>exact O4 Q7 Q7
 | some x=>exact h x (List.mem_of_getElem? e)
theorem VsI.headD {l:List Val} (h:VsI l):I64 (l.headD (0,0)).2:=by
 cases l with
 | nil=>exact O4 Q7 Q7
 | cons x l=>exact h x Q9
theorem VsI.set {l:List Val} (h:VsI l) (i:Nat) {x:Val} (hx:I64 x.2):VsI (l.set i x):=fun v hv=>by
 rcases List.mem_or_eq_of_mem_set hv with hv | rfl
 ·exact h v hv
 ·exact hx
theorem rH (z:Int):I64 (wrap64 z):=by unfold I64 wrap64;omega
theorem nA (b:Bool):I64 (Z3 b):=by cases b <;> exact O4 Q7 Q7
theorem G5.put {s:McA} (h:G5 s) (st:Int) (h0:0≤st) (h7:st≤7) (frs:List FrA) (hfr:∀x,x∈frs→x∈s.frs∨VsI (x.loc++x.stk)) (dr:List Int):G5 ⟨st,s.out,frs,s.obs,dr⟩ :=
 ⟨⟨h0,h7⟩,h.out,fun f hf v hv=>by
  rcases hfr f hf with h1 | h1
  ·exact h.frs f h1 v hv
  ·exact h1 v hv,h.obs⟩
theorem O8 {s:McA} (h:G5 s) {fs:List FrA} {f:FrA} (hf:s.frs=fs++[f]) (pc:Nat) {l:List Val} (hl:VsI l):G5 (goA s fs f pc l):=by
 refine h.put 0 Q7 Q7 _ (fun x hx=>?_) _;rcases List.mem_append.1 hx with hx | hx
 ·exact Or.inl (by rw [hf];simp [hx])
 ·rw [List.mem_singleton] at hx
  subst hx;exact Or.inr (VsI.app (fun v hv=>h.frs f (by rw [hf];simp) v (by simp [hv])) hl)
theorem T3 {s:McA} (h:G5 s) {t:Int} (h0:0≤t) (h7:t≤7):G5 (F4 s t):=⟨⟨h0,h7⟩,h.out,h.frs,h.obs⟩
theorem lN {s:McA} (h:G5 s):G5 (G8 s):=by
 refine⟨h.st,h.out,h.frs,fun o ho v hv=>?_⟩;obtain⟨j,hj⟩:=List.mem_iff_getElem?.1 (show o∈aH s.obs (A0 s) from ho);rw[dK] at hj;obtain⟨p,hp,rfl⟩:=Option.map_eq_some_iff.1 hj;have hp':VsI p.2:=h.obs p (List.mem_of_getElem? hp);have hq:VsI (if j∈A0 s then p else (0,[])).2:=by
  split
  ·exact hp'
  ·exact VsI.nil
 generalize (if j∈A0 s then p else (0,[]))=q at *
 unfold M8 at hv;split at hv
 ·exact hq.set 0 (x:=(0,0)) (O4 Q7 Q7) v hv
 ·exact hq v hv
theorem a4j {s:McA} (h:G5 s):G5 (G3 s):=by
 unfold G3;split
 ·exact lN h
 ·exact h
theorem rL {g:PgR} {s:McA} (h:G5 s) (hi:C1 g s) {fs:List FrA} {f:FrA} (hf:s.frs=fs++[f]) {rest:List Val} (hr:VsI rest) (kind:Int) {fl:List Val} (hfl:VsI fl):G5 (R6 s fs f rest kind fl):=by
 have h':=a4j h;unfold R6;split
 ·exact ⟨⟨by show (0:Int)≤6;decide,by show (6:Int)≤7;decide⟩,h'.out,h'.frs,h'.obs⟩
 ·split
  ·exact h
  ·rename_i j hj
   obtain⟨⟨o,ho,_⟩,_⟩:=bM hj;have hl:=(List.getElem?_eq_some_iff.1 ho).1;rw[sO] at hl;have hc:=hi.cap;refine⟨⟨by show (0:Int)≤0;decide,by show (0:Int)≤7;decide⟩,h.out,fun x hx v hv=>?_,fun o ho v hv=>?_⟩
   ·rcases List.mem_append.1 hx with hx | hx
    ·exact h.frs x (by rw [hf];simp [hx]) v hv
    ·rw [List.mem_singleton] at hx
     subst hx;exact VsI.app (fun v hv=>h.frs f (by rw [hf];simp) v (by simp [hv])) (hr.app (VsI.one (O4 (by show (-1000000:Int)≤(j.1:Int);omega) (by show (j.1:Int)≤1000000;omega)))) v hv
   ·rcases List.mem_or_eq_of_mem_set ho with ho | rfl
    ·exact h'.obs o ho v hv
    ·exact hfl v hv
theorem eM {s:McA} (h:G5 s) (v:Val):VsI (A4 s.obs v).2:=by
 unfold A4;split
 ·rw [List.getD_eq_getElem?_getD]
  cases e:s.obs[v.2.toNat]? with
  | none=>exact VsI.nil
  | some o=>exact h.obs o (List.mem_of_getElem? e)
 ·exact VsI.nil
theorem jD (o:Ob) (kind:Int) (ix:Val):0≤J7 o kind ix∧J7 o kind ix≤7:=by
 unfold J7
 repeat' split
 all_goals decide
theorem zS {s:McA} (h:G5 s) {fs:List FrA} {f:FrA} (hf:s.frs=fs++[f]) {rest:List Val} (hr:VsI rest) (v:Val) (kind:Int) (ix:Val):G5 (eS s fs f rest v kind ix):=by
 unfold eS;split
 ·exact O8 h hf _ (hr.app (VsI.one ((eM h v).getD _)))
 ·exact T3 h (jD _ _ _).1 (jD _ _ _).2
theorem zU {s:McA} (h:G5 s) {fs:List FrA} {f:FrA} (hf:s.frs=fs++[f]) {rest:List Val} (hr:VsI rest) (v:Val) (kind:Int) (ix:Val) {y:Val} (hy:I64 y.2):G5 (dN s fs f rest v kind ix y):=by
 unfold dN;split
 ·have h1:=O8 h hf (f.pc+1) hr
  refine⟨h1.st,h1.out,h1.frs,fun o ho u hu=>?_⟩;rcases List.mem_or_eq_of_mem_set ho with ho | rfl
  ·exact h.obs o ho u hu
  ·exact (eM h v).set _ hy u hu
 ·exact T3 h (jD _ _ _).1 (jD _ _ _).2
theorem dV {s:McA} (h:G5 s) {fs:List FrA} {f:FrA} (hf:s.frs=fs++[f]) {rest:List Val} (hr:VsI rest) (x y:Val) {z:Int} (hz:I64 z):G5 (L8 s fs f rest x y z):=by
 unfold L8;split
 ·exact O8 h hf _ (hr.app (VsI.one hz))
 ·exact T3 h Q7 Q7
theorem a4i {g:PgR} {s:McA} (h:G5 s) {fs:List FrA} {f:FrA} (hf:s.frs=fs++[f]) {rest args:List Val} (hr:VsI rest) (ha:VsI args) (a:Int):G5 (bD g a s fs f rest args):=by
 unfold bD;split
 ·exact T3 h Q7 Q7
 ·refine h.put 0 Q7 Q7 _ (fun x hx=>?_) _
  rcases List.mem_append.1 hx with hx | hx
  ·rcases List.mem_append.1 hx with hx | hx
   ·exact Or.inl (by rw [hf];simp [hx])
   ·rw [List.mem_singleton] at hx
    subst hx;exact Or.inr (VsI.app (fun v hv=>h.frs f (by rw [hf];simp) v (by simp [hv])) hr)
  ·rw [List.mem_singleton] at hx
   subst hx;exact Or.inr (VsI.app (VsI.app ha (VsI.nils _)) VsI.nil)
theorem zT {s:McA} (h:G5 s) {fs:List FrA} {f:FrA} (hf:s.frs=fs++[f]) {x:Val} (hx:I64 x.2):G5 (E5 s fs x):=by
 unfold E5;split
 ·exact h.put 1 Q7 Q7 _ (fun x hx=>by cases hx) _
 ·rename_i c hc
  have hm:c∈fs:=List.mem_of_getLast? hc;have hcv:VsI (c.loc++c.stk):=h.frs c (by rw [hf];simp [hm]);refine h.put 0 Q7 Q7 _ (fun y hy=>?_) _;rcases List.mem_append.1 hy with hy | hy
  ·exact Or.inl (by rw [hf];simp [(List.dropLast_sublist fs).subset hy])
  ·rw [List.mem_singleton] at hy
   subst hy;exact Or.inr (VsI.app hcv.left (VsI.app hcv.right (VsI.one hx)))
theorem a7W {g:PgR} {s:McA} (h:G5 s) (hi:C1 g s) {fs:List FrA} {f:FrA} (hf:s.frs=fs++[f]) {k:Nat} {a:Int} {rest args:List Val} (hr:VsI rest) (ha:VsI args) (h64:I64 a):G5 (doA g k a s fs f rest args):=by
 have hloc:VsI f.loc:=fun v hv=>h.frs f (by rw [hf];simp) v (by simp [hv])
 unfold doA;split
 ·exact O8 h hf _ (hr.app (VsI.one h64))
 ·exact O8 h hf _ (hr.app (VsI.one (O4 Q7 Q7)))
 ·exact O8 h hf _ (hr.app (VsI.one (hloc.getD _)))
 ·rename_i x
  refine h.put 0 Q7 Q7 _ (fun y hy=>?_) _;rcases List.mem_append.1 hy with hy | hy
  ·exact Or.inl (by rw [hf];simp [hy])
  ·rw [List.mem_singleton] at hy
   subst hy;exact Or.inr (VsI.app (hloc.set _ (ha x Q9)) hr)
 ·rename_i x
  exact O8 h hf _ (hr.app (fun v hv=>ha v (by simpa using hv)))
 ·exact O8 h hf _ hr
 ·rename_i x y
  exact O8 h hf _ (hr.app (fun v hv=>ha v (by simp at hv ⊢;exact hv.symm)))
 ·exact dV h hf hr _ _ (rH _)
 ·exact dV h hf hr _ _ (rH _)
 ·exact dV h hf hr _ _ (rH _)
 ·exact dV h hf hr _ _ (nA _)
 ·exact O8 h hf _ (hr.app (VsI.one (nA _)))
 ·exact O8 h hf _ hr
 ·split
  ·exact O8 h hf _ hr
  ·exact O8 h hf _ hr
 ·exact a4i h hf hr ha _
 ·rename_i x
  exact zT h hf (ha x Q9)
 ·exact rL h hi hf hr _ (VsI.nils _)
 ·split
  ·exact T3 h Q7 Q7
  ·split
   ·exact rL h hi hf hr _ (VsI.nils _)
   ·exact T3 h Q7 Q7
 ·split
  ·exact rL h hi hf hr _ ha
  ·exact T3 h Q7 Q7
 ·exact zS h hf hr _ _ _
 ·rename_i x y
  exact zU h hf hr _ _ _ (ha y Q9)
 ·exact zS h hf hr _ _ _
 ·rename_i x y z
  exact zU h hf hr _ _ _ (ha z Q9)
 ·rename_i x
  split
  ·have:=(aU hi (v:=x)).len
   exact O8 h hf _ (hr.app (VsI.one (O4 (by show (-1000000:Int)≤((A4 s.obs x).2.length:Int);omega) (by show ((A4 s.obs x).2.length:Int)≤1000000;omega))))
  ·exact T3 h Q7 Q7
 ·rename_i x
  split
  ·refine O8 h hf _ (hr.app (VsI.one ?_))
   unfold aW;split
   ·exact (eM h x).headD
   ·exact O4 Q7 Q7
  ·exact T3 h Q7 Q7
 ·exact O8 h hf _ (hr.app (VsI.one (nA _)))
 ·rename_i x
  split
  ·exact T3 h Q7 Q7
  ·split
   ·exact T3 h Q7 Q7
   ·have h1:=O8 h hf (f.pc+1) hr
    refine⟨h1.st,fun z hz=>?_,h1.frs,h1.obs⟩;rcases List.mem_append.1 hz with hz | hz
    ·exact h.out z hz
    ·rw [List.mem_singleton] at hz
     subst hz;exact ha x Q9
 ·exact h.put 1 Q7 Q7 _ (fun x hx=>by cases hx) _
 ·exact h
def ArI (g:PgR):Prop:=∀i,i < g.n→∀j,j < (g.f i).n→I64 ((g.f i).ar j)
theorem a4k {g:PgR} (hp:F2 g) (ha:ArI g) {s:McA} (h:G5 s) (hi:C1 g s) (h0:s.st=0):G5 (W0 g s):=by
 have hne:=hi.run h0;have hf:=(List.dropLast_concat_getLast hne).symm;obtain⟨k,a,rest,args,_,o,e⟩:=hi.opAt hp hf;obtain⟨h1,_⟩:=hi.top hf;obtain⟨hpc,_,_,_⟩:=h1.at hp;have hs:VsI (s.frs.getLast hne).stk:=fun v hv=>h.frs _ (List.getLast_mem hne) v (by simp [hv])
 rw[o.stk] at hs;rw[e];exact a7W h hi hf hs.left hs.right (by rw [← o.ar];exact ha _ h1.fn _ hpc)
theorem rM {g:PgR} (hp:F2 g) (ha:ArI g):∀(n:Nat) {s:McA},G5 s→C1 g s→G5 (runA g n s)
 | 0,_,h,_=>h
 | n+1,s,h,hi=>by
  rw[runA];split
  ·rename_i h0;exact rM hp ha n (a4k hp ha h hi h0) (eU hp hi h0)
  ·exact h
theorem rK (l cap:Nat) (d:List Int):G5 ⟨0,[],[⟨0,0,List.replicate l (0,0),[]⟩],List.replicate cap (0,[]),d⟩:=by
 refine⟨⟨by show (0:Int)≤0;decide,by show (0:Int)≤7;decide⟩,fun z hz=>(by cases hz),fun f hf v hv=>?_,fun o ho v hv=>?_⟩
 ·have hf:=List.mem_singleton.1 hf
  subst hf;rw[List.append_nil] at hv;exact VsI.nils l v hv
 ·have ho:=(List.mem_replicate.1 ho).2
  subst ho
  cases hv
theorem a4U {F:E6} (hF:F.Fits) {a:Nat} {b:Int} (h:F.Reach a b):b≤10:=by
 have:F.Reach a b∧b≤10:=by
  refine h (fun a b=>F.Reach a b∧b≤10) ⟨E6.reach_first F,by decide⟩ ?_;rintro a b c ⟨h1,_⟩ hc;exact⟨E6.reach_next h1 hc,(hF.1 a b h1).2.2⟩
 exact this.2
theorem wS:∀{l:List Nat} {x i:Nat},ixA l x=some i→i < l.length
 | [],_,_,h=>by cases h
 | a::l,x,i,h=>by
  rw[ixA] at h;split at h
  ·cases h;simp
  ·obtain ⟨j,hj,rfl⟩:=Option.map_eq_some_iff.1 h
   have:=wS hj;simp only[List.length_cons];omega
theorem hZ {al:List Nat} (hal:al.length≤40) {v:Val} (hv:I64 v.2):sY (C4 al v):=by
 unfold C4;split
 ·split
  ·rename_i i hi
   have:=wS hi;exact⟨O4 (by show (-1000000:Int)≤(i:Int);omega) (by show (i:Int)≤1000000;omega),fun _=>by show (0:Int)≤(i:Int);omega⟩
  ·exact ⟨O4 Q7 Q7,fun _=>by decide⟩
 ·rename_i h2
  exact⟨hv,fun e=>absurd e h2⟩
theorem bL {g:PgR} (hp:F2 g) {s:McA} (hi:C1 g s) (h:G5 s):fI (A9 s):=by
 have hal:(A0 s).length≤40:=by
  have:=K5 hi.alive.nodup hi.alive.lt;have:=hi.cap;omega
 have hmap:∀{l:List Val},VsI l→∀v,v∈l.map (C4 (A0 s))→sY v:=fun hl v hv=>by
  obtain⟨u,hu,rfl⟩:=List.mem_map.1 hv;exact hZ hal (hl u hu)
 refine⟨h.st,⟨hi.out,h.out⟩,⟨by show (s.frs.map _).length≤12;rw [List.length_map];exact hi.depth,fun f hf=>?_⟩,⟨by show ((A0 s).map _).length≤40;rw [List.length_map];exact hal,fun o ho=>?_⟩⟩
 ·obtain ⟨q,hq,rfl⟩:=List.mem_map.1 hf
  obtain⟨r,hr0,hr⟩:=qX hp hi.frs q (List.mem_reverse.2 hq);have hbd:=hr.bd hp hr0;have h10:=a4U (hp.fits _ hr.fn) hr.reach;have hfn:=hr.fn;have hg8:=hp.sized.2.1;have hv:VsI (q.loc++q.stk):=h.frs q hq;refine⟨by show q.fn < 1000;omega,by show q.pc < 1000;omega,by show (q.loc.map _).length+(q.stk.map _).length≤18;rw [List.length_map,List.length_map];omega,hmap hv.left,hmap hv.right⟩
 ·obtain ⟨j,hj,rfl⟩:=List.mem_map.1 ho
  unfold N5
  cases e:s.obs[j]? with
  | none=>exact ⟨⟨by show (0:Int)≤0;decide,by show (0:Int) < 256;decide⟩,by simp,fun v hv=>(by cases hv)⟩
  | some o =>
   have hk:=hi.obs o (List.mem_of_getElem? e);refine⟨?_,by show (o.2.map _).length≤12;rw [List.length_map];exact hk.len,hmap (h.obs o (List.mem_of_getElem? e))⟩;show 0≤o.1∧o.1 < 256;rcases hk with hk | hk | hk | hk
   ·omega
   ·omega
   ·omega
   ·omega
theorem iA {g:PgR} (hp:F2 g) (ha:ArI g):bS g :=
 ⟨hp.sized.2.1,fun i hi=>by
  have hb:=hp.sized.bd hi;exact⟨by omega,by omega,by omega,fun j hj=>by have:=dD (hp.legal i hi j hj);omega,ha i hi⟩⟩
theorem aQ.arI {g g':PgR} (h:aQ g g') (ha:ArI g):ArI g':=fun i hi j hj=>by
 rw[h.1] at hi;obtain⟨_,_,q3,_,q5⟩:=h.2 i hi;rw[q3] at hj;rw[q5];exact ha i hi j hj
theorem aQ.progB {g g':PgR} (h:aQ g g'):progB g'=progB g:=by
 have hc:∀i,i < g.n→fnB (g'.f i)=fnB (g.f i):=fun i hi=>by
  obtain⟨q1,q2,q3,q4,q5⟩:=h.2 i hi;have hin:inB (g'.f i)=inB (g.f i):=by funext j;unfold inB;rw [q4,q5]
  unfold fnB bE;rw[q1,q2,q3,hin]
 have hf:∀k,k≤g.n→dM g' k=dM g k:=fun k=>by
  induction k with
  | zero=>intro _;rfl
  | succ k ih=>intro hk;rw [eR,eR,ih Q8,hc k Q8]
 unfold Go.Proofs.YtbkmgoffiigdbabGreatDoor.progB;rw[h.1,hf g.n (Nat.le_refl _)]
theorem aQ.machB {g g':PgR} (h:aQ g g') (s:McA):machB g' s=machB g s:=by
 unfold Go.Proofs.YtbkmgoffiigdbabGreatDoor.machB;rw[h.progB]
def a6k:List Int:=[83,76,77,2]
def R0 (g:PgR) (s:McA):List Int:=a6k++machB g s
def imgB (g:PgR) (s:McA):List Int:=R0 g s++kS (R0 g s)
theorem sS (l:List Int):(kS l).length=4:=rfl
theorem nE {g:PgR} {s:McA} (hg:bS g) (hs:fI s):(machB g s).length≤18990:=by
 have h1:=uV hg;have h2:=E1 (n:=s.st.toNat) (by have:=hs.st;omega);have h3:=a0l hs;have h4:=nZ hs;have h5:=a0h hs.obs.2;have h6:=E1 (n:=s.obs.length) (by have:=hs.obs.1;omega);have h7:s.obs.length*152≤40*152:=Nat.mul_le_mul_right _ hs.obs.1;unfold machB V9;simp only[List.length_append];omega
theorem uE {g:PgR} {s:McA} (hg:bS g) (hs:fI s):(R0 g s).length≤18994:=by
 have:=nE hg hs;unfold R0 a6k;rw[List.length_append];simp only[List.length_cons,List.length_nil];omega
theorem a6n (g:PgR) (s:McA):8≤(imgB g s).length:=by
 unfold imgB R0 a6k;rw[List.length_append,List.length_append,sS];simp only[List.length_cons,List.length_nil];omega
theorem a7U {g:PgR} {s:McA} (hg:bS g) (hs:fI s):(imgB g s).length≤18998:=by
 have:=uE hg hs;unfold imgB;rw[List.length_append,sS];omega
theorem aQ.imgB {g g':PgR} (h:aQ g g') (s:McA):imgB g' s=imgB g s:=by
 unfold Go.Proofs.YtbkmgoffiigdbabGreatDoor.imgB R0;rw[h.machB]
theorem eB {w W W':World} {wb ab:Nat} (hB:Below w.heap.size w W) (hw:A6 wb ab W W') (h1:w.heap.size≤wb) (h2:w.heap.size≤ab):Below w.heap.size w W' :=
 ⟨hw.os.trans hB.os,hw.tape.trans hB.tape,hw.output.trans hB.output,Nat.le_trans hB.size hw.size,fun k hk=>(hw.block k (Nat.lt_of_lt_of_le hk hB.size) Q8 Q8).trans (hB.block k hk)⟩
theorem T1.bytes {W:World} {wb ab:Nat} {bs:List Int} (h:T1 W wb ab bs) (hn:bs.length≤20000):Y2 W (some ⟨ab,0,none⟩) bs:=fun _=>by
 obtain⟨rest,hr⟩:=h.row;refine⟨ab,0,rfl,h.alt,fun i x hx=>?_⟩;have hi:=(List.getElem?_eq_some_iff.1 hx).1;rw[Nat.zero_add,hr.cellAt i Q8,List.getElem?_append_left (by rw [X4];exact hi)];unfold N3;rw[List.getElem?_map,hx];rfl
theorem Y2.later {W V:World} {a:Option Addr} {l:List Int} (h:Y2 W a l) (hB:Below W.heap.size W V):Y2 V a l:=fun h0=>by
 obtain⟨b,o,e,hb,hc⟩:=h h0;exact⟨b,o,e,Nat.lt_of_lt_of_le hb hB.size,fun i x hx=>(hB.cell (p:=⟨b,o+i,none⟩) hb).trans (hc i x hx)⟩
def gS (bs:List Int) (w:World) (e:Ending) (w':World):Prop:=∃gb cap,e=.returned (.slice (some ⟨gb,0,none⟩) bs.length cap)∧Y2 w' (some ⟨gb,0,none⟩) bs∧Below w.heap.size w w'
def mL (bs:List Int) (w:World) (e:Ending) (w':World):Prop:=∃gb cap,e=.returned (.slice (some ⟨gb,0,none⟩) bs.length cap)∧Y2 w' (some ⟨gb,0,none⟩) bs∧Below w.heap.size w w'∧w'.ownsRow w.heap.size 5 1 (.slice (some ⟨gb,0,none⟩) bs.length cap) bs.length (N3 bs)
theorem a2h {W:World} {wb ab k n:Nat} {bs:List Int} (h:T1 W wb ab bs) (hk:W.heap.size=k) (l:List Int) (hl:l.length=n) (cs:Array Value) (hcs:cs.toList=N3 l) (hn:bs.length+n < 20000) (c:Nat) (fr:Nat × Nat) :
  Calls Tryz.prog 44 #[.pointer (some ⟨wb,0,none⟩),.slice (some ⟨k,0,none⟩) n c] (W.alloc (.cells cs 5 fr)) fun e w'=>I2 wb ab (bs++l) W e w':=by
 subst hk hl;have hB:Below W.heap.size W (W.alloc (.cells cs 5 fr)):=Below.alloc (Below.refl _ _) (Nat.le_refl _) _;refine (a3n (h.later hB) _ c l (fun _=>⟨W.heap.size,0,rfl,by simp,?_,?_,fun i x hx=>?_⟩) hn).mono ?_
 ·have:=h.wlt;omega
 ·have:=h.alt;omega
 ·have hb:(W.alloc (.cells cs 5 fr)).heap[W.heap.size]?=some (.cells cs 5 fr):=D8 rfl
  have:=World.news_of_block hb i (.int .u8 x) (by rw [hcs];unfold N3;rw [List.getElem?_map,hx];rfl);rw[Go.WideShapes.add_plain] at this;exact this
 ·rintro e w' ⟨rfl,h4,h5⟩
  exact⟨rfl,h4,(A6.of_below hB).trans h5⟩
theorem a5c {own:Own} {mb:Nat} {g:PgR} {R:McR} {w:World} (h:A3 w own mb g R) (hp:F2 g) (hi:C1 g R.abs) (hints:G5 R.abs) (ha:ArI g) :
  Calls Tryz.prog 29 #[.pointer (some ⟨mb,0,none⟩)] w fun e w'=>mL (imgB g (A9 R.abs)) w e w':=by
 have hs:=bL hp hi hints;have hg:=iA hp ha;have hcl:=uE hg hs;have HW:=hid (tL w);have HPK:Hid (∀W,Below w.heap.size w W→Calls Tryz.prog 46 #[.pointer (some ⟨mb,0,none⟩)] W fun e w'=>gP own g R W e w'):=fun W hW=>a2b (h.same hW.size fun k hk=>hW.block k hk) hp hi
 have HNEW:Hid (∀k,w.heap.size≤k→own k=none):=fun k hk=>h.new hk
 have HBLK:Hid (∀k,w.heap.size≤k→¬g.blk k):=fun k hk hb=>by have:=h.pg.blk_lt hb;omega
 have HS:=hid hs;have HG:=hid hg;have HCORE:Hid (R0 g (A9 R.abs)=[83,76,77,2]++machB g (A9 R.abs)):=hid rfl;have HIMG:Hid (imgB g (A9 R.abs)=R0 g (A9 R.abs)++kS (R0 g (A9 R.abs))):=hid rfl;generalize R0 g (A9 R.abs)=core at *
 generalize imgB g (A9 R.abs)=img at *
 obtain⟨s,hsq⟩:∃s,A9 R.abs=s:=⟨_,rfl⟩
 rw[hsq] at HS HCORE;have HSQ:=hid hsq;clear h hp hi hints ha hs hg hsq;have kc:=fun (w:World) (C:Array Value) (n c:Nat)=>Go.Lib.run_convert_bytes_const (P:=Tryz.prog) w 33 5 C n c Tryz.underlying33 Tryz.underlying5
 go_enter Tryz.func29,Tryz.ntmps29;go_wp2_with fail;refine HW.out.mono ?_;rintro e w1 ⟨wb,ab,rfl,hwr,hwb,hab,hb1⟩;have H1:=hid hwr;have HB1:=hid hb1;have l1:=hwr.wlt;have s1:=hb1.size;clear hwr hb1 HW;go_wp2_with fail;refine (a2h H1.out rfl [83,76,77] rfl _ rfl Q9 _ _).mono ?_;rintro e w2 ⟨rfl,h2,hw2⟩;have H2:=hid h2;have HB2:=hid (eB HB1.out hw2 hwb hab);have l2:=h2.wlt;clear h2 hw2 H1 HB1
 go_wp2_with fail;refine (a2h H2.out rfl [2] rfl _ rfl Q9 _ _).mono ?_;rintro e w3 ⟨rfl,h3,hw3⟩;have H3:=hid h3;have HB3:=hid (eB HB2.out hw3 hwb hab);have l3:=h3.wlt;have a3:=h3.alt;clear h3 hw3 H2 HB2;go_wp2_with fail;refine (HPK.out _ HB3.out).mono ?_;rintro e w4 ⟨pb,rfl,hb4,hpk⟩;have hpa:=hpk wb ab l3 a3 (HNEW.out _ hwb) (HNEW.out _ hab) (HBLK.out _ hwb) (HBLK.out _ hab);rw[HSQ.out] at hpa
 have HPA:=hid hpa;clear hpa;have H4:=hid (H3.out.later hb4);have HB4:=hid (A1 hb4 HB3.out);clear hb4 hpk H3 HB3 l3 a3;go_wp2_with fail;refine (xW H4.out g s HPA.out HG.out HS.out Q9).mono ?_;rintro e w5 ⟨rfl,h5,hw5⟩;have h5':T1 w5 wb ab core:=by rw [HCORE.out];exact h5
 have H5:=hid h5';have HB5:=hid (eB HB4.out hw5 hwb hab);have l5:=h5'.wlt;clear h5 h5' hw5 H4 HB4 HPA;go_wp2_with fail;refine (sA H5.out Q8).mono ?_;rintro e w6 ⟨rfl,hl6⟩;have H6:=hid (H5.out.later hl6.below);have HB6:=hid (A1 hl6.below HB5.out);clear hl6 H5 HB5;go_wp2_with fail;refine (vA (some ⟨ab,0,none⟩) 20000 core (H6.out.bytes Q8) Q8).mono ?_
 rintro e w7 ⟨rfl,rfl⟩;go_wp2_with fail;refine (a2h H6.out rfl (kS core) rfl _ Q9 (by rw [sS];omega) 4 _).mono ?_;rintro e w8 ⟨rfl,h8,hw8⟩;have h8':T1 w8 wb ab img:=by rw [HIMG.out];exact h8
 have hil:img.length=core.length+4:=by rw [HIMG.out,List.length_append];rfl
 have hil1:img.length≤18998:=by omega
 have hil0:0 < img.length:=by omega
 have H8:=hid h8';clear hil;have HB8:=hid (eB HB6.out hw8 hwb hab);have l8:=h8'.wlt;clear h8 h8' hw8 H6 HB6;go_wp2_with fail;refine (sA H8.out Q8).mono ?_;rintro e w9 ⟨rfl,hl9⟩;have H9:=hid (H8.out.later hl9.below);have HB9:=hid (A1 hl9.below HB8.out);have a9:=H9.out.alt;clear hl9 H8 HB8;go_wp2_with fail;refine (a1k ab 0 img.length 20000 (N3 img) _ Q8 Q8 (by rw [X4];omega) (fun j u hu=>?_) (fun u hu=>?_) a9).mono ?_
 ·have hj:=(List.getElem?_eq_some_iff.1 hu).1
  rw[X4] at hj;obtain⟨b,o,e,_,hc⟩:=H9.out.bytes Q8 Q8
  cases e;unfold N3 at hu;rw[List.getElem?_map] at hu;obtain⟨x,hx,rfl⟩:=Option.map_eq_some_iff.1 hu;exact hc j x hx
 ·obtain ⟨x,_,rfl⟩:=List.mem_map.1 hu
  rfl
 rintro e w10 ⟨gb,cap,rfl,hown,hb10⟩;have HP:Hid (mL img w (.returned (.slice (some ⟨gb,0,none⟩) img.length cap)) w10):=⟨gb,cap,rfl,fun _=>⟨gb,0,rfl,(hown.lt gb rfl).2,fun i x hx=>by
  have hi:=(List.getElem?_eq_some_iff.1 hx).1;rw[Nat.zero_add,hown.cellAt i Q8];unfold N3;rw[List.getElem?_map,hx];rfl⟩,A1 hb10 HB9.out,by simpa using C5 hown HB9.out.size⟩
 clear hown hb10;go_wp2_with fail;go_ret;exact HP.out
theorem tZ {own:Own} {mb:Nat} {g:PgR} {R:McR} {w:World} (h:A3 w own mb g R) (hp:F2 g) (hi:C1 g R.abs) (hints:G5 R.abs) (ha:ArI g) :
  Calls Tryz.prog 10 #[.pointer (some ⟨mb,0,none⟩)] w fun e w'=>mL (imgB g (A9 R.abs)) w e w':=by
 have H:=hid (a5c h hp hi hints ha);clear h hp hi hints ha;go_enter Tryz.func10,Tryz.ntmps10;go_wp2_with (go_at_call 29;refine H.out.mono ?_;rintro e w2 ⟨gb,cap,rfl,hb2,hb3⟩)
 go_ret;exact⟨gb,cap,rfl,hb2,hb3⟩
theorem a5G {own:Own} {mb:Nat} {g:PgR} {R:McR} {w:World} (h:A3 w own mb g R) (hp:F2 g) (hi:C1 g R.abs) (hints:G5 R.abs) (ha:ArI g) :
  Calls Tryz.prog 10 #[.pointer (some ⟨mb,0,none⟩)] w fun e w'=>gS (imgB g (A9 R.abs)) w e w' :=
 (tZ h hp hi hints ha).mono fun _ _ ⟨gb,cap,h1,h2,h3,_⟩=>⟨gb,cap,h1,h2,h3⟩
end Go.Proofs.YtbkmgoffiigdbabGreatDoor
