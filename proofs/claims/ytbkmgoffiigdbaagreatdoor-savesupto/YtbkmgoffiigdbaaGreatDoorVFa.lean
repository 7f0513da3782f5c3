import Derived.Test.YtbkmgoffiigdbaaGreatDoorVEg
import Derived.Test.YtbkmgoffiigdbaaGreatDoorVEj
namespace Go.Proofs.YtbkmgoffiigdbaaGreatDoor
open Go.RowKit Go.Sort
section
variable {g g':PgR} {k l:List Val} {s:McA}
structure J3 (s:McA):Prop where
 st:0<=s.st/\s.st<=7
 out:∀z,z∈s.out->I64 z
 frs:∀f,f∈s.frs->∀v,v∈f.loc++f.stk->I64 v.2
 obs:∀o,o∈s.obs->∀v,v∈o.2->I64 v.2
def VsI (l:List Val):Prop:=∀v,v∈l->I64 v.2
theorem O5 {z:Int} (h1 : -1000000<=z) (h2:z<=1000000):I64 z:=by unfold I64;omega
theorem VsI.app (h:VsI l) (h':VsI k):VsI (l++k):=fun v hv=>by
 rcases List.mem_append.1 hv with hv | hv
 ·exact h v hv
 ·exact h' v hv
theorem VsI.left (h:VsI (l++k)):VsI l:=fun v hv=>h v (by simp [hv])
theorem VsI.right (h:VsI (l++k)):VsI k:=fun v hv=>h v (by simp [hv])
theorem VsI.one {v:Val} (h:I64 v.2):VsI [v]:=fun u hu=>by rw [List.mem_singleton] at hu;subst hu;exact h
theorem VsI.nil:VsI []:=fun v hv=>by simp at hv
theorem VsI.nils (n:Nat):VsI (List.replicate n (0,0)):=fun v hv=>by rw [(List.mem_replicate.1 hv).2];exact O5 R4 R4
theorem VsI.getD (h:VsI l) (i:Nat):I64 (l.getD i (0,0)).2:=by
 rw[List.getD_eq_getElem?_getD]
 cases e:l[i]? with
 | none=>exact O5 R4 R4
 | some x=>exact h x (L2a e)
theorem VsI.headD (h:VsI l):I64 (l.headD (0,0)).2:=by
 cases l with
 | nil=>exact O5 R4 R4
 | cons x l=>exact h x R6
theorem VsI.set (h:VsI l) (i:Nat) {x:Val} (hx:I64 x.2):VsI (l.set i x):=fun v hv=>by
 rcases List.mem_or_eq_of_mem_set hv with hv | rfl
 ·exact h v hv
 ·exact hx
theorem oO (z:Int):I64 (wrap64 z):=by unfold I64 wrap64;omega
theorem lN (b:Bool):I64 (D6 b):=by cases b <;> exact O5 R4 R4
theorem J3.put (h:J3 s) (st:Int) (h0:0<=st) (h7:st<=7) (frs:List FrA) (hfr:∀x,x∈frs->x∈s.frs\/VsI (x.loc++x.stk)) (dr:List Int):J3 ⟨st,s.out,frs,s.obs,dr⟩ :=
 ⟨⟨h0,h7⟩,h.out,fun f hf v hv=>by
  rcases hfr f hf with h1 | h1
  ·exact h.frs f h1 v hv
  ·exact h1 v hv,h.obs⟩
theorem N1 (h:J3 s) {fs:List FrA} {f:FrA} (hf:s.frs=fs++[f]) (pc:Nat) {l:List Val} (hl:VsI l):J3 (goA s fs f pc l):=by
 refine h.put 0 R4 R4 _ (fun x hx=>?_) _;rcases List.mem_append.1 hx with hx | hx
 ·exact L4a (by rw [hf];simp [hx])
 ·rw [List.mem_singleton] at hx
  subst hx;exact L4b (VsI.app (fun v hv=>h.frs f (by rw [hf];simp) v (by simp [hv])) hl)
theorem O6 (h:J3 s) {t:Int} (h0:0<=t) (h7:t<=7):J3 (D4 s t):=⟨⟨h0,h7⟩,h.out,h.frs,h.obs⟩
theorem kI (h:J3 s):J3 (J4 s):=by
 refine⟨h.st,h.out,h.frs,fun o ho v hv=>?_⟩;obtain⟨j,hj⟩:=List.mem_iff_getElem?.1 (show o∈V3 s.obs (A0 s) from ho);rw[Z2] at hj;obtain⟨p,hp,rfl⟩:=Option.map_eq_some_iff.1 hj;have xa:VsI p.2:=h.obs p (L2a hp);have hq:VsI (if j∈A0 s then p else (0,[])).2:=by
  split
  ·exact xa
  ·exact VsI.nil
 generalize (if j∈A0 s then p else (0,[]))=q at *
 unfold L2 at hv;split at hv
 ·exact hq.set 0 (x:=(0,0)) (O5 R4 R4) v hv
 ·exact hq v hv
theorem a2J (h:J3 s):J3 (F9 s):=by
 unfold F9;split
 ·exact kI h
 ·exact h
theorem oQ (h:J3 s) (hi:C8 g s) {fs:List FrA} {f:FrA} (hf:s.frs=fs++[f]) {rest:List Val} (hr:VsI rest) (kind:Int) {fl:List Val} (hfl:VsI fl):J3 (X0 s fs f rest kind fl):=by
 have h':=a2J h;unfold X0;split
 ·exact ⟨⟨by show (0:Int)<=6;decide,by show (6:Int)<=7;decide⟩,h'.out,h'.frs,h'.obs⟩
 ·split
  ·exact h
  ·rename_i j hj
   obtain⟨⟨o,ho,_⟩,_⟩:=pD hj;have hl:=(L1a.1 ho).1;rw[a5V] at hl;have hc:=hi.cap;refine⟨⟨by show (0:Int)<=0;decide,by show (0:Int)<=7;decide⟩,h.out,fun x hx v hv=>?_,fun o ho v hv=>?_⟩
   ·rcases List.mem_append.1 hx with hx | hx
    ·exact h.frs x (by rw [hf];simp [hx]) v hv
    ·rw [List.mem_singleton] at hx
     subst hx;exact VsI.app (fun v hv=>h.frs f (by rw [hf];simp) v (by simp [hv])) (hr.app (VsI.one (O5 (by show (-1000000:Int)<=(j.1:Int);omega) (by show (j.1:Int)<=1000000;omega)))) v hv
   ·rcases List.mem_or_eq_of_mem_set ho with ho | rfl
    ·exact h'.obs o ho v hv
    ·exact hfl v hv
theorem dU (h:J3 s) (v:Val):VsI (A1 s.obs v).2:=by
 unfold A1;split
 ·rw [List.getD_eq_getElem?_getD]
  cases e:s.obs[v.2.toNat]? with
  | none=>exact VsI.nil
  | some o=>exact h.obs o (L2a e)
 ·exact VsI.nil
theorem gY (o:Ob) (kind:Int) (ix:Val):0<=F6 o kind ix/\F6 o kind ix<=7:=by
 unfold F6
 repeat' split
 all_goals decide
theorem wL (h:J3 s) {fs:List FrA} {f:FrA} (hf:s.frs=fs++[f]) {rest:List Val} (hr:VsI rest) (v:Val) (kind:Int) (ix:Val):J3 (cU s fs f rest v kind ix):=by
 unfold cU;split
 ·exact N1 h hf _ (hr.app (VsI.one ((dU h v).getD _)))
 ·exact O6 h (gY _ _ _).1 (gY _ _ _).2
theorem wO (h:J3 s) {fs:List FrA} {f:FrA} (hf:s.frs=fs++[f]) {rest:List Val} (hr:VsI rest) (v:Val) (kind:Int) (ix:Val) {y:Val} (hy:I64 y.2):J3 (setE s fs f rest v kind ix y):=by
 unfold setE;split
 ·have h1:=N1 h hf (f.pc+1) hr
  refine⟨h1.st,h1.out,h1.frs,fun o ho u hu=>?_⟩;rcases List.mem_or_eq_of_mem_set ho with ho | rfl
  ·exact h.obs o ho u hu
  ·exact (dU h v).set _ hy u hu
 ·exact O6 h (gY _ _ _).1 (gY _ _ _).2
theorem cX (h:J3 s) {fs:List FrA} {f:FrA} (hf:s.frs=fs++[f]) {rest:List Val} (hr:VsI rest) (x y:Val) {z:Int} (hz:I64 z):J3 (J6 s fs f rest x y z):=by
 unfold J6;split
 ·exact N1 h hf _ (hr.app (VsI.one hz))
 ·exact O6 h R4 R4
theorem a2I (h:J3 s) {fs:List FrA} {f:FrA} (hf:s.frs=fs++[f]) {rest args:List Val} (hr:VsI rest) (ha:VsI args) (a:Int):J3 (aO g a s fs f rest args):=by
 unfold aO;split
 ·exact O6 h R4 R4
 ·refine h.put 0 R4 R4 _ (fun x hx=>?_) _
  rcases List.mem_append.1 hx with hx | hx
  ·rcases List.mem_append.1 hx with hx | hx
   ·exact L4a (by rw [hf];simp [hx])
   ·rw [List.mem_singleton] at hx
    subst hx;exact L4b (VsI.app (fun v hv=>h.frs f (by rw [hf];simp) v (by simp [hv])) hr)
  ·rw [List.mem_singleton] at hx
   subst hx;exact L4b (VsI.app (VsI.app ha (VsI.nils _)) VsI.nil)
theorem wM (h:J3 s) {fs:List FrA} {f:FrA} (hf:s.frs=fs++[f]) {x:Val} (hx:I64 x.2):J3 (C9 s fs x):=by
 unfold C9;split
 ·exact h.put 1 R4 R4 _ (fun x hx=>by cases hx) _
 ·rename_i c hc
  have hm:c∈fs:=List.mem_of_getLast? hc;have xa:VsI (c.loc++c.stk):=h.frs c (by rw [hf];simp [hm]);refine h.put 0 R4 R4 _ (fun y hy=>?_) _;rcases List.mem_append.1 hy with hy | hy
  ·exact L4a (by rw [hf];simp [(List.dropLast_sublist fs).subset hy])
  ·rw [List.mem_singleton] at hy
   subst hy;exact L4b (VsI.app xa.left (VsI.app xa.right (VsI.one hx)))
theorem a7v (h:J3 s) (hi:C8 g s) {fs:List FrA} {f:FrA} (hf:s.frs=fs++[f]) {k:Nat} {a:Int} {rest args:List Val} (hr:VsI rest) (ha:VsI args) (h64:I64 a):J3 (doA g k a s fs f rest args):=by
 have xa:VsI f.loc:=fun v hv=>h.frs f (by rw [hf];simp) v (by simp [hv])
 unfold doA;split
 ·exact N1 h hf _ (hr.app (VsI.one h64))
 ·exact N1 h hf _ (hr.app (VsI.one (O5 R4 R4)))
 ·exact N1 h hf _ (hr.app (VsI.one (xa.getD _)))
 ·rename_i x
  refine h.put 0 R4 R4 _ (fun y hy=>?_) _;rcases List.mem_append.1 hy with hy | hy
  ·exact L4a (by rw [hf];simp [hy])
  ·rw [List.mem_singleton] at hy
   subst hy;exact L4b (VsI.app (xa.set _ (ha x R6)) hr)
 ·rename_i x
  exact N1 h hf _ (hr.app (fun v hv=>ha v (by simpa using hv)))
 ·exact N1 h hf _ hr
 ·rename_i x y
  exact N1 h hf _ (hr.app (fun v hv=>ha v (by simp at hv ⊢;exact hv.symm)))
 ·exact cX h hf hr _ _ (oO _)
 ·exact cX h hf hr _ _ (oO _)
 ·exact cX h hf hr _ _ (oO _)
 ·exact cX h hf hr _ _ (lN _)
 ·exact N1 h hf _ (hr.app (VsI.one (lN _)))
 ·exact N1 h hf _ hr
 ·split
  ·exact N1 h hf _ hr
  ·exact N1 h hf _ hr
 ·exact a2I h hf hr ha _
 ·rename_i x
  exact wM h hf (ha x R6)
 ·exact oQ h hi hf hr _ (VsI.nils _)
 ·split
  ·exact O6 h R4 R4
  ·split
   ·exact oQ h hi hf hr _ (VsI.nils _)
   ·exact O6 h R4 R4
 ·split
  ·exact oQ h hi hf hr _ ha
  ·exact O6 h R4 R4
 ·exact wL h hf hr _ _ _
 ·rename_i x y
  exact wO h hf hr _ _ _ (ha y R6)
 ·exact wL h hf hr _ _ _
 ·rename_i x y z
  exact wO h hf hr _ _ _ (ha z R6)
 ·rename_i x
  split
  ·have:=(aT hi (v:=x)).len
   exact N1 h hf _ (hr.app (VsI.one (O5 (by show (-1000000:Int)<=((A1 s.obs x).2.length:Int);omega) (by show ((A1 s.obs x).2.length:Int)<=1000000;omega))))
  ·exact O6 h R4 R4
 ·rename_i x
  split
  ·refine N1 h hf _ (hr.app (VsI.one ?_))
   unfold T7;split
   ·exact (dU h x).headD
   ·exact O5 R4 R4
  ·exact O6 h R4 R4
 ·exact N1 h hf _ (hr.app (VsI.one (lN _)))
 ·rename_i x
  split
  ·exact O6 h R4 R4
  ·split
   ·exact O6 h R4 R4
   ·have h1:=N1 h hf (f.pc+1) hr
    refine⟨h1.st,fun z hz=>?_,h1.frs,h1.obs⟩;rcases List.mem_append.1 hz with hz | hz
    ·exact h.out z hz
    ·rw [List.mem_singleton] at hz
     subst hz;exact ha x R6
 ·exact h.put 1 R4 R4 _ (fun x hx=>by cases hx) _
 ·exact h
def ArI (g:PgR):Prop:=∀i,i < g.n->∀j,j < (g.f i).n->I64 ((g.f i).ar j)
theorem a2K (hp:N3 g) (ha:ArI g) {s:McA} (h:J3 s) (hi:C8 g s) (h0:s.st=0):J3 (X2 g s):=by
 have xa:=hi.run h0;have hf:=(List.dropLast_concat_getLast xa).symm;obtain⟨k,a,xd,xb,_,o,e⟩:=hi.opAt hp hf;obtain⟨h1,_⟩:=hi.top hf;obtain⟨xc,_,_,_⟩:=h1.at hp;have hs:VsI (s.frs.getLast xa).stk:=fun v hv=>h.frs _ (List.getLast_mem xa) v (by simp [hv])
 rw[o.stk] at hs;rw[e];exact a7v h hi hf hs.left hs.right (by rw [<- o.ar];exact ha _ h1.fn _ xc)
theorem wN (hp:N3 g) (ha:ArI g):∀(n:Nat) {s:McA},J3 s->C8 g s->J3 (L8 g n s)
 | 0,_,h,_=>h
 | n+1,s,h,hi=>by
  rw[L8];split
  ·rename_i h0;exact wN hp ha n (a2K hp ha h hi h0) (kJ hp hi h0)
  ·exact h
theorem zW (l cap:Nat) (d:List Int):J3 ⟨0,[],[⟨0,0,List.replicate l (0,0),[]⟩],List.replicate cap (0,[]),d⟩:=by
 refine⟨⟨by show (0:Int)<=0;decide,by show (0:Int)<=7;decide⟩,fun z hz=>(by cases hz),fun f hf v hv=>?_,fun o ho v hv=>?_⟩
 ·have hf:=List.mem_singleton.1 hf
  subst hf;rw[List.append_nil] at hv;exact VsI.nils l v hv
 ·have ho:=(List.mem_replicate.1 ho).2
  subst ho
  cases hv
theorem a3v {F:G2} (hF:F.Fits) {a:Nat} {b:Int} (h:F.Reach a b):b<=10:=by
 have:F.Reach a b/\b<=10:=by
  refine h (fun a b=>F.Reach a b/\b<=10) ⟨G2.reach_first F,by decide⟩ ?_;rintro a b c ⟨h1,_⟩ hc;exact⟨G2.reach_next h1 hc,(hF.1 a b h1).2.2⟩
 exact this.2
theorem a5l:∀{l:List Nat} {x i:Nat},ixA l x=some i->i < l.length
 | [],_,_,h=>by cases h
 | a::l,x,i,h=>by
  rw[ixA] at h;split at h
  ·cases h;simp
  ·obtain ⟨j,hj,rfl⟩:=Option.map_eq_some_iff.1 h
   have:=a5l hj;simp only[List.length_cons];omega
theorem xB {al:List Nat} (hal:al.length<=40) {v:Val} (hv:I64 v.2):sJ (J8 al v):=by
 unfold J8;split
 ·split
  ·rename_i i hi
   have:=a5l hi;exact⟨O5 (by show (-1000000:Int)<=(i:Int);omega) (by show (i:Int)<=1000000;omega),fun _=>by show (0:Int)<=(i:Int);omega⟩
  ·exact ⟨O5 R4 R4,fun _=>by decide⟩
 ·rename_i h2
  exact⟨hv,fun e=>absurd e h2⟩
theorem jF (hp:N3 g) {s:McA} (hi:C8 g s) (h:J3 s):eN (N8 s):=by
 have xb:(A0 s).length<=40:=by
  have:=L7 hi.alive.nodup hi.alive.lt;have:=hi.cap;omega
 have xa:∀{l:List Val},VsI l->∀v,v∈l.map (J8 (A0 s))->sJ v:=fun hl v hv=>by
  obtain⟨u,hu,rfl⟩:=List.mem_map.1 hv;exact xB xb (hl u hu)
 refine⟨h.st,⟨hi.out,h.out⟩,⟨by show (s.frs.map _).length<=12;rw [List.length_map];exact hi.depth,fun f hf=>?_⟩,⟨by show ((A0 s).map _).length<=40;rw [List.length_map];exact xb,fun o ho=>?_⟩⟩
 ·obtain ⟨q,hq,rfl⟩:=List.mem_map.1 hf
  obtain⟨r,xc,hr⟩:=oJ hp hi.frs q (List.mem_reverse.2 hq);have xf:=hr.bd hp xc;have xe:=a3v (hp.fits _ hr.fn) hr.reach;have xg:=hr.fn;have xd:=hp.sized.2.1;have hv:VsI (q.loc++q.stk):=h.frs q hq;refine⟨by show q.fn < 1000;omega,by show q.pc < 1000;omega,by show (q.loc.map _).length+(q.stk.map _).length<=18;rw [List.length_map,List.length_map];omega,xa hv.left,xa hv.right⟩
 ·obtain ⟨j,hj,rfl⟩:=List.mem_map.1 ho
  unfold cZ
  cases e:s.obs[j]? with
  | none=>exact ⟨⟨by show (0:Int)<=0;decide,by show (0:Int) < 256;decide⟩,by simp,fun v hv=>(by cases hv)⟩
  | some o =>
   have hk:=hi.obs o (L2a e);refine⟨?_,by show (o.2.map _).length<=12;rw [List.length_map];exact hk.len,xa (h.obs o (L2a e))⟩;show 0<=o.1/\o.1 < 256;rcases hk with hk | hk | hk | hk
   ·omega
   ·omega
   ·omega
   ·omega
theorem pC (hp:N3 g) (ha:ArI g):aM g :=
 ⟨hp.sized.2.1,fun i hi=>by
  have hb:=hp.sized.bd hi;exact⟨by omega,by omega,by omega,fun j hj=>by have:=gC (hp.legal i hi j hj);omega,ha i hi⟩⟩
theorem X6.arI (h:X6 g g') (ha:ArI g):ArI g':=fun i hi j hj=>by
 rw[h.1] at hi;obtain⟨_,_,q3,_,q5⟩:=h.2 i hi;rw[q3] at hj;rw[q5];exact ha i hi j hj
theorem X6.progB (h:X6 g g'):progB g'=progB g:=by
 have hc:∀i,i < g.n->fnB (g'.f i)=fnB (g.f i):=fun i hi=>by
  obtain⟨q1,q2,q3,q4,q5⟩:=h.2 i hi;have xa:inB (g'.f i)=inB (g.f i):=by funext j;unfold inB;rw [q4,q5]
  unfold fnB Z7;rw[q1,q2,q3,xa]
 have hf:∀k,k<=g.n->fW g' k=fW g k:=fun k=>by
  induction k with
  | zero=>intro _;rfl
  | succ k ih=>intro hk;rw [eC,eC,ih R5,hc k R5]
 unfold Go.Proofs.YtbkmgoffiigdbaaGreatDoor.progB;rw[h.1,hf g.n (L1c _)]
theorem X6.machB (h:X6 g g') (s:McA):machB g' s=machB g s:=by
 unfold Go.Proofs.YtbkmgoffiigdbaaGreatDoor.machB;rw[h.progB]
end
end Go.Proofs.YtbkmgoffiigdbaaGreatDoor
