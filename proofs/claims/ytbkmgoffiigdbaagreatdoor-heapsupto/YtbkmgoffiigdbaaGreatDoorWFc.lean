import Derived.Test.YtbkmgoffiigdbaaGreatDoorWEg
namespace Go.Proofs.YtbkmgoffiigdbaaGreatDoor
open Go.RowKit Go.Sort Go.Proofs.Tryz
set_option maxHeartbeats 2000000
set_option maxRecDepth 100000
section
variable {B gb i mb:Nat} {R:McR} {W w:World} {g:PgR} {l:List Val} {obs ol:List ObR} {own:Own} {v:Value}
structure X3 (W:World) (B gb:Nat) (v:Value) (l:List Val):Prop where
 row:W.ownsRow B 92 2 v l.length (A5 l)
 ne:v.ownBlock≠some gb
theorem X3.later (h:X3 w B gb v l) (hB:L0d w W):X3 W B gb v l :=
 ⟨A6 h.row fun b hb=>hB.block b (h.row.lt b hb).2,h.ne⟩
theorem X3.set {u:Value} (h:X3 w B gb v l):X3 (w.setCell ⟨gb,i,none⟩ u) B gb v l :=
 ⟨ownsRow_setCell_other h.row (a:=⟨gb,i,none⟩) h.ne _,h.ne⟩
theorem X3.of_copy {n:Nat} (h:W.ownsRow w.heap.size 92 2 v n (A5 l)) (hn:n=l.length) (hg:gb < w.heap.size) {B:Nat} (hB:B<=w.heap.size):X3 W B gb v l:=by
 subst hn;exact⟨D6 h hB,fun e=>by have:=(h.lt gb e).1;omega⟩
theorem rX (d:Addr) (n c:Nat) (xs:List Value) (w:World) (hm:n<=100000) (hl:xs.length=n*2) (hx:∀W,L0d w W->∀j u,xs[j]?=some u->W.cell? (d.add j)=some u) (h1:∀u∈xs,u.oneCell'=true) :
  Calls prog 91 #[.slice (some d) n c] w fun e w'=>K5 90 2 n xs w e w':=by
 have HX:=hid hx;have HL:=hid hl;have H1:=hid h1;clear hx hl h1;go_enter func91,ntmps91;have xe:∀W:World,(binOp .eql 74 (.slice (some d) n c) (.slice none 0 0)).run prog W=.ok (.bool false) W:=fun W=>Go.Lib.run_eql_slice_nil W 74 90 _ n c 0 0 underlying74
 obtain⟨i,hi,hz,xa,xb⟩:=info_parts vW;have HI:=hid hi;have HZ:=hid hz;have xc:=hid xa;have xd:=hid xb;clear hi hz xa xb;go_wp2_with (at_builtin;go_must (refine A9 _ rfl (.tmp 5) (.tmp 6) 74 rfl w.heap.size 90 i _ 2 32 underlying74 HI.out HZ.out xc.out xd.out rfl R3 (.slice (some ⟨w.heap.size,0,none⟩) 0 0) 0 [] rfl (World.ownsRow_made w #[] 0 (L1c _) (L4c _) rfl) (some d) n c xs rfl HL.out (fun _=>⟨d,rfl,HX.out _ (L3a (L3b _ _) (L1c _) _)⟩) H1.out Q5 R4 R5 ?_))
 intro v' w5 hown hgrow _;have HB:Hid (L0d w w5):=V5 (v:=.slice (some ⟨w.heap.size,0,none⟩) 0 0) (L3a (L3b _ _) (L1c _) _) rfl (L1c _) hgrow;have ho:w5.ownsRow w.heap.size 90 2 v' n xs:=by simpa using hown
 have HO:=hid ho;clear hown hgrow ho;go_wp2_with fail;go_ret;exact⟨v',rfl,HO.out,HB.out⟩
theorem uZ (n c:Nat) (w:World):Calls prog 91 #[.slice none n c] w fun e w'=>K5 90 2 0 [] w e w':=by
 have xa:∀W:World,(binOp .eql 74 (.slice none n c) (.slice none 0 0)).run prog W=.ok (.bool true) W:=fun W=>Go.Lib.run_eql_slice_nil W 74 90 none n c 0 0 underlying74
 go_enter func91,ntmps91;go_wp2_with fail;go_ret;exact⟨_,rfl,World.ownsRow_nil _ _ _ _,L3b _ _⟩
theorem nW (h:A4 w own mb g R):∀u∈R.obs.flatMap ObR.cells,u.oneCell'=true:=by
 intro u hu;obtain⟨o,ho,hu⟩:=List.mem_flatMap.1 hu;obtain⟨i,hi⟩:=List.mem_iff_getElem?.1 ho;obtain⟨fa,fc,xa⟩:=G3 (h.fld i o hi);simp only[ObR.cells,List.mem_cons,List.not_mem_nil,or_false] at hu;rcases hu with rfl | rfl
 ·rfl
 ·rw [xa];rfl
theorem uY (h:A4 w own mb g R) (hB:L0d w W) (hn:R.obs.length<=1000) {a:Option Addr} {c:Nat} (hv:R.hv=.slice a R.obs.length c) :
  Calls prog 91 #[.slice a R.obs.length c] W fun e w'=>K5 90 2 R.obs.length (R.obs.flatMap ObR.cells) W e w':=by
 cases a with
 | none =>
  have h0:R.obs.length=0:=by
   rcases h.slots.1.2 with ⟨_,e⟩ | ⟨_,_,_,e,_⟩
   ·exact e
   ·rw [hv] at e;cases e
  have xb:=List.length_eq_zero_iff.1 h0;rw[xb];exact uZ _ _ _
 | some d =>
  refine rX d R.obs.length c _ W R4 (X1 ObR.cells_len _) (fun V hV j u hu=>?_) (nW h);have hj:=(L1a.1 hu).1;rw[X1 ObR.cells_len] at hj;obtain⟨b,c',e,_,hb⟩:=h.slots.1.form R4;have xa:=h.slots.1;rw[hv] at e
  cases e;rw[hv] at xa;rw[W9,(A7 hV hB).cell (p:=⟨b,j,none⟩) hb,xa.cellAt j hj];exact hu
structure fP (W:World) (B gb i:Nat) (obs ol:List ObR):Prop where
 len:ol.length=obs.length
 old:∀k,i<=k->ol[k]?=obs[k]?
 new:∀k o,k < i->obs[k]?=some o->∃v,ol[k]?=some { o with fv:=v }/\X3 W B gb v o.fl
theorem fP.next {w3:World} {o:ObR} (h:fP w3 B gb i obs ol) (ho:obs[i]?=some o) (hv:X3 w3 B gb v o.fl) (j:Nat):fP (w3.setCell ⟨gb,j,none⟩ v) B gb (i+1) obs (ol.set i { o with fv:=v }):=by
 have hi:i < ol.length:=by rw [h.len];exact (L1a.1 ho).1
 refine⟨by rw [List.length_set];exact h.len,fun k hk=>by rw [List.getElem?_set_ne R4];exact h.old k R4,fun k p hk hp=>?_⟩;by_cases e:k=i
 ·subst e
  rw[ho] at hp
  cases hp;exact⟨v,by rw [List.getElem?_set_self hi],hv.set⟩
 ·obtain ⟨u,h1,h2⟩:=h.new k p R4 hp
  exact⟨u,by rw [List.getElem?_set_ne (Ne.symm e)];exact h1,h2.set⟩
theorem fP.later (h:fP w B gb i obs ol) (hB:L0d w W):fP W B gb i obs ol :=
 ⟨h.len,h.old,fun k o hk ho=>by obtain ⟨v,h1,h2⟩:=h.new k o hk ho;exact ⟨v,h1,h2.later hB⟩⟩
end
section
variable {B gb i:Nat} {W w:World} {fl frs:List FrR}
structure W6 (W:World) (B gb i:Nat) (frs fl:List FrR):Prop where
 len:fl.length=frs.length
 old:∀k,i<=k->fl[k]?=frs[k]?
 new:∀k f,k < i->frs[k]?=some f->∃lv sv,fl[k]?=some { f with lv:=lv,sv:=sv }/\X3 W B gb lv f.loc/\X3 W B gb sv f.stk
theorem W6.later (h:W6 w B gb i frs fl) (hB:L0d w W):W6 W B gb i frs fl :=
 ⟨h.len,h.old,fun k f hk hf=>by obtain ⟨lv,sv,h1,h2,h3⟩:=h.new k f hk hf;exact ⟨lv,sv,h1,h2.later hB,h3.later hB⟩⟩
theorem W6.set {j:Nat} {u:Value} (h:W6 w B gb i frs fl):W6 (w.setCell ⟨gb,j,none⟩ u) B gb i frs fl :=
 ⟨h.len,h.old,fun k f hk hf=>by obtain ⟨lv,sv,h1,h2,h3⟩:=h.new k f hk hf;exact ⟨lv,sv,h1,h2.set,h3.set⟩⟩
theorem W6.next {f:FrR} {lv sv:Value} (h:W6 W B gb i frs fl) (hf:frs[i]?=some f) (hl:X3 W B gb lv f.loc) (hs:X3 W B gb sv f.stk):W6 W B gb (i+1) frs (fl.set i { f with lv:=lv,sv:=sv }):=by
 have hi:i < fl.length:=by rw [h.len];exact (L1a.1 hf).1
 refine⟨by rw [List.length_set];exact h.len,fun k hk=>by rw [List.getElem?_set_ne R4];exact h.old k R4,fun k p hk hp=>?_⟩;by_cases e:k=i
 ·subst e
  rw[hf] at hp
  cases hp;exact⟨lv,sv,by rw [List.getElem?_set_self hi],hl,hs⟩
 ·obtain ⟨u,v,h1,h2⟩:=h.new k p R4 hp
  exact⟨u,v,by rw [List.getElem?_set_ne (Ne.symm e)];exact h1,h2⟩
end
section
variable {B c gb i mb:Nat} {R:McR} {W w w3 wr:World} {fl frs:List FrR} {g:PgR} {obs ol:List ObR} {own:Own}
def kY (obs:List ObR) (w:World) (e:Ending) (w':World):Prop :=
 ∃(v:Value) (ol:List ObR),e=.returned v/\w'.ownsRow w.heap.size 90 2 v obs.length (ol.flatMap ObR.cells)/\ol.length=obs.length /\
  (∀(k:Nat) (o:ObR),obs[k]?=some o->∃fv,ol[k]?=some { o with fv:=fv }/\w'.ownsRow w.heap.size 92 2 fv o.fl.length (A5 o.fl)) /\
  (∀(k k':Nat) (o o':ObR) (b:Nat),k < k'->k' < obs.length->ol[k]?=some o->ol[k']?=some o'->o.fv.ownBlock=some b->o'.fv.ownBlock=some b->False)/\L0d w w'
structure eI (W:World) (B gb i:Nat) (obs ol:List ObR):Prop where
 c:fP W B gb i obs ol
 dis:∀(k k':Nat) (o o':ObR) (b:Nat),k < k'->k' < i->ol[k]?=some o->ol[k']?=some o'->o.fv.ownBlock=some b->o'.fv.ownBlock=some b->False
theorem eI.next {o:ObR} {v:Value} (h:eI wr B gb i obs ol) (hb:L0d wr w3) (ho:obs[i]?=some o) (hv:w3.ownsRow wr.heap.size 92 2 v o.fl.length (A5 o.fl)) (hg:gb < wr.heap.size) (hB:B<=wr.heap.size) (j:Nat) :
  eI (w3.setCell ⟨gb,j,none⟩ v) B gb (i+1) obs (ol.set i { o with fv:=v }):=by
 have xa:=h.c.len;have hi:i < ol.length:=by rw [xa];exact (L1a.1 ho).1
 refine⟨(h.c.later hb).next ho (X3.of_copy hv rfl hg hB) j,fun k k' p p' b hk hk' hp hp' h1 h2=>?_⟩;rw[List.getElem?_set_ne R4] at hp;by_cases e:k'=i
 ·subst e
  rw[List.getElem?_set_self hi] at hp'
  cases hp';have xc:=(hv.lt b h2).1;have xb:k < obs.length:=by rw [<- xa];omega
  obtain⟨u,q1,q2⟩:=h.c.new k _ R4 (L1b xb);rw[hp] at q1
  cases q1;have:=(q2.row.lt b h1).2;omega
 ·rw [List.getElem?_set_ne (Ne.symm e)] at hp'
  exact h.dis k k' p p' b hk R4 hp hp' h1 h2
theorem eI.whole (h:eI W w.heap.size gb obs.length obs ol) (hr:W.ownsRow w.heap.size 90 2 (.slice (some ⟨gb,0,none⟩) obs.length c) obs.length (ol.flatMap ObR.cells)) (hb:L0d w W):kY obs w (.returned (.slice (some ⟨gb,0,none⟩) obs.length c)) W:=by
 refine⟨_,ol,rfl,hr,h.c.len,fun k o ho=>?_,h.dis,hb⟩;obtain⟨v,h1,h2⟩:=h.c.new k o (L1a.1 ho).1 ho;exact⟨v,h1,h2.row⟩
theorem nE (h:A4 w own mb g R) (hn:R.obs.length<=1000) (h0:0 < R.obs.length) (hf:∀o,o∈R.obs->o.fl.length<=1000) :
  Calls prog 51 #[.pointer (some ⟨mb,4,none⟩)] w fun e w'=>kY R.obs w e w':=by
 have c4:=h.c4;obtain⟨ca,cc,xq⟩:=G3 h.slots;rw[xq] at c4;have yd:mb < w.heap.size:=h.lt mb _ h.me;have yb:Hid (∀W,L0d w W->Calls prog 91 #[.slice ca R.obs.length cc] W fun e w'=>K5 90 2 R.obs.length (R.obs.flatMap ObR.cells) W e w'):=fun W hW=>uY h hW hn xq
 have HH:=hid h;have HF:=hid hf;clear h hf xq;go_enter func51,ntmps51;go_wp2_with (go_at_call 91;refine (yb.out _ ?_).mono ?_;exact P5;rintro e w2 ⟨v2,rfl,xm,xu⟩;obtain ⟨gb,c2,rfl,xj,ye⟩:=xm.form h0;have xs:Hid (w2.ownsRow w.heap.size 90 2 (.slice (some ⟨gb,0,none⟩) R.obs.length c2) R.obs.length (R.obs.flatMap ObR.cells)):=D6 xm (by first | exact L1c _ | simp);have xv:Hid (L0d w w2):=A7 xu P5;have xj:w.heap.size<=gb:=L5a (by first | exact L1c _ | simp) xj;clear xm xu)
 go_loopw [12] (fun vi wr=>∃(i:Nat) (ol:List ObR),i<=R.obs.length/\vi=.int .i64 i/\eI wr w.heap.size gb i R.obs ol/\wr.ownsRow w.heap.size 90 2 (.slice (some ⟨gb,0,none⟩) R.obs.length c2) R.obs.length (ol.flatMap ObR.cells)/\L0d w wr) (fun vi _=>R.obs.length - (intOf vi).toNat)
 case atStart=>exact ⟨0,R.obs,L4c _,rfl,⟨⟨rfl,fun _ _=>rfl,fun k o hk=>by omega⟩,fun k k' o o' b _ hk=>by omega⟩,xs.out,xv.out⟩
 case round =>
  obtain⟨i,ol,hi,rfl,xc,xa,xb⟩:=hrel;clear xs xv;by_cases hlti:i < R.obs.length
  ·obtain ⟨o,xh⟩:∃o,R.obs[i]?=some o:=⟨_,L1b hlti⟩
   have xk:ol[i]?=some o:=(xc.c.old i (L1c _)).trans xh;have xi:gb < wr.heap.size:=(xa.lt gb rfl).2;have xd:∀j,j < 2->wr.cell? ⟨gb,i*2+j,none⟩=o.cells[j]?:=fun j hj=>by
    rw[xa.cellAt _ R4];exact E0 ObR.cells_len xk hj
   obtain⟨fa,fc,xl⟩:=G3 (HH.out.fld i o xh);have k1:wr.cell? ⟨gb,i*2+1,none⟩=some o.fv:=xd 1 R4;rw[xl] at k1;have z1:=xa.frozenAt (i*2+1);have xo:Hid (∀W,L0d w W->Calls prog 90 #[.slice fa o.fl.length fc] W fun e w'=>K5 92 2 o.fl.length (A5 o.fl) W e w'):=fun W hW=>fX (HH.out.fld i o xh) xl hW (HF.out o (L2a xh))
   have xg:=hid xb;have xr:=hid xa;have xn:=hid xc;have xw:=hid xk;have xz:=hid xh;have yc:=xb.size;clear xd xa xb xc xl xk xh c4;go_wp2_with fail;refine (xo.out _ xg.out).mono ?_;rintro e w3 ⟨v3,rfl,xp,xf⟩;obtain⟨a3,c3,rfl⟩:=eS xp;have m1:=(xf.cell (p:=⟨gb,i*2+1,none⟩) xi).trans k1;have y1:=(xf.frozen (p:=⟨gb,i*2+1,none⟩) xi).trans z1;have yf:gb < w3.heap.size:=L0a xi xf.size
   have xt:w3.ownsRow w.heap.size 90 2 (.slice (some ⟨gb,0,none⟩) R.obs.length c2) R.obs.length (ol.flatMap ObR.cells):=A6 xr.out fun b hb'=>by
    obtain rfl:gb=b:=by simpa [Value.ownBlock] using hb'
    exact xf.block _ xi
   have xe:=(World.ownsRow.stored xt (i*2+1) (.slice a3 o.fl.length c3)).1;have e1:=G2 (c:=ObR.cells) ObR.cells_len (l:=ol) (i:=i) (j:=1) (x:=o) (y:={ o with fv:=.slice a3 o.fl.length c3 }) (u:=.slice a3 o.fl.length c3) xw.out R4 rfl;rw[<- e1] at xe;have ya:=hid xe;have xx:=hid (Below.setCell (A7 xf xg.out) (p:=⟨gb,i*2+1,none⟩) xj (.slice a3 o.fl.length c3));have xy:=hid (xn.out.next xf xz.out xp xi yc (i*2+1))
   clear xp xf xt xe e1 k1 z1;go_wp2_with fail;go_roundw
   case rel=>exact ⟨i+1,_,by omega,by go_num,xy.out,ya.out,xx.out⟩
   case measure=>simp [intOf];omega
  ·obtain rfl:i=R.obs.length:=by omega
   have xg:=hid xb;have HW:=hid (xc.whole xa xb);clear xb xa xc;go_wp2_with fail;go_ret;exact HW.out
def FrR.val (f:FrR) (t:Bool):Value:=if t then f.sv else f.lv
def kT (frs:List FrR) (w:World) (e:Ending) (w':World):Prop :=
 ∃(v:Value) (fl:List FrR),e=.returned v/\w'.ownsRow w.heap.size 86 4 v frs.length (fl.flatMap FrR.cells)/\fl.length=frs.length /\
  (∀(k:Nat) (f:FrR),frs[k]?=some f->∃lv sv,fl[k]?=some { f with lv:=lv,sv:=sv }/\w'.ownsRow w.heap.size 92 2 lv f.loc.length (A5 f.loc)/\w'.ownsRow w.heap.size 92 2 sv f.stk.length (A5 f.stk)/\∀b,v.ownBlock=some b->lv.ownBlock≠some b/\sv.ownBlock≠some b) /\
  (∀(k k':Nat) (t t':Bool) (f f':FrR) (b:Nat),(k < k'\/(k=k'/\t≠t'))->k' < frs.length->fl[k]?=some f->fl[k']?=some f'->(f.val t).ownBlock=some b->(f'.val t').ownBlock=some b->False)/\L0d w w'
structure eJ (W:World) (B gb i:Nat) (frs fl:List FrR):Prop where
 c:W6 W B gb i frs fl
 dis:∀(k k':Nat) (t t':Bool) (f f':FrR) (b:Nat),(k < k'\/(k=k'/\t≠t'))->k' < i->fl[k]?=some f->fl[k']?=some f'->(f.val t).ownBlock=some b->(f'.val t').ownBlock=some b->False
theorem eJ.next {w4:World} {f:FrR} {lv sv:Value} (h:eJ wr B gb i frs fl) (hf:frs[i]?=some f) (hg:gb < wr.heap.size) (hB:B<=wr.heap.size)
  (hv3:w3.ownsRow wr.heap.size 92 2 lv f.loc.length (A5 f.loc)) (hb3:L0d wr w3) (j:Nat) (hv4:w4.ownsRow (w3.setCell ⟨gb,j,none⟩ lv).heap.size 92 2 sv f.stk.length (A5 f.stk)) (hb4:Below (w3.setCell ⟨gb,j,none⟩ lv).heap.size (w3.setCell ⟨gb,j,none⟩ lv) w4) (j':Nat) :
  eJ (w4.setCell ⟨gb,j',none⟩ sv) B gb (i+1) frs (fl.set i { f with lv:=lv,sv:=sv }):=by
 have xa:=h.c.len;have hi:i < fl.length:=by rw [xa];exact (L1a.1 hf).1
 have xd:(w3.setCell ⟨gb,j,none⟩ lv).heap.size=w3.heap.size:=by simp
 have xh:gb < w3.heap.size:=L0a hg hb3.size;have xf:X3 (w3.setCell ⟨gb,j,none⟩ lv) B gb lv f.loc:=(X3.of_copy hv3 rfl hg hB).set;have xg:W6 (w3.setCell ⟨gb,j,none⟩ lv) B gb i frs fl:=(h.c.later hb3).set;refine⟨((xg.later hb4).set).next hf ((xf.later hb4).set) ((X3.of_copy hv4 rfl (by rw [xd];exact xh) (by rw [xd];exact L5a hB hb3.size)).set),fun k k' t t' p p' b hk hk' hp hp' h1 h2=>?_⟩
 have xb:∀k p t b,k < i->fl[k]?=some p->(p.val t).ownBlock=some b->b < wr.heap.size:=fun k p t b hk hp hb=>by
  have xi:k < frs.length:=by rw [<- xa];omega
  obtain⟨u,v,q1,q2,q3⟩:=h.c.new k _ hk (L1b xi);rw[hp] at q1
  cases q1
  cases t
  ·exact (q2.row.lt b hb).2
  ·exact (q3.row.lt b hb).2
 have xe:∀b,lv.ownBlock=some b->wr.heap.size<=b/\b < w3.heap.size:=fun b hb=>hv3.lt b hb
 have xc:∀b,sv.ownBlock=some b->w3.heap.size<=b:=fun b hb=>by have:=(hv4.lt b hb).1;rw [xd] at this;exact this
 have hz:=hb3.size;by_cases e:k'=i
 ·subst e
  rw[List.getElem?_set_self hi] at hp'
  cases hp';rcases hk with hk | ⟨rfl,hk⟩
  ·rw [List.getElem?_set_ne R4] at hp
   have q1:=xb k p t b hk hp h1
   cases t'
   ·have:=(xe b h2).1;omega
   ·have:=xc b h2;omega
  ·rw [List.getElem?_set_self hi] at hp
   cases hp
   cases t <;> cases t'
   ·exact hk rfl
   ·have:=(xe b h1).2;have:=xc b h2;omega
   ·have:=(xe b h2).2;have:=xc b h1;omega
   ·exact hk rfl
 ·rw [List.getElem?_set_ne (Ne.symm e)] at hp'
  rw[List.getElem?_set_ne R4] at hp;exact h.dis k k' t t' p p' b hk R4 hp hp' h1 h2
theorem eJ.whole (h:eJ W w.heap.size gb frs.length frs fl) (hr:W.ownsRow w.heap.size 86 4 (.slice (some ⟨gb,0,none⟩) frs.length c) frs.length (fl.flatMap FrR.cells)) (hb:L0d w W):kT frs w (.returned (.slice (some ⟨gb,0,none⟩) frs.length c)) W:=by
 refine⟨_,fl,rfl,hr,h.c.len,fun k f hf=>?_,h.dis,hb⟩;obtain⟨lv,sv,h1,h2,h3⟩:=h.c.new k f (L1a.1 hf).1 hf;refine⟨lv,sv,h1,h2.row,h3.row,fun b hb=>?_⟩;obtain rfl:gb=b:=by simpa [Value.ownBlock] using hb
 exact⟨h2.ne,h3.ne⟩
theorem kG (h:A4 w own mb g R) (h0:0 < R.frs.length) (hn:R.frs.length<=1000) (hf:∀f,f∈R.frs->f.loc.length<=1000/\f.stk.length<=1000) :
  Calls prog 47 #[.pointer (some ⟨mb,3,none⟩)] w fun e w'=>kT R.frs w e w':=by
 have c3:=h.c3;obtain⟨ca,cc,xs⟩:=G3 h.called;rw[xs] at c3;have yt:mb < w.heap.size:=h.lt mb _ h.me;have yo:Hid (∀W,L0d w W->Calls prog 89 #[.slice ca R.frs.length cc] W fun e w'=>K5 86 4 R.frs.length (R.frs.flatMap FrR.cells) W e w'):=fun W hW=>lI h hW hn xs
 have HH:=hid h;have HF:=hid hf;clear h hf xs;go_enter func47,ntmps47;go_wp2_with (go_at_call 89;refine (yo.out _ ?_).mono ?_;exact P5;rintro e w2 ⟨v2,rfl,xw,yf⟩;obtain ⟨gb,c2,rfl,xp,yu⟩:=xw.form h0;have yi:Hid (w2.ownsRow w.heap.size 86 4 (.slice (some ⟨gb,0,none⟩) R.frs.length c2) R.frs.length (R.frs.flatMap FrR.cells)):=D6 xw (by first | exact L1c _ | simp);have yg:Hid (L0d w w2):=A7 yf P5;have xp:w.heap.size<=gb:=L5a (by first | exact L1c _ | simp) xp;clear xw yf)
 go_loopw [12] (fun vi wr=>∃(i:Nat) (fl:List FrR),i<=R.frs.length/\vi=.int .i64 i/\eJ wr w.heap.size gb i R.frs fl/\wr.ownsRow w.heap.size 86 4 (.slice (some ⟨gb,0,none⟩) R.frs.length c2) R.frs.length (fl.flatMap FrR.cells)/\L0d w wr) (fun vi _=>R.frs.length - (intOf vi).toNat)
 case atStart=>exact ⟨0,R.frs,L4c _,rfl,⟨⟨rfl,fun _ _=>rfl,fun k o hk=>by omega⟩,fun k k' t t' o o' b _ hk=>by omega⟩,yi.out,yg.out⟩
 case round =>
  obtain⟨i,fl,hi,rfl,xd,xa,xb⟩:=hrel;clear yi yg;by_cases hlti:i < R.frs.length
  ·obtain ⟨f,xg⟩:∃f,R.frs[i]?=some f:=⟨_,L1b hlti⟩
   have xy:fl[i]?=some f:=(xd.c.old i (L1c _)).trans xg;have xk:gb < wr.heap.size:=(xa.lt gb rfl).2;have xc:∀j,j < 4->wr.cell? ⟨gb,i*4+j,none⟩=f.cells[j]?:=fun j hj=>by
    rw[xa.cellAt _ R4];exact E0 FrR.cells_len xy hj
   obtain⟨la,lc,xu⟩:=G3 (HH.out.loc i f xg);obtain⟨sa,sc,xv⟩:=G3 (HH.out.stk i f xg);have k2:wr.cell? ⟨gb,i*4+2,none⟩=some f.lv:=xc 2 R4;have k3:wr.cell? ⟨gb,i*4+3,none⟩=some f.sv:=xc 3 R4;rw[xu] at k2;rw[xv] at k3;have z2:=xa.frozenAt (i*4+2);have z3:=xa.frozenAt (i*4+3);have hm:=HF.out f (L2a xg);have xx:Hid (∀W,L0d w W->Calls prog 90 #[.slice la f.loc.length lc] W fun e w'=>K5 92 2 f.loc.length (A5 f.loc) W e w'):=fun W hW=>fX (HH.out.loc i f xg) xu hW hm.1
   have xt:Hid (∀W,L0d w W->Calls prog 90 #[.slice sa f.stk.length sc] W fun e w'=>K5 92 2 f.stk.length (A5 f.stk) W e w'):=fun W hW=>fX (HH.out.stk i f xg) xv hW hm.2
   have yl:=xb.size;have xi:=hid xb;have xr:=hid xa;have xl:=hid xd;have yk:=hid xy;have yj:=hid xg;clear xc xa xb xd xu xv xy xg c3;go_wp2_with fail;refine (xx.out _ xi.out).mono ?_;rintro e w3 ⟨v3,rfl,xz,xf⟩;obtain⟨a3,c3,rfl⟩:=eS xz;have m2:=(xf.cell (p:=⟨gb,i*4+2,none⟩) xk).trans k2;have m3:=(xf.cell (p:=⟨gb,i*4+3,none⟩) xk).trans k3;have y2:=(xf.frozen (p:=⟨gb,i*4+2,none⟩) xk).trans z2
   have y3:=(xf.frozen (p:=⟨gb,i*4+3,none⟩) xk).trans z3;have ys:gb < w3.heap.size:=L0a xk xf.size;have yh:L0d w w3:=A7 xf xi.out;have ye:w3.ownsRow w.heap.size 86 4 (.slice (some ⟨gb,0,none⟩) R.frs.length c2) R.frs.length (fl.flatMap FrR.cells):=A6 xr.out fun b hb'=>by
    obtain rfl:gb=b:=by simpa [Value.ownBlock] using hb'
    exact xf.block _ xk
   have xn:=(World.ownsRow.stored ye (i*4+2) (.slice a3 f.loc.length c3)).1;have xm:L0d w (w3.setCell ⟨gb,i*4+2,none⟩ (.slice a3 f.loc.length c3)):=Below.setCell yh xp _;have yn:=hid xn;have ya:=hid xm;have yc:=hid xz;have xo:=hid xf;clear xz xf yh ye xn xm k2 k3 z2 z3;go_wp2_with fail;refine (xt.out _ ya.out).mono ?_;rintro e w4 ⟨v4,rfl,xq,xj⟩;obtain⟨a4,c4,rfl⟩:=eS xq
   have xe:gb < (w3.setCell ⟨gb,i*4+2,none⟩ (.slice a3 f.loc.length c3)).heap.size:=by simpa using ys
   have x3:w4.cell? ⟨gb,i*4+3,none⟩=some (.slice sa f.stk.length sc):=(xj.cell (p:=⟨gb,i*4+3,none⟩) xe).trans Q9;have u3:w4.frozen? ⟨gb,i*4+3,none⟩=false:=(xj.frozen (p:=⟨gb,i*4+3,none⟩) xe).trans Q9;have yv:gb < w4.heap.size:=L0a xe xj.size;have yd:L0d w w4:=A7 xj ya.out;have yb:w4.ownsRow w.heap.size 86 4 (.slice (some ⟨gb,0,none⟩) R.frs.length c2) R.frs.length ((fl.flatMap FrR.cells).set (i*4+2) (.slice a3 f.loc.length c3)):=A6 yn.out fun b hb'=>by
    obtain rfl:gb=b:=by simpa [Value.ownBlock] using hb'
    exact xj.block _ xe
   have xh:=(World.ownsRow.stored yb (i*4+3) (.slice a4 f.stk.length c4)).1;have e1:=G2 (c:=FrR.cells) FrR.cells_len (l:=fl) (i:=i) (j:=2) (x:=f) (y:={ f with lv:=.slice a3 f.loc.length c3 }) (u:=.slice a3 f.loc.length c3) yk.out R4 rfl;have yr:i < fl.length:=by rw [xl.out.c.len];exact hlti
   have e2:=G2 (c:=FrR.cells) FrR.cells_len (l:=fl.set i { f with lv:=.slice a3 f.loc.length c3 }) (i:=i) (j:=3) (x:={ f with lv:=.slice a3 f.loc.length c3 }) (y:={ f with lv:=.slice a3 f.loc.length c3,sv:=.slice a4 f.stk.length c4 }) (u:=.slice a4 f.stk.length c4) (by rw [List.getElem?_set_self yr]) R4 rfl;rw[<- e1,<- e2,List.set_set] at xh;have ym:=hid xh;have yp:=hid (Below.setCell yd (p:=⟨gb,i*4+3,none⟩) xp (.slice a4 f.stk.length c4))
   have yq:=hid (xl.out.next yj.out xk yl yc.out xo.out (i*4+2) xq xj (i*4+3));clear xq xj yd yb xh e1 e2 m2 m3 y2 y3 yc xo;go_wp2_with fail;go_roundw
   case rel=>exact ⟨i+1,_,by omega,by go_num,yq.out,ym.out,yp.out⟩
   case measure=>simp [intOf];omega
  ·obtain rfl:i=R.frs.length:=by omega
   have xi:=hid xb;have HW:=hid (xd.whole xa xb);clear xb xa xd;go_wp2_with fail;go_ret;exact HW.out
theorem kF (h:A4 w own mb g R) (h0:R.frs=[]) :
  Calls prog 47 #[.pointer (some ⟨mb,3,none⟩)] w fun e w'=>kT R.frs w e w':=by
 have c3:=h.c3;obtain⟨ca,cc,xa⟩:=G3 h.called;rw[xa] at c3;have xg:mb < w.heap.size:=h.lt mb _ h.me;have xd:Hid (∀W,L0d w W->Calls prog 89 #[.slice ca 0 cc] W fun e w'=>K5 86 4 0 [] W e w'):=fun W hW=>by
  have:=lI h hW (by rw [h0];simp) xa;rw[h0] at this;exact this
 rw[h0] at c3;simp only[List.length_nil] at c3;rw[h0];clear h xa h0;go_enter func47,ntmps47;go_wp2_with (go_at_call 89;refine (xd.out _ ?_).mono ?_;exact P5;rintro e w2 ⟨v2,rfl,xb,xc⟩;obtain ⟨a2,c2,rfl⟩:=eS xb;have xe:Hid (w2.ownsRow w.heap.size 86 4 (.slice a2 0 c2) 0 []):=D6 xb (by first | exact L1c _ | simp);have xf:Hid (L0d w w2):=A7 xc P5;clear xb xc)
 go_loopw [12] (fun vi wr=>vi=.int .i64 0/\w2=wr) (fun _ _=>0)
 case atStart=>exact ⟨rfl,by first | rfl | trivial⟩
 case round =>
  obtain⟨rfl,rfl⟩:=hrel;go_wp2_with fail;go_ret;exact⟨_,[],rfl,xe.out,rfl,fun k f hf=>by simp at hf,fun k k' t t' f f' b _ hk=>by simp at hk,xf.out⟩
theorem lK (h:A4 w own mb g R) (hn:R.frs.length<=1000) (hf:∀f,f∈R.frs->f.loc.length<=1000/\f.stk.length<=1000) :
  Calls prog 47 #[.pointer (some ⟨mb,3,none⟩)] w fun e w'=>kT R.frs w e w':=by
 rcases Nat.eq_zero_or_pos R.frs.length with h0 | h0
 ·exact kF h (List.length_eq_zero_iff.1 h0)
 ·exact kG h h0 hn hf
end
end Go.Proofs.YtbkmgoffiigdbaaGreatDoor
