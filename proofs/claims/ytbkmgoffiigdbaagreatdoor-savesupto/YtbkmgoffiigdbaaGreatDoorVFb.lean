import Derived.Test.YtbkmgoffiigdbaaGreatDoorVEb
namespace Go.Proofs.YtbkmgoffiigdbaaGreatDoor
open Go.RowKit Go.Sort Go.Proofs.Tryz
set_option maxHeartbeats 4000000
set_option maxRecDepth 100000
section
variable {B gb i mb:Nat} {R:McR} {W w:World} {g:PgR} {l:List Val} {obs ol:List ObR} {own:Own} {v:Value}
structure aU (W:World) (B gb:Nat) (v:Value) (l:List Val):Prop where
 row:W.ownsRow B 92 2 v l.length (A7 l)
 ne:v.ownBlock≠some gb
theorem aU.later (h:aU w B gb v l) (hB:L0d w W):aU W B gb v l :=
 ⟨A6 h.row fun b hb=>hB.block b (h.row.lt b hb).2,h.ne⟩
theorem aU.set {u:Value} (h:aU w B gb v l):aU (w.setCell ⟨gb,i,none⟩ u) B gb v l :=
 ⟨ownsRow_setCell_other h.row (a:=⟨gb,i,none⟩) h.ne _,h.ne⟩
theorem aU.of_copy {n:Nat} (h:W.ownsRow w.heap.size 92 2 v n (A7 l)) (hn:n=l.length) (hg:gb < w.heap.size) {B:Nat} (hB:B<=w.heap.size):aU W B gb v l:=by
 subst hn;exact⟨E1 h hB,fun e=>by have:=(h.lt gb e).1;omega⟩
theorem vJ (d:Addr) (n c:Nat) (xs:List Value) (w:World) (hm:n<=100000) (hl:xs.length=n*2) (hx:∀W,L0d w W->∀j u,xs[j]?=some u->W.cell? (d.add j)=some u) (h1:∀u∈xs,u.oneCell'=true) :
  Calls prog 91 #[.slice (some d) n c] w fun e w'=>L9 90 2 n xs w e w':=by
 have HX:=hid hx;have HL:=hid hl;have H1:=hid h1;clear hx hl h1;go_enter func91,ntmps91;have xe:∀W:World,(binOp .eql 74 (.slice (some d) n c) zD).run prog W=.ok (.bool false) W:=fun W=>Go.Lib.run_eql_slice_nil W 74 90 _ n c 0 0 underlying74
 obtain⟨i,hi,hz,xb,xa⟩:=info_parts a5i;have HI:=hid hi;have HZ:=hid hz;have xc:=hid xb;have xd:=hid xa;clear hi hz xb xa;go_wp2_with (at_builtin;go_must (refine A8 _ rfl (.tmp 5) (.tmp 6) 74 rfl w.heap.size 90 i _ 2 32 underlying74 HI.out HZ.out xc.out xd.out rfl R4 (.slice (zA w.heap.size) 0 0) 0 [] rfl (World.ownsRow_made w #[] 0 (L1c _) (L4c _) rfl) (some d) n c xs rfl HL.out (fun _=>⟨d,rfl,HX.out _ (L3a (L3b _ _) (L1c _) _)⟩) H1.out Q7 R5 R6 ?_))
 intro v' w5 hown hgrow _;have HB:Hid (L0d w w5):=aA (v:=.slice (zA w.heap.size) 0 0) (L3a (L3b _ _) (L1c _) _) rfl (L1c _) hgrow;have ho:w5.ownsRow w.heap.size 90 2 v' n xs:=by simpa using hown
 have HO:=hid ho;clear hown hgrow ho;go_wp2_with fail;go_ret;exact⟨v',rfl,HO.out,HB.out⟩
theorem yU (n c:Nat) (w:World):Calls prog 91 #[.slice none n c] w fun e w'=>L9 90 2 0 [] w e w':=by
 have xa:∀W:World,(binOp .eql 74 (.slice none n c) zD).run prog W=.ok (.bool true) W:=fun W=>Go.Lib.run_eql_slice_nil W 74 90 none n c 0 0 underlying74
 go_enter func91,ntmps91;go_wp2_with fail;go_ret;exact⟨_,rfl,World.ownsRow_nil _ _ _ _,L3b _ _⟩
theorem qY (h:A4 w own mb g R):∀u∈R.obs.flatMap ObR.cells,u.oneCell'=true:=by
 intro u hu;obtain⟨o,ho,hu⟩:=List.mem_flatMap.1 hu;obtain⟨i,hi⟩:=List.mem_iff_getElem?.1 ho;obtain⟨fa,fc,xa⟩:=E0 (h.fld i o hi);simp only[ObR.cells,List.mem_cons,List.not_mem_nil,or_false] at hu;rcases hu with rfl | rfl
 ·rfl
 ·rw [xa];rfl
theorem yT (h:A4 w own mb g R) (hB:L0d w W) (hn:R.obs.length<=1000) {a:Option Addr} {c:Nat} (hv:R.hv=.slice a R.obs.length c) :
  Calls prog 91 #[.slice a R.obs.length c] W fun e w'=>L9 90 2 R.obs.length (R.obs.flatMap ObR.cells) W e w':=by
 cases a with
 | none =>
  have h0:R.obs.length=0:=by
   rcases h.slots.1.2 with ⟨_,e⟩ | ⟨_,_,_,e,_⟩
   ·exact e
   ·rw [hv] at e;cases e
  have xb:=List.length_eq_zero_iff.1 h0;rw[xb];exact yU _ _ _
 | some d =>
  refine vJ d R.obs.length c _ W R5 (aR ObR.cells_len _) (fun V hV j u hu=>?_) (qY h);have hj:=(L1a.1 hu).1;rw[aR ObR.cells_len] at hj;obtain⟨b,c',e,_,hb⟩:=h.slots.1.form R5;have xa:=h.slots.1;rw[hv] at e
  cases e;rw[hv] at xa;rw[X8,(A3 hV hB).cell (p:=⟨b,j,none⟩) hb,xa.cellAt j hj];exact hu
structure iK (W:World) (B gb i:Nat) (obs ol:List ObR):Prop where
 len:ol.length=obs.length
 old:∀k,i<=k->ol[k]?=obs[k]?
 new:∀k o,k < i->obs[k]?=some o->∃v,ol[k]?=some { o with fv:=v }/\aU W B gb v o.fl
theorem iK.next {w3:World} {o:ObR} (h:iK w3 B gb i obs ol) (ho:obs[i]?=some o) (hv:aU w3 B gb v o.fl) (j:Nat):iK (w3.setCell ⟨gb,j,none⟩ v) B gb (i+1) obs (ol.set i { o with fv:=v }):=by
 have hi:i < ol.length:=by rw [h.len];exact (L1a.1 ho).1
 refine⟨by rw [List.length_set];exact h.len,fun k hk=>by rw [List.getElem?_set_ne R5];exact h.old k R5,fun k p hk hp=>?_⟩;by_cases e:k=i
 ·subst e
  rw[ho] at hp
  cases hp;exact⟨v,by rw [List.getElem?_set_self hi],hv.set⟩
 ·obtain ⟨u,h1,h2⟩:=h.new k p R5 hp
  exact⟨u,by rw [List.getElem?_set_ne (Ne.symm e)];exact h1,h2.set⟩
theorem iK.later (h:iK w B gb i obs ol) (hB:L0d w W):iK W B gb i obs ol :=
 ⟨h.len,h.old,fun k o hk ho=>by obtain ⟨v,h1,h2⟩:=h.new k o hk ho;exact ⟨v,h1,h2.later hB⟩⟩
end
section
variable {B gb i:Nat} {W w:World} {fl frs:List FrR}
structure aJ (W:World) (B gb i:Nat) (frs fl:List FrR):Prop where
 len:fl.length=frs.length
 old:∀k,i<=k->fl[k]?=frs[k]?
 new:∀k f,k < i->frs[k]?=some f->∃lv sv,fl[k]?=some { f with lv:=lv,sv:=sv }/\aU W B gb lv f.loc/\aU W B gb sv f.stk
theorem aJ.later (h:aJ w B gb i frs fl) (hB:L0d w W):aJ W B gb i frs fl :=
 ⟨h.len,h.old,fun k f hk hf=>by obtain ⟨lv,sv,h1,h2,h3⟩:=h.new k f hk hf;exact ⟨lv,sv,h1,h2.later hB,h3.later hB⟩⟩
theorem aJ.set {j:Nat} {u:Value} (h:aJ w B gb i frs fl):aJ (w.setCell ⟨gb,j,none⟩ u) B gb i frs fl :=
 ⟨h.len,h.old,fun k f hk hf=>by obtain ⟨lv,sv,h1,h2,h3⟩:=h.new k f hk hf;exact ⟨lv,sv,h1,h2.set,h3.set⟩⟩
theorem aJ.next {f:FrR} {lv sv:Value} (h:aJ W B gb i frs fl) (hf:frs[i]?=some f) (hl:aU W B gb lv f.loc) (hs:aU W B gb sv f.stk):aJ W B gb (i+1) frs (fl.set i { f with lv:=lv,sv:=sv }):=by
 have hi:i < fl.length:=by rw [h.len];exact (L1a.1 hf).1
 refine⟨by rw [List.length_set];exact h.len,fun k hk=>by rw [List.getElem?_set_ne R5];exact h.old k R5,fun k p hk hp=>?_⟩;by_cases e:k=i
 ·subst e
  rw[hf] at hp
  cases hp;exact⟨lv,sv,by rw [List.getElem?_set_self hi],hl,hs⟩
 ·obtain ⟨u,v,h1,h2⟩:=h.new k p R5 hp
  exact⟨u,v,by rw [List.getElem?_set_ne (Ne.symm e)];exact h1,h2⟩
end
section
variable {B c gb i mb:Nat} {R:McR} {W w w3 wr:World} {fl frs:List FrR} {g:PgR} {obs ol:List ObR} {own:Own}
def dY (obs:List ObR) (w:World) (e:Ending) (w':World):Prop :=
 ∃(v:Value) (ol:List ObR),e=.returned v/\w'.ownsRow w.heap.size 90 2 v obs.length (ol.flatMap ObR.cells)/\ol.length=obs.length /\
  (∀(k:Nat) (o:ObR),obs[k]?=some o->∃fv,ol[k]?=some { o with fv:=fv }/\w'.ownsRow w.heap.size 92 2 fv o.fl.length (A7 o.fl)) /\
  (∀(k k':Nat) (o o':ObR) (b:Nat),k < k'->k' < obs.length->ol[k]?=some o->ol[k']?=some o'->o.fv.ownBlock=some b->o'.fv.ownBlock=some b->False)/\L0d w w'
structure gL (W:World) (B gb i:Nat) (obs ol:List ObR):Prop where
 c:iK W B gb i obs ol
 dis:∀(k k':Nat) (o o':ObR) (b:Nat),k < k'->k' < i->ol[k]?=some o->ol[k']?=some o'->o.fv.ownBlock=some b->o'.fv.ownBlock=some b->False
theorem gL.next {o:ObR} {v:Value} (h:gL wr B gb i obs ol) (hb:L0d wr w3) (ho:obs[i]?=some o) (hv:w3.ownsRow wr.heap.size 92 2 v o.fl.length (A7 o.fl)) (hg:gb < wr.heap.size) (hB:B<=wr.heap.size) (j:Nat) :
  gL (w3.setCell ⟨gb,j,none⟩ v) B gb (i+1) obs (ol.set i { o with fv:=v }):=by
 have xa:=h.c.len;have hi:i < ol.length:=by rw [xa];exact (L1a.1 ho).1
 refine⟨(h.c.later hb).next ho (aU.of_copy hv rfl hg hB) j,fun k k' p p' b hk hk' hp hp' h1 h2=>?_⟩;rw[List.getElem?_set_ne R5] at hp;by_cases e:k'=i
 ·subst e
  rw[List.getElem?_set_self hi] at hp'
  cases hp';have xc:=(hv.lt b h2).1;have xb:k < obs.length:=by rw [<- xa];omega
  obtain⟨u,q1,q2⟩:=h.c.new k _ R5 (L1b xb);rw[hp] at q1
  cases q1;have:=(q2.row.lt b h1).2;omega
 ·rw [List.getElem?_set_ne (Ne.symm e)] at hp'
  exact h.dis k k' p p' b hk R5 hp hp' h1 h2
theorem gL.whole (h:gL W w.heap.size gb obs.length obs ol) (hr:W.ownsRow w.heap.size 90 2 (.slice (zA gb) obs.length c) obs.length (ol.flatMap ObR.cells)) (hb:L0d w W):dY obs w (.returned (.slice (zA gb) obs.length c)) W:=by
 refine⟨_,ol,rfl,hr,h.c.len,fun k o ho=>?_,h.dis,hb⟩;obtain⟨v,h1,h2⟩:=h.c.new k o (L1a.1 ho).1 ho;exact⟨v,h1,h2.row⟩
theorem qH (h:A4 w own mb g R) (hn:R.obs.length<=1000) (h0:0 < R.obs.length) (hf:∀o,o∈R.obs->o.fl.length<=1000) :
  Calls prog 51 #[.pointer (some ⟨mb,4,none⟩)] w fun e w'=>dY R.obs w e w':=by
 have c4:=h.c4;obtain⟨ca,cc,xm⟩:=E0 h.slots;rw[xm] at c4;have yf:mb < w.heap.size:=h.lt mb _ h.me;have xw:Hid (∀W,L0d w W->Calls prog 91 #[.slice ca R.obs.length cc] W fun e w'=>L9 90 2 R.obs.length (R.obs.flatMap ObR.cells) W e w'):=fun W hW=>yT h hW hn xm
 have HH:=hid h;have HF:=hid hf;clear h hf xm;go_enter func51,ntmps51;go_wp2_with (go_at_call 91;refine (xw.out _ ?_).mono ?_;exact P5;rintro e w2 ⟨v2,rfl,xk,xu⟩;obtain ⟨gb,c2,rfl,xn,ye⟩:=xk.form h0;have xv:Hid (w2.ownsRow w.heap.size 90 2 (.slice (zA gb) R.obs.length c2) R.obs.length (R.obs.flatMap ObR.cells)):=E1 xk (by first | exact L1c _ | simp);have xs:Hid (L0d w w2):=A3 xu P5;have xn:w.heap.size<=gb:=L5a (by first | exact L1c _ | simp) xn;clear xk xu)
 go_loopw [12] (fun vi wr=>∃(i:Nat) (ol:List ObR),i<=R.obs.length/\vi=J i/\gL wr w.heap.size gb i R.obs ol/\wr.ownsRow w.heap.size 90 2 (.slice (zA gb) R.obs.length c2) R.obs.length (ol.flatMap ObR.cells)/\L0d w wr) (fun vi _=>R.obs.length - (intOf vi).toNat)
 case atStart=>exact ⟨0,R.obs,L4c _,rfl,⟨⟨rfl,fun _ _=>rfl,fun k o hk=>by omega⟩,fun k k' o o' b _ hk=>by omega⟩,xv.out,xs.out⟩
 case round =>
  obtain⟨i,ol,hi,rfl,xc,xa,xb⟩:=hrel;clear xv xs;by_cases hlti:i < R.obs.length
  ·obtain ⟨o,xh⟩:∃o,R.obs[i]?=some o:=⟨_,L1b hlti⟩
   have xq:ol[i]?=some o:=(xc.c.old i (L1c _)).trans xh;have xi:gb < wr.heap.size:=(xa.lt gb rfl).2;have xd:∀j,j < 2->wr.cell? ⟨gb,i*2+j,none⟩=o.cells[j]?:=fun j hj=>by
    rw[xa.cellAt _ R5];exact D3 ObR.cells_len xq hj
   obtain⟨fa,fc,xj⟩:=E0 (HH.out.fld i o xh);have k1:wr.cell? ⟨gb,i*2+1,none⟩=some o.fv:=xd 1 R5;rw[xj] at k1;have z1:=xa.frozenAt (i*2+1);have xl:Hid (∀W,L0d w W->Calls prog 90 #[.slice fa o.fl.length fc] W fun e w'=>L9 92 2 o.fl.length (A7 o.fl) W e w'):=fun W hW=>iS (HH.out.fld i o xh) xj hW (HF.out o (L2a xh))
   have xg:=hid xb;have xr:=hid xa;have xo:=hid xc;have ya:=hid xq;have xx:=hid xh;have xy:=xb.size;clear xd xa xb xc xj xq xh c4;go_wp2_with fail;refine (xl.out _ xg.out).mono ?_;rintro e w3 ⟨v3,rfl,xp,xf⟩;obtain⟨a3,c3,rfl⟩:=U8 xp;have m1:=(xf.cell (p:=⟨gb,i*2+1,none⟩) xi).trans k1;have y1:=(xf.frozen (p:=⟨gb,i*2+1,none⟩) xi).trans z1;have yd:gb < w3.heap.size:=L0a xi xf.size
   have xt:w3.ownsRow w.heap.size 90 2 (.slice (zA gb) R.obs.length c2) R.obs.length (ol.flatMap ObR.cells):=A6 xr.out fun b hb'=>by
    obtain rfl:gb=b:=by simpa [Value.ownBlock] using hb'
    exact xf.block _ xi
   have xe:=(World.ownsRow.stored xt (i*2+1) (.slice a3 o.fl.length c3)).1;have e1:=I7 (c:=ObR.cells) ObR.cells_len (l:=ol) (i:=i) (j:=1) (x:=o) (y:={ o with fv:=.slice a3 o.fl.length c3 }) (u:=.slice a3 o.fl.length c3) ya.out R5 rfl;rw[<- e1] at xe;have yb:=hid xe;have yc:=hid (Below.setCell (A3 xf xg.out) (p:=⟨gb,i*2+1,none⟩) xn (.slice a3 o.fl.length c3));have xz:=hid (xo.out.next xf xx.out xp xi xy (i*2+1))
   clear xp xf xt xe e1 k1 z1;go_wp2_with fail;go_roundw
   case rel=>exact ⟨i+1,_,by omega,by go_num,xz.out,yb.out,yc.out⟩
   case measure=>simp [intOf];omega
  ·obtain rfl:i=R.obs.length:=by omega
   have xg:=hid xb;have HW:=hid (xc.whole xa xb);clear xb xa xc;go_wp2_with fail;go_ret;exact HW.out
def FrR.val (f:FrR) (t:Bool):Value:=if t then f.sv else f.lv
def eM (frs:List FrR) (w:World) (e:Ending) (w':World):Prop :=
 ∃(v:Value) (fl:List FrR),e=.returned v/\w'.ownsRow w.heap.size 86 4 v frs.length (fl.flatMap FrR.cells)/\fl.length=frs.length /\
  (∀(k:Nat) (f:FrR),frs[k]?=some f->∃lv sv,fl[k]?=some { f with lv:=lv,sv:=sv }/\w'.ownsRow w.heap.size 92 2 lv f.loc.length (A7 f.loc)/\w'.ownsRow w.heap.size 92 2 sv f.stk.length (A7 f.stk)/\∀b,v.ownBlock=some b->lv.ownBlock≠some b/\sv.ownBlock≠some b) /\
  (∀(k k':Nat) (t t':Bool) (f f':FrR) (b:Nat),(k < k'\/(k=k'/\t≠t'))->k' < frs.length->fl[k]?=some f->fl[k']?=some f'->(f.val t).ownBlock=some b->(f'.val t').ownBlock=some b->False)/\L0d w w'
structure gM (W:World) (B gb i:Nat) (frs fl:List FrR):Prop where
 c:aJ W B gb i frs fl
 dis:∀(k k':Nat) (t t':Bool) (f f':FrR) (b:Nat),(k < k'\/(k=k'/\t≠t'))->k' < i->fl[k]?=some f->fl[k']?=some f'->(f.val t).ownBlock=some b->(f'.val t').ownBlock=some b->False
theorem gM.next {w4:World} {f:FrR} {lv sv:Value} (h:gM wr B gb i frs fl) (hf:frs[i]?=some f) (hg:gb < wr.heap.size) (hB:B<=wr.heap.size)
  (hv3:w3.ownsRow wr.heap.size 92 2 lv f.loc.length (A7 f.loc)) (hb3:L0d wr w3) (j:Nat) (hv4:w4.ownsRow (w3.setCell ⟨gb,j,none⟩ lv).heap.size 92 2 sv f.stk.length (A7 f.stk)) (hb4:Below (w3.setCell ⟨gb,j,none⟩ lv).heap.size (w3.setCell ⟨gb,j,none⟩ lv) w4) (j':Nat) :
  gM (w4.setCell ⟨gb,j',none⟩ sv) B gb (i+1) frs (fl.set i { f with lv:=lv,sv:=sv }):=by
 have xa:=h.c.len;have hi:i < fl.length:=by rw [xa];exact (L1a.1 hf).1
 have xd:(w3.setCell ⟨gb,j,none⟩ lv).heap.size=w3.heap.size:=by simp
 have xg:gb < w3.heap.size:=L0a hg hb3.size;have xi:aU (w3.setCell ⟨gb,j,none⟩ lv) B gb lv f.loc:=(aU.of_copy hv3 rfl hg hB).set;have xh:aJ (w3.setCell ⟨gb,j,none⟩ lv) B gb i frs fl:=(h.c.later hb3).set;refine⟨((xh.later hb4).set).next hf ((xi.later hb4).set) ((aU.of_copy hv4 rfl (by rw [xd];exact xg) (by rw [xd];exact L5a hB hb3.size)).set),fun k k' t t' p p' b hk hk' hp hp' h1 h2=>?_⟩
 have xc:∀k p t b,k < i->fl[k]?=some p->(p.val t).ownBlock=some b->b < wr.heap.size:=fun k p t b hk hp hb=>by
  have xf:k < frs.length:=by rw [<- xa];omega
  obtain⟨u,v,q1,q2,q3⟩:=h.c.new k _ hk (L1b xf);rw[hp] at q1
  cases q1
  cases t
  ·exact (q2.row.lt b hb).2
  ·exact (q3.row.lt b hb).2
 have xb:∀b,lv.ownBlock=some b->wr.heap.size<=b/\b < w3.heap.size:=fun b hb=>hv3.lt b hb
 have xe:∀b,sv.ownBlock=some b->w3.heap.size<=b:=fun b hb=>by have:=(hv4.lt b hb).1;rw [xd] at this;exact this
 have hz:=hb3.size;by_cases e:k'=i
 ·subst e
  rw[List.getElem?_set_self hi] at hp'
  cases hp';rcases hk with hk | ⟨rfl,hk⟩
  ·rw [List.getElem?_set_ne R5] at hp
   have q1:=xc k p t b hk hp h1
   cases t'
   ·have:=(xb b h2).1;omega
   ·have:=xe b h2;omega
  ·rw [List.getElem?_set_self hi] at hp
   cases hp
   cases t <;> cases t'
   ·exact hk rfl
   ·have:=(xb b h1).2;have:=xe b h2;omega
   ·have:=(xb b h2).2;have:=xe b h1;omega
   ·exact hk rfl
 ·rw [List.getElem?_set_ne (Ne.symm e)] at hp'
  rw[List.getElem?_set_ne R5] at hp;exact h.dis k k' t t' p p' b hk R5 hp hp' h1 h2
theorem gM.whole (h:gM W w.heap.size gb frs.length frs fl) (hr:W.ownsRow w.heap.size 86 4 (.slice (zA gb) frs.length c) frs.length (fl.flatMap FrR.cells)) (hb:L0d w W):eM frs w (.returned (.slice (zA gb) frs.length c)) W:=by
 refine⟨_,fl,rfl,hr,h.c.len,fun k f hf=>?_,h.dis,hb⟩;obtain⟨lv,sv,h1,h2,h3⟩:=h.c.new k f (L1a.1 hf).1 hf;refine⟨lv,sv,h1,h2.row,h3.row,fun b hb=>?_⟩;obtain rfl:gb=b:=by simpa [Value.ownBlock] using hb
 exact⟨h2.ne,h3.ne⟩
theorem mU (h:A4 w own mb g R) (h0:0 < R.frs.length) (hn:R.frs.length<=1000) (hf:∀f,f∈R.frs->f.loc.length<=1000/\f.stk.length<=1000) :
  Calls prog 47 #[.pointer (some ⟨mb,3,none⟩)] w fun e w'=>eM R.frs w e w':=by
 have c3:=h.c3;obtain⟨ca,cc,xz⟩:=E0 h.called;rw[xz] at c3;have yv:mb < w.heap.size:=h.lt mb _ h.me;have yo:Hid (∀W,L0d w W->Calls prog 89 #[.slice ca R.frs.length cc] W fun e w'=>L9 86 4 R.frs.length (R.frs.flatMap FrR.cells) W e w'):=fun W hW=>nX h hW hn xz
 have HH:=hid h;have HF:=hid hf;clear h hf xz;go_enter func47,ntmps47;go_wp2_with (go_at_call 89;refine (yo.out _ ?_).mono ?_;exact P5;rintro e w2 ⟨v2,rfl,xu,ye⟩;obtain ⟨gb,c2,rfl,xp,yu⟩:=xu.form h0;have yi:Hid (w2.ownsRow w.heap.size 86 4 (.slice (zA gb) R.frs.length c2) R.frs.length (R.frs.flatMap FrR.cells)):=E1 xu (by first | exact L1c _ | simp);have yh:Hid (L0d w w2):=A3 ye P5;have xp:w.heap.size<=gb:=L5a (by first | exact L1c _ | simp) xp;clear xu ye)
 go_loopw [12] (fun vi wr=>∃(i:Nat) (fl:List FrR),i<=R.frs.length/\vi=J i/\gM wr w.heap.size gb i R.frs fl/\wr.ownsRow w.heap.size 86 4 (.slice (zA gb) R.frs.length c2) R.frs.length (fl.flatMap FrR.cells)/\L0d w wr) (fun vi _=>R.frs.length - (intOf vi).toNat)
 case atStart=>exact ⟨0,R.frs,L4c _,rfl,⟨⟨rfl,fun _ _=>rfl,fun k o hk=>by omega⟩,fun k k' t t' o o' b _ hk=>by omega⟩,yi.out,yh.out⟩
 case round =>
  obtain⟨i,fl,hi,rfl,xc,xa,xb⟩:=hrel;clear yi yh;by_cases hlti:i < R.frs.length
  ·obtain ⟨f,xg⟩:∃f,R.frs[i]?=some f:=⟨_,L1b hlti⟩
   have xy:fl[i]?=some f:=(xc.c.old i (L1c _)).trans xg;have xh:gb < wr.heap.size:=(xa.lt gb rfl).2;have xd:∀j,j < 4->wr.cell? ⟨gb,i*4+j,none⟩=f.cells[j]?:=fun j hj=>by
    rw[xa.cellAt _ R5];exact D3 FrR.cells_len xy hj
   obtain⟨la,lc,xt⟩:=E0 (HH.out.loc i f xg);obtain⟨sa,sc,xr⟩:=E0 (HH.out.stk i f xg);have k2:wr.cell? ⟨gb,i*4+2,none⟩=some f.lv:=xd 2 R5;have k3:wr.cell? ⟨gb,i*4+3,none⟩=some f.sv:=xd 3 R5;rw[xt] at k2;rw[xr] at k3;have z2:=xa.frozenAt (i*4+2);have z3:=xa.frozenAt (i*4+3);have hm:=HF.out f (L2a xg);have xv:Hid (∀W,L0d w W->Calls prog 90 #[.slice la f.loc.length lc] W fun e w'=>L9 92 2 f.loc.length (A7 f.loc) W e w'):=fun W hW=>iS (HH.out.loc i f xg) xt hW hm.1
   have xw:Hid (∀W,L0d w W->Calls prog 90 #[.slice sa f.stk.length sc] W fun e w'=>L9 92 2 f.stk.length (A7 f.stk) W e w'):=fun W hW=>iS (HH.out.stk i f xg) xr hW hm.2
   have yk:=xb.size;have xk:=hid xb;have xs:=hid xa;have xm:=hid xc;have yj:=hid xy;have yq:=hid xg;clear xd xa xb xc xt xr xy xg c3;go_wp2_with fail;refine (xv.out _ xk.out).mono ?_;rintro e w3 ⟨v3,rfl,xx,xe⟩;obtain⟨a3,c3,rfl⟩:=U8 xx;have m2:=(xe.cell (p:=⟨gb,i*4+2,none⟩) xh).trans k2;have m3:=(xe.cell (p:=⟨gb,i*4+3,none⟩) xh).trans k3;have y2:=(xe.frozen (p:=⟨gb,i*4+2,none⟩) xh).trans z2
   have y3:=(xe.frozen (p:=⟨gb,i*4+3,none⟩) xh).trans z3;have ym:gb < w3.heap.size:=L0a xh xe.size;have yf:L0d w w3:=A3 xe xk.out;have yb:w3.ownsRow w.heap.size 86 4 (.slice (zA gb) R.frs.length c2) R.frs.length (fl.flatMap FrR.cells):=A6 xs.out fun b hb'=>by
    obtain rfl:gb=b:=by simpa [Value.ownBlock] using hb'
    exact xe.block _ xh
   have xl:=(World.ownsRow.stored yb (i*4+2) (.slice a3 f.loc.length c3)).1;have xo:L0d w (w3.setCell ⟨gb,i*4+2,none⟩ (.slice a3 f.loc.length c3)):=Below.setCell yf xp _;have yn:=hid xl;have yd:=hid xo;have yc:=hid xx;have xn:=hid xe;clear xx xe yf yb xl xo k2 k3 z2 z3;go_wp2_with fail;refine (xw.out _ yd.out).mono ?_;rintro e w4 ⟨v4,rfl,xq,xi⟩;obtain⟨a4,c4,rfl⟩:=U8 xq
   have xf:gb < (w3.setCell ⟨gb,i*4+2,none⟩ (.slice a3 f.loc.length c3)).heap.size:=by simpa using ym
   have x3:w4.cell? ⟨gb,i*4+3,none⟩=some (.slice sa f.stk.length sc):=(xi.cell (p:=⟨gb,i*4+3,none⟩) xf).trans R3;have u3:w4.frozen? ⟨gb,i*4+3,none⟩=false:=(xi.frozen (p:=⟨gb,i*4+3,none⟩) xf).trans R3;have yt:gb < w4.heap.size:=L0a xf xi.size;have ya:L0d w w4:=A3 xi yd.out;have yg:w4.ownsRow w.heap.size 86 4 (.slice (zA gb) R.frs.length c2) R.frs.length ((fl.flatMap FrR.cells).set (i*4+2) (.slice a3 f.loc.length c3)):=A6 yn.out fun b hb'=>by
    obtain rfl:gb=b:=by simpa [Value.ownBlock] using hb'
    exact xi.block _ xf
   have xj:=(World.ownsRow.stored yg (i*4+3) (.slice a4 f.stk.length c4)).1;have e1:=I7 (c:=FrR.cells) FrR.cells_len (l:=fl) (i:=i) (j:=2) (x:=f) (y:={ f with lv:=.slice a3 f.loc.length c3 }) (u:=.slice a3 f.loc.length c3) yj.out R5 rfl;have ys:i < fl.length:=by rw [xm.out.c.len];exact hlti
   have e2:=I7 (c:=FrR.cells) FrR.cells_len (l:=fl.set i { f with lv:=.slice a3 f.loc.length c3 }) (i:=i) (j:=3) (x:={ f with lv:=.slice a3 f.loc.length c3 }) (y:={ f with lv:=.slice a3 f.loc.length c3,sv:=.slice a4 f.stk.length c4 }) (u:=.slice a4 f.stk.length c4) (by rw [List.getElem?_set_self ys]) R5 rfl;rw[<- e1,<- e2,List.set_set] at xj;have yr:=hid xj;have yp:=hid (Below.setCell ya (p:=⟨gb,i*4+3,none⟩) xp (.slice a4 f.stk.length c4))
   have yl:=hid (xm.out.next yq.out xh yk yc.out xn.out (i*4+2) xq xi (i*4+3));clear xq xi ya yg xj e1 e2 m2 m3 y2 y3 yc xn;go_wp2_with fail;go_roundw
   case rel=>exact ⟨i+1,_,by omega,by go_num,yl.out,yr.out,yp.out⟩
   case measure=>simp [intOf];omega
  ·obtain rfl:i=R.frs.length:=by omega
   have xk:=hid xb;have HW:=hid (xc.whole xa xb);clear xb xa xc;go_wp2_with fail;go_ret;exact HW.out
theorem mT (h:A4 w own mb g R) (h0:R.frs=[]) :
  Calls prog 47 #[.pointer (some ⟨mb,3,none⟩)] w fun e w'=>eM R.frs w e w':=by
 have c3:=h.c3;obtain⟨ca,cc,xb⟩:=E0 h.called;rw[xb] at c3;have xg:mb < w.heap.size:=h.lt mb _ h.me;have xe:Hid (∀W,L0d w W->Calls prog 89 #[.slice ca 0 cc] W fun e w'=>L9 86 4 0 [] W e w'):=fun W hW=>by
  have:=nX h hW (by rw [h0];simp) xb;rw[h0] at this;exact this
 rw[h0] at c3;simp only[List.length_nil] at c3;rw[h0];clear h xb h0;go_enter func47,ntmps47;go_wp2_with (go_at_call 89;refine (xe.out _ ?_).mono ?_;exact P5;rintro e w2 ⟨v2,rfl,xa,xc⟩;obtain ⟨a2,c2,rfl⟩:=U8 xa;have xf:Hid (w2.ownsRow w.heap.size 86 4 (.slice a2 0 c2) 0 []):=E1 xa (by first | exact L1c _ | simp);have xd:Hid (L0d w w2):=A3 xc P5;clear xa xc)
 go_loopw [12] (fun vi wr=>vi=J 0/\w2=wr) (fun _ _=>0)
 case atStart=>exact ⟨rfl,by first | rfl | trivial⟩
 case round =>
  obtain⟨rfl,rfl⟩:=hrel;go_wp2_with fail;go_ret;exact⟨_,[],rfl,xf.out,rfl,fun k f hf=>by simp at hf,fun k k' t t' f f' b _ hk=>by simp at hk,xd.out⟩
theorem oB (h:A4 w own mb g R) (hn:R.frs.length<=1000) (hf:∀f,f∈R.frs->f.loc.length<=1000/\f.stk.length<=1000) :
  Calls prog 47 #[.pointer (some ⟨mb,3,none⟩)] w fun e w'=>eM R.frs w e w':=by
 rcases Nat.eq_zero_or_pos R.frs.length with h0 | h0
 ·exact mT h (List.length_eq_zero_iff.1 h0)
 ·exact mU h h0 hn hf
end
section
variable {w:World}
def cJ (l:List ObR):List Value:=l.map ObR.fv
def a4l (l:List ObR) (w:World) (e:Ending) (w':World):Prop:=∃v,e=.returned v/\w'.ownsRow w.heap.size 84 1 v l.length (cJ l)/\L0d w w'
theorem qO {own:Own} {mb:Nat} {g:PgR} {R:McR} (h:A4 w own mb g R) (hn:R.obs.length<=1000) :
  Calls prog 208 #[.pointer (some ⟨mb,4,none⟩)] w fun e w'=>a4l R.obs w e w':=by
 have c4:=h.c4;obtain⟨ca,cc,xg⟩:=E0 h.slots;rw[xg] at c4;have xw:mb < w.heap.size:=h.lt mb _ h.me;obtain⟨xp,hi,hz,xi,xk⟩:=info_parts sV;have HI:=hid hi;have HZ:=hid hz;have xt:=hid xi;have xr:=hid xk;have HH:=hid h;have xl:=hid xg;clear h xg hi hz xi xk;go_enter func208,ntmps208;go_wp2_with fail;go_loopw [3,11] (fun vl vi wr=>∃i:Nat,i<=R.obs.length/\vi=J i/\wr.ownsRow w.heap.size 84 1 vl i (cJ (R.obs.take i))/\L0d w wr) (fun _ vi _=>R.obs.length - (intOf vi).toNat)
 case atStart=>exact ⟨0,L4c _,rfl,World.ownsRow_nil _ _ _ _,L3b _ _⟩
 case round =>
  obtain⟨i,hi,rfl,xe,xb⟩:=hrel;have xc:=hid xb;have xd:=hid xe;by_cases hlt:i < R.obs.length
  ·obtain ⟨f,hf⟩:∃f,R.obs[i]?=some f:=⟨_,L1b hlt⟩
   obtain⟨cb,xv,e,_,xj⟩:=HH.out.slots.1.form R5;have xh:=HH.out.slots.1;rw[xl.out] at e
   cases e;rw[xl.out] at xh;have xa:∀j,j < 2->wr.cell? ⟨cb,i*2+j,none⟩=f.cells[j]?:=fun j hj=>by
    rw[xb.cell (p:=⟨cb,_,none⟩) xj,xh.cellAt _ R5];exact D3 ObR.cells_len hf hj
   obtain⟨la,lc,xf⟩:=E0 (HH.out.fld i f hf);have k0:wr.cell? ⟨cb,i*2,none⟩=some (zC f.kind):=xa 0 R5;have k1:wr.cell? ⟨cb,i*2+1,none⟩=some f.fv:=xa 1 R5;rw[xf] at k1;have xx:cb < wr.heap.size:=L0a xj xb.size;have xn:Hid (cJ (R.obs.take (i+1))=cJ (R.obs.take i)++[f.fv]):=by
    refine hid ?_;have e:R.obs.take (i+1)=R.obs.take i++[f]:=by rw [List.take_add_one,hf];rfl
    rw[e];simp[cJ]
   have xo:=hid xf;clear xa xh xe xb hf xf;have xu:w.heap.size<=wr.heap.size:=xc.out.size;go_wp2_with (at_builtin;go_must (refine wpList_append_lies _ rfl (.tmp 15) (.tmp 18) 131 rfl w.heap.size 84 xp _ 1 24 underlying131 HI.out HZ.out xt.out xr.out rfl R4 _ i (cJ (R.obs.take i)) rfl ((xd.out.alloc _).alloc _) _ 1 1 [.slice la f.fl.length lc] rfl rfl (World.news_of_block (cs:=#[.slice la f.fl.length lc]) (t:=84) (fr:=(0,0)) (B0 R6)) (by intro u hu;simp at hu;rcases hu with rfl;rfl) R5 Q7 R5 Q9 _ rfl ?_))
   intro g1 cap1 w1 hown1 hgrow1 _ _;have xm:=M8 (L3a (L3a xc.out xc.out.size _) Q9 _) ((xd.out.alloc _).alloc _) hgrow1;have xs:=hid xm;have xq:=hid hown1;clear xm hown1 hgrow1 k0 k1;go_wp2_with fail;go_roundw
   case rel=>exact ⟨i+1,by omega,by go_num,by
    rw[xn.out,xo.out];exact xq.out,xs.out⟩
   case measure=>simp [intOf];omega
  ·obtain rfl:i=R.obs.length:=by omega
   rw[List.take_length] at xd;clear xb xe;go_wp2_with fail;go_ret;exact⟨_,rfl,xd.out,xc.out⟩
theorem zE {P:Program} {ops:Array Oper} {o:Oper} {a:Act} {K:Act->World->Prop} {Q:Exit->Act->World->Prop} {E:Prop} (hgd:o.guard=none) (s x:Operand) (t:TypeId)
  (ho:o.op=.call { callee:=.builtin .append,args:=#[s,x],argTypes:=#[t,t] })
  (base:Nat) (e:TypeId) (i:TypeInfo) (z:Value) (size bytes:Nat) (ht:P.underlying t=some (.slice e)) (hi:P.info? e=some i) (hz:i.zero=some z)
  (hsize:i.size=size) (hby:i.bytes=bytes) (hzs:z.cells.size=size) (hsz:0 < size)
  (v:Value) (n:Nat) (xs:List Value) (hs:a.eval s=v) (hown:w.ownsRow base e size v n xs)
  (ad:Option Addr) (m c:Nat) (news:List Value) (hx:a.eval x=.slice ad m c) (hl:news.length=m*size) (hnews:0 < m->∃d,ad=some d/\∀j u,news[j]?=some u->w.cell? (d.add j)=some u) (h1:∀u∈news,u.oneCell'=true)
  (h63:n+m<=maxLen) (hbytes:(n+m)*bytes<=140737488355328) (hbase:base<=w.heap.size)
  (h:∀v' w',w'.ownsRow base e size v' (n+m) (xs++news)->w.grownBy w' v.ownBlock->(∀g,v'.ownBlock=some g->v.ownBlock=some g\/g=w.heap.size)->K (a.put o.dst v') w') :
  if Region.wanted o (yielded ops a.tmps)=true then Oper.wp P o a w K Q else E:=by
 have hw:Region.wanted o (yielded ops a.tmps)=true:=by simp [Region.wanted,hgd]
 rw[if_pos hw];exact dV w s x t ho base e i z size bytes ht hi hz hsize hby hzs hsz v n xs hs hown ad m c news hx hl hnews h1 h63 hbytes hbase h
theorem a3O {base n:Nat} {v:Value} {xs:List Value} (h:w.ownsRow base 84 1 v n xs):∃a c,v=.slice a n c/\(0 < n->∃d,a=some d/\∀j u,xs[j]?=some u->w.cell? (d.add j)=some u):=by
 obtain⟨a,c,rfl⟩:=U8 h;refine⟨a,c,rfl,fun h0=>?_⟩;obtain⟨b,c',e,_,_⟩:=h.form h0
 cases e;refine⟨_,rfl,fun j u hu=>?_⟩;have hj:=(L1a.1 hu).1;have hl:=h.1;rw[X8,h.cellAt j R5];exact hu
end
end Go.Proofs.YtbkmgoffiigdbaaGreatDoor
