import Derived.Test.YtbkmgoffiigdbaaGreatDoorVEf
namespace Go.Proofs.YtbkmgoffiigdbaaGreatDoor
open Go.RowKit Go.Sort Go.Proofs.Tryz
set_option maxHeartbeats 2000000
set_option maxRecDepth 100000
section
variable {B gb i mb:Nat} {R:McR} {W w:World} {a:Option Addr} {g:PgR} {l:List Val} {obs ol:List ObR} {own:Own} {v:Value}
def yU (W:World) (a:Option Addr) (obs:List Ob):Prop :=
 0 < obs.length->∃b,a=some ⟨b,0,none⟩/\b < W.heap.size/\∀(i:Nat) (o:Ob),obs[i]?=some o->W.cell? ⟨b,i*2,none⟩=some (.int .u8 o.1)/\∃fa fc,W.cell? ⟨b,i*2+1,none⟩=some (.slice fa o.2.length fc)/\T6 W W.heap.size fa o.2
theorem T6.later (h:T6 w w.heap.size a l) (hB:Below w.heap.size w W):T6 W W.heap.size a l:=fun h0=>by
 obtain⟨b,e,hb,hc⟩:=h h0;exact⟨b,e,L0a hb hB.size,fun i x hx=>⟨(hB.cell (p:=⟨b,_,none⟩) hb).trans (hc i x hx).1,(hB.cell (p:=⟨b,_,none⟩) hb).trans (hc i x hx).2⟩⟩
theorem yU.later {obs:List Ob} (h:yU w a obs) (hB:Below w.heap.size w W):yU W a obs:=fun h0=>by
 obtain⟨b,e,hb,hc⟩:=h h0;refine⟨b,e,L0a hb hB.size,fun i o ho=>?_⟩;obtain⟨h1,fa,fc,h2,h3⟩:=hc i o ho;exact⟨(hB.cell (p:=⟨b,_,none⟩) hb).trans h1,fa,fc,(hB.cell (p:=⟨b,_,none⟩) hb).trans h2,h3.later hB⟩
structure X8 (W:World) (B gb:Nat) (v:Value) (l:List Val):Prop where
 row:W.ownsRow B 92 2 v l.length (A5 l)
 ne:v.ownBlock≠some gb
theorem X8.later (h:X8 w B gb v l) (hB:Below w.heap.size w W):X8 W B gb v l :=
 ⟨A7 h.row fun b hb=>hB.block b (h.row.lt b hb).2,h.ne⟩
theorem X8.set {u:Value} (h:X8 w B gb v l):X8 (w.setCell ⟨gb,i,none⟩ u) B gb v l :=
 ⟨ownsRow_setCell_other h.row (a:=⟨gb,i,none⟩) h.ne _,h.ne⟩
theorem X8.of_copy {n:Nat} (h:W.ownsRow w.heap.size 92 2 v n (A5 l)) (hn:n=l.length) (hg:gb < w.heap.size) {B:Nat} (hB:B<=w.heap.size):X8 W B gb v l:=by
 subst hn;exact⟨E2 h hB,fun e=>by have:=(h.lt gb e).1;omega⟩
theorem sA (d:Addr) (n c:Nat) (xs:List Value) (w:World) (hm:n<=100000) (hl:xs.length=n*2) (hx:∀W,Below w.heap.size w W->∀j u,xs[j]?=some u->W.cell? (d.add j)=some u) (h1:∀u∈xs,u.oneCell'=true) :
  Calls prog 91 #[.slice (some d) n c] w fun e w'=>K1 90 2 n xs w e w':=by
 have HX:=hid hx;have HL:=hid hl;have H1:=hid h1;clear hx hl h1;go_enter func91,ntmps91;have xe:∀W:World,(binOp .eql 74 (.slice (some d) n c) (.slice none 0 0)).run prog W=.ok (.bool false) W:=fun W=>Go.Lib.run_eql_slice_nil W 74 90 _ n c 0 0 underlying74
 obtain⟨i,hi,hz,xb,xa⟩:=info_parts wA;have HI:=hid hi;have HZ:=hid hz;have xd:=hid xb;have xc:=hid xa;clear hi hz xb xa;go_wp2_with (at_builtin;go_must (refine B0 _ rfl (.tmp 5) (.tmp 6) 74 rfl w.heap.size 90 i _ 2 32 underlying74 HI.out HZ.out xd.out xc.out rfl R3 (.slice (some ⟨w.heap.size,0,none⟩) 0 0) 0 [] rfl (World.ownsRow_made w #[] 0 (L1c _) (Nat.zero_le _) rfl) (some d) n c xs rfl HL.out (fun _=>⟨d,rfl,HX.out _ (Below.alloc (Below.refl _ _) (L1c _) _)⟩) H1.out Q5 R4 R5 ?_))
 intro v' w5 hown hgrow _;have HB:Hid (Below w.heap.size w w5):=W5 (v:=.slice (some ⟨w.heap.size,0,none⟩) 0 0) (Below.alloc (Below.refl _ _) (L1c _) _) rfl (L1c _) hgrow;have ho:w5.ownsRow w.heap.size 90 2 v' n xs:=by simpa using hown
 have HO:=hid ho;clear hown hgrow ho;go_wp2_with fail;go_ret;exact⟨v',rfl,HO.out,HB.out⟩
theorem vC (n c:Nat) (w:World):Calls prog 91 #[.slice none n c] w fun e w'=>K1 90 2 0 [] w e w':=by
 have xa:∀W:World,(binOp .eql 74 (.slice none n c) (.slice none 0 0)).run prog W=.ok (.bool true) W:=fun W=>Go.Lib.run_eql_slice_nil W 74 90 none n c 0 0 underlying74
 go_enter func91,ntmps91;go_wp2_with fail;go_ret;exact⟨_,rfl,World.ownsRow_nil _ _ _ _,Below.refl _ _⟩
theorem oC (h:A4 w own mb g R):∀u∈R.obs.flatMap ObR.cells,u.oneCell'=true:=by
 intro u hu;obtain⟨o,ho,hu⟩:=List.mem_flatMap.1 hu;obtain⟨i,hi⟩:=List.mem_iff_getElem?.1 ho;obtain⟨fa,fc,xa⟩:=G8 (h.fld i o hi);simp only[ObR.cells,List.mem_cons,List.not_mem_nil,or_false] at hu;rcases hu with rfl | rfl
 ·rfl
 ·rw [xa];rfl
theorem vB (h:A4 w own mb g R) (hB:Below w.heap.size w W) (hn:R.obs.length<=1000) {a:Option Addr} {c:Nat} (hv:R.hv=.slice a R.obs.length c) :
  Calls prog 91 #[.slice a R.obs.length c] W fun e w'=>K1 90 2 R.obs.length (R.obs.flatMap ObR.cells) W e w':=by
 cases a with
 | none =>
  have h0:R.obs.length=0:=by
   rcases h.slots.1.2 with ⟨_,e⟩ | ⟨_,_,_,e,_⟩
   ·exact e
   ·rw [hv] at e;cases e
  have xb:=List.length_eq_zero_iff.1 h0;rw[xb];exact vC _ _ _
 | some d =>
  refine sA d R.obs.length c _ W R4 (X5 ObR.cells_len _) (fun V hV j u hu=>?_) (oC h);have hj:=(L1a.1 hu).1;rw[X5 ObR.cells_len] at hj;obtain⟨b,c',e,_,hb⟩:=h.slots.1.form R4;have xa:=h.slots.1;rw[hv] at e
  cases e;rw[hv] at xa;rw[X3,(A6 hV hB).cell (p:=⟨b,j,none⟩) hb,xa.cellAt j hj];exact hu
structure cV (W:World) (B gb i:Nat) (obs ol:List ObR):Prop where
 len:ol.length=obs.length
 old:∀k,i<=k->ol[k]?=obs[k]?
 new:∀k o,k < i->obs[k]?=some o->∃v,ol[k]?=some { o with fv:=v }/\X8 W B gb v o.fl
theorem cV.next {w3:World} {o:ObR} (h:cV w3 B gb i obs ol) (ho:obs[i]?=some o) (hv:X8 w3 B gb v o.fl) (j:Nat):cV (w3.setCell ⟨gb,j,none⟩ v) B gb (i+1) obs (ol.set i { o with fv:=v }):=by
 have hi:i < ol.length:=by rw [h.len];exact (L1a.1 ho).1
 refine⟨by rw [List.length_set];exact h.len,fun k hk=>by rw [List.getElem?_set_ne R4];exact h.old k R4,fun k p hk hp=>?_⟩;by_cases e:k=i
 ·subst e
  rw[ho] at hp
  cases hp;exact⟨v,by rw [List.getElem?_set_self hi],hv.set⟩
 ·obtain ⟨u,h1,h2⟩:=h.new k p R4 hp
  exact⟨u,by rw [List.getElem?_set_ne (Ne.symm e)];exact h1,h2.set⟩
theorem cV.later (h:cV w B gb i obs ol) (hB:Below w.heap.size w W):cV W B gb i obs ol :=
 ⟨h.len,h.old,fun k o hk ho=>by obtain ⟨v,h1,h2⟩:=h.new k o hk ho;exact ⟨v,h1,h2.later hB⟩⟩
theorem cV.whole {c:Nat} (h:cV W B gb obs.length obs ol) (hr:W.ownsRow B 90 2 (.slice (some ⟨gb,0,none⟩) obs.length c) obs.length (ol.flatMap ObR.cells)):yU W (some ⟨gb,0,none⟩) (obs.map ObR.abs):=fun _=>by
 refine⟨gb,rfl,(hr.lt gb rfl).2,fun i p hp=>?_⟩;rw[List.getElem?_map] at hp;obtain⟨o,ho,rfl⟩:=Option.map_eq_some_iff.1 hp;have hi:=(L1a.1 ho).1;obtain⟨v,h1,h2⟩:=h.new i o hi ho;have xa:∀j,j < 2->W.cell? ⟨gb,i*2+j,none⟩=({ o with fv:=v } : ObR).cells[j]?:=fun j hj=>by
  rw[hr.cellAt _ R4];exact D6 ObR.cells_len h1 hj
 obtain⟨fa,fc,rfl,xb⟩:=T6.of_owns h2.row (L1c _);exact⟨xa 0 R4,fa,fc,xa 1 R4,xb⟩
end
section
variable {B gb i:Nat} {W w:World} {fl frs:List FrR}
def yS (W:World) (a:Option Addr) (frs:List FrA):Prop :=
 0 < frs.length->∃b,a=some ⟨b,0,none⟩/\b < W.heap.size/\∀(i:Nat) (f:FrA),frs[i]?=some f->∃la lc sa sc,W.cell? ⟨b,i*4+2,none⟩=some (.slice la f.loc.length lc)/\W.cell? ⟨b,i*4+3,none⟩=some (.slice sa f.stk.length sc)/\T6 W W.heap.size la f.loc/\T6 W W.heap.size sa f.stk
theorem yS.later {a:Option Addr} {frs:List FrA} (h:yS w a frs) (hB:Below w.heap.size w W):yS W a frs:=fun h0=>by
 obtain⟨b,e,hb,hc⟩:=h h0;refine⟨b,e,L0a hb hB.size,fun i f hf=>?_⟩;obtain⟨la,lc,sa,sc,h1,h2,h3,h4⟩:=hc i f hf;exact⟨la,lc,sa,sc,(hB.cell (p:=⟨b,_,none⟩) hb).trans h1,(hB.cell (p:=⟨b,_,none⟩) hb).trans h2,h3.later hB,h4.later hB⟩
structure R7 (W:World) (B gb i:Nat) (frs fl:List FrR):Prop where
 len:fl.length=frs.length
 old:∀k,i<=k->fl[k]?=frs[k]?
 new:∀k f,k < i->frs[k]?=some f->∃lv sv,fl[k]?=some { f with lv:=lv,sv:=sv }/\X8 W B gb lv f.loc/\X8 W B gb sv f.stk
theorem R7.later (h:R7 w B gb i frs fl) (hB:Below w.heap.size w W):R7 W B gb i frs fl :=
 ⟨h.len,h.old,fun k f hk hf=>by obtain ⟨lv,sv,h1,h2,h3⟩:=h.new k f hk hf;exact ⟨lv,sv,h1,h2.later hB,h3.later hB⟩⟩
theorem R7.set {j:Nat} {u:Value} (h:R7 w B gb i frs fl):R7 (w.setCell ⟨gb,j,none⟩ u) B gb i frs fl :=
 ⟨h.len,h.old,fun k f hk hf=>by obtain ⟨lv,sv,h1,h2,h3⟩:=h.new k f hk hf;exact ⟨lv,sv,h1,h2.set,h3.set⟩⟩
theorem R7.next {f:FrR} {lv sv:Value} (h:R7 W B gb i frs fl) (hf:frs[i]?=some f) (hl:X8 W B gb lv f.loc) (hs:X8 W B gb sv f.stk):R7 W B gb (i+1) frs (fl.set i { f with lv:=lv,sv:=sv }):=by
 have hi:i < fl.length:=by rw [h.len];exact (L1a.1 hf).1
 refine⟨by rw [List.length_set];exact h.len,fun k hk=>by rw [List.getElem?_set_ne R4];exact h.old k R4,fun k p hk hp=>?_⟩;by_cases e:k=i
 ·subst e
  rw[hf] at hp
  cases hp;exact⟨lv,sv,by rw [List.getElem?_set_self hi],hl,hs⟩
 ·obtain ⟨u,v,h1,h2⟩:=h.new k p R4 hp
  exact⟨u,v,by rw [List.getElem?_set_ne (Ne.symm e)];exact h1,h2⟩
theorem R7.whole {c:Nat} (h:R7 W B gb frs.length frs fl) (hr:W.ownsRow B 86 4 (.slice (some ⟨gb,0,none⟩) frs.length c) frs.length (fl.flatMap FrR.cells)):yS W (some ⟨gb,0,none⟩) (frs.map FrR.abs):=fun _=>by
 refine⟨gb,rfl,(hr.lt gb rfl).2,fun i p hp=>?_⟩;rw[List.getElem?_map] at hp;obtain⟨f,hf,rfl⟩:=Option.map_eq_some_iff.1 hp;have hi:=(L1a.1 hf).1;obtain⟨lv,sv,h1,h2,h3⟩:=h.new i f hi hf;have xa:∀j,j < 4->W.cell? ⟨gb,i*4+j,none⟩=({ f with lv:=lv,sv:=sv } : FrR).cells[j]?:=fun j hj=>by
  rw[hr.cellAt _ R4];exact D6 FrR.cells_len h1 hj
 obtain⟨la,lc,rfl,hl⟩:=T6.of_owns h2.row (L1c _);obtain⟨sa,sc,rfl,hs⟩:=T6.of_owns h3.row (L1c _);exact⟨la,lc,sa,sc,xa 2 R4,xa 3 R4,hl,hs⟩
end
section
variable {B c gb i mb:Nat} {R:McR} {W w w3 wr:World} {fl frs:List FrR} {g:PgR} {obs ol:List ObR} {own:Own}
def lB (obs:List ObR) (w:World) (e:Ending) (w':World):Prop :=
 ∃(v:Value) (ol:List ObR),e=.returned v/\w'.ownsRow w.heap.size 90 2 v obs.length (ol.flatMap ObR.cells)/\ol.length=obs.length /\
  (∀(k:Nat) (o:ObR),obs[k]?=some o->∃fv,ol[k]?=some { o with fv:=fv }/\w'.ownsRow w.heap.size 92 2 fv o.fl.length (A5 o.fl)) /\
  (∀(k k':Nat) (o o':ObR) (b:Nat),k < k'->k' < obs.length->ol[k]?=some o->ol[k']?=some o'->o.fv.ownBlock=some b->o'.fv.ownBlock=some b->False)/\Below w.heap.size w w'
structure eP (W:World) (B gb i:Nat) (obs ol:List ObR):Prop where
 c:cV W B gb i obs ol
 dis:∀(k k':Nat) (o o':ObR) (b:Nat),k < k'->k' < i->ol[k]?=some o->ol[k']?=some o'->o.fv.ownBlock=some b->o'.fv.ownBlock=some b->False
theorem eP.next {o:ObR} {v:Value} (h:eP wr B gb i obs ol) (hb:Below wr.heap.size wr w3) (ho:obs[i]?=some o) (hv:w3.ownsRow wr.heap.size 92 2 v o.fl.length (A5 o.fl)) (hg:gb < wr.heap.size) (hB:B<=wr.heap.size) (j:Nat) :
  eP (w3.setCell ⟨gb,j,none⟩ v) B gb (i+1) obs (ol.set i { o with fv:=v }):=by
 have xa:=h.c.len;have hi:i < ol.length:=by rw [xa];exact (L1a.1 ho).1
 refine⟨(h.c.later hb).next ho (X8.of_copy hv rfl hg hB) j,fun k k' p p' b hk hk' hp hp' h1 h2=>?_⟩;rw[List.getElem?_set_ne R4] at hp;by_cases e:k'=i
 ·subst e
  rw[List.getElem?_set_self hi] at hp'
  cases hp';have xc:=(hv.lt b h2).1;have xb:k < obs.length:=by rw [<- xa];omega
  obtain⟨u,q1,q2⟩:=h.c.new k _ R4 (L1b xb);rw[hp] at q1
  cases q1;have:=(q2.row.lt b h1).2;omega
 ·rw [List.getElem?_set_ne (Ne.symm e)] at hp'
  exact h.dis k k' p p' b hk R4 hp hp' h1 h2
theorem eP.whole (h:eP W w.heap.size gb obs.length obs ol) (hr:W.ownsRow w.heap.size 90 2 (.slice (some ⟨gb,0,none⟩) obs.length c) obs.length (ol.flatMap ObR.cells)) (hb:Below w.heap.size w W):lB obs w (.returned (.slice (some ⟨gb,0,none⟩) obs.length c)) W:=by
 refine⟨_,ol,rfl,hr,h.c.len,fun k o ho=>?_,h.dis,hb⟩;obtain⟨v,h1,h2⟩:=h.c.new k o (L1a.1 ho).1 ho;exact⟨v,h1,h2.row⟩
theorem nI (h:A4 w own mb g R) (hn:R.obs.length<=1000) (h0:0 < R.obs.length) (hf:∀o,o∈R.obs->o.fl.length<=1000) :
  Calls prog 51 #[.pointer (some ⟨mb,4,none⟩)] w fun e w'=>lB R.obs w e w':=by
 have c4:=h.c4;obtain⟨ca,cc,xo⟩:=G8 h.slots;rw[xo] at c4;have ye:mb < w.heap.size:=h.lt mb _ h.me;have xz:Hid (∀W,Below w.heap.size w W->Calls prog 91 #[.slice ca R.obs.length cc] W fun e w'=>K1 90 2 R.obs.length (R.obs.flatMap ObR.cells) W e w'):=fun W hW=>vB h hW hn xo
 have HH:=hid h;have HF:=hid hf;clear h hf xo;go_enter func51,ntmps51;go_wp2_with (go_at_call 91;refine (xz.out _ ?_).mono ?_;exact P5;rintro e w2 ⟨v2,rfl,xp,xs⟩;obtain ⟨gb,c2,rfl,xn,yd⟩:=xp.form h0;have xt:Hid (w2.ownsRow w.heap.size 90 2 (.slice (some ⟨gb,0,none⟩) R.obs.length c2) R.obs.length (R.obs.flatMap ObR.cells)):=E2 xp (by first | exact L1c _ | simp);have xv:Hid (Below w.heap.size w w2):=A6 xs P5;have xn:w.heap.size<=gb:=Nat.le_trans (by first | exact L1c _ | simp) xn;clear xp xs)
 go_loopw [12] (fun vi wr=>∃(i:Nat) (ol:List ObR),i<=R.obs.length/\vi=.int .i64 i/\eP wr w.heap.size gb i R.obs ol/\wr.ownsRow w.heap.size 90 2 (.slice (some ⟨gb,0,none⟩) R.obs.length c2) R.obs.length (ol.flatMap ObR.cells)/\Below w.heap.size w wr) (fun vi _=>R.obs.length - (intOf vi).toNat)
 case atStart=>exact ⟨0,R.obs,Nat.zero_le _,rfl,⟨⟨rfl,fun _ _=>rfl,fun k o hk=>by omega⟩,fun k k' o o' b _ hk=>by omega⟩,xt.out,xv.out⟩
 case round =>
  obtain⟨i,ol,hi,rfl,xc,xa,xb⟩:=hrel;clear xt xv;by_cases hlti:i < R.obs.length
  ·obtain ⟨o,xh⟩:∃o,R.obs[i]?=some o:=⟨_,L1b hlti⟩
   have xq:ol[i]?=some o:=(xc.c.old i (L1c _)).trans xh;have xi:gb < wr.heap.size:=(xa.lt gb rfl).2;have xd:∀j,j < 2->wr.cell? ⟨gb,i*2+j,none⟩=o.cells[j]?:=fun j hj=>by
    rw[xa.cellAt _ R4];exact D6 ObR.cells_len xq hj
   obtain⟨fa,fc,xj⟩:=G8 (HH.out.fld i o xh);have k1:wr.cell? ⟨gb,i*2+1,none⟩=some o.fv:=xd 1 R4;rw[xj] at k1;have z1:=xa.frozenAt (i*2+1);have xr:Hid (∀W,Below w.heap.size w W->Calls prog 90 #[.slice fa o.fl.length fc] W fun e w'=>K1 92 2 o.fl.length (A5 o.fl) W e w'):=fun W hW=>fY (HH.out.fld i o xh) xj hW (HF.out o (L2a xh))
   have xe:=hid xb;have xl:=hid xa;have xm:=hid xc;have xw:=hid xq;have xy:=hid xh;have yc:=xb.size;clear xd xa xb xc xj xq xh c4;go_wp2_with fail;refine (xr.out _ xe.out).mono ?_;rintro e w3 ⟨v3,rfl,xk,xg⟩;obtain⟨a3,c3,rfl⟩:=eY xk;have m1:=(xg.cell (p:=⟨gb,i*2+1,none⟩) xi).trans k1;have y1:=(xg.frozen (p:=⟨gb,i*2+1,none⟩) xi).trans z1;have yf:gb < w3.heap.size:=L0a xi xg.size
   have xu:w3.ownsRow w.heap.size 90 2 (.slice (some ⟨gb,0,none⟩) R.obs.length c2) R.obs.length (ol.flatMap ObR.cells):=A7 xl.out fun b hb'=>by
    obtain rfl:gb=b:=by simpa [Value.ownBlock] using hb'
    exact xg.block _ xi
   have xf:=(World.ownsRow.stored xu (i*2+1) (.slice a3 o.fl.length c3)).1;have e1:=G6 (c:=ObR.cells) ObR.cells_len (l:=ol) (i:=i) (j:=1) (x:=o) (y:={ o with fv:=.slice a3 o.fl.length c3 }) (u:=.slice a3 o.fl.length c3) xw.out R4 rfl;rw[<- e1] at xf;have ya:=hid xf;have xx:=hid (Below.setCell (A6 xg xe.out) (p:=⟨gb,i*2+1,none⟩) xn (.slice a3 o.fl.length c3));have yb:=hid (xm.out.next xg xy.out xk xi yc (i*2+1))
   clear xk xg xu xf e1 k1 z1;go_wp2_with fail;go_roundw
   case rel=>exact ⟨i+1,_,by omega,by go_num,yb.out,ya.out,xx.out⟩
   case measure=>simp [intOf];omega
  ·obtain rfl:i=R.obs.length:=by omega
   have xe:=hid xb;have HW:=hid (xc.whole xa xb);clear xb xa xc;go_wp2_with fail;go_ret;exact HW.out
def FrR.val (f:FrR) (t:Bool):Value:=if t then f.sv else f.lv
def kX (frs:List FrR) (w:World) (e:Ending) (w':World):Prop :=
 ∃(v:Value) (fl:List FrR),e=.returned v/\w'.ownsRow w.heap.size 86 4 v frs.length (fl.flatMap FrR.cells)/\fl.length=frs.length /\
  (∀(k:Nat) (f:FrR),frs[k]?=some f->∃lv sv,fl[k]?=some { f with lv:=lv,sv:=sv }/\w'.ownsRow w.heap.size 92 2 lv f.loc.length (A5 f.loc)/\w'.ownsRow w.heap.size 92 2 sv f.stk.length (A5 f.stk)/\∀b,v.ownBlock=some b->lv.ownBlock≠some b/\sv.ownBlock≠some b) /\
  (∀(k k':Nat) (t t':Bool) (f f':FrR) (b:Nat),(k < k'\/(k=k'/\t≠t'))->k' < frs.length->fl[k]?=some f->fl[k']?=some f'->(f.val t).ownBlock=some b->(f'.val t').ownBlock=some b->False)/\Below w.heap.size w w'
structure eQ (W:World) (B gb i:Nat) (frs fl:List FrR):Prop where
 c:R7 W B gb i frs fl
 dis:∀(k k':Nat) (t t':Bool) (f f':FrR) (b:Nat),(k < k'\/(k=k'/\t≠t'))->k' < i->fl[k]?=some f->fl[k']?=some f'->(f.val t).ownBlock=some b->(f'.val t').ownBlock=some b->False
theorem eQ.next {w4:World} {f:FrR} {lv sv:Value} (h:eQ wr B gb i frs fl) (hf:frs[i]?=some f) (hg:gb < wr.heap.size) (hB:B<=wr.heap.size)
  (hv3:w3.ownsRow wr.heap.size 92 2 lv f.loc.length (A5 f.loc)) (hb3:Below wr.heap.size wr w3) (j:Nat) (hv4:w4.ownsRow (w3.setCell ⟨gb,j,none⟩ lv).heap.size 92 2 sv f.stk.length (A5 f.stk)) (hb4:Below (w3.setCell ⟨gb,j,none⟩ lv).heap.size (w3.setCell ⟨gb,j,none⟩ lv) w4) (j':Nat) :
  eQ (w4.setCell ⟨gb,j',none⟩ sv) B gb (i+1) frs (fl.set i { f with lv:=lv,sv:=sv }):=by
 have xa:=h.c.len;have hi:i < fl.length:=by rw [xa];exact (L1a.1 hf).1
 have xb:(w3.setCell ⟨gb,j,none⟩ lv).heap.size=w3.heap.size:=by simp
 have xg:gb < w3.heap.size:=L0a hg hb3.size;have xi:X8 (w3.setCell ⟨gb,j,none⟩ lv) B gb lv f.loc:=(X8.of_copy hv3 rfl hg hB).set;have xf:R7 (w3.setCell ⟨gb,j,none⟩ lv) B gb i frs fl:=(h.c.later hb3).set;refine⟨((xf.later hb4).set).next hf ((xi.later hb4).set) ((X8.of_copy hv4 rfl (by rw [xb];exact xg) (by rw [xb];exact Nat.le_trans hB hb3.size)).set),fun k k' t t' p p' b hk hk' hp hp' h1 h2=>?_⟩
 have xc:∀k p t b,k < i->fl[k]?=some p->(p.val t).ownBlock=some b->b < wr.heap.size:=fun k p t b hk hp hb=>by
  have xh:k < frs.length:=by rw [<- xa];omega
  obtain⟨u,v,q1,q2,q3⟩:=h.c.new k _ hk (L1b xh);rw[hp] at q1
  cases q1
  cases t
  ·exact (q2.row.lt b hb).2
  ·exact (q3.row.lt b hb).2
 have xe:∀b,lv.ownBlock=some b->wr.heap.size<=b/\b < w3.heap.size:=fun b hb=>hv3.lt b hb
 have xd:∀b,sv.ownBlock=some b->w3.heap.size<=b:=fun b hb=>by have:=(hv4.lt b hb).1;rw [xb] at this;exact this
 have hz:=hb3.size;by_cases e:k'=i
 ·subst e
  rw[List.getElem?_set_self hi] at hp'
  cases hp';rcases hk with hk | ⟨rfl,hk⟩
  ·rw [List.getElem?_set_ne R4] at hp
   have q1:=xc k p t b hk hp h1
   cases t'
   ·have:=(xe b h2).1;omega
   ·have:=xd b h2;omega
  ·rw [List.getElem?_set_self hi] at hp
   cases hp
   cases t <;> cases t'
   ·exact hk rfl
   ·have:=(xe b h1).2;have:=xd b h2;omega
   ·have:=(xe b h2).2;have:=xd b h1;omega
   ·exact hk rfl
 ·rw [List.getElem?_set_ne (Ne.symm e)] at hp'
  rw[List.getElem?_set_ne R4] at hp;exact h.dis k k' t t' p p' b hk R4 hp hp' h1 h2
theorem eQ.whole (h:eQ W w.heap.size gb frs.length frs fl) (hr:W.ownsRow w.heap.size 86 4 (.slice (some ⟨gb,0,none⟩) frs.length c) frs.length (fl.flatMap FrR.cells)) (hb:Below w.heap.size w W):kX frs w (.returned (.slice (some ⟨gb,0,none⟩) frs.length c)) W:=by
 refine⟨_,fl,rfl,hr,h.c.len,fun k f hf=>?_,h.dis,hb⟩;obtain⟨lv,sv,h1,h2,h3⟩:=h.c.new k f (L1a.1 hf).1 hf;refine⟨lv,sv,h1,h2.row,h3.row,fun b hb=>?_⟩;obtain rfl:gb=b:=by simpa [Value.ownBlock] using hb
 exact⟨h2.ne,h3.ne⟩
theorem kL (h:A4 w own mb g R) (h0:0 < R.frs.length) (hn:R.frs.length<=1000) (hf:∀f,f∈R.frs->f.loc.length<=1000/\f.stk.length<=1000) :
  Calls prog 47 #[.pointer (some ⟨mb,3,none⟩)] w fun e w'=>kX R.frs w e w':=by
 have c3:=h.c3;obtain⟨ca,cc,xx⟩:=G8 h.called;rw[xx] at c3;have yv:mb < w.heap.size:=h.lt mb _ h.me;have yo:Hid (∀W,Below w.heap.size w W->Calls prog 89 #[.slice ca R.frs.length cc] W fun e w'=>K1 86 4 R.frs.length (R.frs.flatMap FrR.cells) W e w'):=fun W hW=>lK h hW hn xx
 have HH:=hid h;have HF:=hid hf;clear h hf xx;go_enter func47,ntmps47;go_wp2_with (go_at_call 89;refine (yo.out _ ?_).mono ?_;exact P5;rintro e w2 ⟨v2,rfl,xy,yb⟩;obtain ⟨gb,c2,rfl,xp,yu⟩:=xy.form h0;have yc:Hid (w2.ownsRow w.heap.size 86 4 (.slice (some ⟨gb,0,none⟩) R.frs.length c2) R.frs.length (R.frs.flatMap FrR.cells)):=E2 xy (by first | exact L1c _ | simp);have yf:Hid (Below w.heap.size w w2):=A6 yb P5;have xp:w.heap.size<=gb:=Nat.le_trans (by first | exact L1c _ | simp) xp;clear xy yb)
 go_loopw [12] (fun vi wr=>∃(i:Nat) (fl:List FrR),i<=R.frs.length/\vi=.int .i64 i/\eQ wr w.heap.size gb i R.frs fl/\wr.ownsRow w.heap.size 86 4 (.slice (some ⟨gb,0,none⟩) R.frs.length c2) R.frs.length (fl.flatMap FrR.cells)/\Below w.heap.size w wr) (fun vi _=>R.frs.length - (intOf vi).toNat)
 case atStart=>exact ⟨0,R.frs,Nat.zero_le _,rfl,⟨⟨rfl,fun _ _=>rfl,fun k o hk=>by omega⟩,fun k k' t t' o o' b _ hk=>by omega⟩,yc.out,yf.out⟩
 case round =>
  obtain⟨i,fl,hi,rfl,xc,xa,xb⟩:=hrel;clear yc yf;by_cases hlti:i < R.frs.length
  ·obtain ⟨f,xg⟩:∃f,R.frs[i]?=some f:=⟨_,L1b hlti⟩
   have xq:fl[i]?=some f:=(xc.c.old i (L1c _)).trans xg;have xk:gb < wr.heap.size:=(xa.lt gb rfl).2;have xd:∀j,j < 4->wr.cell? ⟨gb,i*4+j,none⟩=f.cells[j]?:=fun j hj=>by
    rw[xa.cellAt _ R4];exact D6 FrR.cells_len xq hj
   obtain⟨la,lc,xr⟩:=G8 (HH.out.loc i f xg);obtain⟨sa,sc,xt⟩:=G8 (HH.out.stk i f xg);have k2:wr.cell? ⟨gb,i*4+2,none⟩=some f.lv:=xd 2 R4;have k3:wr.cell? ⟨gb,i*4+3,none⟩=some f.sv:=xd 3 R4;rw[xr] at k2;rw[xt] at k3;have z2:=xa.frozenAt (i*4+2);have z3:=xa.frozenAt (i*4+3);have hm:=HF.out f (L2a xg);have xz:Hid (∀W,Below w.heap.size w W->Calls prog 90 #[.slice la f.loc.length lc] W fun e w'=>K1 92 2 f.loc.length (A5 f.loc) W e w'):=fun W hW=>fY (HH.out.loc i f xg) xr hW hm.1
   have xs:Hid (∀W,Below w.heap.size w W->Calls prog 90 #[.slice sa f.stk.length sc] W fun e w'=>K1 92 2 f.stk.length (A5 f.stk) W e w'):=fun W hW=>fY (HH.out.stk i f xg) xt hW hm.2
   have yl:=xb.size;have xj:=hid xb;have xu:=hid xa;have xm:=hid xc;have yp:=hid xq;have yj:=hid xg;clear xd xa xb xc xr xt xq xg c3;go_wp2_with fail;refine (xz.out _ xj.out).mono ?_;rintro e w3 ⟨v3,rfl,xw,xe⟩;obtain⟨a3,c3,rfl⟩:=eY xw;have m2:=(xe.cell (p:=⟨gb,i*4+2,none⟩) xk).trans k2;have m3:=(xe.cell (p:=⟨gb,i*4+3,none⟩) xk).trans k3;have y2:=(xe.frozen (p:=⟨gb,i*4+2,none⟩) xk).trans z2
   have y3:=(xe.frozen (p:=⟨gb,i*4+3,none⟩) xk).trans z3;have yr:gb < w3.heap.size:=L0a xk xe.size;have ya:Below w.heap.size w w3:=A6 xe xj.out;have yh:w3.ownsRow w.heap.size 86 4 (.slice (some ⟨gb,0,none⟩) R.frs.length c2) R.frs.length (fl.flatMap FrR.cells):=A7 xu.out fun b hb'=>by
    obtain rfl:gb=b:=by simpa [Value.ownBlock] using hb'
    exact xe.block _ xk
   have xn:=(World.ownsRow.stored yh (i*4+2) (.slice a3 f.loc.length c3)).1;have xl:Below w.heap.size w (w3.setCell ⟨gb,i*4+2,none⟩ (.slice a3 f.loc.length c3)):=Below.setCell ya xp _;have ys:=hid xn;have ye:=hid xl;have yd:=hid xw;have xo:=hid xe;clear xw xe ya yh xn xl k2 k3 z2 z3;go_wp2_with fail;refine (xs.out _ ye.out).mono ?_;rintro e w4 ⟨v4,rfl,xv,xh⟩;obtain⟨a4,c4,rfl⟩:=eY xv
   have xf:gb < (w3.setCell ⟨gb,i*4+2,none⟩ (.slice a3 f.loc.length c3)).heap.size:=by simpa using yr
   have x3:w4.cell? ⟨gb,i*4+3,none⟩=some (.slice sa f.stk.length sc):=(xh.cell (p:=⟨gb,i*4+3,none⟩) xf).trans Q9;have u3:w4.frozen? ⟨gb,i*4+3,none⟩=false:=(xh.frozen (p:=⟨gb,i*4+3,none⟩) xf).trans Q9;have yt:gb < w4.heap.size:=L0a xf xh.size;have yg:Below w.heap.size w w4:=A6 xh ye.out;have yi:w4.ownsRow w.heap.size 86 4 (.slice (some ⟨gb,0,none⟩) R.frs.length c2) R.frs.length ((fl.flatMap FrR.cells).set (i*4+2) (.slice a3 f.loc.length c3)):=A7 ys.out fun b hb'=>by
    obtain rfl:gb=b:=by simpa [Value.ownBlock] using hb'
    exact xh.block _ xf
   have xi:=(World.ownsRow.stored yi (i*4+3) (.slice a4 f.stk.length c4)).1;have e1:=G6 (c:=FrR.cells) FrR.cells_len (l:=fl) (i:=i) (j:=2) (x:=f) (y:={ f with lv:=.slice a3 f.loc.length c3 }) (u:=.slice a3 f.loc.length c3) yp.out R4 rfl;have yn:i < fl.length:=by rw [xm.out.c.len];exact hlti
   have e2:=G6 (c:=FrR.cells) FrR.cells_len (l:=fl.set i { f with lv:=.slice a3 f.loc.length c3 }) (i:=i) (j:=3) (x:={ f with lv:=.slice a3 f.loc.length c3 }) (y:={ f with lv:=.slice a3 f.loc.length c3,sv:=.slice a4 f.stk.length c4 }) (u:=.slice a4 f.stk.length c4) (by rw [List.getElem?_set_self yn]) R4 rfl;rw[<- e1,<- e2,List.set_set] at xi;have ym:=hid xi;have yq:=hid (Below.setCell yg (p:=⟨gb,i*4+3,none⟩) xp (.slice a4 f.stk.length c4))
   have yk:=hid (xm.out.next yj.out xk yl yd.out xo.out (i*4+2) xv xh (i*4+3));clear xv xh yg yi xi e1 e2 m2 m3 y2 y3 yd xo;go_wp2_with fail;go_roundw
   case rel=>exact ⟨i+1,_,by omega,by go_num,yk.out,ym.out,yq.out⟩
   case measure=>simp [intOf];omega
  ·obtain rfl:i=R.frs.length:=by omega
   have xj:=hid xb;have HW:=hid (xc.whole xa xb);clear xb xa xc;go_wp2_with fail;go_ret;exact HW.out
theorem kK (h:A4 w own mb g R) (h0:R.frs=[]) :
  Calls prog 47 #[.pointer (some ⟨mb,3,none⟩)] w fun e w'=>kX R.frs w e w':=by
 have c3:=h.c3;obtain⟨ca,cc,xa⟩:=G8 h.called;rw[xa] at c3;have xg:mb < w.heap.size:=h.lt mb _ h.me;have xf:Hid (∀W,Below w.heap.size w W->Calls prog 89 #[.slice ca 0 cc] W fun e w'=>K1 86 4 0 [] W e w'):=fun W hW=>by
  have:=lK h hW (by rw [h0];simp) xa;rw[h0] at this;exact this
 rw[h0] at c3;simp only[List.length_nil] at c3;rw[h0];clear h xa h0;go_enter func47,ntmps47;go_wp2_with (go_at_call 89;refine (xf.out _ ?_).mono ?_;exact P5;rintro e w2 ⟨v2,rfl,xb,xc⟩;obtain ⟨a2,c2,rfl⟩:=eY xb;have xd:Hid (w2.ownsRow w.heap.size 86 4 (.slice a2 0 c2) 0 []):=E2 xb (by first | exact L1c _ | simp);have xe:Hid (Below w.heap.size w w2):=A6 xc P5;clear xb xc)
 go_loopw [12] (fun vi wr=>vi=.int .i64 0/\w2=wr) (fun _ _=>0)
 case atStart=>exact ⟨rfl,by first | rfl | trivial⟩
 case round =>
  obtain⟨rfl,rfl⟩:=hrel;go_wp2_with fail;go_ret;exact⟨_,[],rfl,xd.out,rfl,fun k f hf=>by simp at hf,fun k k' t t' f f' b _ hk=>by simp at hk,xe.out⟩
theorem lM (h:A4 w own mb g R) (hn:R.frs.length<=1000) (hf:∀f,f∈R.frs->f.loc.length<=1000/\f.stk.length<=1000) :
  Calls prog 47 #[.pointer (some ⟨mb,3,none⟩)] w fun e w'=>kX R.frs w e w':=by
 rcases Nat.eq_zero_or_pos R.frs.length with h0 | h0
 ·exact kK h (List.length_eq_zero_iff.1 h0)
 ·exact kL h h0 hn hf
end
end Go.Proofs.YtbkmgoffiigdbaaGreatDoor
