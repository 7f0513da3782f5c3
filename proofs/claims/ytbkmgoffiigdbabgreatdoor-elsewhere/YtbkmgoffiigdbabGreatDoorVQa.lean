import Derived.Test.YtbkmgoffiigdbabGreatDoorVPd
import Derived.Test.YtbkmgoffiigdbabGreatDoorVN
namespace Go.Proofs.YtbkmgoffiigdbabGreatDoor
open Go.RowKit Go.Sort
set_option maxHeartbeats 4000000
set_option maxRecDepth 100000
structure jX (F F':E6):Prop where
 n:F'.n=F.n
 pop:∀a,a < F.n→F'.pop a=F.pop a
 push:∀a,F'.push a=F.push a
 next:∀a,F'.next a=F.next a
theorem jX.reach {F F':E6} (h:jX F F') (hF:F.Fits) {a:Nat} {b:Int} (hr:F.Reach a b):F'.Reach a b:=by
 have key:F.Reach a b∧F'.Reach a b:=by
  refine hr (fun a b=>F.Reach a b∧F'.Reach a b) ⟨E6.reach_first F,E6.reach_first F'⟩ ?_;rintro a b c ⟨h1,h2⟩ hc;refine⟨E6.reach_next h1 hc,?_⟩;have h3:=E6.reach_next h2 (c:=c) (by rw [h.next];exact hc);have e:F'.behind a b=F.behind a b:=by
   unfold E6.behind;rw[h.pop a (hF.1 a b h1).1,h.push]
  rw[e] at h3;exact h3
 exact key.2
theorem jX.back {F F':E6} (h:jX F F') (hF:F.Fits) {a:Nat} {b:Int} (hr:F'.Reach a b):F.Reach a b:=by
 refine hr (fun a b=>F.Reach a b) (E6.reach_first F) ?_;intro a b c h1 hc;have h3:=E6.reach_next h1 (c:=c) (by rw [← h.next];exact hc);have e:F'.behind a b=F.behind a b:=by
  unfold E6.behind;rw[h.pop a (hF.1 a b h1).1,h.push]
 rw[e];exact h3
theorem jX.fits {F F':E6} (h:jX F F') (hF:F.Fits):F'.Fits:=by
 refine⟨fun a b hr=>?_,fun a b b' h1 h2=>hF.2 a b b' (h.back hF h1) (h.back hF h2)⟩;have h1:=h.back hF hr;obtain⟨q1,q2,q3⟩:=hF.1 a b h1;refine⟨by rw [h.n];exact q1,by rw [h.pop a q1];exact q2,?_⟩;unfold E6.behind at q3 ⊢;rw[h.pop a q1,h.push];exact q3
theorem aQ.flow {g g':PgR} (hp:F2 g) (h:aQ g g') {i:Nat} (hi:i < g.n):jX (A7 g (g.f i)) (A7 g' (g'.f i)):=by
 obtain⟨_,hj⟩:=h;obtain⟨q1,q2,q3,q4,q5⟩:=hj i hi;refine⟨q3,fun a ha=>?_,fun a=>by show J9 ((g'.f i).op a)=J9 ((g.f i).op a);rw [q4],fun a=>by show D2 a ((g'.f i).op a) ((g'.f i).ar a)=D2 a ((g.f i).op a) ((g.f i).ar a);rw [q4,q5]⟩;show G1 ((g'.f i).op a) (g'.f ((g'.f i).ar a).toNat).p=G1 ((g.f i).op a) (g.f ((g.f i).ar a).toNat).p;rw[q4,q5];by_cases h14:(g.f i).op a=14
 ·have hl:D3 g.n (g.f i).l (g.f i).n ((g.f i).op a) ((g.f i).ar a)=true:=hp.legal i hi a ha
  have hc:=L9 hl h14;rw[(hj ((g.f i).ar a).toNat Q8).1]
 ·unfold G1
  rw[if_neg h14,if_neg h14]
theorem aQ.pgOk {g g':PgR} (hp:F2 g) (h:aQ g g'):F2 g':=by
 have hn:=h.1;refine⟨⟨by rw [hn];exact hp.sized.1,by rw [hn];exact hp.sized.2.1,fun i hi=>?_⟩,fun i hi j hj=>?_,fun i hi=>?_⟩
 ·rw [hn] at hi
  obtain⟨q1,q2,q3,q4,q5⟩:=h.2 i hi;rw[q1,q2,q3];exact hp.sized.2.2 i hi
 ·rw [hn] at hi
  obtain⟨q1,q2,q3,q4,q5⟩:=h.2 i hi;rw[q3] at hj;have:=hp.legal i hi j hj;unfold Y5 at this ⊢;rw[hn,q2,q3,q4,q5];exact this
 ·rw [hn] at hi
  exact (h.flow hp hi).fits (hp.fits i hi)
theorem aQ.frOk {g g':PgR} (hp:F2 g) (h:aQ g g') {f:FrA} {q:Int} (hf:bY g f q):bY g' f q:=by
 obtain⟨q1,q2,q3,q4,q5⟩:=h.2 f.fn hf.fn;exact⟨by rw [h.1];exact hf.fn,by rw [q2];exact hf.loc,(h.flow hp hf.fn).reach (hp.fits _ hf.fn) hf.reach⟩
theorem aQ.lower {g g':PgR} (hp:F2 g) (h:aQ g g'):∀(l:List FrA) (fn:Nat),fn < g.n→cW g fn l→cW g' fn l
 | [],_,_,hl=>hl
 | c::r,fn,hfn,hl=>by
  obtain⟨h1,h2,h3,h4⟩:=hl;obtain⟨q1,q2,q3,q4,q5⟩:=h.2 c.fn h1.fn;refine⟨?_,by rw [q4];exact h2,by rw [q5];exact h3,h.lower hp r c.fn h1.fn h4⟩;rw[(h.2 fn hfn).1];exact h.frOk hp h1
theorem aQ.inv {g g':PgR} (hp:F2 g) (h:aQ g g') {s:McA} (hi:C1 g s):C1 g' s:=by
 refine⟨hi.run,?_,hi.depth,hi.vals,hi.obs,hi.cap,hi.out,hi.dr⟩;have:=hi.frs
 revert this
 cases s.frs.reverse with
 | nil=>exact fun _=>trivial
 | cons f r=>exact fun hf=>⟨h.frOk hp hf.1,h.lower hp r f.fn hf.1.fn hf.2⟩
theorem a5V {g g':PgR} (h:aQ g g') {k:Nat} {a:Int} (ha:k=14→0≤a∧a < g.n) (s:McA) (fs:List FrA) (f:FrA) (rest args:List Val):doA g' k a s fs f rest args=doA g k a s fs f rest args:=by
 by_cases h14:k=14
 ·subst h14
  have e:∀g:PgR,doA g 14 a s fs f rest args=bD g a s fs f rest args:=fun g=>by cases args <;> rfl
  rw[e,e];unfold bD;rw[(h.2 a.toNat (by have:=ha rfl;omega)).2.1]
 ·unfold doA
  split <;> first | rfl | (exfalso;exact h14 rfl)
theorem a2z {g g':PgR} (hp:F2 g) (h:aQ g g') {s:McA} (hi:C1 g s) (h0:s.st=0):W0 g' s=W0 g s:=by
 have hne:=hi.run h0;obtain⟨k,a,rest,args,hk,o,e⟩:=hi.opAt hp (List.dropLast_concat_getLast hne).symm;obtain⟨k',a',rest',args',hk',o',e'⟩:=(h.inv hp hi).opAt (h.pgOk hp) (List.dropLast_concat_getLast hne).symm;obtain⟨h1,_⟩:=hi.top (List.dropLast_concat_getLast hne).symm;obtain⟨q1,q2,q3,q4,q5⟩:=h.2 _ h1.fn;have ek:k'=k:=by have:=o.op;have h2:=o'.op;rw [q4,this] at h2;omega
 have ea:a'=a:=by have:=o.ar;have h2:=o'.ar;rw [q5,this] at h2;exact h2.symm
 subst ek ea;have hc:k'=14→0≤a'∧a' < g.n:=fun e14=>by
  obtain⟨_,hl,_,_⟩:=h1.at hp;have hl':D3 g.n (g.f (s.frs.getLast hne).fn).l (g.f (s.frs.getLast hne).fn).n ((g.f (s.frs.getLast hne).fn).op (s.frs.getLast hne).pc) ((g.f (s.frs.getLast hne).fn).ar (s.frs.getLast hne).pc)=true:=hl;have:=L9 hl' (by rw [o.op,e14];rfl);rw[o.ar] at this;exact this
 have el:args'.length=args.length:=by
  have h1:=o.pops;have h2:=o'.pops;by_cases e14:k'=14
  ·rw [(h.2 a'.toNat (by have:=hc e14;omega)).1,h1] at h2
   omega
  ·unfold G1 at h1 h2
   have h14:¬(k':Int)=14:=by omega
   rw[if_neg h14] at h1 h2;rw[h1] at h2;omega
 have es:rest'=rest∧args'=args:=by
  have h3:=o.stk;have h4:=o'.stk;rw[h3] at h4;have hr:rest.length=rest'.length:=by have:=congrArg List.length h4;simp at this;omega
  have:=List.append_inj h4 hr;exact⟨this.1.symm,this.2.symm⟩
 rw[e,e',es.1,es.2];exact a5V h hc _ _ _ _ _
theorem nK {g g':PgR} (hp:F2 g) (h:aQ g g'):∀(n:Nat) {s:McA},C1 g s→runA g' n s=runA g n s∧G4 g' n s=G4 g n s
 | 0,_,_=>⟨rfl,rfl⟩
 | n+1,s,hi=>by
  rw[runA,runA,G4,G4];by_cases h0:s.st=0
  ·rw [if_pos h0,if_pos h0,if_pos h0,if_pos h0,a2z hp h hi h0]
   have:=nK hp h n (eU hp hi h0);exact⟨this.1,by rw [this.2]⟩
  ·rw [if_neg h0,if_neg h0,if_neg h0,if_neg h0]
   exact⟨rfl,rfl⟩
theorem A3.beside {w w':World} {own:Own} {mb:Nat} {g:PgR} {R:McR} (h:A3 w own mb g R) (hs:w.heap.size≤w'.heap.size) (hb:∀k,k < w.heap.size→(own k≠none∨g.blk k∨k=0)→w'.heap[k]?=w.heap[k]?):A3 w' own mb g R:=by
 have hmb:=hb mb (h.lt mb _ h.me) (Or.inl (by rw [h.me];simp));have keep:∀t k,own k=some t→w'.heap[k]?=w.heap[k]?∧own k=some t:=fun t k hk=>⟨hb k (h.lt k t hk) (Or.inl (by rw [hk];simp)),hk⟩
 refine⟨fun k t hk=>Nat.lt_of_lt_of_le (h.lt k t hk) hs,h.me,?_,?_,?_,?_,?_,?_,h.out.kept (keep _),h.called.kept (keep _),h.slots.kept (keep _),fun i f hf=>(h.loc i f hf).kept (keep _),fun i f hf=>(h.stk i f hf).kept (keep _),
  fun j o ho=>(h.fld j o ho).kept (keep _),h.pg.held hs fun k hk=>hb k (h.pg.blk_lt hk) (Or.inr (Or.inl hk)),h.ro,h.tab.held hs (hb 0 h.tab.1 (Or.inr (Or.inr rfl))),h.ro0,?_,h.draws.kept (keep _)⟩
 ·rw [World.cell?_of_block (w:=w) (a:=⟨mb,0,none⟩) hmb];exact h.c0
 ·rw [World.cell?_of_block (w:=w) (a:=⟨mb,1,none⟩) hmb];exact h.c1
 ·rw [World.cell?_of_block (w:=w) (a:=⟨mb,2,none⟩) hmb];exact h.c2
 ·rw [World.cell?_of_block (w:=w) (a:=⟨mb,3,none⟩) hmb];exact h.c3
 ·rw [World.cell?_of_block (w:=w) (a:=⟨mb,4,none⟩) hmb];exact h.c4
 ·intro j;rw [World.frozen?_of_block (w:=w) (a:=⟨mb,j,none⟩) hmb];exact h.fz j
 ·rw [World.cell?_of_block (w:=w) (a:=⟨mb,5,none⟩) hmb];exact h.c5
def I8 (ty size n:Nat) (xs:List Value) (w:World) (e:Ending) (w':World):Prop :=
 ∃v,e=.returned v∧w'.ownsRow w.heap.size ty size v n xs∧Below w.heap.size w w'
theorem yU (d:Addr) (n c:Nat) (xs:List Value) (w:World) (hm:n≤100000) (hl:xs.length=n*2) (hx:∀W,Below w.heap.size w W→∀j u,xs[j]?=some u→W.cell? (d.add j)=some u) (h1:∀u∈xs,u.oneCell'=true) :
  Calls Tryz.prog 57 #[.slice (some d) n c] w fun e w'=>I8 73 2 n xs w e w':=by
 have HX:=hid hx;have HL:=hid hl;have H1:=hid h1;clear hx hl h1;go_enter Tryz.func57,Tryz.ntmps57;have heq:∀W:World,(binOp .eql 45 (.slice (some d) n c) (.slice none 0 0)).run Tryz.prog W=.ok (.bool false) W:=fun W=>Go.Lib.run_eql_slice_nil W 45 73 _ n c 0 0 Tryz.underlying45
 obtain⟨i,hi,hz,hsz,hby⟩:=info_parts Z7;have HI:=hid hi;have HZ:=hid hz;have HSZ:=hid hsz;have HBY:=hid hby;clear hi hz hsz hby;go_wp2_with (at_builtin;go_must (refine C8 _ rfl (.tmp 5) (.tmp 6) 45 rfl w.heap.size 73 i _ 2 16 Tryz.underlying45 HI.out HZ.out HSZ.out HBY.out rfl Q7 (.slice (some ⟨w.heap.size,0,none⟩) 0 0) 0 [] rfl (World.ownsRow_made w #[] 0 (Nat.le_refl _) (Nat.zero_le _) rfl) (some d) n c xs rfl HL.out (fun _=>⟨d,rfl,HX.out _ (Below.alloc (Below.refl _ _) (Nat.le_refl _) _)⟩) H1.out Q0 Q8 Q9 ?_))
 intro v' w5 hown hgrow _;have HB:Hid (Below w.heap.size w w5):=X7 (v:=.slice (some ⟨w.heap.size,0,none⟩) 0 0) (Below.alloc (Below.refl _ _) (Nat.le_refl _) _) rfl (Nat.le_refl _) hgrow;have ho:w5.ownsRow w.heap.size 73 2 v' n xs:=by simpa using hown
 have HO:=hid ho;clear hown hgrow ho;go_wp2_with fail;go_ret;exact⟨v',rfl,HO.out,HB.out⟩
theorem a1j (n c:Nat) (w:World):Calls Tryz.prog 57 #[.slice none n c] w fun e w'=>I8 73 2 0 [] w e w':=by
 have heq:∀W:World,(binOp .eql 45 (.slice none n c) (.slice none 0 0)).run Tryz.prog W=.ok (.bool true) W:=fun W=>Go.Lib.run_eql_slice_nil W 45 73 none n c 0 0 Tryz.underlying45
 go_enter Tryz.func57,Tryz.ntmps57;go_wp2_with fail;go_ret;exact⟨_,rfl,World.ownsRow_nil _ _ _ _,Below.refl _ _⟩
theorem X5 {w W:World} {own:Own} {t:Tag} {v:Value} {l:List Val} {a:Option Addr} {c:Nat} (h:Row w own t 73 2 v l.length (A5 l)) (hv:v=.slice a l.length c) (hB:Below w.heap.size w W) (hm:l.length≤1000) :
  Calls Tryz.prog 57 #[.slice a l.length c] W fun e w'=>I8 73 2 l.length (A5 l) W e w':=by
 cases a with
 | none =>
  have h0:l.length=0:=by
   rcases Nat.eq_zero_or_pos l.length with h0 | h0
   ·exact h0
   ·obtain ⟨d,hd,_⟩:=h.src hv hB h0;cases hd
  have h00:=List.length_eq_zero_iff.1 h0;subst h00;exact a1j _ _ _
 | some d =>
  refine yU d l.length c (A5 l) W Q8 (K1 _) (fun V hV j u hu=>?_) (bQ _);have hj:=(List.getElem?_eq_some_iff.1 hu).1;rw[K1] at hj;obtain⟨d',hd,hc⟩:=h.src hv (A1 hV hB) Q8
  cases hd;exact hc j u hu
theorem yS (d:Addr) (n c:Nat) (xs:List Value) (w:World) (hm:n≤100000) (hl:xs.length=n*4) (hx:∀W,Below w.heap.size w W→∀j u,xs[j]?=some u→W.cell? (d.add j)=some u) (h1:∀u∈xs,u.oneCell'=true) :
  Calls Tryz.prog 58 #[.slice (some d) n c] w fun e w'=>I8 83 4 n xs w e w':=by
 have HX:=hid hx;have HL:=hid hl;have H1:=hid h1;clear hx hl h1;go_enter Tryz.func58,Tryz.ntmps58;have heq:∀W:World,(binOp .eql 47 (.slice (some d) n c) (.slice none 0 0)).run Tryz.prog W=.ok (.bool false) W:=fun W=>Go.Lib.run_eql_slice_nil W 47 83 _ n c 0 0 Tryz.underlying47
 obtain⟨i,hi,hz,hsz,hby⟩:=info_parts wE;have HI:=hid hi;have HZ:=hid hz;have HSZ:=hid hsz;have HBY:=hid hby;clear hi hz hsz hby;go_wp2_with (at_builtin;go_must (refine C8 _ rfl (.tmp 5) (.tmp 6) 47 rfl w.heap.size 83 i _ 4 64 Tryz.underlying47 HI.out HZ.out HSZ.out HBY.out rfl Q7 (.slice (some ⟨w.heap.size,0,none⟩) 0 0) 0 [] rfl (World.ownsRow_made w #[] 0 (Nat.le_refl _) (Nat.zero_le _) rfl) (some d) n c xs rfl HL.out (fun _=>⟨d,rfl,HX.out _ (Below.alloc (Below.refl _ _) (Nat.le_refl _) _)⟩) H1.out Q0 Q8 Q9 ?_))
 intro v' w5 hown hgrow _;have HB:Hid (Below w.heap.size w w5):=X7 (v:=.slice (some ⟨w.heap.size,0,none⟩) 0 0) (Below.alloc (Below.refl _ _) (Nat.le_refl _) _) rfl (Nat.le_refl _) hgrow;have ho:w5.ownsRow w.heap.size 83 4 v' n xs:=by simpa using hown
 have HO:=hid ho;clear hown hgrow ho;go_wp2_with fail;go_ret;exact⟨v',rfl,HO.out,HB.out⟩
theorem a1h (n c:Nat) (w:World):Calls Tryz.prog 58 #[.slice none n c] w fun e w'=>I8 83 4 0 [] w e w':=by
 have heq:∀W:World,(binOp .eql 47 (.slice none n c) (.slice none 0 0)).run Tryz.prog W=.ok (.bool true) W:=fun W=>Go.Lib.run_eql_slice_nil W 47 83 none n c 0 0 Tryz.underlying47
 go_enter Tryz.func58,Tryz.ntmps58;go_wp2_with fail;go_ret;exact⟨_,rfl,World.ownsRow_nil _ _ _ _,Below.refl _ _⟩
theorem qW {own:Own} {mb:Nat} {g:PgR} {R:McR} {w:World} (h:A3 w own mb g R):∀u∈R.frs.flatMap FrR.cells,u.oneCell'=true:=by
 intro u hu;obtain⟨f,hf,hu⟩:=List.mem_flatMap.1 hu;obtain⟨i,hi⟩:=List.mem_iff_getElem?.1 hf;obtain⟨la,lc,hlv⟩:=C6 (h.loc i f hi);obtain⟨sa,sc,hsv⟩:=C6 (h.stk i f hi);simp only[FrR.cells,List.mem_cons,List.not_mem_nil,or_false] at hu;rcases hu with rfl | rfl | rfl | rfl
 ·rfl
 ·rfl
 ·rw [hlv];rfl
 ·rw [hsv];rfl
theorem fK {own:Own} {mb:Nat} {g:PgR} {R:McR} {w W:World} (h:A3 w own mb g R) (hB:Below w.heap.size w W) (hn:R.frs.length≤1000) {a:Option Addr} {c:Nat} (hv:R.cv=.slice a R.frs.length c) :
  Calls Tryz.prog 58 #[.slice a R.frs.length c] W fun e w'=>I8 83 4 R.frs.length (R.frs.flatMap FrR.cells) W e w':=by
 cases a with
 | none =>
  have h0:R.frs.length=0:=by
   rcases h.called.1.2 with ⟨_,e⟩ | ⟨_,_,_,e,_⟩
   ·exact e
   ·rw [hv] at e;cases e
  have h00:=List.length_eq_zero_iff.1 h0;rw[h00];exact a1h _ _ _
 | some d =>
  refine yS d R.frs.length c _ W Q8 (dA FrR.cells_len _) (fun V hV j u hu=>?_) (qW h);have hj:=(List.getElem?_eq_some_iff.1 hu).1;rw[dA FrR.cells_len] at hj;obtain⟨b,c',e,_,hb⟩:=h.called.1.form Q8;have hrow:=h.called.1;rw[hv] at e
  cases e;rw[hv] at hrow;rw[X1,(A1 hV hB).cell (p:=⟨b,j,none⟩) hb,hrow.cellAt j hj];exact hu
theorem B0 {w:World} {B e size n:Nat} {v:Value} {xs:List Value} (h:w.ownsRow B e size v n xs):∃a c,v=.slice a n c:=by
 rcases h.2 with ⟨e,e0⟩ | ⟨gb,cap,_,e,_⟩
 ·exact ⟨none,0,by rw [e,e0]⟩
 ·exact ⟨_,_,e⟩
theorem qK {own:Own} {mb:Nat} {g:PgR} {R:McR} {w:World} (h:A3 w own mb g R) (hn:R.frs.length≤1000) (hf:∀f,f∈R.frs→f.loc.length≤1000∧f.stk.length≤1000) :
  Calls Tryz.prog 35 #[.pointer (some ⟨mb,3,none⟩)] w fun e w'=>(∃a c,e=.returned (.slice a R.frs.length c))∧Below w.heap.size w w':=by
 have c3:=h.c3;obtain⟨ca,cc,hcv⟩:=C6 h.called;rw[hcv] at c3;have hmb:mb < w.heap.size:=h.lt mb _ h.me;have HCL:Hid (∀W,Below w.heap.size w W→Calls Tryz.prog 58 #[.slice ca R.frs.length cc] W fun e w'=>I8 83 4 R.frs.length (R.frs.flatMap FrR.cells) W e w'):=fun W hW=>fK h hW hn hcv
 have HH:=hid h;have HF:=hid hf;clear h hf hcv;go_enter Tryz.func35,Tryz.ntmps35;go_wp2_with (go_at_call 58;refine (HCL.out _ ?_).mono ?_;exact P0;rintro e w2 ⟨v2,rfl,hv2,hb2⟩;obtain ⟨a2,c2,rfl⟩:=B0 hv2;have HV2:=hid hv2;have HB2:Hid (Below w.heap.size w w2):=A1 hb2 P0;clear hv2 hb2)
 go_loopw [12] (fun vi wr=>∃(i:Nat) (fl:List FrR),i≤R.frs.length∧vi=.int .i64 i∧fl.length=R.frs.length∧(∀k,i≤k→fl[k]?=R.frs[k]?)∧wr.ownsRow w.heap.size 83 4 (.slice a2 R.frs.length c2) R.frs.length (fl.flatMap FrR.cells)∧Below w.heap.size w wr) (fun vi _=>R.frs.length - (intOf vi).toNat)
 case atStart=>exact ⟨0,R.frs,Nat.zero_le _,rfl,rfl,fun _ _=>rfl,C5 HV2.out Q9,HB2.out⟩
 case round =>
  obtain⟨i,fl,hi,rfl,hlen,hsame,hrow,hbel⟩:=hrel;by_cases hlti:i < R.frs.length
  ·obtain ⟨f,hfi⟩:∃f,R.frs[i]?=some f:=⟨_,List.getElem?_eq_getElem hlti⟩
   have hfl:fl[i]?=some f:=(hsame i (Nat.le_refl _)).trans hfi;obtain⟨gb,gc,e,hgB,hgb⟩:=hrow.form Q8
   cases e;have hcell:∀j,j < 4→wr.cell? ⟨gb,i*4+j,none⟩=f.cells[j]?:=fun j hj=>by
    rw[hrow.cellAt _ Q8];exact C3 FrR.cells_len hfl hj
   obtain⟨la,lc,hlv⟩:=C6 (HH.out.loc i f hfi);obtain⟨sa,sc,hsv⟩:=C6 (HH.out.stk i f hfi);have k2:wr.cell? ⟨gb,i*4+2,none⟩=some f.lv:=hcell 2 Q8;have k3:wr.cell? ⟨gb,i*4+3,none⟩=some f.sv:=hcell 3 Q8;rw[hlv] at k2;rw[hsv] at k3;have z2:=hrow.frozenAt (i*4+2);have z3:=hrow.frozenAt (i*4+3);have hm:=HF.out f (List.mem_of_getElem? hfi);have HCL1:Hid (∀W,Below w.heap.size w W→Calls Tryz.prog 57 #[.slice la f.loc.length lc] W fun e w'=>I8 73 2 f.loc.length (A5 f.loc) W e w'):=fun W hW=>X5 (HH.out.loc i f hfi) hlv hW hm.1
   have HCL2:Hid (∀W,Below w.heap.size w W→Calls Tryz.prog 57 #[.slice sa f.stk.length sc] W fun e w'=>I8 73 2 f.stk.length (A5 f.stk) W e w'):=fun W hW=>X5 (HH.out.stk i f hfi) hsv hW hm.2
   have hws:=hbel.size;have HBEL:=hid hbel;have HROW:=hid hrow;have HSAME:=hid hsame;have HFL:=hid hfl;clear hcell hrow hbel hsame hlv hsv hfl hfi c3;go_wp2_with fail;refine (HCL1.out _ HBEL.out).mono ?_;rintro e w3 ⟨v3,rfl,hv3,hb3⟩;obtain⟨a3,c3,rfl⟩:=B0 hv3;have m2:=(hb3.cell (p:=⟨gb,i*4+2,none⟩) hgb).trans k2;have m3:=(hb3.cell (p:=⟨gb,i*4+3,none⟩) hgb).trans k3;have y2:=(hb3.frozen (p:=⟨gb,i*4+2,none⟩) hgb).trans z2
   have y3:=(hb3.frozen (p:=⟨gb,i*4+3,none⟩) hgb).trans z3;have hg3:gb < w3.heap.size:=Nat.lt_of_lt_of_le hgb hb3.size;have hB3:Below w.heap.size w w3:=A1 hb3 HBEL.out;have hR3:w3.ownsRow w.heap.size 83 4 (.slice (some ⟨gb,0,none⟩) R.frs.length c2) R.frs.length (fl.flatMap FrR.cells):=A2 HROW.out fun b hb'=>by
    obtain rfl:gb=b:=by simpa [Value.ownBlock] using hb'
    exact hb3.block _ hgb
   have hR3':=(World.ownsRow.stored hR3 (i*4+2) (.slice a3 f.loc.length c3)).1;have hB3':Below w.heap.size w (w3.setCell ⟨gb,i*4+2,none⟩ (.slice a3 f.loc.length c3)):=Below.setCell hB3 hgB _;have HR3:=hid hR3';have HB3:=hid hB3';clear hv3 hb3 hB3 hR3 hR3' hB3' k2 k3 z2 z3;go_wp2_with fail;refine (HCL2.out _ HB3.out).mono ?_;rintro e w4 ⟨v4,rfl,hv4,hb4⟩;obtain⟨a4,c4,rfl⟩:=B0 hv4;have hg4':gb < (w3.setCell ⟨gb,i*4+2,none⟩ (.slice a3 f.loc.length c3)).heap.size:=by simpa using hg3
   have x3:w4.cell? ⟨gb,i*4+3,none⟩=some (.slice sa f.stk.length sc):=(hb4.cell (p:=⟨gb,i*4+3,none⟩) hg4').trans Q6;have u3:w4.frozen? ⟨gb,i*4+3,none⟩=false:=(hb4.frozen (p:=⟨gb,i*4+3,none⟩) hg4').trans Q6;have hg4:gb < w4.heap.size:=Nat.lt_of_lt_of_le hg4' hb4.size;have hB4:Below w.heap.size w w4:=A1 hb4 HB3.out;have hR4:w4.ownsRow w.heap.size 83 4 (.slice (some ⟨gb,0,none⟩) R.frs.length c2) R.frs.length ((fl.flatMap FrR.cells).set (i*4+2) (.slice a3 f.loc.length c3)):=A2 HR3.out fun b hb'=>by
    obtain rfl:gb=b:=by simpa [Value.ownBlock] using hb'
    exact hb4.block _ hg4'
   have hR4':=(World.ownsRow.stored hR4 (i*4+3) (.slice a4 f.stk.length c4)).1;have e1:=L5 (c:=FrR.cells) FrR.cells_len (l:=fl) (i:=i) (j:=2) (x:=f) (y:={ f with lv:=.slice a3 f.loc.length c3 }) (u:=.slice a3 f.loc.length c3) HFL.out Q8 rfl;have hil:i < fl.length:=by omega
   have e2:=L5 (c:=FrR.cells) FrR.cells_len (l:=fl.set i { f with lv:=.slice a3 f.loc.length c3 }) (i:=i) (j:=3) (x:={ f with lv:=.slice a3 f.loc.length c3 }) (y:={ f with lv:=.slice a3 f.loc.length c3,sv:=.slice a4 f.stk.length c4 }) (u:=.slice a4 f.stk.length c4) (List.getElem?_set_self hil) Q8 rfl;rw[← e1,← e2,List.set_set] at hR4';have HR4:=hid hR4';have HB4:=hid (Below.setCell hB4 (p:=⟨gb,i*4+3,none⟩) hgB (.slice a4 f.stk.length c4))
   clear hv4 hb4 hB4 hR4 hR4' e1 e2 m2 m3 y2 y3;go_wp2_with fail;go_roundw
   case rel=>exact ⟨i+1,_,by omega,by go_num,by rw [List.length_set];exact hlen,fun k hk=>by rw [List.getElem?_set_ne Q8];exact HSAME.out k Q8,HR4.out,HB4.out⟩
   case measure=>simp [intOf];omega
  ·have HBEL:=hid hbel
   clear hbel hrow hsame;go_wp2_with fail;go_ret;exact⟨⟨_,_,rfl⟩,HBEL.out⟩
def kZ (g:PgR) (cap:Nat) (w:World) (e:Ending) (w':World):Prop :=
 ∃own mb g' R,e=.returned (.tuple #[.pointer (some ⟨mb,0,none⟩),.int .i64 0])∧A3 w' own mb g' R∧xZ g cap R∧aQ g g'∧Below w.heap.size w w'∧(∀k t,own k=some t→w.heap.size≤k)∧∀k,g'.blk k→w.heap.size≤k
theorem a1c (g:PgR) (w:World) (hg:M3 w.heap.size w g) (ht:Tab w) (hck:N6 g 0 0) (cap:Nat) (h1:1≤cap) (h40:cap≤40) :
  Calls Tryz.prog 38 #[.agg #[.slice g.a g.n g.c],.int .i64 (cap:Int)] w fun e w'=>kZ g cap w e w':=by
 have hin:B9 (cap:Int) 1 40=true:=F8 Q8 Q8;have HCK:Hid (∀W,Below w.heap.size w W→Calls Tryz.prog 59 #[.agg #[.slice g.a g.n g.c]] W fun e w'=>e=.returned (.tuple #[.int .i64 0,.int .i64 0])∧Below W.heap.size W w'):=by
  intro W hW;refine (mU g W (hg.held hW.size fun k hk=>hW.block k (hg.blk_lt hk)) (ht.held hW.size (hW.block 0 ht.1))).mono ?_;rintro e w' ⟨x,a,rfl,hx,hb⟩;obtain⟨rfl,rfl⟩:=hx.unique hck;exact⟨rfl,hb⟩
 have HG:=hid hg;have HT:=hid ht;have HC:=hid hck;clear hg ht hck;go_enter Tryz.func38,Tryz.ntmps38;go_wp2_with (first | (go_at_call 59;refine (HCK.out _ ?_).mono ?_;exact P3;rintro e w2 ⟨rfl,hb2⟩;obtain ⟨hcc,hff⟩:=W9 hb2) | (go_at_call 41;refine (C2 _ _ _ _).mono ?_;rintro e w' ⟨rfl,hw⟩;rw [hw];clear hw w'))
 have hB2:Below w.heap.size w w2:=A1 hb2 (Below.alloc (Below.refl _ _) (Nat.le_refl _) _);have hg2:M3 w2.heap.size w2 g:=HG.out.held hB2.size fun k hk=>hB2.block k (HG.out.blk_lt hk)
 have ht2:Tab w2:=HT.out.held hB2.size (hB2.block 0 HT.out.1);obtain⟨hn1,hn8,hsz⟩:aO g:=by
  rcases HC.out with ⟨_,h⟩ | ⟨h,_⟩
  ·cases h
  ·exact h.all.1
 have hsz':∀j,j < g.n→1≤(g.f j).n∧(g.f j).n≤60:=fun j hj=>by have:=iH (hsz j hj);omega
 have hl8:=iH (hsz 0 Q8);have HSZ:=hid hsz';have HL8:=hid hl8;refine (gF g w2 hg2 hn1 hn8 hsz').mono ?_;clear hcc hff hb2 hg2 hsz hsz' hl8;rintro e w3 ⟨g',rfl,hpg,hblk,hb3,hgn,hsame⟩;have HPG:=hid hpg;have HBLK:=hid hblk;have HB3:=hid hb3;have HGN:=hid hgn;have HSAME:=hid hsame;have HB2:=hid hB2;have HT2:=hid ht2;clear hpg hblk hb3 hgn hsame hB2 ht2;go_wp2_with fail;refine (hG cap w3 h40).mono ?_
 rintro e w4 ⟨hb,rfl,hrow,hb4⟩;have HROW:=hid hrow;have HB4:=hid hb4;clear hrow hb4;have hB34:Below w2.heap.size w2 w4:=HB3.out.trans (HB4.out.mono HB3.out.size);have hpg4:M3 w4.heap.size w4 g':=HPG.out.held HB4.out.size fun k hk=>HB4.out.block k (HPG.out.blk_lt hk)
 have ht4:Tab w4:=HT2.out.held hB34.size (hB34.block 0 HT2.out.1);have hhb3:w3.heap.size≤hb:=by
  rcases HROW.out.2 with ⟨h0,_⟩ | ⟨_,_,_,hv,h1,_⟩
  ·cases h0
  ·cases hv;exact h1
 have hmach:=lS hpg4 ht4 HROW.out (fun k hk=>by have:=HPG.out.blk_lt hk;omega) (by have:=HPG.out.blk_lt (k:=g'.b) (Or.inl ⟨by rw [HGN.out];omega,rfl⟩);omega);have hBV:Below w.heap.size w (w4.alloc (Obj.cells #[.slice g'.a g'.n g'.c,.int .i64 0,.slice none 0 0,.slice none 0 0,.slice (some ⟨hb,0,none⟩) cap cap,.slice none 0 0] 81)):=Below.alloc (HB2.out.trans (hB34.mono HB2.out.size)) (Nat.le_trans HB2.out.size hB34.size) _
 have hnew:∀k t,M4 w4.heap.size hb k=some t→w.heap.size≤k:=fun k t hk=>by
  have:=HB2.out.size;have:=HB3.out.size;have:=HB4.out.size;unfold M4 at hk;split at hk
  ·omega
  ·split at hk
   ·omega
   ·cases hk
 have hs':=HSAME.out 0 Q8;obtain⟨ga,hgb,hfun⟩:=hmach.pg.2.1 (by rw [HGN.out];omega);obtain⟨q0,q1,q2⟩:=hfun 0 (by rw [HGN.out];omega);have m0:=hmach.c0.trans (show _=some (Value.slice (some ⟨g'.b,g'.o,none⟩) g'.n g'.c) by rw [ga]);simp only[Nat.zero_mul,Nat.add_zero] at q0 q1 q2;have hmlt:w4.heap.size < (w4.alloc (Obj.cells #[.slice g'.a g'.n g'.c,.int .i64 0,.slice none 0 0,.slice none 0 0,.slice (some ⟨hb,0,none⟩) cap cap,.slice none 0 0] 81)).heap.size:=by simp
 have HM:=hid hmach;have HBV:=hid hBV;have HNEW:=hid hnew;have HS:=hid hs';have hgn1:0 < g'.n:=by rw [HGN.out];omega
 have HBK:Hid (∀k,g'.blk k→w.heap.size≤k):=fun k hk=>Nat.le_trans HB2.out.size (HBLK.out k hk)
 clear hB34 hpg4 ht4 hhb3 hmach hBV hnew hs' ga hfun HB4 HROW HPG HB3 HBLK HT2;go_wp2_with fail;generalize (w4.alloc (Obj.cells #[.slice g'.a g'.n g'.c,.int .i64 0,.slice none 0 0,.slice none 0 0,.slice (some ⟨hb,0,none⟩) cap cap,.slice none 0 0] 81))=V at *
 obtain⟨l,hl⟩:=Int.eq_ofNat_of_zero_le (show 0≤(g'.f 0).l by have:=HL8.out;rw [HS.out.2.1];omega);rw[hl] at q1;have hl8:l≤8:=by have:=HL8.out;have:=HS.out.2.1;omega
 have HL:=hid hl;clear hl;generalize w4.heap.size=mb at *
 have HEN:Hid (∀U,A3 U (M4 mb hb) mb g' ⟨0,.slice none 0 0,[],.slice none 0 0,[],.slice (some ⟨hb,0,none⟩) cap cap,List.replicate cap K7,.slice none 0 0,[]⟩→Calls Tryz.prog 62 #[.pointer (some ⟨mb,3,none⟩),.int .i64 0,.agg #[.int .i64 (g'.f 0).p,.int .i64 (l:Int),.slice (g'.f 0).a (g'.f 0).n (g'.f 0).c],.slice none 0 0] U fun e w'=>vG (M4 mb hb) mb g' ⟨0,.slice none 0 0,[],.slice none 0 0,[],.slice (some ⟨hb,0,none⟩) cap cap,List.replicate cap K7,.slice none 0 0,[]⟩ 0 (List.replicate l (0,0)) U e w') :=
  fun U hU=>uH hU 0 l (g'.f 0).p (g'.f 0).a (g'.f 0).n (g'.f 0).c hl8 Q9
 go_region_with (first | (go_at_call 62;refine (HEN.out _ ?_).mono ?_;exact HM.out.same (Nat.le_refl _) fun _ _=>rfl;rintro e w6 ⟨own',cv,lv,rfl,hm6,ht6⟩;have HM6:=hid hm6;have HT6:=hid ht6;clear hm6 ht6))
 all_goals
  go_wp2_with fail;go_ret2;have hbV:Below w.heap.size w w6:=(Below.drew HBV.out).trans (HT6.out.below HBV.out.size fun k hk=>by
   cases e:M4 mb hb k with
   | none=>rfl
   | some t=>have:=HNEW.out k t e;omega)
  exact⟨own',mb,g',_,rfl,HM6.out,⟨rfl,rfl,⟨lv,by rw [← HS.out.2.1,HL.out];rfl⟩,rfl,rfl,rfl⟩,⟨HGN.out,HSAME.out⟩,hbV,fun k t hk=>by
   rcases Nat.lt_or_ge k V.heap.size with hl | hl
   ·rw [HT6.out.old k hl] at hk;exact HNEW.out k t hk
   ·exact Nat.le_trans HBV.out.size hl,HBK.out⟩
theorem a5C (g:PgR) (w:World) (hg:M3 w.heap.size w g) (ht:Tab w) (hck:N6 g 0 0) (cap:Nat) (h1:1≤cap) (h40:cap≤40) :
  Calls Tryz.prog 24 #[.agg #[.slice g.a g.n g.c],.int .i64 (cap:Int)] w fun e w'=>kZ g cap w e w':=by
 have HB:Hid (∀W,Below w.heap.size w W→Calls Tryz.prog 38 #[.agg #[.slice g.a g.n g.c],.int .i64 (cap:Int)] W fun e w'=>kZ g cap W e w'):=by
  intro W hW;exact a1c g W (hg.held hW.size fun k hk=>hW.block k (hg.blk_lt hk)) (ht.held hW.size (hW.block 0 ht.1)) hck cap h1 h40
 clear hg ht hck;go_enter Tryz.func24,Tryz.ntmps24;go_wp2_with (go_at_call 38;refine (HB.out _ ?_).mono ?_;exact P3;rintro e w2 ⟨own,mb,g',R,rfl,hm,hbg,hsame,hb,hnew,hblk⟩)
 go_ret2;have hW:Below w.heap.size w (w.alloc (Obj.cells #[.slice g.a g.n g.c] 27)):=Below.alloc (Below.refl _ _) (Nat.le_refl _) _;exact⟨own,mb,g',R,rfl,hm,hbg,hsame,A1 hb hW,fun k t hk=>Nat.le_trans hW.size (hnew k t hk),fun k hk=>Nat.le_trans hW.size (hblk k hk)⟩
def jV (g:PgR) (cap:Nat) (w:World) (e:Ending) (w':World):Prop :=
 ∃own mb g' R,e=.returned (.pointer (some ⟨mb,0,none⟩))∧A3 w' own mb g' R∧xZ g cap R∧aQ g g'∧Below w.heap.size w w'∧(∀k t,own k=some t→w.heap.size≤k)∧∀k,g'.blk k→w.heap.size≤k
theorem qB (g:PgR) (w:World) (hg:M3 w.heap.size w g) (ht:Tab w) (hck:N6 g 0 0) (room:Int) (h1 : -9223372036854775808≤room) (h2:room≤9223372036854775807) (cap:Nat) (hcap:(cap:Int)=1+D1 room 40) :
  Calls Tryz.prog 6 #[.agg #[.slice g.a g.n g.c],.int .i64 room] w fun e w'=>jV g cap w e w':=by
 obtain⟨hp0,hp1⟩:=fS room;have HL:Hid (∀W,Below w.heap.size w W→Calls Tryz.prog 23 #[] W fun e w'=>e=.returned (.bool true)∧Below W.heap.size W w'):=fun W hW=>a4o W (ht.held hW.size (hW.block 0 ht.1))
 have HN:Hid (∀W,Below w.heap.size w W→Calls Tryz.prog 24 #[.agg #[.slice g.a g.n g.c],.int .i64 (1+D1 room 40)] W fun e w'=>kZ g cap W e w'):=by
  intro W hW;rw[← hcap];exact a5C g W (hg.held hW.size fun k hk=>hW.block k (hg.blk_lt hk)) (ht.held hW.size (hW.block 0 ht.1)) hck cap Q8 Q8
 have hwr:IntKind.i64.wrap (1+D1 room 40)=1+D1 room 40:=Go.IntWalk.i64_in _ Q8;clear hg ht hck hcap;go_enter Tryz.func6,Tryz.ntmps6;go_wp2_with (first | (go_at_call 23;refine (HL.out _ ?_).mono ?_;exact P3;rintro e w2 ⟨rfl,hb2⟩;obtain ⟨hcc,hff⟩:=W9 hb2;have HB2:Hid (Below w.heap.size w w2):=A1 hb2 P3;clear hb2))
 go_region_with (first | (go_at_call 12;refine (kL _ _ h1 h2).mono ?_;rintro e w3 ⟨rfl,rfl⟩) | (go_at_call 24;refine (HN.out _ ?_).mono ?_;exact (by repeat (first | exact HB2.out | refine Below.drew ?_));rintro e w4 ⟨own,mb,g',R,rfl,hm,hbg,hsame,hb,hnew,hblk⟩;have HM:=hid hm;have HBG:=hid hbg;have HSAME:=hid hsame;have HB4:Hid (Below w.heap.size w w4):=A1 hb (by repeat (first | exact HB2.out | refine Below.drew ?_));have HNEW:=hid hnew;have HBLK:=hid hblk;clear hm hbg hsame hb hnew hblk))
 all_goals
  clear hcc hff;go_wp2_with fail;go_ret;exact⟨own,mb,g',R,rfl,HM.out,HBG.out,HSAME.out,HB4.out,fun k t hk=>Nat.le_trans HB2.out.size (HNEW.out k t hk),fun k hk=>Nat.le_trans HB2.out.size (HBLK.out k hk)⟩
theorem a0o (c:Int) (w:World) (h1 : -9223372036854775808≤c) (h2:c≤9223372036854775807) :
  Calls Tryz.prog 12 #[.int .i64 c,.int .i64 400] w fun e w'=>e=.returned (.int .i64 (D1 c 400))∧w'=w:=by
 by_cases hc:c < 0
 ·go_enter Tryz.func12,Tryz.ntmps12
  go_wp2
  go_ret;refine⟨jE ?_,rfl⟩;show -(c+1).tmod 400=D1 c 400;unfold D1;rw[if_pos hc,← Int.neg_tmod];exact Int.tmod_eq_emod_of_nonneg Q8
 ·go_enter Tryz.func12,Tryz.ntmps12
  go_wp2
  go_ret;refine⟨jE ?_,rfl⟩;show c % 400=D1 c 400;unfold D1;rw[if_neg Q8]
theorem iB (c:Int):0≤D1 c 400∧D1 c 400 < 400:=by unfold D1;split <;> omega
theorem rA (c:Int) (w:World) (h1 : -9223372036854775808≤c) (h2:c≤9223372036854775807) :
  Calls Tryz.prog 9 #[.int .i64 c] w fun e w'=>e=.returned (.int .i64 (D1 c 400))∧w'=w:=by
 go_enter Tryz.func9,Tryz.ntmps9;go_wp2_with (go_at_call 12;refine (a0o _ _ h1 h2).mono ?_;rintro e w' ⟨rfl,rfl⟩)
 go_ret;exact⟨rfl,rfl⟩
def eE (w:World) (a:Option Addr) (l:List Int):Prop:=0 < l.length→∃b,a=some ⟨b,0,none⟩∧b < w.heap.size∧∀(i:Nat) (x:Int),l[i]?=some x→w.cell? ⟨b,i,none⟩=some (.int .i64 x)
theorem eE.later {w W:World} {a:Option Addr} {l:List Int} (h:eE w a l) (hB:Below w.heap.size w W):eE W a l:=fun h0=>by
 obtain⟨b,h1,h2,h3⟩:=h h0;exact⟨b,h1,Nat.lt_of_lt_of_le h2 hB.size,fun i x hx=>by rw [hB.cell (p:=⟨b,i,none⟩) h2];exact h3 i x hx⟩
theorem xA {l:List Int} {w:World} {e:Ending} {w':World} (h:a2V l w e w'):(∃a c,e=.returned (.slice a l.length c)∧eE w' a l)∧Below w.heap.size w w':=by
 obtain⟨hb,⟨h0,he⟩ | ⟨h0,gb,cap,he,hown,_⟩⟩:=h
 ·subst h0
  exact⟨⟨none,0,he,fun h=>by simp at h⟩,hb⟩
 ·refine ⟨⟨_,_,he,fun _=>⟨gb,rfl,(M6 hown).2,fun i x hx=>?_⟩⟩,hb⟩
  have hi:=(List.getElem?_eq_some_iff.1 hx).1;rw[hown.cellAt i Q8,List.getElem?_map,hx];rfl
theorem xL (a1 a2:Option Addr) (c1 c2:Nat) (l:List Int) (w:World) (hl:l.length≤1000) (h1:eE w a1 l) (h2:eE w a2 l) :
  Calls Tryz.prog 31 #[.slice a1 l.length c1,.slice a2 l.length c2] w fun e w'=>e=.returned (.bool true)∧Below w.heap.size w w':=by
 have H1:=hid h1;have H2:=hid h2;clear h1 h2;go_enter Tryz.func31,Tryz.ntmps31;go_wp2_with fail;go_loopw [5] (fun vi wr=>∃i:Nat,i≤l.length∧vi=.int .i64 i∧Below w.heap.size w wr) (fun vi _=>l.length - (intOf vi).toNat)
 case atStart=>exact ⟨0,Nat.zero_le _,rfl,Below.refl _ _⟩
 case round =>
  obtain⟨i,hi,rfl,hbel⟩:=hrel;have HBEL:=hid hbel;by_cases hlt:i < l.length
  ·obtain ⟨x,hx⟩:∃x,l[i]?=some x:=⟨_,List.getElem?_eq_getElem hlt⟩
   obtain⟨b1,rfl,hb1,hc1⟩:=H1.out Q8;obtain⟨b2,rfl,hb2,hc2⟩:=H2.out Q8;have k1:=(hbel.cell (p:=⟨b1,i,none⟩) hb1).trans (hc1 i x hx);have k2:=(hbel.cell (p:=⟨b2,i,none⟩) hb2).trans (hc2 i x hx);have l1:b1 < wr.heap.size:=Nat.lt_of_lt_of_le hb1 hbel.size;have l2:b2 < wr.heap.size:=Nat.lt_of_lt_of_le hb2 hbel.size;clear hc1 hc2 hbel hx;go_wp2_with fail;go_region
   all_goals
    go_wp2_with fail;go_roundw
    case rel=>exact ⟨i+1,by omega,by go_num,Below.drew HBEL.out⟩
    case measure=>simp [intOf];omega
  ·clear hbel
   go_wp2_with fail;go_ret;exact⟨rfl,HBEL.out⟩
structure Two (w:World) (oa ob:Own) (ma mb:Nat) (ga gb:PgR) (Ra Rb:McR):Prop where
 a:A3 w oa ma ga Ra
 b:A3 w ob mb gb Rb
 ab:∀k t,ob k=some t→oa k=none
 abp:∀k,gb.blk k→oa k=none
 bap:∀k,ga.blk k→ob k=none
theorem Two.flip {w:World} {oa ob:Own} {ma mb:Nat} {ga gb:PgR} {Ra Rb:McR} (h:Two w oa ob ma mb ga gb Ra Rb):Two w ob oa mb ma gb ga Rb Ra :=
 ⟨h.b,h.a,fun k t hk=>by
  cases e:ob k with
  | none=>rfl
  | some u=>exact absurd (h.ab k u e) (by rw [hk];simp),h.bap,h.abp⟩
theorem Two.runA {w w':World} {oa oa' ob:Own} {ma mb:Nat} {ga gb:PgR} {Ra Ra' Rb:McR} (h:Two w oa ob ma mb ga gb Ra Rb) (hm:A3 w' oa' ma ga Ra') (ht:A8 oa w oa' w'):Two w' oa' ob ma mb ga gb Ra' Rb:=by
 refine⟨hm,h.b.beside ht.size fun k hk hc=>ht.block k hk ?_,fun k t hk=>?_,fun k hk=>?_,h.bap⟩
 ·rcases hc with hc | hc | rfl
  ·cases e:ob k with
   | none=>exact absurd e hc
   | some t=>exact h.ab k t e
  ·exact h.abp k hc
  ·exact h.a.ro0
 ·rw [ht.old k (h.b.lt k t hk)];exact h.ab k t hk
 ·rw [ht.old k (h.b.pg.blk_lt hk)];exact h.abp k hk
theorem Two.later {w W:World} {oa ob:Own} {ma mb:Nat} {ga gb:PgR} {Ra Rb:McR} (h:Two w oa ob ma mb ga gb Ra Rb) (hB:Below w.heap.size w W):Two W oa ob ma mb ga gb Ra Rb :=
 ⟨h.a.same hB.size fun k hk=>hB.block k hk,h.b.same hB.size fun k hk=>hB.block k hk,h.ab,h.abp,h.bap⟩
end Go.Proofs.YtbkmgoffiigdbabGreatDoor
