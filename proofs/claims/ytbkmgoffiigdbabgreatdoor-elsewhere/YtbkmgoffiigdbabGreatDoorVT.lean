import Derived.Test.YtbkmgoffiigdbabGreatDoorVQa
import Derived.Test.YtbkmgoffiigdbabGreatDoorVR
import Derived.Test.YtbkmgoffiigdbabGreatDoorVS
namespace Go.Proofs.YtbkmgoffiigdbabGreatDoor
open Go.RowKit Go.Sort
set_option maxHeartbeats 4000000
set_option maxRecDepth 100000
def nS (W:World) (a:Option Addr) (obs:List Ob):Prop :=
 0 < obs.length→∃b,a=some ⟨b,0,none⟩∧b < W.heap.size∧∀(i:Nat) (o:Ob),obs[i]?=some o→W.cell? ⟨b,i*2,none⟩=some (.int .u8 o.1)∧∃fa fc,W.cell? ⟨b,i*2+1,none⟩=some (.slice fa o.2.length fc)∧O1 W W.heap.size fa o.2
theorem O1.later {w W:World} {a:Option Addr} {l:List Val} (h:O1 w w.heap.size a l) (hB:Below w.heap.size w W):O1 W W.heap.size a l:=fun h0=>by
 obtain⟨b,e,hb,hc⟩:=h h0;exact⟨b,e,Nat.lt_of_lt_of_le hb hB.size,fun i x hx=>⟨(hB.cell (p:=⟨b,_,none⟩) hb).trans (hc i x hx).1,(hB.cell (p:=⟨b,_,none⟩) hb).trans (hc i x hx).2⟩⟩
theorem nS.later {w W:World} {a:Option Addr} {obs:List Ob} (h:nS w a obs) (hB:Below w.heap.size w W):nS W a obs:=fun h0=>by
 obtain⟨b,e,hb,hc⟩:=h h0;refine⟨b,e,Nat.lt_of_lt_of_le hb hB.size,fun i o ho=>?_⟩;obtain⟨h1,fa,fc,h2,h3⟩:=hc i o ho;exact⟨(hB.cell (p:=⟨b,_,none⟩) hb).trans h1,fa,fc,(hB.cell (p:=⟨b,_,none⟩) hb).trans h2,h3.later hB⟩
def iO (obs:List Ob) (w:World) (e:Ending) (w':World):Prop:=(∃a c,e=.returned (.slice a obs.length c)∧nS w' a obs)∧Below w.heap.size w w'
structure Y8 (W:World) (B gb:Nat) (v:Value) (l:List Val):Prop where
 row:W.ownsRow B 73 2 v l.length (A5 l)
 ne:v.ownBlock≠some gb
theorem Y8.later {w W:World} {B gb:Nat} {v:Value} {l:List Val} (h:Y8 w B gb v l) (hB:Below w.heap.size w W):Y8 W B gb v l :=
 ⟨A2 h.row fun b hb=>hB.block b (h.row.lt b hb).2,h.ne⟩
theorem Y8.set {w:World} {B gb i:Nat} {v u:Value} {l:List Val} (h:Y8 w B gb v l):Y8 (w.setCell ⟨gb,i,none⟩ u) B gb v l :=
 ⟨ownsRow_setCell_other h.row (a:=⟨gb,i,none⟩) h.ne _,h.ne⟩
theorem Y8.of_copy {w W:World} {gb n:Nat} {v:Value} {l:List Val} (h:W.ownsRow w.heap.size 73 2 v n (A5 l)) (hn:n=l.length) (hg:gb < w.heap.size) {B:Nat} (hB:B≤w.heap.size):Y8 W B gb v l:=by
 subst hn;exact⟨C5 h hB,fun e=>by have:=(h.lt gb e).1;omega⟩
theorem yT (d:Addr) (n c:Nat) (xs:List Value) (w:World) (hm:n≤100000) (hl:xs.length=n*2) (hx:∀W,Below w.heap.size w W→∀j u,xs[j]?=some u→W.cell? (d.add j)=some u) (h1:∀u∈xs,u.oneCell'=true) :
  Calls Tryz.prog 56 #[.slice (some d) n c] w fun e w'=>I8 75 2 n xs w e w':=by
 have HX:=hid hx;have HL:=hid hl;have H1:=hid h1;clear hx hl h1;go_enter Tryz.func56,Tryz.ntmps56;have heq:∀W:World,(binOp .eql 43 (.slice (some d) n c) (.slice none 0 0)).run Tryz.prog W=.ok (.bool false) W:=fun W=>Go.Lib.run_eql_slice_nil W 43 75 _ n c 0 0 Tryz.underlying43
 obtain⟨i,hi,hz,hsz,hby⟩:=info_parts a1F;have HI:=hid hi;have HZ:=hid hz;have HSZ:=hid hsz;have HBY:=hid hby;clear hi hz hsz hby;go_wp2_with (at_builtin;go_must (refine C8 _ rfl (.tmp 5) (.tmp 6) 43 rfl w.heap.size 75 i _ 2 32 Tryz.underlying43 HI.out HZ.out HSZ.out HBY.out rfl Q7 (.slice (some ⟨w.heap.size,0,none⟩) 0 0) 0 [] rfl (World.ownsRow_made w #[] 0 (Nat.le_refl _) (Nat.zero_le _) rfl) (some d) n c xs rfl HL.out (fun _=>⟨d,rfl,HX.out _ (Below.alloc (Below.refl _ _) (Nat.le_refl _) _)⟩) H1.out Q0 Q8 Q9 ?_))
 intro v' w5 hown hgrow _;have HB:Hid (Below w.heap.size w w5):=X7 (v:=.slice (some ⟨w.heap.size,0,none⟩) 0 0) (Below.alloc (Below.refl _ _) (Nat.le_refl _) _) rfl (Nat.le_refl _) hgrow;have ho:w5.ownsRow w.heap.size 75 2 v' n xs:=by simpa using hown
 have HO:=hid ho;clear hown hgrow ho;go_wp2_with fail;go_ret;exact⟨v',rfl,HO.out,HB.out⟩
theorem a1i (n c:Nat) (w:World):Calls Tryz.prog 56 #[.slice none n c] w fun e w'=>I8 75 2 0 [] w e w':=by
 have heq:∀W:World,(binOp .eql 43 (.slice none n c) (.slice none 0 0)).run Tryz.prog W=.ok (.bool true) W:=fun W=>Go.Lib.run_eql_slice_nil W 43 75 none n c 0 0 Tryz.underlying43
 go_enter Tryz.func56,Tryz.ntmps56;go_wp2_with fail;go_ret;exact⟨_,rfl,World.ownsRow_nil _ _ _ _,Below.refl _ _⟩
theorem tU {own:Own} {mb:Nat} {g:PgR} {R:McR} {w:World} (h:A3 w own mb g R):∀u∈R.obs.flatMap ObR.cells,u.oneCell'=true:=by
 intro u hu;obtain⟨o,ho,hu⟩:=List.mem_flatMap.1 hu;obtain⟨i,hi⟩:=List.mem_iff_getElem?.1 ho;obtain⟨fa,fc,hfv⟩:=C6 (h.fld i o hi);simp only[ObR.cells,List.mem_cons,List.not_mem_nil,or_false] at hu;rcases hu with rfl | rfl
 ·rfl
 ·rw [hfv];rfl
theorem qG {own:Own} {mb:Nat} {g:PgR} {R:McR} {w W:World} (h:A3 w own mb g R) (hB:Below w.heap.size w W) (hn:R.obs.length≤1000) {a:Option Addr} {c:Nat} (hv:R.hv=.slice a R.obs.length c) :
  Calls Tryz.prog 56 #[.slice a R.obs.length c] W fun e w'=>I8 75 2 R.obs.length (R.obs.flatMap ObR.cells) W e w':=by
 cases a with
 | none =>
  have h0:R.obs.length=0:=by
   rcases h.slots.1.2 with ⟨_,e⟩ | ⟨_,_,_,e,_⟩
   ·exact e
   ·rw [hv] at e;cases e
  have h00:=List.length_eq_zero_iff.1 h0;rw[h00];exact a1i _ _ _
 | some d =>
  refine yT d R.obs.length c _ W Q8 (dA ObR.cells_len _) (fun V hV j u hu=>?_) (tU h);have hj:=(List.getElem?_eq_some_iff.1 hu).1;rw[dA ObR.cells_len] at hj;obtain⟨b,c',e,_,hb⟩:=h.slots.1.form Q8;have hrow:=h.slots.1;rw[hv] at e
  cases e;rw[hv] at hrow;rw[X1,(A1 hV hB).cell (p:=⟨b,j,none⟩) hb,hrow.cellAt j hj];exact hu
structure eD (W:World) (B gb i:Nat) (obs ol:List ObR):Prop where
 len:ol.length=obs.length
 old:∀k,i≤k→ol[k]?=obs[k]?
 new:∀k o,k < i→obs[k]?=some o→∃v,ol[k]?=some { o with fv:=v }∧Y8 W B gb v o.fl
theorem eD.next {w3:World} {B gb i:Nat} {obs ol:List ObR} {o:ObR} {v:Value} (h:eD w3 B gb i obs ol) (ho:obs[i]?=some o) (hv:Y8 w3 B gb v o.fl) (j:Nat):eD (w3.setCell ⟨gb,j,none⟩ v) B gb (i+1) obs (ol.set i { o with fv:=v }):=by
 have hi:i < ol.length:=by rw [h.len];exact (List.getElem?_eq_some_iff.1 ho).1
 refine⟨by rw [List.length_set];exact h.len,fun k hk=>by rw [List.getElem?_set_ne Q8];exact h.old k Q8,fun k p hk hp=>?_⟩;by_cases e:k=i
 ·subst e
  rw[ho] at hp
  cases hp;exact⟨v,by rw [List.getElem?_set_self hi],hv.set⟩
 ·obtain ⟨u,h1,h2⟩:=h.new k p Q8 hp
  exact⟨u,by rw [List.getElem?_set_ne (Ne.symm e)];exact h1,h2.set⟩
theorem eD.later {w W:World} {B gb i:Nat} {obs ol:List ObR} (h:eD w B gb i obs ol) (hB:Below w.heap.size w W):eD W B gb i obs ol :=
 ⟨h.len,h.old,fun k o hk ho=>by obtain ⟨v,h1,h2⟩:=h.new k o hk ho;exact ⟨v,h1,h2.later hB⟩⟩
theorem eD.whole {W:World} {B gb c:Nat} {obs ol:List ObR} (h:eD W B gb obs.length obs ol) (hr:W.ownsRow B 75 2 (.slice (some ⟨gb,0,none⟩) obs.length c) obs.length (ol.flatMap ObR.cells)):nS W (some ⟨gb,0,none⟩) (obs.map ObR.abs):=fun _=>by
 refine⟨gb,rfl,(hr.lt gb rfl).2,fun i p hp=>?_⟩;rw[List.getElem?_map] at hp;obtain⟨o,ho,rfl⟩:=Option.map_eq_some_iff.1 hp;have hi:=(List.getElem?_eq_some_iff.1 ho).1;obtain⟨v,h1,h2⟩:=h.new i o hi ho;have hcell:∀j,j < 2→W.cell? ⟨gb,i*2+j,none⟩=({ o with fv:=v } : ObR).cells[j]?:=fun j hj=>by
  rw[hr.cellAt _ Q8];exact C3 ObR.cells_len h1 hj
 obtain⟨fa,fc,rfl,hin⟩:=O1.of_owns h2.row (Nat.le_refl _);exact⟨hcell 0 Q8,fa,fc,hcell 1 Q8,hin⟩
theorem tD {own:Own} {mb:Nat} {g:PgR} {R:McR} {w:World} (h:A3 w own mb g R) (hn:R.obs.length≤1000) (h0:0 < R.obs.length) (hf:∀o,o∈R.obs→o.fl.length≤1000) :
  Calls Tryz.prog 34 #[.pointer (some ⟨mb,4,none⟩)] w fun e w'=>iO (R.obs.map ObR.abs) w e w':=by
 have c4:=h.c4;obtain⟨ca,cc,hcv⟩:=C6 h.slots;rw[hcv] at c4;have hmb:mb < w.heap.size:=h.lt mb _ h.me;have HCL:Hid (∀W,Below w.heap.size w W→Calls Tryz.prog 56 #[.slice ca R.obs.length cc] W fun e w'=>I8 75 2 R.obs.length (R.obs.flatMap ObR.cells) W e w'):=fun W hW=>qG h hW hn hcv
 have HH:=hid h;have HF:=hid hf;clear h hf hcv;go_enter Tryz.func34,Tryz.ntmps34;go_wp2_with (go_at_call 56;refine (HCL.out _ ?_).mono ?_;exact P0;rintro e w2 ⟨v2,rfl,hv2,hb2⟩;obtain ⟨gb,c2,rfl,hgB,hgb⟩:=hv2.form h0;have HV2:Hid (w2.ownsRow w.heap.size 75 2 (.slice (some ⟨gb,0,none⟩) R.obs.length c2) R.obs.length (R.obs.flatMap ObR.cells)):=C5 hv2 (by first | exact Nat.le_refl _ | simp);have HB2:Hid (Below w.heap.size w w2):=A1 hb2 P0;have hgB:w.heap.size≤gb:=Nat.le_trans (by first | exact Nat.le_refl _ | simp) hgB;clear hv2 hb2)
 go_loopw [12] (fun vi wr=>∃(i:Nat) (ol:List ObR),i≤R.obs.length∧vi=.int .i64 i∧eD wr w.heap.size gb i R.obs ol∧wr.ownsRow w.heap.size 75 2 (.slice (some ⟨gb,0,none⟩) R.obs.length c2) R.obs.length (ol.flatMap ObR.cells)∧Below w.heap.size w wr) (fun vi _=>R.obs.length - (intOf vi).toNat)
 case atStart=>exact ⟨0,R.obs,Nat.zero_le _,rfl,⟨rfl,fun _ _=>rfl,fun k o hk=>by omega⟩,HV2.out,HB2.out⟩
 case round =>
  obtain⟨i,ol,hi,rfl,hcop,hrow,hbel⟩:=hrel;clear HV2 HB2;by_cases hlti:i < R.obs.length
  ·obtain ⟨o,hoi⟩:∃o,R.obs[i]?=some o:=⟨_,List.getElem?_eq_getElem hlti⟩
   have hol:ol[i]?=some o:=(hcop.old i (Nat.le_refl _)).trans hoi;have hgw:gb < wr.heap.size:=(hrow.lt gb rfl).2;have hcell:∀j,j < 2→wr.cell? ⟨gb,i*2+j,none⟩=o.cells[j]?:=fun j hj=>by
    rw[hrow.cellAt _ Q8];exact C3 ObR.cells_len hol hj
   obtain⟨fa,fc,hfv⟩:=C6 (HH.out.fld i o hoi);have k1:wr.cell? ⟨gb,i*2+1,none⟩=some o.fv:=hcell 1 Q8;rw[hfv] at k1;have z1:=hrow.frozenAt (i*2+1);have HCL1:Hid (∀W,Below w.heap.size w W→Calls Tryz.prog 57 #[.slice fa o.fl.length fc] W fun e w'=>I8 73 2 o.fl.length (A5 o.fl) W e w'):=fun W hW=>X5 (HH.out.fld i o hoi) hfv hW (HF.out o (List.mem_of_getElem? hoi))
   have HBEL:=hid hbel;have HROW:=hid hrow;have HCOP:=hid hcop;have HOL:=hid hol;have HOI:=hid hoi;have hws:=hbel.size;clear hcell hrow hbel hcop hfv hol hoi c4;go_wp2_with fail;refine (HCL1.out _ HBEL.out).mono ?_;rintro e w3 ⟨v3,rfl,hv3,hb3⟩;obtain⟨a3,c3,rfl⟩:=B0 hv3;have m1:=(hb3.cell (p:=⟨gb,i*2+1,none⟩) hgw).trans k1;have y1:=(hb3.frozen (p:=⟨gb,i*2+1,none⟩) hgw).trans z1;have hg3:gb < w3.heap.size:=Nat.lt_of_lt_of_le hgw hb3.size
   have hR3:w3.ownsRow w.heap.size 75 2 (.slice (some ⟨gb,0,none⟩) R.obs.length c2) R.obs.length (ol.flatMap ObR.cells):=A2 HROW.out fun b hb'=>by
    obtain rfl:gb=b:=by simpa [Value.ownBlock] using hb'
    exact hb3.block _ hgw
   have hR3':=(World.ownsRow.stored hR3 (i*2+1) (.slice a3 o.fl.length c3)).1;have e1:=L5 (c:=ObR.cells) ObR.cells_len (l:=ol) (i:=i) (j:=1) (x:=o) (y:={ o with fv:=.slice a3 o.fl.length c3 }) (u:=.slice a3 o.fl.length c3) HOL.out Q8 rfl;rw[← e1] at hR3';have HR3:=hid hR3';have HB3:=hid (Below.setCell (A1 hb3 HBEL.out) (p:=⟨gb,i*2+1,none⟩) hgB (.slice a3 o.fl.length c3));have HC3:=hid ((HCOP.out.later hb3).next HOI.out (Y8.of_copy hv3 rfl hgw hws) (i*2+1))
   clear hv3 hb3 hR3 hR3' e1 k1 z1;go_wp2_with fail;go_roundw
   case rel=>exact ⟨i+1,_,by omega,by go_num,HC3.out,HR3.out,HB3.out⟩
   case measure=>simp [intOf];omega
  ·obtain rfl:i=R.obs.length:=by omega
   have HBEL:=hid hbel;have HW:=hid (hcop.whole hrow);clear hbel hrow hcop;go_wp2_with fail;go_ret;refine⟨⟨some ⟨gb,0,none⟩,c2,?_,HW.out⟩,HBEL.out⟩;rw[List.length_map];rfl
def pL (W:World) (a:Option Addr) (frs:List FrA):Prop :=
 0 < frs.length→∃b,a=some ⟨b,0,none⟩∧b < W.heap.size∧∀(i:Nat) (f:FrA),frs[i]?=some f→∃la lc sa sc,W.cell? ⟨b,i*4+2,none⟩=some (.slice la f.loc.length lc)∧W.cell? ⟨b,i*4+3,none⟩=some (.slice sa f.stk.length sc)∧O1 W W.heap.size la f.loc∧O1 W W.heap.size sa f.stk
theorem pL.later {w W:World} {a:Option Addr} {frs:List FrA} (h:pL w a frs) (hB:Below w.heap.size w W):pL W a frs:=fun h0=>by
 obtain⟨b,e,hb,hc⟩:=h h0;refine⟨b,e,Nat.lt_of_lt_of_le hb hB.size,fun i f hf=>?_⟩;obtain⟨la,lc,sa,sc,h1,h2,h3,h4⟩:=hc i f hf;exact⟨la,lc,sa,sc,(hB.cell (p:=⟨b,_,none⟩) hb).trans h1,(hB.cell (p:=⟨b,_,none⟩) hb).trans h2,h3.later hB,h4.later hB⟩
def kX (frs:List FrA) (w:World) (e:Ending) (w':World):Prop:=(∃a c,e=.returned (.slice a frs.length c)∧pL w' a frs)∧Below w.heap.size w w'
structure R7 (W:World) (B gb i:Nat) (frs fl:List FrR):Prop where
 len:fl.length=frs.length
 old:∀k,i≤k→fl[k]?=frs[k]?
 new:∀k f,k < i→frs[k]?=some f→∃lv sv,fl[k]?=some { f with lv:=lv,sv:=sv }∧Y8 W B gb lv f.loc∧Y8 W B gb sv f.stk
theorem R7.later {w W:World} {B gb i:Nat} {frs fl:List FrR} (h:R7 w B gb i frs fl) (hB:Below w.heap.size w W):R7 W B gb i frs fl :=
 ⟨h.len,h.old,fun k f hk hf=>by obtain ⟨lv,sv,h1,h2,h3⟩:=h.new k f hk hf;exact ⟨lv,sv,h1,h2.later hB,h3.later hB⟩⟩
theorem R7.set {w:World} {B gb i j:Nat} {u:Value} {frs fl:List FrR} (h:R7 w B gb i frs fl):R7 (w.setCell ⟨gb,j,none⟩ u) B gb i frs fl :=
 ⟨h.len,h.old,fun k f hk hf=>by obtain ⟨lv,sv,h1,h2,h3⟩:=h.new k f hk hf;exact ⟨lv,sv,h1,h2.set,h3.set⟩⟩
theorem R7.next {W:World} {B gb i:Nat} {frs fl:List FrR} {f:FrR} {lv sv:Value} (h:R7 W B gb i frs fl) (hf:frs[i]?=some f) (hl:Y8 W B gb lv f.loc) (hs:Y8 W B gb sv f.stk):R7 W B gb (i+1) frs (fl.set i { f with lv:=lv,sv:=sv }):=by
 have hi:i < fl.length:=by rw [h.len];exact (List.getElem?_eq_some_iff.1 hf).1
 refine⟨by rw [List.length_set];exact h.len,fun k hk=>by rw [List.getElem?_set_ne Q8];exact h.old k Q8,fun k p hk hp=>?_⟩;by_cases e:k=i
 ·subst e
  rw[hf] at hp
  cases hp;exact⟨lv,sv,by rw [List.getElem?_set_self hi],hl,hs⟩
 ·obtain ⟨u,v,h1,h2⟩:=h.new k p Q8 hp
  exact⟨u,v,by rw [List.getElem?_set_ne (Ne.symm e)];exact h1,h2⟩
theorem R7.whole {W:World} {B gb c:Nat} {frs fl:List FrR} (h:R7 W B gb frs.length frs fl) (hr:W.ownsRow B 83 4 (.slice (some ⟨gb,0,none⟩) frs.length c) frs.length (fl.flatMap FrR.cells)):pL W (some ⟨gb,0,none⟩) (frs.map FrR.abs):=fun _=>by
 refine⟨gb,rfl,(hr.lt gb rfl).2,fun i p hp=>?_⟩;rw[List.getElem?_map] at hp;obtain⟨f,hf,rfl⟩:=Option.map_eq_some_iff.1 hp;have hi:=(List.getElem?_eq_some_iff.1 hf).1;obtain⟨lv,sv,h1,h2,h3⟩:=h.new i f hi hf;have hcell:∀j,j < 4→W.cell? ⟨gb,i*4+j,none⟩=({ f with lv:=lv,sv:=sv } : FrR).cells[j]?:=fun j hj=>by
  rw[hr.cellAt _ Q8];exact C3 FrR.cells_len h1 hj
 obtain⟨la,lc,rfl,hl⟩:=O1.of_owns h2.row (Nat.le_refl _);obtain⟨sa,sc,rfl,hs⟩:=O1.of_owns h3.row (Nat.le_refl _);exact⟨la,lc,sa,sc,hcell 2 Q8,hcell 3 Q8,hl,hs⟩
theorem oR {own:Own} {mb:Nat} {g:PgR} {R:McR} {w:World} (h:A3 w own mb g R) (h0:0 < R.frs.length) (hn:R.frs.length≤1000) (hf:∀f,f∈R.frs→f.loc.length≤1000∧f.stk.length≤1000) :
  Calls Tryz.prog 35 #[.pointer (some ⟨mb,3,none⟩)] w fun e w'=>kX (R.frs.map FrR.abs) w e w':=by
 have c3:=h.c3;obtain⟨ca,cc,hcv⟩:=C6 h.called;rw[hcv] at c3;have hmb:mb < w.heap.size:=h.lt mb _ h.me;have HCL:Hid (∀W,Below w.heap.size w W→Calls Tryz.prog 58 #[.slice ca R.frs.length cc] W fun e w'=>I8 83 4 R.frs.length (R.frs.flatMap FrR.cells) W e w'):=fun W hW=>fK h hW hn hcv
 have HH:=hid h;have HF:=hid hf;clear h hf hcv;go_enter Tryz.func35,Tryz.ntmps35;go_wp2_with (go_at_call 58;refine (HCL.out _ ?_).mono ?_;exact P0;rintro e w2 ⟨v2,rfl,hv2,hb2⟩;obtain ⟨gb,c2,rfl,hgB,hgb⟩:=hv2.form h0;have HV2:Hid (w2.ownsRow w.heap.size 83 4 (.slice (some ⟨gb,0,none⟩) R.frs.length c2) R.frs.length (R.frs.flatMap FrR.cells)):=C5 hv2 (by first | exact Nat.le_refl _ | simp);have HB2:Hid (Below w.heap.size w w2):=A1 hb2 P0;have hgB:w.heap.size≤gb:=Nat.le_trans (by first | exact Nat.le_refl _ | simp) hgB;clear hv2 hb2)
 go_loopw [12] (fun vi wr=>∃(i:Nat) (fl:List FrR),i≤R.frs.length∧vi=.int .i64 i∧R7 wr w.heap.size gb i R.frs fl∧wr.ownsRow w.heap.size 83 4 (.slice (some ⟨gb,0,none⟩) R.frs.length c2) R.frs.length (fl.flatMap FrR.cells)∧Below w.heap.size w wr) (fun vi _=>R.frs.length - (intOf vi).toNat)
 case atStart=>exact ⟨0,R.frs,Nat.zero_le _,rfl,⟨rfl,fun _ _=>rfl,fun k o hk=>by omega⟩,HV2.out,HB2.out⟩
 case round =>
  obtain⟨i,fl,hi,rfl,hcop,hrow,hbel⟩:=hrel;clear HV2 HB2;by_cases hlti:i < R.frs.length
  ·obtain ⟨f,hfi⟩:∃f,R.frs[i]?=some f:=⟨_,List.getElem?_eq_getElem hlti⟩
   have hfl:fl[i]?=some f:=(hcop.old i (Nat.le_refl _)).trans hfi;have hgw:gb < wr.heap.size:=(hrow.lt gb rfl).2;have hcell:∀j,j < 4→wr.cell? ⟨gb,i*4+j,none⟩=f.cells[j]?:=fun j hj=>by
    rw[hrow.cellAt _ Q8];exact C3 FrR.cells_len hfl hj
   obtain⟨la,lc,hlv⟩:=C6 (HH.out.loc i f hfi);obtain⟨sa,sc,hsv⟩:=C6 (HH.out.stk i f hfi);have k2:wr.cell? ⟨gb,i*4+2,none⟩=some f.lv:=hcell 2 Q8;have k3:wr.cell? ⟨gb,i*4+3,none⟩=some f.sv:=hcell 3 Q8;rw[hlv] at k2;rw[hsv] at k3;have z2:=hrow.frozenAt (i*4+2);have z3:=hrow.frozenAt (i*4+3);have hm:=HF.out f (List.mem_of_getElem? hfi);have HCL1:Hid (∀W,Below w.heap.size w W→Calls Tryz.prog 57 #[.slice la f.loc.length lc] W fun e w'=>I8 73 2 f.loc.length (A5 f.loc) W e w'):=fun W hW=>X5 (HH.out.loc i f hfi) hlv hW hm.1
   have HCL2:Hid (∀W,Below w.heap.size w W→Calls Tryz.prog 57 #[.slice sa f.stk.length sc] W fun e w'=>I8 73 2 f.stk.length (A5 f.stk) W e w'):=fun W hW=>X5 (HH.out.stk i f hfi) hsv hW hm.2
   have hws:=hbel.size;have HBEL:=hid hbel;have HROW:=hid hrow;have HCOP:=hid hcop;have HFL:=hid hfl;have HFI:=hid hfi;clear hcell hrow hbel hcop hlv hsv hfl hfi c3;go_wp2_with fail;refine (HCL1.out _ HBEL.out).mono ?_;rintro e w3 ⟨v3,rfl,hv3,hb3⟩;obtain⟨a3,c3,rfl⟩:=B0 hv3;have m2:=(hb3.cell (p:=⟨gb,i*4+2,none⟩) hgw).trans k2;have m3:=(hb3.cell (p:=⟨gb,i*4+3,none⟩) hgw).trans k3;have y2:=(hb3.frozen (p:=⟨gb,i*4+2,none⟩) hgw).trans z2
   have y3:=(hb3.frozen (p:=⟨gb,i*4+3,none⟩) hgw).trans z3;have hg3:gb < w3.heap.size:=Nat.lt_of_lt_of_le hgw hb3.size;have hB3:Below w.heap.size w w3:=A1 hb3 HBEL.out;have hR3:w3.ownsRow w.heap.size 83 4 (.slice (some ⟨gb,0,none⟩) R.frs.length c2) R.frs.length (fl.flatMap FrR.cells):=A2 HROW.out fun b hb'=>by
    obtain rfl:gb=b:=by simpa [Value.ownBlock] using hb'
    exact hb3.block _ hgw
   have hR3':=(World.ownsRow.stored hR3 (i*4+2) (.slice a3 f.loc.length c3)).1;have hB3':Below w.heap.size w (w3.setCell ⟨gb,i*4+2,none⟩ (.slice a3 f.loc.length c3)):=Below.setCell hB3 hgB _;have HR3:=hid hR3';have HB3:=hid hB3';have HA3:Hid (Y8 (w3.setCell ⟨gb,i*4+2,none⟩ (.slice a3 f.loc.length c3)) w.heap.size gb (.slice a3 f.loc.length c3) f.loc):=(Y8.of_copy hv3 rfl hgw hws).set;have HC3:Hid (R7 (w3.setCell ⟨gb,i*4+2,none⟩ (.slice a3 f.loc.length c3)) w.heap.size gb i R.frs fl):=(HCOP.out.later hb3).set
   clear hv3 hb3 hB3 hR3 hR3' hB3' k2 k3 z2 z3;go_wp2_with fail;refine (HCL2.out _ HB3.out).mono ?_;rintro e w4 ⟨v4,rfl,hv4,hb4⟩;obtain⟨a4,c4,rfl⟩:=B0 hv4;have hg4':gb < (w3.setCell ⟨gb,i*4+2,none⟩ (.slice a3 f.loc.length c3)).heap.size:=by simpa using hg3
   have x3:w4.cell? ⟨gb,i*4+3,none⟩=some (.slice sa f.stk.length sc):=(hb4.cell (p:=⟨gb,i*4+3,none⟩) hg4').trans Q6;have u3:w4.frozen? ⟨gb,i*4+3,none⟩=false:=(hb4.frozen (p:=⟨gb,i*4+3,none⟩) hg4').trans Q6;have hg4:gb < w4.heap.size:=Nat.lt_of_lt_of_le hg4' hb4.size;have hB4:Below w.heap.size w w4:=A1 hb4 HB3.out;have hR4:w4.ownsRow w.heap.size 83 4 (.slice (some ⟨gb,0,none⟩) R.frs.length c2) R.frs.length ((fl.flatMap FrR.cells).set (i*4+2) (.slice a3 f.loc.length c3)):=A2 HR3.out fun b hb'=>by
    obtain rfl:gb=b:=by simpa [Value.ownBlock] using hb'
    exact hb4.block _ hg4'
   have hR4':=(World.ownsRow.stored hR4 (i*4+3) (.slice a4 f.stk.length c4)).1;have e1:=L5 (c:=FrR.cells) FrR.cells_len (l:=fl) (i:=i) (j:=2) (x:=f) (y:={ f with lv:=.slice a3 f.loc.length c3 }) (u:=.slice a3 f.loc.length c3) HFL.out Q8 rfl;have hil:i < fl.length:=by rw [HC3.out.len];exact hlti
   have e2:=L5 (c:=FrR.cells) FrR.cells_len (l:=fl.set i { f with lv:=.slice a3 f.loc.length c3 }) (i:=i) (j:=3) (x:={ f with lv:=.slice a3 f.loc.length c3 }) (y:={ f with lv:=.slice a3 f.loc.length c3,sv:=.slice a4 f.stk.length c4 }) (u:=.slice a4 f.stk.length c4) (by rw [List.getElem?_set_self hil]) Q8 rfl;rw[← e1,← e2,List.set_set] at hR4';have HR4:=hid hR4';have HB4:=hid (Below.setCell hB4 (p:=⟨gb,i*4+3,none⟩) hgB (.slice a4 f.stk.length c4))
   have hws4:w.heap.size≤(w3.setCell ⟨gb,i*4+2,none⟩ (.slice a3 f.loc.length c3)).heap.size:=HB3.out.size;have HC4:Hid (R7 (w4.setCell ⟨gb,i*4+3,none⟩ (.slice a4 f.stk.length c4)) w.heap.size gb (i+1) R.frs (fl.set i { f with lv:=.slice a3 f.loc.length c3,sv:=.slice a4 f.stk.length c4 })):=((HC3.out.later hb4).set).next HFI.out ((HA3.out.later hb4).set) ((Y8.of_copy hv4 rfl hg4' hws4).set);clear hv4 hb4 hB4 hR4 hR4' e1 e2 m2 m3 y2 y3 HC3 HA3
   go_wp2_with fail;go_roundw
   case rel=>exact ⟨i+1,_,by omega,by go_num,HC4.out,HR4.out,HB4.out⟩
   case measure=>simp [intOf];omega
  ·obtain rfl:i=R.frs.length:=by omega
   have HBEL:=hid hbel;have HW:=hid (hcop.whole hrow);clear hbel hrow hcop;go_wp2_with fail;go_ret;refine⟨⟨some ⟨gb,0,none⟩,c2,?_,HW.out⟩,HBEL.out⟩;rw[List.length_map];rfl
theorem oO {own:Own} {mb:Nat} {g:PgR} {R:McR} {w:World} (h:A3 w own mb g R) (hn:R.frs.length≤1000) (hf:∀f,f∈R.frs→f.loc.length≤1000∧f.stk.length≤1000) :
  Calls Tryz.prog 35 #[.pointer (some ⟨mb,3,none⟩)] w fun e w'=>kX (R.frs.map FrR.abs) w e w':=by
 rcases Nat.eq_zero_or_pos R.frs.length with h0 | h0
 ·refine (qK h hn hf).mono ?_
  rintro e w' ⟨⟨a,c,rfl⟩,hb⟩;exact⟨⟨a,c,by rw [List.length_map],fun h1=>by rw [List.length_map] at h1;omega⟩,hb⟩
 ·exact oR h h0 hn hf
def cD (l:List ObR):List Value:=l.map ObR.fv
def a5A (l:List ObR) (w:World) (e:Ending) (w':World):Prop:=∃v,e=.returned v∧w'.ownsRow w.heap.size 45 1 v l.length (cD l)∧Below w.heap.size w w'
theorem tM {own:Own} {mb:Nat} {g:PgR} {R:McR} {w:World} (h:A3 w own mb g R) (hn:R.obs.length≤1000) :
  Calls Tryz.prog 130 #[.pointer (some ⟨mb,4,none⟩)] w fun e w'=>a5A R.obs w e w':=by
 have c4:=h.c4;obtain⟨ca,cc,hcv⟩:=C6 h.slots;rw[hcv] at c4;have hmb:mb < w.heap.size:=h.lt mb _ h.me;obtain⟨i97,hi,hz,hsz,hby⟩:=info_parts wD;have HI:=hid hi;have HZ:=hid hz;have HSZ:=hid hsz;have HBY:=hid hby;have HH:=hid h;have HCV:=hid hcv;clear h hcv hi hz hsz hby;go_enter Tryz.func130,Tryz.ntmps130;go_wp2_with fail;go_loopw [3,11] (fun vl vi wr=>∃i:Nat,i≤R.obs.length∧vi=.int .i64 i∧wr.ownsRow w.heap.size 45 1 vl i (cD (R.obs.take i))∧Below w.heap.size w wr) (fun _ vi _=>R.obs.length - (intOf vi).toNat)
 case atStart=>exact ⟨0,Nat.zero_le _,rfl,World.ownsRow_nil _ _ _ _,Below.refl _ _⟩
 case round =>
  obtain⟨i,hi,rfl,hrow,hbel⟩:=hrel;have HBEL:=hid hbel;have HROW:=hid hrow;by_cases hlt:i < R.obs.length
  ·obtain ⟨f,hf⟩:∃f,R.obs[i]?=some f:=⟨_,List.getElem?_eq_getElem hlt⟩
   obtain⟨cb,cc',e,_,hcb⟩:=HH.out.slots.1.form Q8;have hcr:=HH.out.slots.1;rw[HCV.out] at e
   cases e;rw[HCV.out] at hcr;have hcell:∀j,j < 2→wr.cell? ⟨cb,i*2+j,none⟩=f.cells[j]?:=fun j hj=>by
    rw[hbel.cell (p:=⟨cb,_,none⟩) hcb,hcr.cellAt _ Q8];exact C3 ObR.cells_len hf hj
   obtain⟨la,lc,hlv⟩:=C6 (HH.out.fld i f hf);have k0:wr.cell? ⟨cb,i*2,none⟩=some (.int .u8 f.kind):=hcell 0 Q8;have k1:wr.cell? ⟨cb,i*2+1,none⟩=some f.fv:=hcell 1 Q8;rw[hlv] at k1;have hlw:cb < wr.heap.size:=Nat.lt_of_lt_of_le hcb hbel.size;have HTK:Hid (cD (R.obs.take (i+1))=cD (R.obs.take i)++[f.fv]):=by
    refine hid ?_;have e:R.obs.take (i+1)=R.obs.take i++[f]:=by rw [List.take_add_one,hf];rfl
    rw[e];simp[cD]
   have HLV:=hid hlv;clear hcell hcr hrow hbel hf hlv;have hwz:w.heap.size≤wr.heap.size:=HBEL.out.size;go_wp2_with (at_builtin;go_must (refine wpList_append_lies _ rfl (.tmp 15) (.tmp 18) 160 rfl w.heap.size 45 i97 _ 1 24 Tryz.underlying160 HI.out HZ.out HSZ.out HBY.out rfl Q7 _ i (cD (R.obs.take i)) rfl ((HROW.out.alloc _).alloc _) _ 1 1 [.slice la f.fl.length lc] rfl rfl (World.news_of_block (cs:=#[.slice la f.fl.length lc]) (t:=45) (fr:=(0,0)) (D8 Q9)) (by intro u hu;simp at hu;rcases hu with rfl;rfl) Q8 Q0 Q8 Q5 _ rfl ?_))
   intro g1 cap1 w1 hown1 hgrow1 _ _;have hB1:=X2 (Below.alloc (Below.alloc HBEL.out HBEL.out.size _) Q5 _) ((HROW.out.alloc _).alloc _) hgrow1;have HB1:=hid hB1;have HO1:=hid hown1;clear hB1 hown1 hgrow1 k0 k1;go_wp2_with fail;go_roundw
   case rel=>exact ⟨i+1,by omega,by go_num,by
    rw[HTK.out,HLV.out];exact HO1.out,HB1.out⟩
   case measure=>simp [intOf];omega
  ·obtain rfl:i=R.obs.length:=by omega
   rw[List.take_length] at HROW;clear hbel hrow;go_wp2_with fail;go_ret;exact⟨_,rfl,HROW.out,HBEL.out⟩
theorem cM {P:Program} {w:World} {ops:Array Oper} {o:Oper} {a:Act} {K:Act→World→Prop} {Q:Exit→Act→World→Prop} {E:Prop} (hgd:o.guard=none) (s x:Operand) (t:TypeId)
  (ho:o.op=.call { callee:=.builtin .append,args:=#[s,x],argTypes:=#[t,t] })
  (base:Nat) (e:TypeId) (i:TypeInfo) (z:Value) (size bytes:Nat) (ht:P.underlying t=some (.slice e)) (hi:P.info? e=some i) (hz:i.zero=some z)
  (hsize:i.size=size) (hby:i.bytes=bytes) (hzs:z.cells.size=size) (hsz:0 < size)
  (v:Value) (n:Nat) (xs:List Value) (hs:a.eval s=v) (hown:w.ownsRow base e size v n xs)
  (ad:Option Addr) (m c:Nat) (news:List Value) (hx:a.eval x=.slice ad m c) (hl:news.length=m*size) (hnews:0 < m→∃d,ad=some d∧∀j u,news[j]?=some u→w.cell? (d.add j)=some u) (h1:∀u∈news,u.oneCell'=true)
  (h63:n+m≤maxLen) (hbytes:(n+m)*bytes≤140737488355328) (hbase:base≤w.heap.size)
  (h:∀v' w',w'.ownsRow base e size v' (n+m) (xs++news)→w.grownBy w' v.ownBlock→(∀g,v'.ownBlock=some g→v.ownBlock=some g∨g=w.heap.size)→K (a.put o.dst v') w') :
  if Region.wanted o (yielded ops a.tmps)=true then Oper.wp P o a w K Q else E:=by
 have hw:Region.wanted o (yielded ops a.tmps)=true:=by simp [Region.wanted,hgd]
 rw[if_pos hw];exact jT w s x t ho base e i z size bytes ht hi hz hsize hby hzs hsz v n xs hs hown ad m c news hx hl hnews h1 h63 hbytes hbase h
theorem a5e {w:World} {base n:Nat} {v:Value} {xs:List Value} (h:w.ownsRow base 45 1 v n xs):∃a c,v=.slice a n c∧(0 < n→∃d,a=some d∧∀j u,xs[j]?=some u→w.cell? (d.add j)=some u):=by
 obtain⟨a,c,rfl⟩:=B0 h;refine⟨a,c,rfl,fun h0=>?_⟩;obtain⟨b,c',e,_,_⟩:=h.form h0
 cases e;refine⟨_,rfl,fun j u hu=>?_⟩;have hj:=(List.getElem?_eq_some_iff.1 hu).1;have hl:=h.1;rw[X1,h.cellAt j Q8];exact hu
theorem nD {own:Own} {mb:Nat} {g:PgR} {R:McR} {w:World} (h:A3 w own mb g R) (hf:R.frs.length≤1000) (hn:R.obs.length≤1000) :
  Calls Tryz.prog 101 #[.pointer (some ⟨mb,0,none⟩)] w fun e w'=>∃v,e=.returned v∧w'.ownsRow w.heap.size 45 1 v (R.frs.length*2+R.obs.length) (T5 R.frs++cD R.obs)∧Below w.heap.size w w':=by
 have hmb:mb < w.heap.size:=h.lt mb _ h.me;obtain⟨i97,hi,hz,hsz,hby⟩:=info_parts wD;have HI:=hid hi;have HZ:=hid hz;have HSZ:=hid hsz;have HBY:=hid hby;have HF:Hid (∀W,Below w.heap.size w W→Calls Tryz.prog 125 #[.pointer (some ⟨mb,3,none⟩)] W fun e w'=>∃v,e=.returned v∧w'.ownsRow W.heap.size 45 1 v (R.frs.length*2) (T5 R.frs)∧Below W.heap.size W w'):=fun W hW=>lV (h.same hW.size fun k hk=>hW.block k hk) hf
 have HO:Hid (∀U W v,Below w.heap.size w U→Below U.heap.size U W→W.ownsRow U.heap.size 45 1 v (R.frs.length*2) (T5 R.frs)→∀W',Below W.heap.size W W'→Calls Tryz.prog 130 #[.pointer (some ⟨mb,4,none⟩)] W' fun e w' =>
   ∃a3 c3,e=.returned (.slice a3 R.obs.length c3)∧w'.ownsRow w.heap.size 45 1 v (R.frs.length*2) (T5 R.frs)∧(0 < R.obs.length→∃d,a3=some d∧∀j u,(cD R.obs)[j]?=some u→w'.cell? (d.add j)=some u)∧(∀u∈cD R.obs,u.oneCell'=true)∧Below w.heap.size w w'):=by
  intro U W v hU hW hrow W' hW';have hB:=A1 hW' (A1 hW hU);refine (tM (h.same hB.size fun k hk=>hB.block k hk) hn).mono ?_;rintro e w' ⟨v3,rfl,hv3,hb3⟩;obtain⟨a3,c3,rfl,hs⟩:=a5e hv3;have hb':=A1 hb3 hW';refine⟨a3,c3,rfl,C5 (A2 hrow fun b hb=>hb'.block b (hrow.lt b hb).2) hU.size,hs,fun u hu=>?_,A1 hb3 hB⟩;obtain⟨o,ho,rfl⟩:=List.mem_map.1 hu
  obtain⟨k,hk⟩:=List.mem_iff_getElem?.1 ho;obtain⟨fa,fc,e⟩:=C6 (h.fld k o hk);rw[e];rfl
 clear h hi hz hsz hby;have hfl:(cD R.obs).length=R.obs.length*1:=by simp [cD]
 generalize cD R.obs=fl at *
 generalize T5 R.frs=pl at *
 go_enter Tryz.func101,Tryz.ntmps101;go_wp2_with fail;go_region_law (first | (go_simp;go_at_call 125;refine (HF.out _ ?_).mono ?_;exact P0;rintro e w2 ⟨v2,rfl,hv2,hb2⟩;have HR2:=hid (HO.out _ w2 v2 P0 hb2 hv2);clear hv2 hb2;dsimp only) | (go_simp;go_at_call 130;refine (HR2.out _ ?_).mono ?_;exact P0;rintro e w3 ⟨a3,c3,rfl,hv2,hv3,hone,hb3⟩;have HV2:=hid hv2;have HV3:=hid hv3;have HONE:=hid hone;have HB3:=hid hb3;have hs3:=hb3.size;clear hv2 hv3 hone hb3;dsimp only) | (refine cM rfl (.tmp 6) (.tmp 10) 160 rfl w.heap.size 45 i97 _ 1 24 Tryz.underlying160 HI.out HZ.out HSZ.out HBY.out rfl Q7 v2 (R.frs.length*2) pl (by first | rfl | simp [Act.eval,Act.put]) (by repeat (first | exact HV2.out | refine World.ownsRow.drew ?_)) a3 R.obs.length c3 fl (by first | rfl | simp [Act.eval,Act.put]) hfl (by first | exact HV3.out | (intro h0;obtain ⟨d,e1,e2⟩:=HV3.out h0;exact ⟨d,e1,e2⟩)) HONE.out Q0 Q8 P9 ?_;intro v4 w4 hown4 hgrow4 _;have HB4:=hid (X2 (by repeat (first | exact HB3.out | refine Below.drew ?_)) (by repeat (first | exact HV2.out | refine World.ownsRow.drew ?_)) hgrow4);have HO4:=hid hown4;clear hown4 hgrow4))
 all_goals
  go_wp2_with fail;go_ret;exact⟨_,rfl,HO4.out,HB4.out⟩
theorem a9d {l:List Nat} {x i:Nat} (h:x∉l.take i) (hx:l[i]?=some x):ixA l x=some i:=by
 induction l generalizing i with
 | nil=>simp at hx
 | cons a l ih =>
  cases i with
  | zero =>
   simp at hx;rw[ixA,if_pos hx]
  | succ i =>
   simp at hx;rw[List.take_succ_cons] at h;rw[ixA,if_neg (fun e=>h (by simp [e])),ih (fun e=>h (by simp [e])) hx];rfl
def rW (al:List Nat) (x:Nat):Int:=match ixA al x with | some i=>(i:Int) | none => -1
theorem a4f (a:Option Addr) (l:List Nat) (c x:Nat) (w:World) (hl:l.length≤1000) (hs:aA w a l) :
  Calls Tryz.prog 75 #[.slice a l.length c,.int .i64 (x:Int)] w fun e w'=>e=.returned (.int .i64 (rW l x))∧Below w.heap.size w w':=by
 have HS:=hid hs;clear hs;go_enter Tryz.func75,Tryz.ntmps75;go_wp2_with fail;go_loopw [8] (fun v wr=>∃i:Nat,i≤l.length∧v=.int .i64 i∧x∉l.take i∧Below w.heap.size w wr) (fun v _=>l.length - (intOf v).toNat)
 case atStart=>exact ⟨0,Nat.zero_le _,rfl,by simp,Below.refl _ _⟩
 case round =>
  obtain⟨i,hi,rfl,hni,hbel⟩:=hrel;have HBEL:=hid hbel;have HNI:=hid hni;by_cases hlt:i < l.length
  ·obtain ⟨b,rfl,hb,hc⟩:=HS.out Q8
   obtain⟨y,hy⟩:∃y,l[i]?=some y:=⟨_,List.getElem?_eq_getElem hlt⟩
   have k0:=(hbel.cell (p:=⟨b,i,none⟩) hb).trans (hc i y hy);have hlw:b < wr.heap.size:=Nat.lt_of_lt_of_le hb hbel.size;have HY:=hid hy;clear hc hbel hni hy
   cases hxy:((x:Int) == (y:Int))
   ·go_wp2_with fail
    go_roundw
    case rel=>exact ⟨i+1,by omega,by go_num,by
     rw[List.take_add_one,HY.out];simp only[Option.toList_some,List.mem_append,List.mem_singleton,not_or];exact⟨HNI.out,fun e=>by subst e;simp at hxy⟩,by repeat (first | exact HBEL.out | refine Below.drew ?_ | refine Below.drewQ ?_ _)⟩
    case measure=>simp [intOf];omega
   ·have HX:Hid (rW l x=(i:Int)):=by
     refine hid ?_;have:x=y:=by have:=beq_iff_eq.1 hxy;omega
     subst this;unfold rW;rw[a9d HNI.out HY.out]
    go_wp2_with fail;go_ret;exact⟨by rw [HX.out];rfl,by repeat (first | exact HBEL.out | refine Below.drew ?_ | refine Below.drewQ ?_ _)⟩
  ·obtain rfl:i=l.length:=by omega
   rw[List.take_length] at HNI;have HX:Hid (rW l x = -1):=by
    refine hid ?_;unfold rW;rw[zW HNI.out]
   clear hbel hni;go_wp2_with fail;go_ret;exact⟨by rw [HX.out];rfl,by repeat (first | exact HBEL.out | refine Below.drew ?_ | refine Below.drewQ ?_ _)⟩
structure a2R (W:World) (kb:Nat) (al:List Nat):Prop where
 c0:∃a c,W.cell? ⟨kb,0,none⟩=some (.slice a al.length c)∧aA W a al
 lt:kb < W.heap.size
theorem a8d {W:World} {kb:Nat} {al:List Nat} (h:a2R W kb al) (hl:al.length≤1000) (x:Nat) :
  Calls Tryz.prog 74 #[.int .i64 (x:Int),.pointer (some ⟨kb,0,none⟩)] W fun e w'=>e=.returned (.int .i64 (rW al x))∧Below W.heap.size W w':=by
 obtain⟨⟨a,c,c0,hn⟩,hk⟩:=h;have HN:=hid hn;clear hn;go_enter Tryz.func74,Tryz.ntmps74;go_wp2_with fail;refine (a4f a al c x _ hl HN.out).mono ?_;rintro e w1 ⟨rfl,hb⟩;have HB:=hid hb;clear hb;go_wp2_with fail;go_ret;exact⟨rfl,HB.out⟩
def cN (r:Int):Val:=if r < 0 then (0,0) else (2,r)
theorem lZ (r:Int) (W:World):Calls Tryz.prog 103 #[.int .i64 r] W fun e w'=>e=.returned (.agg #[.int .u8 (cN r).1,.int .i64 (cN r).2])∧Below W.heap.size W w':=by
 go_enter Tryz.func103,Tryz.ntmps103;by_cases h:r < 0
 ·have HO:Hid (cN r=(0,0)):=by refine hid ?_;unfold cN;rw [if_pos h]
  go_wp2_with fail;refine bodyPost_ret (v:=.agg #[.int .u8 0,.int .i64 0]) (by simp [results,Tryz.results103,go_sem]) rfl ?_;rw[HO.out];exact⟨rfl,by repeat (first | exact Below.refl _ _ | refine Below.drew ?_ | refine Below.drewQ ?_ _ | refine Below.setCell ?_ P7 _ | refine Below.alloc ?_ P7 _)⟩
 ·have HO:Hid (cN r=(2,r)):=by refine hid ?_;unfold cN;rw [if_neg h]
  go_wp2_with (go_at_call 131;refine (bW _ _).mono ?_;rintro e w' ⟨rfl,o4,rfl⟩)
  refine bodyPost_ret (v:=.agg #[.int .u8 2,.int .i64 r]) (by simp [results,Tryz.results103,go_sem]) rfl ?_;rw[HO.out];exact⟨rfl,by repeat (first | exact Below.refl _ _ | refine Below.drew ?_ | refine Below.drewQ ?_ _ | refine Below.setCell ?_ P7 _ | refine Below.alloc ?_ P7 _)⟩
theorem a6O (al:List Nat) (x:Nat):C4 al (2,(x:Int))=cN (rW al x):=by
 unfold C4 cN rW;rw[if_pos rfl];have:((2:Int),(x:Int)).2.toNat=x:=by simp
 rw[this]
 cases ixA al x with
 | none=>rfl
 | some i=>simp only;rw [if_neg Q8]
def vQ (r:Int):Int:=if bits BinOp.and IntKind.u32 r 1=1 then bits BinOp.xor IntKind.u32 (r / 2) 3988292384 else r / 2
def cZ:Nat→Int→Int
 | 0,r=>r
 | n+1,r=>vQ (cZ n r)
def qD (r b:Int):Int:=cZ 8 (bits BinOp.xor IntKind.u32 r (b % 4294967296))
def dY (l:List Int):Int:=l.foldl qD 4294967295
theorem a2p {l:List Int} {i:Nat} {x:Int} (h:l[i]?=some x):dY (l.take (i+1))=qD (dY (l.take i)) x:=by
 have e:l.take (i+1)=l.take i++[x]:=by rw [List.take_add_one,h];rfl
 rw[e];simp[dY,List.foldl_append]
def Y2 (W:World) (a:Option Addr) (l:List Int):Prop:=0 < l.length→∃b o,a=some ⟨b,o,none⟩∧b < W.heap.size∧∀(i:Nat) (x:Int),l[i]?=some x→W.cell? ⟨b,o+i,none⟩=some (.int .u8 x)
def kS (l:List Int):List Int :=
 [bits BinOp.xor IntKind.u32 IntKind.u32.max (dY l) % 256,bits BinOp.xor IntKind.u32 IntKind.u32.max (dY l) / 256 % 256,bits BinOp.xor IntKind.u32 IntKind.u32.max (dY l) / 65536 % 256,bits BinOp.xor IntKind.u32 IntKind.u32.max (dY l) / 16777216 % 256]
theorem vA {W:World} (a:Option Addr) (c:Nat) (l:List Int) (hl:Y2 W a l) (hn:l.length≤20000) :
  Calls Tryz.prog 47 #[.slice a l.length c] W fun e w'=>e=.returned (.slice (some ⟨W.heap.size,0,none⟩) 4 4)∧w'=W.alloc (.cells (N3 (kS l)).toArray 5):=by
 have HL:=hid hl;clear hl;go_enter Tryz.func47,Tryz.ntmps47;go_wp2_with fail;go_loopw [3,10] (fun vr vi wr=>∃i:Nat,i≤l.length∧vi=.int .i64 i∧vr=.int .u32 (dY (l.take i))∧W=wr) (fun _ vi _=>l.length - (intOf vi).toNat)
 case atStart=>exact ⟨0,Nat.zero_le _,rfl,rfl,by first | rfl | trivial⟩
 case round =>
  obtain⟨i,hi,rfl,rfl,rfl⟩:=hrel;by_cases hlt:i < l.length
  ·obtain ⟨x,hx⟩:∃x,l[i]?=some x:=⟨_,List.getElem?_eq_getElem hlt⟩
   obtain⟨b,o,rfl,hb,hcs⟩:=HL.out Q8;have x0:=hcs i x hx;have HTK:=hid (a2p hx);clear hcs hx;generalize dY (l.take i)=r at *
   go_wp2_with fail;go_loopw [3,18] (fun vr vi wr=>∃k:Nat,k≤8∧vi=.int .i64 k∧vr=.int .u32 (cZ k (bits BinOp.xor IntKind.u32 r (x % 4294967296)))∧W=wr) (fun _ vi _=>8 - (intOf vi).toNat)
   case atStart=>exact ⟨0,Nat.zero_le _,rfl,rfl,by first | rfl | trivial⟩
   case round =>
    obtain⟨k,hk,rfl,rfl,rfl⟩:=hrel;have HB:Hid (cZ (k+1) (bits BinOp.xor IntKind.u32 r (x % 4294967296))=vQ (cZ k (bits BinOp.xor IntKind.u32 r (x % 4294967296)))):=hid rfl;have HB8:Hid (k=8→cZ k (bits BinOp.xor IntKind.u32 r (x % 4294967296))=qD r x):=hid (by rintro rfl;rfl);generalize cZ k (bits BinOp.xor IntKind.u32 r (x % 4294967296))=q at *
    by_cases hk8:k < 8
    ·have hk8':(k:Int) < 8:=by omega
     have HS:Hid (vQ q=if bits BinOp.and IntKind.u32 q 1=1 then bits BinOp.xor IntKind.u32 (q / 2) 3988292384 else q / 2):=hid rfl;generalize hlow:bits BinOp.and IntKind.u32 q 1=low at *
     have HLOW:=hid hlow;by_cases h1:low=1
     ·subst h1
      go_wp2_with fail;go_roundw
      case rel=>exact ⟨k+1,by omega,by go_num,by rw [HB.out,HS.out,if_pos rfl],by first | rfl | trivial⟩
      case measure=>simp [intOf];omega
     ·have h1b:(low == 1)=false:=by simpa using h1
      go_wp2_with fail;go_roundw
      case rel=>exact ⟨k+1,by omega,by go_num,by rw [HB.out,HS.out,if_neg h1],by first | rfl | trivial⟩
      case measure=>simp [intOf];omega
    ·obtain rfl:k=8:=by omega
     have H8:=hid (HB8.out rfl);clear HB HB8;go_wp2_with fail;go_roundw
     case rel=>exact ⟨i+1,by omega,by go_num,by rw [HTK.out,← H8.out],by first | rfl | trivial⟩
     case measure=>simp [intOf];omega
  ·obtain rfl:i=l.length:=by omega
   rw[List.take_length];have HS:Hid (kS l=[bits BinOp.xor IntKind.u32 IntKind.u32.max (dY l) % 256,bits BinOp.xor IntKind.u32 IntKind.u32.max (dY l) / 256 % 256,bits BinOp.xor IntKind.u32 IntKind.u32.max (dY l) / 65536 % 256,bits BinOp.xor IntKind.u32 IntKind.u32.max (dY l) / 16777216 % 256]):=hid rfl;generalize dY l=r at *
   go_wp2_with fail;go_ret;refine⟨rfl,?_⟩;rw[HS.out];rfl
theorem sA {W:World} {wb ab:Nat} {bs:List Int} (h:T1 W wb ab bs) (hn:bs.length≤20000) :
  Calls Tryz.prog 48 #[.pointer (some ⟨wb,0,none⟩)] W fun e w'=>e=.returned (.slice (some ⟨ab,0,none⟩) bs.length 20000)∧pP W w':=by
 have c0:=h.c0;have c1:=h.c1;have hw:=h.wlt;have HH:=hid h;generalize bs.length=n at *
 have hn':(n:Int)≤20000:=by omega
 clear h;go_enter Tryz.func48,Tryz.ntmps48;go_wp2_with fail;go_region
 all_goals go_wp2_with fail
 all_goals go_ret
 all_goals exact ⟨rfl,⟨rfl,rfl,rfl,rfl⟩⟩
theorem a6r:(Tryz.prog.info? 5).map (fun i=>(i.zero,i.size,i.bytes))=some (some (.int .u8 0),1,1):=by kernel_rfl
theorem tL (w:World):Calls Tryz.prog 43 #[] w fun e w'=>∃wb ab,e=.returned (.pointer (some ⟨wb,0,none⟩))∧T1 w' wb ab []∧w.heap.size≤wb∧w.heap.size≤ab∧Below w.heap.size w w':=by
 obtain⟨i5,hi,hz,hsz,hby⟩:=info_parts a6r;obtain⟨X,hX,HMK⟩:∃X:Array Value,X.size=20000∧Hid (∀W:World,(Instr.makeSlice 33 (.int .i64 20000) (.int .i64 20000)).run Tryz.prog W=.ok (.slice (some ⟨W.heap.size,0,none⟩) 20000 20000) (W.alloc (.cells X 5))):=by
  refine⟨madeCells #[.int .u8 0] 20000,by rw [size_madeCells],hid fun W=>?_⟩;have hr:=run_make (P:=Tryz.prog) W 33 5 i5 _ Tryz.underlying33 hi hz .i64 .i64 20000 20000 Q8 (Int.le_refl _) (by rw [hby];omega) Q8;simpa [hsz,Value.cells] using hr
 have hmk:=HMK.out;clear hi hz hsz hby HMK;go_enter Tryz.func43,Tryz.ntmps43;go_wp2_with fail;go_ret;refine⟨w.heap.size+1,w.heap.size,rfl,⟨by go_simp,by go_simp,by go_simp,by go_simp,⟨X.toList,?_⟩,by simp,by omega⟩,by omega,Nat.le_refl _,Below.alloc (Below.alloc (Below.refl _ _) (Nat.le_refl _) _) Q9 _⟩;have h1:=World.ownsRow_lit (base:=0) (e:=5) (size:=1) w X 20000 (Nat.zero_le _) Q0 (by rw [hX])
 simpa [N3] using h1.alloc (Obj.cells #[.slice (some ⟨w.heap.size,0,none⟩) 20000 20000,.int .i64 0,.bool false] 94)
theorem a1k (b o n c:Nat) (xs:List Value) (w:World) (hn:0 < n) (hm:n≤100000) (hl:xs.length=n*1) (hx:∀j u,xs[j]?=some u→w.cell? ⟨b,o+j,none⟩=some u) (h1:∀u∈xs,u.oneCell'=true) (hb:b < w.heap.size) :
  Calls Tryz.prog 49 #[.slice (some ⟨b,o,none⟩) n c] w fun e w'=>aJ 5 1 n xs w e w':=by
 have HX:=hid hx;have HL:=hid hl;have H1:=hid h1;clear hx hl h1;go_enter Tryz.func49,Tryz.ntmps49;have heq:∀W:World,(binOp .eql 33 (.slice (some ⟨b,o,none⟩) n c) (.slice none 0 0)).run Tryz.prog W=.ok (.bool false) W:=fun W=>Go.Lib.run_eql_slice_nil W 33 5 _ n c 0 0 Tryz.underlying33
 obtain⟨i,hi,hz,hsz,hby⟩:=info_parts a6r;have HI:=hid hi;have HZ:=hid hz;have HSZ:=hid hsz;have HBY:=hid hby;clear hi hz hsz hby;go_wp2_with (at_builtin;go_must (refine wpList_append_lies _ rfl (.tmp 5) (.tmp 6) 33 rfl w.heap.size 5 i _ 1 1 Tryz.underlying33 HI.out HZ.out HSZ.out HBY.out rfl Q7 (.slice (some ⟨w.heap.size,0,none⟩) 0 0) 0 [] rfl (World.ownsRow_made w #[] 0 (Nat.le_refl _) (Nat.zero_le _) rfl) ⟨b,o,none⟩ n c xs rfl HL.out (fun j u hj=>by rw [iP];have:=HX.out j u hj;go_simp) H1.out hn Q0 Q8 Q9 _ rfl ?_))
 intro g cap w5 hown hgrow hat hlt;have HB:Hid (Below w.heap.size w w5):=X7 (v:=.slice (some ⟨w.heap.size,0,none⟩) 0 0) (Below.alloc (Below.refl _ _) (Nat.le_refl _) _) rfl (Nat.le_refl _) hgrow;have ho:w5.ownsRow w.heap.size 5 1 (.slice (some ⟨g,0,none⟩) n cap) n xs:=by simpa using hown
 have HO:=hid ho;clear hown hgrow hat hlt ho;go_wp2_with fail;go_ret;exact⟨g,cap,rfl,HO.out,HB.out⟩
end Go.Proofs.YtbkmgoffiigdbabGreatDoor
