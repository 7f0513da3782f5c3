import Derived.Test.YtbkmgoffiigdbabGreatDoorVUq
import Derived.Test.YtbkmgoffiigdbabGreatDoorVYa
namespace Go.Proofs.YtbkmgoffiigdbabGreatDoor
open Go.RowKit Go.Sort
set_option maxHeartbeats 8000000
set_option maxRecDepth 100000
structure aZ (B:Nat) (w:World) (hb sb sc:Nat) (dv:Value) (obs:List ObR) (dr:List Int):Prop where
 b0:B≤hb
 b1:B≤sb
 b2:∀b,dv.ownBlock=some b→B≤b
 lt:hb < w.heap.size
 c0:w.cell? ⟨hb,0,none⟩=some (.slice (some ⟨sb,0,none⟩) obs.length sc)
 c1:w.cell? ⟨hb,1,none⟩=some dv
 fz:∀j,w.frozen? ⟨hb,j,none⟩=false
 slots:w.ownsRow 0 75 2 (.slice (some ⟨sb,0,none⟩) obs.length sc) obs.length (obs.flatMap ObR.cells)
 draws:w.ownsRow 0 3 1 dv dr.length (dr.map fun n=>.int .i64 n)
 sn:sb≠hb
 dn:∀b,dv.ownBlock=some b→b≠hb∧b≠sb
 form:∀o,o∈obs→∃fa fc,o.fv=.slice fa o.fl.length fc
structure cA (hb sb:Nat) (dv:Value) (w w':World):Prop where
 os:w'.os=w.os
 tape:w'.tape=w.tape
 output:w'.output=w.output
 size:w.heap.size≤w'.heap.size
 block:∀k,k < w.heap.size→k≠hb→k≠sb→dv.ownBlock≠some k→w'.heap[k]?=w.heap[k]?
theorem cA.of_below {hb sb:Nat} {dv:Value} {w w':World} (h:Below w.heap.size w w'):cA hb sb dv w w':=⟨h.os,h.tape,h.output,h.size,fun k hk _ _ _=>h.block k hk⟩
theorem cA.trans {hb sb:Nat} {dv dv':Value} {w w' w'':World} (h:cA hb sb dv w w') (h':cA hb sb dv' w' w'') (hd:∀b,dv'.ownBlock=some b→dv.ownBlock=some b):cA hb sb dv w w'' :=
 ⟨h'.os.trans h.os,h'.tape.trans h.tape,h'.output.trans h.output,Nat.le_trans h.size h'.size,fun k hk h1 h2 h3=>(h'.block k (Nat.lt_of_lt_of_le hk h.size) h1 h2 fun e=>h3 (hd k e)).trans (h.block k hk h1 h2 h3)⟩
theorem aZ.slt {B:Nat} {w:World} {hb sb sc:Nat} {dv:Value} {obs:List ObR} {dr:List Int} (h:aZ B w hb sb sc dv obs dr):sb < w.heap.size:=(M6 h.slots).2
theorem aZ.below {B:Nat} {w w':World} {hb sb sc:Nat} {dv:Value} {obs:List ObR} {dr:List Int} (h:aZ B w hb sb sc dv obs dr) (hB:Below w.heap.size w w'):aZ B w' hb sb sc dv obs dr:=by
 have hblk:=hB.block hb h.lt;refine⟨h.b0,h.b1,h.b2,Nat.lt_of_lt_of_le h.lt hB.size,?_,?_,fun j=>?_,A2 h.slots fun b hb'=>?_,A2 h.draws fun b hb'=>hB.block b (h.draws.lt b hb').2,h.sn,h.dn,h.form⟩
 ·rw [World.cell?_of_block (w:=w) (a:=⟨hb,0,none⟩) hblk];exact h.c0
 ·rw [World.cell?_of_block (w:=w) (a:=⟨hb,1,none⟩) hblk];exact h.c1
 ·rw [World.frozen?_of_block (w:=w) (a:=⟨hb,j,none⟩) hblk];exact h.fz j
 ·exact hB.block b (h.slots.lt b hb').2
theorem rI {B:Nat} {w:World} {hb sb sc:Nat} {dv:Value} {obs:List ObR} {dr:List Int} (h:aZ B w hb sb sc dv obs dr) (j:Nat) (hj:O3 obs j) (hn:obs.length≤1000) :
  Calls Tryz.prog 144 #[.slice (some ⟨sb,0,none⟩) obs.length sc,.func (.func 121) #[] #[]] w fun e w'=>e=.returned (.int .i64 (j:Int))∧Below w.heap.size w w':=by
 have hjl:j < obs.length:=by obtain ⟨⟨o,ho,_⟩,_⟩:=hj;exact (List.getElem?_eq_some_iff.1 ho).1
 have hrow:=h.slots;have hlt:=(M6 hrow).2;have HROW:=hid hrow;have HH:=hid h;have HJ:=hid hj;clear h hrow hj;go_enter Tryz.func144,Tryz.ntmps144;go_wp2_with fail;go_loopw [8] (fun v wr=>∃i:Nat,i≤j∧v=.int .i64 i∧Below w.heap.size w wr) (fun v _=>obs.length - (intOf v).toNat)
 case atStart=>exact ⟨0,Nat.zero_le _,rfl,Below.refl _ _⟩
 case round =>
  obtain⟨i,hi,rfl,hbel⟩:=hrel;have hil:i < obs.length:=by omega
  obtain⟨o,ho⟩:∃o,obs[i]?=some o:=⟨_,List.getElem?_eq_getElem hil⟩
  have hcell:∀t,t < 2→wr.cell? ⟨sb,i*2+t,none⟩=o.cells[t]?:=fun t ht=>by
   rw[hbel.cell (p:=⟨sb,_,none⟩) hlt,HROW.out.cellAt _ Q8];exact C3 ObR.cells_len ho ht
  obtain⟨fa,fc,hfv⟩:=HH.out.form o (List.mem_of_getElem? ho);have k0:wr.cell? ⟨sb,i*2,none⟩=some (.int .u8 o.kind):=hcell 0 Q8;have k1:wr.cell? ⟨sb,i*2+1,none⟩=some o.fv:=hcell 1 Q8;rw[hfv] at k1;have hlw:sb < wr.heap.size:=Nat.lt_of_lt_of_le hlt hbel.size;have HBEL:=hid hbel;by_cases hij:i=j
  ·have hk:(o.kind == 0)=true:=by
    obtain⟨⟨o',ho',hk'⟩,_⟩:=HJ.out;rw[hij,ho'] at ho;obtain rfl:=Option.some.inj ho;exact beq_iff_eq.2 hk'
   have HIJ:=hid hij;clear hcell hfv hbel ho hij;go_wp2_with (go_at_call 121;refine (O9 _ _ _ _ _).mono ?_;rintro e w' ⟨rfl,o4,rfl⟩)
   go_ret;exact⟨by rw [HIJ.out];rfl,Below.alloc HBEL.out HBEL.out.size _⟩
  ·have hk:(o.kind == 0)=false:=beq_eq_false_iff_ne.2 (HJ.out.2 i o Q8 ho)
   clear hcell hfv hbel ho;go_wp2_with (go_at_call 121;refine (O9 _ _ _ _ _).mono ?_;rintro e w' ⟨rfl,o4,rfl⟩)
   go_roundw
   case rel=>exact ⟨i+1,by omega,by go_num,Below.alloc HBEL.out HBEL.out.size _⟩
   case measure=>simp [intOf];omega
def vI (B hb sb sc:Nat) (dv:Value) (obs:List ObR) (j:Nat) (ds:List Int) (w:World) (e:Ending) (w':World):Prop :=
 ∃dv',e=.returned (.int .i64 (j:Int))∧aZ B w' hb sb sc dv' obs ds∧(∀b,dv'.ownBlock=some b→dv.ownBlock=some b)∧cA hb sb dv w w'∧w'.heap[sb]?=w.heap[sb]?
theorem vT {B:Nat} {w:World} {hb sb sc:Nat} {dv:Value} {obs:List ObR} (h:aZ B w hb sb sc dv obs []) (j:Nat) (hj:O3 obs j) (hn:obs.length≤1000) :
  Calls Tryz.prog 120 #[.pointer (some ⟨hb,0,none⟩)] w fun e w'=>e=.returned (.int .i64 (j:Int))∧Below w.heap.size w w':=by
 have c4:=h.c0;obtain⟨da,dc,hdv⟩:=C6 (own:=fun _=>some .draws) (t:=.draws) ⟨h.draws,fun _ _=>rfl⟩;have c5:=h.c1;rw[hdv,List.length_nil] at c5;have hmb:hb < w.heap.size:=h.lt;have HIX:Hid (∀U,Below w.heap.size w U→Calls Tryz.prog 144 #[.slice (some ⟨sb,0,none⟩) obs.length sc,.func (.func 121) #[] #[]] U fun e w'=>e=.returned (.int .i64 (j:Int))∧Below U.heap.size U w'):=fun U hU=>rI (h.below hU) j hj hn
 clear h hj hdv;go_enter Tryz.func120,Tryz.ntmps120;go_wp2_with (go_at_call 144;refine (HIX.out _ ?_).mono ?_;exact P0;rintro e w2 ⟨rfl,hb2⟩;have HB2:Hid (Below w.heap.size w w2):=A1 hb2 P0;clear hb2)
 go_ret;exact⟨rfl,HB2.out⟩
theorem a3V {B:Nat} {w U w2:World} {hb sb sc:Nat} {obs:List ObR} {d:Int} {r:List Int} {db dc:Nat} (h:aZ B w hb sb sc (.slice (some ⟨db,0,none⟩) (r.length+1) dc) obs (d::r)) (hU:Below w.heap.size w U) {e:Ending} (hp:dO db dc (r.map fun n=>.int .i64 n) U e w2) :
  (∀k,k < w.heap.size→k≠db→w2.heap[k]?=w.heap[k]?)∧w.heap.size≤w2.heap.size∧(w2.frozen? ⟨hb,1,none⟩=false∧w2.cell? ⟨hb,1,none⟩=some (.slice (some ⟨db,0,none⟩) (r.length+1) dc)) ∧
   aZ B (w2.setCell ⟨hb,1,none⟩ (.slice (some ⟨db,0,none⟩) r.length dc)) hb sb sc (.slice (some ⟨db,0,none⟩) r.length dc) obs r ∧
   cA hb sb (.slice (some ⟨db,0,none⟩) (r.length+1) dc) w (w2.setCell ⟨hb,1,none⟩ (.slice (some ⟨db,0,none⟩) r.length dc))∧(w2.setCell ⟨hb,1,none⟩ (.slice (some ⟨db,0,none⟩) r.length dc)).heap[sb]?=w.heap[sb]?:=by
 obtain⟨_,hrow,hsz,hblk,hos,htape,hout⟩:=hp;have hdn:=h.dn db rfl;have hkeep:∀k,k < w.heap.size→k≠db→w2.heap[k]?=w.heap[k]?:=fun k hk hn=>(hblk k hn).trans (hU.block k hk)
 have hs2:w.heap.size≤w2.heap.size:=by have:=hU.size;omega
 have hmbk:=hkeep hb h.lt (Ne.symm hdn.1);have hfz:∀j,w2.frozen? ⟨hb,j,none⟩=false:=fun j=>by rw [World.frozen?_of_block (w:=w) (a:=⟨hb,j,none⟩) hmbk];exact h.fz j
 have hc5:w2.cell? ⟨hb,1,none⟩=some (.slice (some ⟨db,0,none⟩) (r.length+1) dc):=by rw [World.cell?_of_block (w:=w) (a:=⟨hb,1,none⟩) hmbk];exact h.c1
 have hc4:w2.cell? ⟨hb,0,none⟩=some (.slice (some ⟨sb,0,none⟩) obs.length sc):=by rw [World.cell?_of_block (w:=w) (a:=⟨hb,0,none⟩) hmbk];exact h.c0
 have hmb2:hb < w2.heap.size:=Nat.lt_of_lt_of_le h.lt hs2;have hother:∀k,k < w.heap.size→k≠hb→k≠db→(w2.setCell ⟨hb,1,none⟩ (.slice (some ⟨db,0,none⟩) r.length dc)).heap[k]?=w.heap[k]?:=fun k hk h1 h2=>by
  rw[heap_setCell_other _ _ _ _ h1];exact hkeep k hk h2
 have hsb:=hother sb h.slt h.sn (fun e=>hdn.2 e.symm);rw[List.length_map] at hrow;refine⟨hkeep,hs2,⟨hfz 1,hc5⟩,⟨h.b0,h.b1,h.b2,by simpa using hmb2,by go_simp,by go_simp,fun j=>by have:=hfz j;go_simp,A2 h.slots fun b hb'=>?_,ownsRow_setCell_other hrow (fun e=>hdn.1 (by simpa [Value.ownBlock] using e)) _,h.sn,h.dn,h.form⟩,⟨hos.trans hU.os,htape.trans hU.tape,hout.trans hU.output,by simpa using hs2,fun k hk h1 h2 h3=>hother k hk h1 fun e=>h3 (by rw [e];rfl)⟩,hsb⟩
 obtain rfl:sb=b:=by simpa [Value.ownBlock] using hb'
 exact hsb
theorem vU {B:Nat} {w:World} {hb sb sc:Nat} {dv:Value} {obs:List ObR} {d:Int} {r:List Int} (h:aZ B w hb sb sc dv obs (d::r)) (j:Nat) (hp:eN obs (d::r) j r) (hn:obs.length≤1000) (hdn:r.length≤999) :
  Calls Tryz.prog 120 #[.pointer (some ⟨hb,0,none⟩)] w fun e w'=>vI B hb sb sc dv obs j r w e w':=by
 obtain⟨o,ho,hcase⟩:∃o,obs[(d % (obs.length:Int)).toNat]?=some o∧((o.kind=0∧j=(d % (obs.length:Int)).toNat)∨(o.kind≠0∧O3 obs j)):=hp.2
 have hol:=(List.getElem?_eq_some_iff.1 ho).1;have hpos:0 < obs.length:=by omega
 obtain⟨k,hk⟩:=Int.eq_ofNat_of_zero_le (Int.emod_nonneg d (show (obs.length:Int)≠0 by omega));rw[hk,Int.toNat_natCast] at ho hcase hol;have hlt:=h.slt;obtain⟨fa,fc,hfv⟩:=h.form o (List.mem_of_getElem? ho);have hcell:∀t,t < 2→w.cell? ⟨sb,k*2+t,none⟩=o.cells[t]?:=fun t ht=>by
  rw[h.slots.cellAt _ Q8];exact C3 ObR.cells_len ho ht
 have k0:w.cell? ⟨sb,k*2,none⟩=some (.int .u8 o.kind):=hcell 0 Q8;have k1:w.cell? ⟨sb,k*2+1,none⟩=some o.fv:=hcell 1 Q8;rw[hfv] at k1;have c4:=h.c0;obtain⟨db,dc,hdv,_,hdlt⟩:=h.draws.form Q9;rw[List.length_cons] at hdv;have hdrow:=h.draws;rw[hdv,List.length_cons,List.map_cons] at hdrow;subst hdv;have c5:=h.c1;have hmb:hb < w.heap.size:=h.lt;have d0:w.cell? ⟨db,0,none⟩=some (.int .i64 d):=by rw [hdrow.cellAt 0 Q8];rfl
 have HREST:Hid (∀U:World,Calls Tryz.prog 142 #[.int .i64 d,.int .i64 (obs.length:Int)] U fun e w'=>e=.returned (.int .i64 (k:Int))∧∃m,w'=U.drewN m):=fun U=>by
  have:=a0A d obs.length Q8 hn U;rw[hk] at this;exact this
 have HDEL:Hid (∀U:World,Below w.heap.size w U→Calls Tryz.prog 143 #[.slice (some ⟨db,0,none⟩) (r.length+1) dc,.int .i64 0,.int .i64 1] U fun e w'=>dO db dc (r.map fun n=>.int .i64 n) U e w'):=by
  intro U hU;have hrU:U.ownsRow 0 3 1 (.slice (some ⟨db,0,none⟩) (r.length+1) dc) (r.length+1) (.int .i64 d::r.map fun n=>.int .i64 n):=A2 hdrow fun b hb'=>by
   obtain rfl:db=b:=by simpa [Value.ownBlock] using hb'
   exact hU.block _ hdlt
  have:=qM db dc (.int .i64 d) (r.map fun n=>.int .i64 n) U (by simpa using hrU) (by
   intro u hu;obtain⟨n,_,rfl⟩:=List.mem_map.1 hu;rfl) Q5
  simpa using this
 have HEND:Hid (∀U w2 e,Below w.heap.size w U→dO db dc (r.map fun n=>.int .i64 n) U e w2→_):=fun U w2 e hU hp=>a3V h hU hp
 have HIX:Hid (o.kind≠0→∀V U,aZ B V hb sb sc (.slice (some ⟨db,0,none⟩) r.length dc) obs r→Below V.heap.size V U→Calls Tryz.prog 144 #[.slice (some ⟨sb,0,none⟩) obs.length sc,.func (.func 121) #[] #[]] U fun e w'=>e=.returned (.int .i64 (j:Int))∧Below U.heap.size U w'):=fun hne V U hV hU=>by
  rcases hcase with ⟨h0,_⟩ | ⟨_,hf⟩
  ·exact absurd h0 hne
  ·exact rI (hV.below hU) j hf hn
 have HJ:Hid ((o.kind == 0)=true→j=k):=fun h0=>by
  rcases hcase with ⟨_,hj⟩ | ⟨hne,_⟩
  ·exact hj
  ·exact absurd (beq_iff_eq.1 h0) hne
 have hdn1:=(h.dn db rfl).1;have hdn2:=(h.dn db rfl).2;have hhm:=h.sn;clear h hp hcase hdrow ho hk hcell hfv;go_enter Tryz.func120,Tryz.ntmps120;go_wp2_with fail;go_region_with (first | (go_at_call 142;refine (HREST.out _).mono ?_;rintro e w1 ⟨rfl,m1,rfl⟩))
 all_goals
  go_wp2_with (go_at_call 143;refine (HDEL.out _ ?_).mono ?_;exact P0;intro e w2 hdel;obtain ⟨hk2,hs2,⟨z5,q5⟩,hM,hO,hS⟩:=HEND.out _ w2 _ P0 hdel;have he:=hdel.1;rw [List.length_map] at he;subst he;have hmb2:hb < w2.heap.size:=Nat.lt_of_lt_of_le hmb hs2;have hhb2:sb < w2.heap.size:=Nat.lt_of_lt_of_le hlt hs2;have m4:=(World.cell?_of_block (w:=w) (a:=⟨hb,0,none⟩) (hk2 hb hmb (Ne.symm hdn1))).trans c4;have n0:=(World.cell?_of_block (w:=w) (a:=⟨sb,k*2,none⟩) (hk2 sb hlt (Ne.symm hdn2))).trans k0;have n1:=(World.cell?_of_block (w:=w) (a:=⟨sb,k*2+1,none⟩) (hk2 sb hlt (Ne.symm hdn2))).trans k1;have HM:=hid hM;have HO:=hid hO;have HS:=hid hS;clear hdel hk2 hs2 hM hO hS c4 c5 k0 k1 d0 HEND HDEL HREST)
  cases hkk:(o.kind == 0)
  ·go_wp2_with (first | (go_at_call 121;refine (O9 _ _ _ _ _).mono ?_;rintro e w' ⟨rfl,o4,rfl⟩) | (go_at_call 144;refine (HIX.out (fun e=>by rw [e] at hkk;cases hkk) _ _ HM.out ?_).mono ?_;exact P0;rintro e w3 ⟨rfl,hb3⟩;have HB3:Hid (Below _ (w2.setCell ⟨hb,1,none⟩ (.slice (some ⟨db,0,none⟩) r.length dc)) w3):=A1 hb3 P0;clear hb3))
   go_ret;exact⟨_,rfl,HM.out.below HB3.out,fun b hb=>hb,HO.out.trans (cA.of_below HB3.out) (dv':=.slice (some ⟨db,0,none⟩) r.length dc) (fun b hb=>hb),(HB3.out.block sb HM.out.slt).trans HS.out⟩
  ·go_wp2_with (first | (go_at_call 121;refine (O9 _ _ _ _ _).mono ?_;rintro e w' ⟨rfl,o4,rfl⟩))
   go_ret;have hB3:Below (w2.setCell ⟨hb,1,none⟩ (.slice (some ⟨db,0,none⟩) r.length dc)).heap.size (w2.setCell ⟨hb,1,none⟩ (.slice (some ⟨db,0,none⟩) r.length dc)) ((w2.setCell ⟨hb,1,none⟩ (.slice (some ⟨db,0,none⟩) r.length dc)).alloc o4):=Below.alloc (Below.refl _ _) (Nat.le_refl _) _;exact⟨_,by rw [HJ.out hkk];rfl,HM.out.below hB3,fun b hb=>hb,HO.out.trans (cA.of_below hB3) (dv':=.slice (some ⟨db,0,none⟩) r.length dc) (fun b hb=>hb),(hB3.block sb HM.out.slt).trans HS.out⟩
theorem a7K {B:Nat} {w:World} {hb sb sc:Nat} {dv:Value} {obs:List ObR} {dr:List Int} (h:aZ B w hb sb sc dv obs dr) (j:Nat) (ds:List Int) (hp:eN obs dr j ds) (hn:obs.length≤1000) (hdn:dr.length≤1000) :
  Calls Tryz.prog 120 #[.pointer (some ⟨hb,0,none⟩)] w fun e w'=>vI B hb sb sc dv obs j ds w e w':=by
 cases dr with
 | nil =>
  obtain⟨rfl,hf⟩:ds=[]∧O3 obs j:=hp;refine (vT h j hf hn).mono ?_;rintro e w' ⟨rfl,hb⟩;exact⟨dv,rfl,h.below hb,fun b hb=>hb,cA.of_below hb,hb.block sb h.slt⟩
 | cons d r =>
  obtain rfl:ds=r:=hp.1;exact vU h j hp hn (by simp at hdn;omega)
def yI (B hb sb sc:Nat) (dv:Value) (obs:List ObR) (j:Nat) (ds:List Int) (p:ObR) (w:World) (e:Ending) (w':World):Prop :=
 ∃dv',e=.returned (.int .i64 (j:Int))∧aZ B w' hb sb sc dv' (obs.set j p) ds∧(∀b,dv'.ownBlock=some b→dv.ownBlock=some b)∧cA hb sb dv w w'
theorem a9H {B:Nat} {w:World} {hb sb sc:Nat} {dv:Value} {obs:List ObR} {dr:List Int} (h:aZ B w hb sb sc dv obs dr) (j:Nat) (ds:List Int) (hj:eN obs dr j ds) (hn:obs.length≤1000) (hdn:dr.length≤1000) (p:ObR) (fa:Option Addr) (fc:Nat) (hfv:p.fv=.slice fa p.fl.length fc) :
  Calls Tryz.prog 87 #[.pointer (some ⟨hb,0,none⟩),.agg #[.int .u8 p.kind,p.fv]] w fun e w'=>yI B hb sb sc dv obs j ds p w e w':=by
 obtain⟨o,ho,hok⟩:=hj.free;have hjl:=(List.getElem?_eq_some_iff.1 ho).1;have hlt:=h.slt;have hmb:hb < w.heap.size:=h.lt;have HCH:Hid (∀U,Below w.heap.size w U→Calls Tryz.prog 120 #[.pointer (some ⟨hb,0,none⟩)] U fun e w'=>vI B hb sb sc dv obs j ds U e w'):=fun U hU=>a7K (h.below hU) j ds hj hn hdn
 have HAT:Hid (∀U w2 dv',Below w.heap.size w U→aZ B w2 hb sb sc dv' obs ds→(∀b,dv'.ownBlock=some b→dv.ownBlock=some b)→cA hb sb dv U w2 →
   ((w2.cell? ⟨hb,0,none⟩=some (.slice (some ⟨sb,0,none⟩) obs.length sc)∧w2.frozen? ⟨sb,j*2,none⟩=false∧w2.frozen? ⟨sb,j*2+1,none⟩=false∧w2.cell? ⟨sb,j*2,none⟩=some (.int .u8 o.kind)∧(∃v,w2.cell? ⟨sb,j*2+1,none⟩=some v))∧hb < w2.heap.size∧sb < w2.heap.size) ∧
   ∀V,Below w2.heap.size w2 V→yI B hb sb sc dv obs j ds p w (.returned (.int .i64 (j:Int))) ((V.setCell ⟨sb,j*2,none⟩ (.int .u8 p.kind)).setCell ⟨sb,j*2+1,none⟩ p.fv)):=by
  intro U w2 dv' hU hm2 hdv hbut;have hcell:∀t,t < 2→w2.cell? ⟨sb,j*2+t,none⟩=o.cells[t]?:=fun t ht=>by
   rw[hm2.slots.cellAt _ Q8];exact C3 ObR.cells_len ho ht
  refine⟨⟨⟨hm2.c0,hm2.slots.frozenAt _,hm2.slots.frozenAt _,hcell 0 Q8,_,hcell 1 Q8⟩,hm2.lt,hm2.slt⟩,fun V hV=>?_⟩;have hmV:=hm2.below hV;have hblk:∀k,k≠sb→((V.setCell ⟨sb,j*2,none⟩ (.int .u8 p.kind)).setCell ⟨sb,j*2+1,none⟩ p.fv).heap[k]?=V.heap[k]?:=fun k hk=>by
   rw[heap_setCell_other _ _ _ _ hk,heap_setCell_other _ _ _ _ hk]
  have hblkh:=hblk hb (Ne.symm hm2.sn);refine⟨dv',rfl,⟨hm2.b0,hm2.b1,hm2.b2,by simpa using hmV.lt,?_,?_,fun i=>?_,?_,A2 hmV.draws fun b hb'=>hblk b (hm2.dn b hb').2,hm2.sn,hm2.dn,fun x hx=>?_⟩,hdv,⟨hV.os.trans (hbut.os.trans hU.os),hV.tape.trans (hbut.tape.trans hU.tape),hV.output.trans (hbut.output.trans hU.output),?_,fun k hk h1 h2 h3=>?_⟩⟩
  ·rw [World.cell?_of_block (w:=V) (a:=⟨hb,0,none⟩) hblkh,List.length_set];exact hmV.c0
  ·rw [World.cell?_of_block (w:=V) (a:=⟨hb,1,none⟩) hblkh];exact hmV.c1
  ·rw [World.frozen?_of_block (w:=V) (a:=⟨hb,i,none⟩) hblkh];exact hmV.fz i
  ·have:=(World.ownsRow.stored (World.ownsRow.stored hmV.slots (j*2) (.int .u8 p.kind)).1 (j*2+1) p.fv).1
   rw[← a3l ho] at this;rw[List.length_set];exact this
  ·rcases List.mem_or_eq_of_mem_set hx with hx | rfl
   ·exact hm2.form x hx
   ·exact ⟨fa,fc,hfv⟩
  ·have:=hU.size;have:=hbut.size;have:=hV.size
   simp;omega
  ·rw [hblk k h2,hV.block k (Nat.lt_of_lt_of_le (Nat.lt_of_lt_of_le hk hU.size) hbut.size),hbut.block k (Nat.lt_of_lt_of_le hk hU.size) h1 h2 h3,hU.block k hk]
 have HFV:=hid hfv;rw[hfv] at HAT ⊢;have hN1:w.heap.size≠hb:=by omega
 have hN2:w.heap.size≠sb:=by omega
 have hN3:dv.ownBlock≠some w.heap.size:=fun e=>by have:=(h.draws.lt _ e).2;omega
 clear h hj ho hok hfv;go_enter Tryz.func87,Tryz.ntmps87;go_wp2_with (go_at_call 120;refine (HCH.out _ ?_).mono ?_;exact P0;rintro e w2 ⟨dv',rfl,hm2,ht2,hk2,_⟩;obtain ⟨⟨⟨c4,z0,z1,k0,v1,k1⟩,hmb2,hhb2⟩,hfin⟩:=HAT.out _ w2 dv' P0 hm2 ht2 hk2;have hbx:=hk2.block w.heap.size Q9 hN1 hN2 hN3;have b0:=(World.cell?_of_block (a:=⟨w.heap.size,0,none⟩) hbx).trans (show _=some (Value.int .u8 p.kind) by go_simp);have b1:=(World.cell?_of_block (a:=⟨w.heap.size,1,none⟩) hbx).trans (show _=some (Value.slice fa p.fl.length fc) by go_simp);have hsz2:w.heap.size < w2.heap.size:=Nat.lt_of_lt_of_le Q9 hk2.size;have HF:=hid hfin;clear hfin hm2 ht2 hk2 hbx)
 go_region
 all_goals
  have HQ:=hid (HF.out w2.drew (Below.drew (Below.refl _ _)));clear HF HAT HCH;go_wp2_with fail;go_ret;exact HQ.out
theorem a1t {B:Nat} {w w5:World} {hb sb sc:Nat} {obs:List ObR} {l:List Int} {v:Value} (h:aZ B w hb sb sc (.slice none 0 0) obs []) (hgrow:w.grownBy w5 none)
  (hown:w5.ownsRow 0 3 1 v l.length (l.map fun n=>.int .i64 n)) (hat:∀gb,v.ownBlock=some gb→gb=w.heap.size) :
  w5.frozen? ⟨hb,1,none⟩=false∧w5.cell? ⟨hb,1,none⟩=some (.slice none 0 0)∧hb < w5.heap.size∧aZ B (w5.setCell ⟨hb,1,none⟩ v) hb sb sc v obs l∧cA hb sb (.slice none 0 0) w (w5.setCell ⟨hb,1,none⟩ v):=by
 have hblk:∀k,k < w.heap.size→w5.heap[k]?=w.heap[k]?:=fun k hk=>hgrow.block k hk Q9
 have hmbk:=hblk hb h.lt;have hfz:∀j,w5.frozen? ⟨hb,j,none⟩=false:=fun j=>by rw [World.frozen?_of_block (w:=w) (a:=⟨hb,j,none⟩) hmbk];exact h.fz j
 have hc1:w5.cell? ⟨hb,1,none⟩=some (.slice none 0 0):=by rw [World.cell?_of_block (w:=w) (a:=⟨hb,1,none⟩) hmbk];exact h.c1
 have hc0:w5.cell? ⟨hb,0,none⟩=some (.slice (some ⟨sb,0,none⟩) obs.length sc):=by rw [World.cell?_of_block (w:=w) (a:=⟨hb,0,none⟩) hmbk];exact h.c0
 have hl5:hb < w5.heap.size:=Nat.lt_of_lt_of_le h.lt hgrow.size;have hslt:=h.slt;have hhlt:=h.lt;have hother:∀k,k < w.heap.size→k≠hb→(w5.setCell ⟨hb,1,none⟩ v).heap[k]?=w.heap[k]?:=fun k hk h1=>by
  rw[heap_setCell_other _ _ _ _ h1];exact hblk k hk
 have hvn:v.ownBlock≠some hb:=fun e=>by have:=hat hb e;omega
 have hb0:=h.b0;refine⟨hfz 1,hc1,hl5,⟨h.b0,h.b1,fun b e=>by have:=hat b e;omega,by simpa using hl5,by go_simp,by go_simp,fun j=>by have:=hfz j;go_simp,A2 h.slots fun b hb'=>?_,ownsRow_setCell_other hown hvn _,h.sn,fun b e=>by have:=hat b e;omega,h.form⟩,⟨hgrow.os,hgrow.tape,hgrow.output,by simpa using hgrow.size,fun k hk h1 _ _=>hother k hk h1⟩⟩;obtain rfl:sb=b:=by simpa [Value.ownBlock] using hb'
 exact hother sb hslt h.sn
theorem a3A {B:Nat} {w:World} {hb sb sc:Nat} {obs:List ObR} (h:aZ B w hb sb sc (.slice none 0 0) obs []) (a:Option Addr) (c:Nat) (l:List Int) (hl:gO w a l) (hn:l.length≤200) :
  Calls Tryz.prog 86 #[.pointer (some ⟨hb,0,none⟩),.slice a l.length c] w fun e w'=>∃v,e=.returned (.int .i64 0)∧aZ B w' hb sb sc v obs l∧cA hb sb (.slice none 0 0) w w'∧∀gb,v.ownBlock=some gb→gb=w.heap.size:=by
 have c5:=h.c1;have hmb:hb < w.heap.size:=h.lt;have HO:Hid (w.ownsRow 0 3 1 (.slice none 0 0) 0 []):=hid h.draws;have HH:=hid h;have HNEWS:Hid (∀W,Below w.heap.size w W→0 < l.length→∃d,a=some d∧∀j u,(l.map fun n=>Value.int .i64 n)[j]?=some u→W.cell? (d.add j)=some u):=fun W hW h0=>by
  obtain⟨b,o,h1,h2,h3⟩:=hl h0;refine⟨_,h1,fun j u hu=>?_⟩;rw[List.getElem?_map] at hu;obtain⟨x,hx,rfl⟩:=Option.map_eq_some_iff.1 hu;have:=(hW.cell (p:=⟨b,o+j,none⟩) h2).trans (h3 j x hx)
  cases j with
  | zero=>simpa [Addr.add] using this
  | succ j=>simpa [Addr.add] using this
 have hn':¬(200:Int) < (l.length:Int):=by omega
 have hwr:IntKind.i64.wrap ((0:Int)+(l.length:Int))=(l.length:Int):=by
  rw[Int.zero_add];exact Go.IntWalk.i64_in _ Q8
 have hwr':IntKind.i64.wrap (l.length:Int)=(l.length:Int):=Go.IntWalk.i64_in _ Q8;clear h hl;obtain⟨i3,hi,hz,hsz,hby⟩:=info_parts lK;have HI:=hid hi;have HZ:=hid hz;have HSZ:=hid hsz;have HBY:=hid hby;clear hi hz hsz hby;go_enter Tryz.func86,Tryz.ntmps86;go_wp2_with (at_builtin;go_must (refine C8 _ rfl (.tmp 18) (.tmp 19) 22 rfl 0 3 i3 _ 1 8 Tryz.underlying22 HI.out HZ.out HSZ.out HBY.out rfl Q7 (.slice none 0 0) 0 [] rfl HO.out a l.length c (l.map fun n=>.int .i64 n) rfl Q9 (HNEWS.out _ (Below.refl _ _)) (by intro u hu;obtain ⟨n,_,rfl⟩:=List.mem_map.1 hu;rfl) Q0 Q8 (Nat.zero_le _) ?_))
 intro v' w5 hown5 hgrow5 hat5;have hat6:∀gb,v'.ownBlock=some gb→gb=w.heap.size:=fun gb e=>by
  rcases hat5 gb e with h | h
  ·cases h
  ·exact h
 obtain⟨y0,y1,y2,hP,hQ⟩:=a1t HH.out hgrow5 hown5 hat6;have HP:=hid hP;have HQ:=hid hQ;have HA:=hid hat6;obtain⟨va5,cc5,hv5⟩:∃va5 cc5,v'=.slice va5 l.length cc5:=by
  rcases hown5.2 with ⟨e,e0⟩ | ⟨gb,cap,_,e,_⟩
  ·exact ⟨none,0,by rw [e,e0]⟩
  ·exact ⟨_,_,e⟩
 subst hv5;clear hown5 hgrow5 hat5 hat6 hP hQ;go_wp2_with fail;go_ret;exact⟨_,rfl,HP.out,HQ.out,HA.out⟩
structure a7D (V:World) (kb:Nat) (laid:List Nat):Prop where
 row:∃v,V.cell? ⟨kb,0,none⟩=some v∧V.ownsRow 0 3 1 v laid.length (T4 laid)
theorem a9f {V:World} {kb:Nat} {laid:List Nat} (h:a7D V kb laid) {n:Nat} (hn:n < laid.length) :
  Calls Tryz.prog 88 #[.int .i64 (n:Int),.pointer (some ⟨kb,0,none⟩)] V fun e w'=>e=.returned (.int .i64 ((atL laid n:Nat):Int))∧Below V.heap.size V w':=by
 obtain⟨v,h0,hr⟩:=h.row;obtain⟨b,c,rfl,_,_⟩:=hr.form Q8;have hc:V.cell? ⟨b,n,none⟩=some (.int .i64 ((atL laid n:Nat):Int)):=by
  rw[hr.cellAt n Q8];unfold T4 atL;rw[List.getElem?_map,List.getElem?_eq_getElem hn,List.getD_eq_getElem?_getD,List.getElem?_eq_getElem hn];rfl
 refine (a6y h0 hn hc).mono ?_;rintro e w' ⟨rfl,rfl⟩;exact⟨rfl,Below.refl _ _⟩
theorem a4L (n:Nat):cN (n:Int)=(2,(n:Int)):=by
 unfold cN;rw[if_neg Q8]
def tY (W:World) (own:Own) (R:McR) (laid:List Nat) (e:Ending) (w':World):Prop:=e=.returned (.tuple #[])∧X0 W own R (ren (atL laid)) (R.frs.length*2+R.obs.length) 0 w'
def a0U (W:World) (own:Own) (kb:Nat) (laid:List Nat):Prop:=∀V:World,W.heap.size≤V.heap.size→(∀b,b < W.heap.size→own b=none→V.heap[b]?=W.heap[b]?)→a7D V kb laid
theorem X0.ldv {W wr:World} {own:Own} {R:McR} {h:Val→Val} {i k kb:Nat} {laid:List Nat} (hm:X0 W own R h i k wr) (ha:a0U W own kb laid):a7D wr kb laid :=
 ha wr hm.size fun b hb hn=>hm.keep b hb fun q v l t _=>by rw [hn];simp
theorem a4t {own:Own} {mb:Nat} {g:PgR} {R:McR} {W:World} (h:A3 W own mb g R) (laid:List Nat) (kb:Nat) (hkp:a0U W own kb laid) (hf:R.frs.length≤1000) (hn:R.obs.length≤1000)
  (hls:∀q v l t,J3 R q v l t→l.length≤1000∧∀x,x∈l→x.1=2→0≤x.2∧x.2.toNat < laid.length) :
  Calls Tryz.prog 73 #[.pointer (some ⟨mb,0,none⟩),.func (.func 88) #[] #[.pointer (some ⟨kb,0,none⟩)]] W fun e w'=>tY W own R laid e w':=by
 have HLI:=hid (nD h hf hn);have HST:Hid (∀wr,Below W.heap.size W wr→X0 W own R (ren (atL laid)) 0 0 wr):=fun wr hB=>X0.start h _ hB
 have HKP:=hid hkp;have HLS:=hid hls;have HOWN:Hid (∀b t,own b=some t→b < W.heap.size):=h.lt;have HALL:Hid (∀q,q < R.frs.length*2+R.obs.length→∃v l t,J3 R q v l t):=fun q hq=>J3.all hq
 have hN:R.frs.length*2+R.obs.length≤3000:=by omega
 have HPOST:Hid (∀e w',tY W own R laid e w'↔e=.returned (.tuple #[])∧X0 W own R (ren (atL laid)) (R.frs.length*2+R.obs.length) 0 w'):=fun e w'=>Iff.rfl
 clear h hkp hls hf hn;generalize R.frs.length*2+R.obs.length=N at *
 obtain⟨xs,hxs⟩:∃xs,xs=T5 R.frs++cD R.obs:=⟨_,rfl⟩
 have HGET:Hid (∀q v l t,J3 R q v l t→xs[q]?=some v):=fun q v l t hq=>by rw [hxs];exact hq.get
 rw[← hxs] at HLI;clear hxs;go_enter Tryz.func73,Tryz.ntmps73;go_wp2_with (go_at_call 101;refine HLI.out.mono ?_;rintro e w2 ⟨v2,rfl,hv2,hb2⟩;obtain ⟨la,lc,rfl⟩:=B0 hv2;have HV2:=hid hv2;have HMV:=hid (HST.out _ hb2);clear hv2 hb2)
 clear HLI HST;go_loopw [11] (fun vi wr=>∃i:Nat,i≤N∧vi=.int .i64 i∧X0 W own R (ren (atL laid)) i 0 wr∧wr.ownsRow W.heap.size 45 1 (.slice la N lc) N xs) (fun vi _=>N - (intOf vi).toNat)
 case atStart=>exact ⟨0,Nat.zero_le _,rfl,HMV.out,HV2.out⟩
 case round =>
  obtain⟨i,hi,rfl,hmv,hrow⟩:=hrel;clear HMV HV2;by_cases hlt:i < N
  ·obtain ⟨v,l,t,hq⟩:=HALL.out i hlt
   obtain⟨lb,lc',e,_,hlb⟩:=hrow.form Q8
   cases e;obtain⟨fa,fc,hv⟩:=C6 (hmv.rows i v l t hq);have k0:wr.cell? ⟨lb,i,none⟩=some v:=by rw [hrow.cellAt i Q8];exact HGET.out i v l t hq
   rw[hv] at k0;have HQ:=hid hq;have HV:=hid hv;have hll:=(HLS.out i v l t hq).1;have HMV:=hid hmv;have HROW:=hid hrow;clear hmv hrow hq hv;go_wp2_with fail;go_loopw [17] (fun vk wx=>∃k:Nat,k≤l.length∧vk=.int .i64 k∧X0 W own R (ren (atL laid)) i k wx∧wx.ownsRow W.heap.size 45 1 (.slice (some ⟨lb,0,none⟩) N lc) N xs) (fun vk _=>l.length - (intOf vk).toNat)
   case atStart=>exact ⟨0,Nat.zero_le _,rfl,HMV.out,HROW.out⟩
   case round =>
    obtain⟨k,hk,rfl,hmx,hrx⟩:=hrel;clear HMV HROW k0 hlb;by_cases hlk:k < l.length
    ·obtain ⟨x,hx⟩:∃x,l[k]?=some x:=⟨_,List.getElem?_eq_getElem hlk⟩
     have hrow:=hmx.rows i v l t HQ.out;obtain⟨fb,fc',e,_,hfb⟩:=hrow.1.form Q8;have e':=e;rw[HV.out] at e
     cases e;have hofb:own fb=some t:=hrow.2 fb (by rw [e'];rfl);have hr1:=hrow.1;rw[e'] at hr1;have hcell:∀j,j < 2→wr.cell? ⟨fb,k*2+j,none⟩=(N0 x)[j]?:=fun j hj=>by
      rw[hr1.cellAt _ Q8];exact C3 E7 (lE hx) hj
     have x0:wr.cell? ⟨fb,k*2,none⟩=some (.int .u8 x.1):=hcell 0 Q8;have x1:wr.cell? ⟨fb,k*2+1,none⟩=some (.int .i64 x.2):=hcell 1 Q8;have z0:=hr1.frozenAt (k*2);have z1:=hr1.frozenAt (k*2+1);have hlne:lb≠fb:=by
      have:=HOWN.out fb t hofb;have:=(hrx.lt lb rfl).1;omega
     have HROWS:Hid (∀V,Below wr.heap.size wr V→∀p p':Value,V.ownsRow W.heap.size 45 1 (.slice (some ⟨lb,0,none⟩) N lc) N xs∧((V.setCell ⟨fb,k*2,none⟩ p).setCell ⟨fb,k*2+1,none⟩ p').ownsRow W.heap.size 45 1 (.slice (some ⟨lb,0,none⟩) N lc) N xs):=fun V hV p p'=>by
      have h1:V.ownsRow W.heap.size 45 1 (.slice (some ⟨lb,0,none⟩) N lc) N xs:=A2 hrx fun b hb=>hV.block b (hrx.lt b hb).2
      exact⟨h1,ownsRow_setCell_other (ownsRow_setCell_other h1 (a:=⟨fb,k*2,none⟩) (by show some lb≠some fb;exact fun e=>hlne (Option.some.inj e)) _) (a:=⟨fb,k*2+1,none⟩) (by show some lb≠some fb;exact fun e=>hlne (Option.some.inj e)) _⟩
     have HALV:Hid (∀V,Below wr.heap.size wr V→a7D V kb laid):=fun V hV=>(hmx.later hV).ldv HKP.out
     have hnn:=(HLS.out i _ l t HQ.out).2 x (List.mem_of_getElem? hx);have HX:=hid hx;have HMX:=hid hmx;have HE:=hid e';clear hmx hrx hrow hr1 hcell hx e' hofb hlne;by_cases h2:x.1=2
     ·obtain ⟨n,hn⟩:=Int.eq_ofNat_of_zero_le (hnn h2).1
      have hnl:n < laid.length:=by have:=(hnn h2).2;rw [hn,Int.toNat_natCast] at this;exact this
      have HPV:Hid (ren (atL laid) x=cN ((atL laid n:Nat):Int)):=by
       refine hid ?_;rw[a4L];unfold ren;rw[if_pos h2,hn,Int.toNat_natCast]
      rw[h2] at x0;rw[hn] at x1;clear hnn h2 hn;have HSET:Hid (∀V,Below wr.heap.size wr V→X0 W own R (ren (atL laid)) i (k+1) ((V.setCell ⟨fb,k*2,none⟩ (.int .u8 (cN ((atL laid n:Nat):Int)).1)).setCell ⟨fb,k*2+1,none⟩ (.int .i64 (cN ((atL laid n:Nat):Int)).2))):=fun V hV=>by
       rw[← HPV.out];exact (HMX.out.later hV).set HQ.out HE.out HX.out
      go_wp2_with (first | (go_at_call 102;refine (L0 _ _ _).mono ?_;rintro e w' ⟨rfl,o4,rfl⟩) | (go_at_call 88;refine (a9f (HALV.out _ ?_) hnl).mono ?_;exact P0;rintro e w5 ⟨rfl,hb5⟩;have HB5:Hid (Below wr.heap.size wr w5):=A1 hb5 P0;clear hb5) | (go_at_call 103;refine (lZ _ _).mono ?_;rintro e w6 ⟨rfl,hb6⟩;have HB6:Hid (Below wr.heap.size wr w6):=A1 hb6 HB5.out;have g0:=(HB6.out.frozen (p:=⟨fb,k*2,none⟩) hfb).trans z0;have g1:=(HB6.out.frozen (p:=⟨fb,k*2+1,none⟩) hfb).trans z1;have j0:=(HB6.out.cell (p:=⟨fb,k*2,none⟩) hfb).trans x0;have j1:=(HB6.out.cell (p:=⟨fb,k*2+1,none⟩) hfb).trans x1;have hfb6:fb < w6.heap.size:=Nat.lt_of_lt_of_le hfb HB6.out.size;clear hb6))
      go_roundw
      case rel=>exact ⟨k+1,by omega,by go_num,HSET.out _ HB6.out,(HROWS.out _ HB6.out _ _).2⟩
      case measure=>simp [intOf];omega
     ·have h2b:(x.1 == 2)=false:=beq_eq_false_iff_ne.2 h2
      have HSK:Hid (X0 W own R (ren (atL laid)) i (k+1) wr):=HMX.out.skip HQ.out HX.out (E0 h2);clear hnn h2;go_wp2_with (first | (go_at_call 102;refine (L0 _ _ _).mono ?_;rintro e w' ⟨rfl,o4,rfl⟩))
      go_roundw
      case rel=>exact ⟨k+1,by omega,by go_num,HSK.out.later P0,(HROWS.out _ P0 (.bool true) (.bool true)).1⟩
      case measure=>simp [intOf];omega
    ·obtain rfl:k=l.length:=by omega
     have HN:=hid (hmx.next HQ.out);have HRX:=hid hrx;clear hmx hrx;go_wp2_with fail;go_roundw
     case rel=>exact ⟨i+1,by omega,by go_num,HN.out,HRX.out⟩
     case measure=>simp [intOf];omega
  ·obtain rfl:i=N:=by omega
   have HP:=hid ((HPOST.out _ _).2 ⟨rfl,hmv⟩);clear hmv hrow;go_wp2_with fail;go_end0
   exact HP.out
structure dQ (os obs:List ObR) (laid:List Nat):Prop where
 len:laid.length=os.length
 nodup:laid.Nodup
 at_:∀(k:Nat) o,os[k]?=some o→∃j,laid[k]?=some j∧obs[j]?=some o
 free:∀(j:Nat) o,obs[j]?=some o→j∉laid→o=K7
theorem dQ.none (c:Nat):dQ [] (List.replicate c K7) []:=by
 refine⟨rfl,List.nodup_nil,fun k o ho=>by simp at ho,fun j o ho _=>?_⟩;exact (List.mem_replicate.1 (List.mem_of_getElem? ho)).2
theorem dQ.laid {os obs:List ObR} {laid:List Nat} (h:dQ os obs laid):eF (os.map ObR.abs) (obs.map ObR.abs) laid:=by
 refine⟨by rw [List.length_map];exact h.len,h.nodup,fun k o ho=>?_,fun j o ho hn=>?_⟩
 ·rw [List.getElem?_map] at ho
  obtain⟨x,hx,rfl⟩:=Option.map_eq_some_iff.1 ho;obtain⟨j,h1,h2⟩:=h.at_ k x hx;exact⟨j,h1,by rw [List.getElem?_map,h2];rfl⟩
 ·rw [List.getElem?_map] at ho
  obtain⟨x,hx,rfl⟩:=Option.map_eq_some_iff.1 ho;rw[h.free j x hx hn];rfl
theorem dQ.put {os obs:List ObR} {laid:List Nat} (h:dQ os obs laid) {j:Nat} (hj:j∉laid) (hl:j < obs.length) (o:ObR):dQ (os++[o]) (obs.set j o) (laid++[j]):=by
 refine⟨by rw [List.length_append,List.length_append,h.len];rfl,?_,fun k x hx=>?_,fun i x hx hn=>?_⟩
 ·rw [List.nodup_append]
  refine⟨h.nodup,by simp,fun a ha b hb=>?_⟩;rw[List.mem_singleton] at hb;rintro rfl;exact hj (hb▸ha)
 ·by_cases hk:k < os.length
  ·rw [List.getElem?_append_left hk] at hx
   obtain⟨i,h1,h2⟩:=h.at_ k x hx;refine⟨i,by rw [List.getElem?_append_left (by rw [h.len];exact hk)];exact h1,?_⟩;rw[List.getElem?_set_ne (fun e=>hj (by rw [e];exact List.mem_of_getElem? h1))];exact h2
  ·have hkl:=(List.getElem?_eq_some_iff.1 hx).1
   rw[List.length_append] at hkl;simp at hkl;obtain rfl:k=os.length:=by omega
   rw[List.getElem?_append_right (Nat.le_refl _)] at hx;simp at hx;subst hx;refine⟨j,by rw [← h.len,List.getElem?_append_right (Nat.le_refl _)];simp,?_⟩;rw[List.getElem?_set_self hl]
 ·rw [List.mem_append,List.mem_singleton] at hn
  have hne:j≠i:=fun e=>hn (Or.inr e.symm)
  rw[List.getElem?_set_ne hne] at hx;exact h.free i x hx fun e=>hn (Or.inl e)
def McR.mapV (R:McR) (φ:Val→Val):McR:={ R with frs:=R.frs.map fun f=>{ f with loc:=f.loc.map φ,stk:=f.stk.map φ },obs:=R.obs.map fun o=>{ o with fl:=o.fl.map φ } }
theorem a8a {W w':World} {own:Own} {mb:Nat} {g:PgR} {R:McR} {φ:Val→Val} (h:A3 W own mb g R) (mv:X0 W own R φ (R.frs.length*2+R.obs.length) 0 w'):A3 w' own mb g (R.mapV φ):=by
 have keep:∀b t,own b=some t→(t=.mach∨t=.out∨t=.called∨t=.slots∨t=.draws)→w'.heap[b]?=W.heap[b]?:=fun b t hb ht=>mv.keep b (h.lt b t hb) fun q v l t' hq e=>by
  rw[hb] at e
  cases e;have:=hq.tag;rcases ht with rfl | rfl | rfl | rfl | rfl
  ·exact this.1 rfl
  ·exact this.2.1 rfl
  ·exact this.2.2.1 rfl
  ·exact this.2.2.2.1 rfl
  ·exact this.2.2.2.2 rfl
 have kept:∀t,(t=.mach∨t=.out∨t=.called∨t=.slots∨t=.draws)→∀b,own b=some t→w'.heap[b]?=W.heap[b]?∧own b=some t:=fun t ht b hb=>⟨keep b t hb ht,hb⟩
 have hmb:=keep mb _ h.me (Or.inl rfl);have hno:∀k,k < W.heap.size→own k=none→w'.heap[k]?=W.heap[k]?:=fun k hk hn=>mv.keep k hk fun q v l t _=>by rw [hn];simp
 have hcont:∀q v l t,J3 R q v l t→Row w' own t 73 2 v (l.map φ).length (A5 (l.map φ)):=fun q v l t hq=>by
  have hr:=mv.rows q v l t hq;have hql:q < R.frs.length*2+R.obs.length:=by
   rcases hq with ⟨i,f,hf,rfl,_⟩ | ⟨i,f,hf,rfl,_⟩ | ⟨j,o,ho,rfl,_⟩
   ·have:=(List.getElem?_eq_some_iff.1 hf).1;omega
   ·have:=(List.getElem?_eq_some_iff.1 hf).1;omega
   ·have:=(List.getElem?_eq_some_iff.1 ho).1;omega
  unfold dL at hr;rw[if_pos hql] at hr;rw[List.length_map];exact hr
 have e1:(R.mapV φ).frs.flatMap FrR.cells=R.frs.flatMap FrR.cells:=by
  show (R.frs.map _).flatMap _=_;rw[List.flatMap_map];rfl
 have e2:(R.mapV φ).obs.flatMap ObR.cells=R.obs.flatMap ObR.cells:=by
  show (R.obs.map _).flatMap _=_;rw[List.flatMap_map];rfl
 have n1:(R.mapV φ).frs.length=R.frs.length:=List.length_map _;have n2:(R.mapV φ).obs.length=R.obs.length:=List.length_map _;refine⟨fun k t hk=>Nat.lt_of_lt_of_le (h.lt k t hk) mv.size,h.me,?_,?_,?_,?_,?_,?_,h.out.kept (kept _ (Or.inr (Or.inl rfl))),?_,?_,fun i f hf=>?_,fun i f hf=>?_,fun j o ho=>?_,h.pg.held mv.size fun k hk=>hno k (h.pg.blk_lt hk) (h.ro k hk),h.ro,h.tab.held mv.size (hno 0 h.tab.1 h.ro0),h.ro0,?_,h.draws.kept (kept _ (Or.inr (Or.inr (Or.inr (Or.inr rfl)))))⟩
 ·rw [World.cell?_of_block (w:=W) (a:=⟨mb,0,none⟩) hmb];exact h.c0
 ·rw [World.cell?_of_block (w:=W) (a:=⟨mb,1,none⟩) hmb];exact h.c1
 ·rw [World.cell?_of_block (w:=W) (a:=⟨mb,2,none⟩) hmb];exact h.c2
 ·rw [World.cell?_of_block (w:=W) (a:=⟨mb,3,none⟩) hmb];exact h.c3
 ·rw [World.cell?_of_block (w:=W) (a:=⟨mb,4,none⟩) hmb];exact h.c4
 ·intro i;rw [World.frozen?_of_block (w:=W) (a:=⟨mb,i,none⟩) hmb];exact h.fz i
 ·rw [e1,n1];exact h.called.kept (kept _ (Or.inr (Or.inr (Or.inl rfl))))
 ·rw [e2,n2];exact h.slots.kept (kept _ (Or.inr (Or.inr (Or.inr (Or.inl rfl)))))
 ·have hf:(R.frs.map _)[i]?=some f:=hf
  rw[List.getElem?_map] at hf;obtain⟨x,hx,rfl⟩:=Option.map_eq_some_iff.1 hf;exact hcont (i*2) _ _ _ (Or.inl ⟨i,x,hx,rfl,rfl,rfl,rfl⟩)
 ·have hf:(R.frs.map _)[i]?=some f:=hf
  rw[List.getElem?_map] at hf;obtain⟨x,hx,rfl⟩:=Option.map_eq_some_iff.1 hf;exact hcont (i*2+1) _ _ _ (Or.inr (Or.inl ⟨i,x,hx,rfl,rfl,rfl,rfl⟩))
 ·have ho:(R.obs.map _)[j]?=some o:=ho
  rw[List.getElem?_map] at ho;obtain⟨x,hx,rfl⟩:=Option.map_eq_some_iff.1 ho;exact hcont (R.frs.length*2+j) _ _ _ (Or.inr (Or.inr ⟨j,x,hx,rfl,rfl,rfl,rfl⟩))
 ·rw [World.cell?_of_block (w:=W) (a:=⟨mb,5,none⟩) hmb];exact h.c5
def McR.heap (R:McR) (hv dv:Value) (obs:List ObR) (dr:List Int):McR:={ R with hv:=hv,obs:=obs,dv:=dv,dr:=dr }
theorem a2I {W wr:World} {own:Own} {mb hb sb sc:Nat} {g:PgR} {R:McR} {dv:Value} {obs:List ObR} {dr:List Int} {laid:List Nat} (h:A3 W own mb g R) (_hh:aZ W.heap.size wr hb sb sc dv obs dr) (hl:dQ R.obs obs laid) {b:Nat} {t:Tag} (hp:J5 mb (R.heap (.slice (some ⟨sb,0,none⟩) obs.length sc) dv obs dr) b t) :
  (own b=some t∧∀j,t≠.fld j)∨(∃k j,own b=some (.fld k)∧t=.fld j∧laid[k]?=some j)∨(t=.slots∧b=sb)∨(t=.draws∧dv.ownBlock=some b):=by
 cases t with
 | mach=>exact Or.inl ⟨by rw [show b=mb from hp];exact h.me,by simp⟩
 | out=>exact Or.inl ⟨h.out.2 b hp,by simp⟩
 | called=>exact Or.inl ⟨h.called.2 b hp,by simp⟩
 | slots =>
  refine Or.inr (Or.inr (Or.inl ⟨rfl,?_⟩));have hp:(Value.slice (some ⟨sb,0,none⟩) obs.length sc).ownBlock=some b:=hp;have:sb=b:=by simpa [Value.ownBlock] using hp
  exact this.symm
 | draws=>exact Or.inr (Or.inr (Or.inr ⟨rfl,hp⟩))
 | loc i =>
  obtain⟨f,hf,hb'⟩:=hp;exact Or.inl ⟨(h.loc i f hf).2 b hb',by simp⟩
 | stk i =>
  obtain⟨f,hf,hb'⟩:=hp;exact Or.inl ⟨(h.stk i f hf).2 b hb',by simp⟩
 | fld j =>
  obtain⟨o,ho,hb'⟩:=hp;have ho:obs[j]?=some o:=ho;by_cases hin:j∈laid
  ·obtain ⟨k,hk⟩:=List.mem_iff_getElem?.1 hin
   have hkl:=(List.getElem?_eq_some_iff.1 hk).1;rw[hl.len] at hkl;obtain⟨j',q1,q2⟩:=hl.at_ k _ (List.getElem?_eq_getElem hkl);rw[hk] at q1
   cases q1;rw[ho] at q2
   injection q2 with q2
   subst q2;exact Or.inr (Or.inl ⟨k,j,(h.fld k _ (List.getElem?_eq_getElem hkl)).2 b hb',rfl,hk⟩)
  ·rw [hl.free j o ho hin] at hb'
   cases hb'
theorem a0M {W wr:World} {own:Own} {mb hb sb sc:Nat} {g:PgR} {R:McR} {dv:Value} {obs:List ObR} {dr:List Int} {laid:List Nat} (h:A3 W own mb g R) (hB:Below W.heap.size W wr) (hh:aZ W.heap.size wr hb sb sc dv obs dr) (hl:dQ R.obs obs laid) :
  ∃own1,A3 ((wr.setCell ⟨mb,4,none⟩ (.slice (some ⟨sb,0,none⟩) obs.length sc)).setCell ⟨mb,5,none⟩ dv) own1 mb g (R.heap (.slice (some ⟨sb,0,none⟩) obs.length sc) dv obs dr)∧∀b,own1 b≠none→own b≠none∨b=sb∨dv.ownBlock=some b:=by
 have hmb:mb < W.heap.size:=h.lt mb _ h.me;have hmw:mb < wr.heap.size:=Nat.lt_of_lt_of_le hmb hB.size;have hsb:=hh.b1;have cls:=fun b t=>@a2I W wr own mb hb sb sc g R dv obs dr laid h hh hl b t
 have hblk:∀b,b≠mb→((wr.setCell ⟨mb,4,none⟩ (.slice (some ⟨sb,0,none⟩) obs.length sc)).setCell ⟨mb,5,none⟩ dv).heap[b]?=wr.heap[b]?:=fun b hb'=>by
  rw[heap_setCell_other _ _ _ _ hb',heap_setCell_other _ _ _ _ hb']
 have hold:∀b t,own b=some t→t≠.mach→((wr.setCell ⟨mb,4,none⟩ (.slice (some ⟨sb,0,none⟩) obs.length sc)).setCell ⟨mb,5,none⟩ dv).heap[b]?=W.heap[b]?:=fun b t hb' ht=>by
  rw[hblk b (fun e=>by rw [e,h.me] at hb';exact ht (Option.some.inj hb').symm),hB.block b (h.lt b t hb')]
 have hmcell:∀j,wr.cell? ⟨mb,j,none⟩=W.cell? ⟨mb,j,none⟩:=fun j=>World.cell?_of_block (w:=W) (a:=⟨mb,j,none⟩) (hB.block mb hmb)
 have c0:wr.cell? ⟨mb,0,none⟩=some (.slice g.a g.n g.c):=(hmcell 0).trans h.c0;have c1:wr.cell? ⟨mb,1,none⟩=some (.int .i64 R.st):=(hmcell 1).trans h.c1;have c2:wr.cell? ⟨mb,2,none⟩=some R.ov:=(hmcell 2).trans h.c2;have c3:wr.cell? ⟨mb,3,none⟩=some R.cv:=(hmcell 3).trans h.c3;have c4:wr.cell? ⟨mb,4,none⟩=some R.hv:=(hmcell 4).trans h.c4;have c5:wr.cell? ⟨mb,5,none⟩=some R.dv:=(hmcell 5).trans h.c5;have hfz:∀j,wr.frozen? ⟨mb,j,none⟩=false:=fun j=>by rw [World.frozen?_of_block (w:=W) (a:=⟨mb,j,none⟩) (hB.block mb hmb)];exact h.fz j
 have hsz:W.heap.size≤((wr.setCell ⟨mb,4,none⟩ (.slice (some ⟨sb,0,none⟩) obs.length sc)).setCell ⟨mb,5,none⟩ dv).heap.size:=by have:=hB.size;simpa using this
 have hdl:∀b,dv.ownBlock=some b→b < wr.heap.size∧W.heap.size≤b:=fun b e=>⟨(hh.draws.lt b e).2,hh.b2 b e⟩
 have hfld:∀(j:Nat) o,obs[j]?=some o→((wr.setCell ⟨mb,4,none⟩ (.slice (some ⟨sb,0,none⟩) obs.length sc)).setCell ⟨mb,5,none⟩ dv).ownsRow 0 73 2 o.fv o.fl.length (A5 o.fl):=fun j o ho=>by
  by_cases hin:j∈laid
  ·obtain ⟨k,hk⟩:=List.mem_iff_getElem?.1 hin
   have hkl:=(List.getElem?_eq_some_iff.1 hk).1;rw[hl.len] at hkl;obtain⟨j',q1,q2⟩:=hl.at_ k _ (List.getElem?_eq_getElem hkl);rw[hk] at q1
   cases q1;rw[ho] at q2
   injection q2 with q2
   subst q2;have hr:=h.fld k _ (List.getElem?_eq_getElem hkl);exact A2 hr.1 fun b hb'=>hold b _ (hr.2 b hb') Q9
  ·rw [hl.free j o ho hin]
   exact⟨rfl,Or.inl ⟨rfl,rfl⟩⟩
 have hnot:∀k,k < W.heap.size→own k=none→∀t,¬J5 mb (R.heap (.slice (some ⟨sb,0,none⟩) obs.length sc) dv obs dr) k t:=fun k hk hn t hp=>by
  rcases cls k t hp with ⟨e,_⟩ | ⟨_,_,e,_⟩ | ⟨_,e⟩ | ⟨_,e⟩
  ·rw [hn] at e;cases e
  ·rw [hn] at e;cases e
  ·omega
  ·have:=(hdl k e).2;omega
 clear hmcell;have d0:((wr.setCell ⟨mb,4,none⟩ (.slice (some ⟨sb,0,none⟩) obs.length sc)).setCell ⟨mb,5,none⟩ dv).cell? ⟨mb,0,none⟩=some (.slice g.a g.n g.c):=by go_simp
 have d1:((wr.setCell ⟨mb,4,none⟩ (.slice (some ⟨sb,0,none⟩) obs.length sc)).setCell ⟨mb,5,none⟩ dv).cell? ⟨mb,1,none⟩=some (.int .i64 R.st):=by go_simp
 have d2:((wr.setCell ⟨mb,4,none⟩ (.slice (some ⟨sb,0,none⟩) obs.length sc)).setCell ⟨mb,5,none⟩ dv).cell? ⟨mb,2,none⟩=some R.ov:=by go_simp
 have d3:((wr.setCell ⟨mb,4,none⟩ (.slice (some ⟨sb,0,none⟩) obs.length sc)).setCell ⟨mb,5,none⟩ dv).cell? ⟨mb,3,none⟩=some R.cv:=by go_simp
 have d4:((wr.setCell ⟨mb,4,none⟩ (.slice (some ⟨sb,0,none⟩) obs.length sc)).setCell ⟨mb,5,none⟩ dv).cell? ⟨mb,4,none⟩=some (.slice (some ⟨sb,0,none⟩) obs.length sc):=by go_simp
 have d5:((wr.setCell ⟨mb,4,none⟩ (.slice (some ⟨sb,0,none⟩) obs.length sc)).setCell ⟨mb,5,none⟩ dv).cell? ⟨mb,5,none⟩=some dv:=by go_simp
 have dz:∀j,((wr.setCell ⟨mb,4,none⟩ (.slice (some ⟨sb,0,none⟩) obs.length sc)).setCell ⟨mb,5,none⟩ dv).frozen? ⟨mb,j,none⟩=false:=fun j=>by have:=hfz j;go_simp
 obtain⟨own1,hm,ho⟩:=fO (w:=(wr.setCell ⟨mb,4,none⟩ (.slice (some ⟨sb,0,none⟩) obs.length sc)).setCell ⟨mb,5,none⟩ dv) (mb:=mb) (g:=g) (R:=R.heap (.slice (some ⟨sb,0,none⟩) obs.length sc) dv obs dr)
  (fun b t t' h1 h2=>by
   rcases cls b t h1 with ⟨e,f⟩ | ⟨k,j,e,rfl,f⟩ | ⟨rfl,e⟩ | ⟨rfl,e⟩ <;> rcases cls b t' h2 with ⟨e',f'⟩ | ⟨k',j',e',rfl,f'⟩ | ⟨rfl,e'⟩ | ⟨rfl,e'⟩
   ·rw [e] at e';exact Option.some.inj e'
   ·rw [e] at e';exact absurd (Option.some.inj e') (f k')
   ·have:=h.lt b _ e;omega
   ·have:=h.lt b _ e;have:=(hdl b e').2;omega
   ·rw [e] at e';exact absurd (Option.some.inj e').symm (f' k)
   ·rw [e] at e'
    cases e';rw[f] at f'
    cases f';rfl
   ·have:=h.lt b _ e;omega
   ·have:=h.lt b _ e;have:=(hdl b e').2;omega
   ·have:=h.lt b _ e';omega
   ·have:=h.lt b _ e';omega
   ·rfl
   ·exact absurd e (hh.dn b e').2
   ·have:=h.lt b _ e';have:=(hdl b e).2;omega
   ·have:=h.lt b _ e';have:=(hdl b e).2;omega
   ·exact absurd e' (hh.dn b e).2
   ·rfl)
  (fun b t hp=>by
   have hws:wr.heap.size≤((wr.setCell ⟨mb,4,none⟩ (.slice (some ⟨sb,0,none⟩) obs.length sc)).setCell ⟨mb,5,none⟩ dv).heap.size:=by simp
   have hB':=hB.size;rcases cls b t hp with ⟨e,_⟩ | ⟨_,_,e,_⟩ | ⟨_,e⟩ | ⟨_,e⟩
   ·have:=h.lt b _ e;omega
   ·have:=h.lt b _ e;omega
   ·have:=hh.slt;omega
   ·have:=(hdl b e).1;omega)
  d0 d1 d2 d3 d4 d5 dz
  (A2 h.out.1 fun b hb'=>hold b _ (h.out.2 b hb') Q9) (A2 h.called.1 fun b hb'=>hold b _ (h.called.2 b hb') Q9)
  (A2 hh.slots fun b hb'=>hblk b (fun e=>by have e2:sb=b:=Option.some.inj hb';omega))
  (A2 hh.draws fun b hb'=>hblk b (by have:=(hdl b hb').2;omega))
  (fun i f hf=>A2 (h.loc i f hf).1 fun b hb'=>hold b _ ((h.loc i f hf).2 b hb') Q9)
  (fun i f hf=>A2 (h.stk i f hf).1 fun b hb'=>hold b _ ((h.stk i f hf).2 b hb') Q9) hfld
  (h.pg.held hsz fun k hk=>by
   have hn:=h.ro k hk;have hk':=h.pg.blk_lt hk;rw[hblk k (fun e=>by rw [e,h.me] at hn;cases hn),hB.block k hk'])
  (fun k hk=>hnot k (h.pg.blk_lt hk) (h.ro k hk))
  (h.tab.held hsz (by
   have hn:=h.ro0;rw[hblk 0 (fun e=>by rw [e,h.me] at hn;cases hn),hB.block 0 h.tab.1]))
  (hnot 0 h.tab.1 h.ro0)
 refine⟨own1,hm,fun b hb'=>?_⟩;obtain⟨t,ht⟩:=Option.ne_none_iff_exists'.1 hb';rcases cls b t ((ho b t).1 ht) with ⟨e,_⟩ | ⟨_,_,e,_⟩ | ⟨_,e⟩ | ⟨_,e⟩
 ·exact Or.inl (by rw [e];simp)
 ·exact Or.inl (by rw [e];simp)
 ·exact Or.inr (Or.inl e)
 ·exact Or.inr (Or.inr e)
structure sX (W:World) (hb sb sc kb cap:Nat) (R:McR) (fin:List Ob × List Int × List Nat) (i:Nat) (wr:World) (obs:List ObR) (dr:List Int) (laid:List Nat) (dv lv:Value):Prop where
 hp:aZ W.heap.size wr hb sb sc dv obs dr
 bel:Below W.heap.size W wr
 k0:wr.cell? ⟨kb,0,none⟩=some lv
 kz:wr.frozen? ⟨kb,0,none⟩=false
 kge:W.heap.size≤kb
 klt:kb < wr.heap.size
 kn:kb≠hb∧kb≠sb∧dv.ownBlock≠some kb
 row:wr.ownsRow W.heap.size 3 1 lv laid.length (T4 laid)
 ln:∀b,lv.ownBlock=some b→b≠kb∧b≠hb∧b≠sb∧dv.ownBlock≠some b
 lay:dQ (R.obs.take i) obs laid
 cap:obs.length=cap
 rest:dC ((R.obs.drop i).map ObR.abs) (obs.map ObR.abs) dr laid=fin
 drn:dr.length≤200
theorem sX.pick {W wr:World} {hb sb sc kb cap i:Nat} {R:McR} {fin:List Ob × List Int × List Nat} {obs:List ObR} {dr:List Int} {laid:List Nat} {dv lv:Value} (h:sX W hb sb sc kb cap R fin i wr obs dr laid dv lv) {o:ObR} (ho:R.obs[i]?=some o) (hc:R.obs.length≤cap) (hk:∀o,o∈R.obs→o.kind≠0) :
  ∃j ds,eN obs dr j ds∧dQ (R.obs.take (i+1)) (obs.set j o) (laid++[j])∧dC ((R.obs.drop (i+1)).map ObR.abs) ((obs.set j o).map ObR.abs) ds (laid++[j])=fin∧ds.length≤200:=by
 have hil:=(List.getElem?_eq_some_iff.1 ho).1;have hL:=h.lay.laid;have hlen:(obs.map ObR.abs).length=cap:=by rw [List.length_map];exact h.cap
 have htl:((R.obs.take i).map ObR.abs).length=i:=by rw [List.length_map,List.length_take];omega
 obtain⟨⟨j,ds⟩,hj⟩:=bN (obs:=obs.map ObR.abs) (dr:=dr) Q8 (hL.room Q8);obtain⟨⟨x,hx,h0⟩,hdr⟩:=bM hj;have hnot:=hL.free_at (fun y hy=>by
  obtain⟨z,hz,rfl⟩:=List.mem_map.1 hy;exact hk z (List.mem_of_mem_take hz)) hx h0
 have hjl:=(List.getElem?_eq_some_iff.1 hx).1;rw[List.length_map] at hjl;have hput:=h.lay.put hnot hjl o;have e1:R.obs.take i++[o]=R.obs.take (i+1):=by rw [List.take_add_one,ho];rfl
 have e2:R.obs.drop i=o::R.obs.drop (i+1):=by
  rw[List.drop_eq_getElem_cons hil];congr 1
  exact (List.getElem?_eq_some_iff.1 ho).2
 rw[e1] at hput;have hr:=h.rest;rw[e2,List.map_cons,a4n hj] at hr;have hd:=h.drn;refine⟨j,ds,kM hj,hput,?_,?_⟩
 ·rw [List.map_set]
  exact hr
 ·have:ds.length≤dr.length:=hdr
  omega
theorem sX.step {W wr U w2 V w5:World} {hb sb sc kb cap i j:Nat} {R:McR} {fin:List Ob × List Int × List Nat} {obs:List ObR} {dr ds:List Int} {laid:List Nat} {dv dv' lv lv':Value} {o:ObR} (h:sX W hb sb sc kb cap R fin i wr obs dr laid dv lv)
  (q1:dQ (R.obs.take (i+1)) (obs.set j o) (laid++[j])) (q2:dC ((R.obs.drop (i+1)).map ObR.abs) ((obs.set j o).map ObR.abs) ds (laid++[j])=fin) (q3:ds.length≤200)
  (hU:Below wr.heap.size wr U) (hm:aZ W.heap.size w2 hb sb sc dv' (obs.set j o) ds) (hdv:∀b,dv'.ownBlock=some b→dv.ownBlock=some b) (hbut:cA hb sb dv U w2) (hV:Below w2.heap.size w2 V) (hg:V.grownBy w5 lv.ownBlock) (hr:w5.ownsRow W.heap.size 3 1 lv' (laid.length+1) (T4 laid++[.int .i64 (j:Int)])) (hat:∀b,lv'.ownBlock=some b→lv.ownBlock=some b∨b=V.heap.size) :
  w5.cell? ⟨kb,0,none⟩=some lv∧w5.frozen? ⟨kb,0,none⟩=false∧kb < w5.heap.size∧sX W hb sb sc kb cap R fin (i+1) (w5.setCell ⟨kb,0,none⟩ lv') (obs.set j o) ds (laid++[j]) dv' lv':=by
 have s0:=h.bel.size;have s1:=hU.size;have s2:=hbut.size;have s3:=hV.size;have s4:=hg.size;have hklt:=h.klt;have hkge:=h.kge;have hbl:∀k,k < wr.heap.size→k≠hb→k≠sb→dv.ownBlock≠some k→V.heap[k]?=wr.heap[k]?:=fun k hk h1 h2 h3=>by
  rw[hV.block k Q8,hbut.block k Q8 h1 h2 h3,hU.block k hk]
 have hkb:w5.heap[kb]?=wr.heap[kb]?:=(hg.block kb Q8 fun e=>(h.ln kb e.symm).1 rfl).trans (hbl kb hklt h.kn.1 h.kn.2.1 h.kn.2.2);have hk0:w5.cell? ⟨kb,0,none⟩=some lv:=by rw [World.cell?_of_block (w:=wr) (a:=⟨kb,0,none⟩) hkb];exact h.k0
 have hkz:w5.frozen? ⟨kb,0,none⟩=false:=by rw [World.frozen?_of_block (w:=wr) (a:=⟨kb,0,none⟩) hkb];exact h.kz
 have hk5:kb < w5.heap.size:=by omega
 have hmV:=hm.below hV;have hslt:=hmV.slt;have hhlt:=hmV.lt
 -- what the append leaves alone
 have h5:∀k,k < V.heap.size→lv.ownBlock≠some k→k≠kb→(w5.setCell ⟨kb,0,none⟩ lv').heap[k]?=V.heap[k]?:=fun k hk h1 h2=>by
  rw[heap_setCell_other _ _ _ _ h2];exact hg.block k hk fun e=>h1 e.symm
 have hhb:=h5 hb hhlt (fun e=>(h.ln hb e).2.1 rfl) (Ne.symm h.kn.1);have hlvn:lv'.ownBlock≠some kb:=fun e=>by
  rcases hat kb e with e | e
  ·exact (h.ln kb e).1 rfl
  ·omega
 have hW5:W.heap.size≤w5.heap.size:=by omega
 refine⟨hk0,hkz,hk5,⟨⟨hm.b0,hm.b1,hm.b2,by simp;omega,?_,?_,fun x=>?_,A2 hmV.slots fun b hb'=>?_,A2 hmV.draws fun b hb'=>?_,hm.sn,hm.dn,hm.form⟩,?_,by go_simp,by go_simp,h.kge,by simpa using hk5,⟨h.kn.1,h.kn.2.1,fun e=>h.kn.2.2 (hdv kb e)⟩,?_,fun b e=>?_,q1,by rw [List.length_set];exact h.cap,q2,q3⟩⟩
 ·rw [World.cell?_of_block (w:=V) (a:=⟨hb,0,none⟩) hhb];exact hmV.c0
 ·rw [World.cell?_of_block (w:=V) (a:=⟨hb,1,none⟩) hhb];exact hmV.c1
 ·rw [World.frozen?_of_block (w:=V) (a:=⟨hb,x,none⟩) hhb];exact hmV.fz x
 ·obtain rfl:sb=b:=by simpa [Value.ownBlock] using hb'
  exact h5 sb hslt (fun e=>(h.ln sb e).2.2.1 rfl) (Ne.symm h.kn.2.1)
 ·exact h5 b (hmV.draws.lt b hb').2 (fun e=>(h.ln b e).2.2.2 (hdv b hb')) (fun e=>h.kn.2.2 (by rw [← e];exact hdv b hb'))
 ·have hlt:∀k,k < W.heap.size→(w5.setCell ⟨kb,0,none⟩ lv').heap[k]?=W.heap[k]?:=fun k hk=>by
   have hlk:lv.ownBlock≠some k:=fun e=>by have:=(h.row.lt k e).1;omega
   have hdk:dv.ownBlock≠some k:=fun e=>by have:=h.hp.b2 k e;omega
   have b0:=h.hp.b0;have b1:=h.hp.b1;rw[h5 k Q8 hlk Q8,hbl k Q8 Q8 Q8 hdk,h.bel.block k hk]
  exact⟨hg.os.trans (hV.os.trans (hbut.os.trans (hU.os.trans h.bel.os))),hg.tape.trans (hV.tape.trans (hbut.tape.trans (hU.tape.trans h.bel.tape))),hg.output.trans (hV.output.trans (hbut.output.trans (hU.output.trans h.bel.output))),by simpa using hW5,hlt⟩
 ·rw [List.length_append,List.length_singleton]
  have e:T4 (laid++[j])=T4 laid++[.int .i64 (j:Int)]:=by simp [T4]
  rw[e];exact ownsRow_setCell_other hr hlvn _
 ·rcases hat b e with e | e
  ·obtain ⟨a1,a2,a3,a4⟩:=h.ln b e
   exact⟨a1,a2,a3,fun e'=>a4 (hdv b e')⟩
  ·refine ⟨by omega,by omega,by omega,fun e'=>?_⟩
   have:=(hmV.draws.lt b e').2;omega
def fJ (W:World) (own:Own) (mb:Nat) (g:PgR) (R:McR) (fin:List Ob × List Int × List Nat) (w':World):Prop :=
 ∃own' R',A3 w' own' mb g R'∧R'.abs=gJ R.abs fin.1 fin.2.2 fin.2.1∧R'.ov=R.ov∧(w'.os=W.os∧w'.tape=W.tape∧w'.output=W.output∧W.heap.size≤w'.heap.size)∧(∀k,k < W.heap.size→own k=none→w'.heap[k]?=W.heap[k]?)∧∀b,own' b≠none→own b≠none∨W.heap.size≤b
theorem a2J {W wr:World} {own:Own} {mb hb sb sc kb cap:Nat} {g:PgR} {R:McR} {fin:List Ob × List Int × List Nat} {dv lv:Value} {obs:List ObR} {dr:List Int} {laid:List Nat} (h:A3 W own mb g R) (hu:sX W hb sb sc kb cap R fin R.obs.length wr obs dr laid dv lv)
  (hls:∀q v l t,J3 R q v l t→l.length≤1000∧∀x,x∈l→x.1=2→0≤x.2∧x.2.toNat < R.obs.length) (hf:R.frs.length≤1000) (hcap:cap≤1000) :
  Calls Tryz.prog 73 #[.pointer (some ⟨mb,0,none⟩),.func (.func 88) #[] #[.pointer (some ⟨kb,0,none⟩)]] ((wr.setCell ⟨mb,4,none⟩ (.slice (some ⟨sb,0,none⟩) obs.length sc)).setCell ⟨mb,5,none⟩ dv) fun e w'=>e=.returned (.tuple #[])∧fJ W own mb g R fin w':=by
 have hmb:mb < W.heap.size:=h.lt mb _ h.me;have hlay:dQ R.obs obs laid:=by have:=hu.lay;rwa [List.take_length] at this
 have hfin:fin=(obs.map ObR.abs,dr,laid):=by
  have:=hu.rest;rw[List.drop_length] at this;exact this.symm
 obtain⟨own1,hm1,ho1⟩:=a0M h hu.bel hu.hp hlay;have hkge:=hu.kge;have hsb:=hu.hp.b1;have hnone:∀b,own b=none→b≠sb→dv.ownBlock≠some b→own1 b=none:=fun b h1 h2 h3=>by
  cases e:own1 b with
  | none=>rfl
  | some t =>
   rcases ho1 b (by rw [e];simp) with q | q | q
   ·exact absurd h1 q
   ·exact absurd q h2
   ·exact absurd q h3
 have hnew:∀b,W.heap.size≤b→own b=none:=fun b hb'=>by
  cases e:own b with
  | none=>rfl
  | some t=>have:=h.lt b t e;omega
 have hblk:∀b,b≠mb→((wr.setCell ⟨mb,4,none⟩ (.slice (some ⟨sb,0,none⟩) obs.length sc)).setCell ⟨mb,5,none⟩ dv).heap[b]?=wr.heap[b]?:=fun b hb'=>by
  rw[heap_setCell_other _ _ _ _ hb',heap_setCell_other _ _ _ _ hb']
 have hklt:=hu.klt;have hld:a0U ((wr.setCell ⟨mb,4,none⟩ (.slice (some ⟨sb,0,none⟩) obs.length sc)).setCell ⟨mb,5,none⟩ dv) own1 kb laid:=by
  intro V hV hb';have hws:((wr.setCell ⟨mb,4,none⟩ (.slice (some ⟨sb,0,none⟩) obs.length sc)).setCell ⟨mb,5,none⟩ dv).heap.size=wr.heap.size:=by simp
  have e1:V.heap[kb]?=wr.heap[kb]?:=(hb' kb Q8 (hnone kb (hnew kb hkge) hu.kn.2.1 hu.kn.2.2)).trans (hblk kb Q8);refine⟨lv,?_,?_⟩
  ·rw [World.cell?_of_block (w:=wr) (a:=⟨kb,0,none⟩) e1]
   exact hu.k0
  ·refine C5 (A2 hu.row fun b hb2=>?_) (Nat.zero_le _)
   have hbl:=hu.row.lt b hb2;have hl:=hu.ln b hb2;exact (hb' b Q8 (hnone b (hnew b hbl.1) hl.2.2.1 hl.2.2.2)).trans (hblk b Q8)
 have hl2:laid.length=R.obs.length:=hlay.len;have hls1:∀q v l t,J3 (R.heap (.slice (some ⟨sb,0,none⟩) obs.length sc) dv obs dr) q v l t→l.length≤1000∧∀x,x∈l→x.1=2→0≤x.2∧x.2.toNat < laid.length:=by
  intro q v l t hq;rw[hl2];rcases hq with ⟨i,f,hf,_,_,rfl,_⟩ | ⟨i,f,hf,_,_,rfl,_⟩ | ⟨j,o,ho,_,_,rfl,_⟩
  ·exact hls _ _ _ _ (Or.inl ⟨i,f,hf,rfl,rfl,rfl,rfl⟩)
  ·exact hls _ _ _ _ (Or.inr (Or.inl ⟨i,f,hf,rfl,rfl,rfl,rfl⟩))
  ·have ho:obs[j]?=some o:=ho
   by_cases hin:j∈laid
   ·obtain ⟨k,hk⟩:=List.mem_iff_getElem?.1 hin
    have hkl:=(List.getElem?_eq_some_iff.1 hk).1;rw[hl2] at hkl;obtain⟨j',q1,q2⟩:=hlay.at_ k _ (List.getElem?_eq_getElem hkl);rw[hk] at q1
    cases q1;rw[ho] at q2
    injection q2 with q2
    subst q2;exact hls _ _ _ _ (Or.inr (Or.inr ⟨k,_,List.getElem?_eq_getElem hkl,rfl,rfl,rfl,rfl⟩))
   ·rw [hlay.free j o ho hin]
    exact⟨Nat.zero_le _,fun x hx=>by cases hx⟩
 refine (a4t hm1 laid kb hld hf (by show obs.length≤1000;rw [hu.cap];exact hcap) hls1).mono ?_;rintro e w' ⟨rfl,mv⟩;refine⟨rfl,own1,_,a8a hm1 mv,?_,rfl,⟨mv.os.trans hu.bel.os,mv.tape.trans hu.bel.tape,mv.output.trans hu.bel.output,?_⟩,fun k hk hn=>?_,fun b hb'=>?_⟩
 ·rw [hfin]
  simp[McR.abs,McR.mapV,McR.heap,gJ,List.map_map,Function.comp_def,FrR.abs,ObR.abs,F5]
 ·have:=mv.size;have:=hu.bel.size
  simp at *;omega
 ·have h1:own1 k=none:=hnone k hn Q8 fun e=>by have:=hu.hp.b2 k e;omega
  have hk1:k < ((wr.setCell ⟨mb,4,none⟩ (.slice (some ⟨sb,0,none⟩) obs.length sc)).setCell ⟨mb,5,none⟩ dv).heap.size:=by have:=hu.bel.size;simp;omega
  rw[mv.keep k hk1 (fun q v l t _=>by rw [h1];simp),hblk k (fun e=>by rw [e,h.me] at hn;cases hn),hu.bel.block k hk]
 ·rcases ho1 b hb' with q | q | q
  ·exact Or.inl q
  ·exact Or.inr Q8
  ·exact Or.inr (hu.hp.b2 b q)
theorem a5o {W:World} {own:Own} {mb:Nat} {g:PgR} {R:McR} (h:A3 W own mb g R) (cap:Nat) (h1:1≤cap) (h40:cap≤40) (hlt:cap < R.obs.length) (_hn:R.obs.length≤1000) (a:Option Addr) (n c:Nat) :
  Calls Tryz.prog 52 #[.pointer (some ⟨mb,0,none⟩),.int .i64 (cap:Int),.slice a n c] W fun e w'=>e=.returned (.int .i64 4)∧Below W.heap.size W w':=by
 have c4:=h.c4;obtain⟨ha,hc,he⟩:=C6 h.slots;rw[he] at c4;have hmb:mb < W.heap.size:=h.lt mb _ h.me;have hin:B9 (cap:Int) 1 40=true:=F8 Q8 Q8;have HIN:Hid (∀U:World,Calls Tryz.prog 41 #[.int .i64 (cap:Int),.int .i64 1,.int .i64 40] U fun e w'=>e=.returned (.bool true)∧w'=U):=hid fun U=>by
  have:=C2 (cap:Int) 1 40 U;rw[hin] at this;exact this
 have hgt:(cap:Int) < (R.obs.length:Int):=by omega
 clear h he hin;go_enter Tryz.func52,Tryz.ntmps52;go_wp2_with (go_at_call 41;refine (HIN.out _).mono ?_;rintro e w1 ⟨rfl,rfl⟩)
 go_ret;exact⟨rfl,P0⟩
theorem a2H {W:World} {own:Own} {mb:Nat} {g:PgR} {R:McR} (h:A3 W own mb g R) (cap:Nat) (h1:1≤cap) (h40:cap≤40) (hle:R.obs.length≤cap) (a:Option Addr) (c:Nat) (l:List Int) (hl:gO W a l) (hln:l.length≤200)
  (hk:∀o,o∈R.obs→o.kind≠0) (hls:∀q v l t,J3 R q v l t→l.length≤1000∧∀x,x∈l→x.1=2→0≤x.2∧x.2.toNat < R.obs.length) (hf:R.frs.length≤1000) :
  Calls Tryz.prog 52 #[.pointer (some ⟨mb,0,none⟩),.int .i64 (cap:Int),.slice a l.length c] W fun e w'=>e=.returned (.int .i64 0)∧fJ W own mb g R (dC (R.obs.map ObR.abs) (List.replicate cap (0,[])) l []) w':=by
 have c4:=h.c4;have c5:=h.c5;obtain⟨ha,hc,he⟩:=C6 h.slots;obtain⟨da,dc,hde⟩:=C6 h.draws;rw[he] at c4;rw[hde] at c5;have hz4:=h.fz 4;have hz5:=h.fz 5;have hmb:mb < W.heap.size:=h.lt mb _ h.me;have hin:B9 (cap:Int) 1 40=true:=F8 Q8 Q8;have HIN:Hid (∀U:World,Calls Tryz.prog 41 #[.int .i64 (cap:Int),.int .i64 1,.int .i64 40] U fun e w'=>e=.returned (.bool true)∧w'=U):=hid fun U=>by
  have:=C2 (cap:Int) 1 40 U;rw[hin] at this;exact this
 have hgt:¬(cap:Int) < (R.obs.length:Int):=by omega
 have HNH:Hid (∀U:World,Calls Tryz.prog 61 #[.int .i64 (cap:Int)] U fun e w'=>yH cap U e w'):=hid fun U=>hG cap U h40
 have HAD:Hid (∀(w1 U:World) (b:Nat),Below W.heap.size W w1→w1.ownsRow W.heap.size 75 2 (.slice (some ⟨b,0,none⟩) cap cap) cap ((List.replicate cap K7).flatMap ObR.cells)→Below w1.heap.size w1 U→U.cell? ⟨w1.heap.size,0,none⟩=some (.slice (some ⟨b,0,none⟩) cap cap)→U.cell? ⟨w1.heap.size,1,none⟩=some (.slice none 0 0)→(∀j,U.frozen? ⟨w1.heap.size,j,none⟩=false)→w1.heap.size < U.heap.size →
   Calls Tryz.prog 86 #[.pointer (some ⟨w1.heap.size,0,none⟩),.slice a l.length c] U fun e w'=>∃v,e=.returned (.int .i64 0)∧aZ W.heap.size w' w1.heap.size b cap v (List.replicate cap K7) l∧Below W.heap.size W w'):=hid fun w1 U b hB hrow hU q0 q1 q2 q3=>by
  have hbl:=hrow.lt b rfl;have hrep:(List.replicate cap K7).length=cap:=List.length_replicate;have hH:aZ W.heap.size U w1.heap.size b cap (.slice none 0 0) (List.replicate cap K7) []:=by
   refine⟨hB.size,hbl.1,fun b e=>(by cases e),q3,by rw [hrep];exact q0,q1,q2,?_,⟨rfl,Or.inl ⟨rfl,rfl⟩⟩,by have:=hbl.2;omega,fun b e=>(by cases e),fun o ho=>?_⟩
   ·rw [hrep]
    exact C5 (A2 hrow fun k hk'=>hU.block k (hrow.lt k hk').2) (Nat.zero_le _)
   ·rw [(List.mem_replicate.1 ho).2]
    exact⟨none,0,rfl⟩
  have hnums:gO U a l:=fun h0=>by
   obtain⟨b',o',e1,e2,e3⟩:=hl h0;have hWU:=A1 hU hB;exact⟨b',o',e1,Nat.lt_of_lt_of_le e2 hWU.size,fun i x hx=>(hWU.cell (p:=⟨b',o'+i,none⟩) e2).trans (e3 i x hx)⟩
  refine (a3A hH a c l hnums hln).mono ?_;rintro e w' ⟨v,rfl,hP,hQ,_⟩;have hB1:=hB.size;have hU1:=hU.size;refine⟨v,rfl,hP,hQ.os.trans (hU.os.trans hB.os),hQ.tape.trans (hU.tape.trans hB.tape),hQ.output.trans (hU.output.trans hB.output),by have:=hQ.size;omega,fun k hk'=>?_⟩;rw[hQ.block k Q8 Q8 (by have:=hbl.1;omega) (by simp [Value.ownBlock]),hU.block k Q8,hB.block k hk']
 have HU0:Hid (∀(w3:World) (hb b:Nat) (v:Value),aZ W.heap.size w3 hb b cap v (List.replicate cap K7) l→Below W.heap.size W w3→∀U,Below w3.heap.size w3 U→U.cell? ⟨w3.heap.size,0,none⟩=some (.slice none 0 0)→U.frozen? ⟨w3.heap.size,0,none⟩=false→w3.heap.size < U.heap.size →
   sX W hb b cap w3.heap.size cap R (dC (R.obs.map ObR.abs) (List.replicate cap (0,[])) l []) 0 U (List.replicate cap K7) l [] v (.slice none 0 0)):=hid fun w3 hb b v hP hB U hU q0 q1 q2=>by
  have hPU:=hP.below hU;have hlt:=hP.lt;have hslt:=hP.slt;refine⟨hPU,A1 hU hB,q0,q1,hB.size,q2,⟨by omega,by omega,fun e=>by have:=(hP.draws.lt _ e).2;omega⟩,⟨rfl,Or.inl ⟨rfl,rfl⟩⟩,fun b e=>(by cases e),dQ.none cap,List.length_replicate,?_,hln⟩;rw[List.drop_zero,List.map_replicate];rfl
 have HEND:Hid (∀(hb b kb:Nat) (wr:World) (obs:List ObR) (dr:List Int) (laid:List Nat) (dv lv:Value),sX W hb b cap kb cap R (dC (R.obs.map ObR.abs) (List.replicate cap (0,[])) l []) R.obs.length wr obs dr laid dv lv→_):=hid fun hb b kb wr obs dr laid dv lv hu=>a2J h hu hls hf Q8
 have HPK:Hid (∀(hb b kb i:Nat) (wr:World) (obs:List ObR) (dr:List Int) (laid:List Nat) (dv lv:Value),sX W hb b cap kb cap R (dC (R.obs.map ObR.abs) (List.replicate cap (0,[])) l []) i wr obs dr laid dv lv→∀o,R.obs[i]?=some o→_):=hid fun hb b kb i wr obs dr laid dv lv hu o ho=>hu.pick ho hle hk
 have HSL:Hid (∀(i:Nat) (o:ObR),R.obs[i]?=some o→(∃b0 fa fc,ha=some ⟨b0,0,none⟩∧o.fv=.slice fa o.fl.length fc∧b0 < W.heap.size∧W.cell? ⟨b0,i*2,none⟩=some (.int .u8 o.kind)∧W.cell? ⟨b0,i*2+1,none⟩=some (.slice fa o.fl.length fc))):=hid fun i o ho=>by
  obtain⟨b0,c0,fa,fc,e0,_,hlt,hfv,k0,k1⟩:=h.slot ho;rw[he] at e0
  cases e0;exact⟨b0,fa,fc,rfl,hfv,hlt,k0,k1⟩
 obtain⟨fin,hfin⟩:∃fin,fin=dC (R.obs.map ObR.abs) (List.replicate cap (0,[])) l []:=⟨_,rfl⟩
 rw[← hfin] at HU0 HEND HPK;obtain⟨i3,hi,hz,hsz,hby⟩:=info_parts lK;have HI:=hid hi;have HZ:=hid hz;have HSZ:=hid hsz;have HBY:=hid hby;clear hi hz hsz hby;have HGOAL:Hid (∀e w',e=Ending.returned (.int .i64 0)→fJ W own mb g R fin w'→(e=.returned (.int .i64 0)∧fJ W own mb g R (dC (R.obs.map ObR.abs) (List.replicate cap (0,[])) l []) w')):=hid fun e w' h1 h2=>by rw [← hfin];exact ⟨h1,h2⟩
 have hobn:R.obs.length≤40:=by omega
 clear h he hde hin hfin hl hk hls hf hle;go_enter Tryz.func52,Tryz.ntmps52;go_wp2_with (first | (go_at_call 41;refine (HIN.out _).mono ?_;rintro e w1 ⟨rfl,hw⟩;rw [hw];clear hw w1) | (go_at_call 61;refine (HNH.out _).mono ?_;rintro e w1 ⟨b,rfl,hrow1,hb1⟩;have HR1:=hid hrow1;have HB1:=hid hb1;clear hrow1 hb1) | (go_at_call 86;fail))
 refine (HAD.out w1 _ b HB1.out HR1.out (Below.alloc (Below.refl _ _) (Nat.le_refl _) _) Q6 Q6 (fun j=>by go_simp) Q9).mono ?_;rintro e w3 ⟨v,rfl,hP,hB3⟩;have hbh:w1.heap.size < w3.heap.size:=hP.lt;obtain⟨hb,hhb⟩:∃hb,hb=w1.heap.size:=⟨_,rfl⟩
 rw[← hhb] at hP hbh ⊢;have r4:=(hB3.cell (p:=⟨mb,4,none⟩) hmb).trans c4;have hmb3:mb < w3.heap.size:=Nat.lt_of_lt_of_le hmb hB3.size;have HU:=hid (HU0.out w3 hb b v hP hB3);have HB3:=hid hB3;have HC4:=hid c4;have HC5:=hid c5;have HZ4:=hid hz4;have HZ5:=hid hz5;clear hP hB3 hhb HR1 HB1 HAD HNH HIN HU0 c4 c5 hz4 hz5;go_wp2_with fail;have hu0:=HU.out (w3.alloc (.cells #[.slice none 0 0] 22)) (Below.alloc (Below.refl _ _) (Nat.le_refl _) _) Q6 Q6 Q9
 have HUS:=hid hu0;clear hu0 HU r4;go_loopw [38] (fun vi wr=>∃(i:Nat) (obs:List ObR) (dr:List Int) (laid:List Nat) (dv:Value) (la:Option Addr) (ln lc:Nat),i≤R.obs.length∧vi=.int .i64 i∧ln=laid.length∧sX W hb b cap w3.heap.size cap R fin i wr obs dr laid dv (.slice la ln lc)) (fun vi _=>R.obs.length - (intOf vi).toNat)
 case atStart=>exact ⟨0,_,_,_,_,none,0,0,Nat.zero_le _,rfl,rfl,HUS.out⟩
 case round =>
  obtain⟨i,obs,dr,laid,dv,la,ln,lc,hi,rfl,hln',hu⟩:=hrel;subst hln';clear HUS;by_cases hlt:i < R.obs.length
  ·obtain ⟨o,ho⟩:∃o,R.obs[i]?=some o:=⟨_,List.getElem?_eq_getElem hlt⟩
   obtain⟨b0,fa,fc,hha,hfv,hb0,y0,y1⟩:=HSL.out i o ho;subst hha;have x0:=(hu.bel.cell (p:=⟨b0,i*2,none⟩) hb0).trans y0;have x1:=(hu.bel.cell (p:=⟨b0,i*2+1,none⟩) hb0).trans y1;have hb0w:b0 < wr.heap.size:=Nat.lt_of_lt_of_le hb0 hu.bel.size;obtain⟨j,ds,hpk,q1,q2,q3⟩:=HPK.out _ _ _ _ _ _ _ _ _ _ hu o ho;have k0:=hu.k0;have kz:=hu.kz;have klt:=hu.klt;have hll:laid.length≤40:=by have:=hu.lay.len;rw [List.length_take] at this;omega
   have hWw:=hu.bel.size;have HLAY:Hid (∀U:World,Below wr.heap.size wr U→Calls Tryz.prog 87 #[.pointer (some ⟨hb,0,none⟩),.agg #[.int .u8 o.kind,.slice fa o.fl.length fc]] U fun e w'=>∃dv',e=.returned (.int .i64 (j:Int))∧(aZ W.heap.size w' hb b cap dv' (obs.set j o) ds∧(∀x,dv'.ownBlock=some x→dv.ownBlock=some x)∧cA hb b dv U w')∧w'.cell? ⟨w3.heap.size,0,none⟩=some (.slice la laid.length lc)∧w3.heap.size < w'.heap.size∧W.heap.size≤w'.heap.size∧w'.ownsRow W.heap.size 3 1 (.slice la laid.length lc) laid.length (T4 laid)):=hid fun U hU=>by
    have:=a9H (hu.hp.below hU) j ds hpk (by rw [hu.cap];omega) (by have:=hu.drn;omega) o fa fc hfv;rw[hfv] at this;refine this.mono ?_;rintro e w' ⟨dv',rfl,hm,hd,hbut⟩;have s1:=hU.size;have s2:=hbut.size;have hkeep:∀k,k < wr.heap.size→k≠hb→k≠b→dv.ownBlock≠some k→w'.heap[k]?=wr.heap[k]?:=fun k hk h1 h2 h3=>by
     rw[hbut.block k Q8 h1 h2 h3,hU.block k hk]
    refine⟨dv',rfl,⟨hm,hd,hbut⟩,?_,by omega,by omega,A2 hu.row fun x hx=>?_⟩
    ·rw [World.cell?_of_block (w:=wr) (a:=⟨w3.heap.size,0,none⟩) (hkeep _ klt hu.kn.1 hu.kn.2.1 hu.kn.2.2)]
     exact hu.k0
    ·have hx':=hu.ln x hx
     exact hkeep x (hu.row.lt x hx).2 hx'.2.1 hx'.2.2.1 hx'.2.2.2
   have HUU:=hid hu;have HROW:=hid hu.row;have Q1:=hid q1;have Q2:=hid q2;have Q3:=hid q3;clear hu hpk q1 q2 q3 ho hfv y0 y1;go_wp2_with fail;go_region_law (first | (go_simp;go_at_call 87;refine (HLAY.out _ ?_).mono ?_;exact P0;rintro e w4 ⟨dv',rfl,hm4,k4,l4,s4,row4⟩;have HM4:=hid hm4;have HR4:=hid row4;clear hm4 row4;dsimp only) | (refine cM rfl (.tmp 42) (.tmp 45) 22 rfl W.heap.size 3 i3 _ 1 8 Tryz.underlying22 HI.out HZ.out HSZ.out HBY.out rfl Q7 (.slice la laid.length lc) laid.length (T4 laid) (by first | rfl | simp [Act.eval,Act.put]) (by repeat (first | exact HR4.out | refine World.ownsRow.drew ?_ | refine World.ownsRow.alloc ?_ _)) (some ⟨w4.heap.size,0,none⟩) 1 1 [.int .i64 (j:Int)] (by first | rfl | simp [Act.eval,Act.put]) rfl (fun _=>⟨_,rfl,World.news_of_block (cs:=#[.int .i64 (j:Int)]) (t:=3) (fr:=(0,0)) (D8 Q9)⟩) (by intro u hu;simp at hu;subst hu;rfl) Q0 Q8 P9 ?_;intro v5 w5 hown5 hgrow5 hat5;obtain ⟨a5,c5',rfl⟩:=B0 hown5;obtain ⟨u0,u1,u2,hP5⟩:=HUU.out.step Q1.out Q2.out Q3.out P0 HM4.out.1 HM4.out.2.1 HM4.out.2.2 P0 hgrow5 hown5 hat5;have HP5:=hid hP5;clear hown5 hgrow5 hat5 hP5))
   all_goals
    clear u0 u1 u2 x0 x1 k0 kz k4;go_wp2_with fail;go_roundw
    case rel=>exact ⟨i+1,_,_,_,_,a5,_,c5',by omega,by go_num,by simp,HP5.out⟩
    case measure=>simp [intOf];omega
  ·obtain rfl:i=R.obs.length:=by omega
   have HE:=hid (HEND.out _ _ _ _ _ _ _ _ _ hu);have d0:=hu.hp.c0;have d1:=hu.hp.c1;obtain⟨va,vc,hdv⟩:=B0 hu.hp.draws;rw[hdv] at d1 HE;have hhl:=hu.hp.lt;have r4:=(hu.bel.cell (p:=⟨mb,4,none⟩) hmb).trans HC4.out;have r5:=(hu.bel.cell (p:=⟨mb,5,none⟩) hmb).trans HC5.out;have z4:=(hu.bel.frozen (p:=⟨mb,4,none⟩) hmb).trans HZ4.out;have z5:=(hu.bel.frozen (p:=⟨mb,5,none⟩) hmb).trans HZ5.out;have hmw:mb < wr.heap.size:=Nat.lt_of_lt_of_le hmb hu.bel.size
   have hne:mb≠hb:=by have:=hu.hp.b0;omega
   clear hu hdv;go_wp2_with fail;refine HE.out.mono ?_;rintro e w9 ⟨rfl,h9⟩;have H9:=hid h9;clear h9 HE;go_wp2_with fail;go_ret;exact HGOAL.out _ _ rfl H9.out
end Go.Proofs.YtbkmgoffiigdbabGreatDoor
