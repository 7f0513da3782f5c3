import Derived.Test.YtbkmgoffiigdbaaGreatDoorVAe
namespace Go.Proofs.YtbkmgoffiigdbaaGreatDoor
set_option maxHeartbeats 4000000
set_option maxRecDepth 100000
open Go.RowKit Go.Sort
end Go.Proofs.YtbkmgoffiigdbaaGreatDoor
namespace Go.Proofs.YtbkmgoffiigdbaaGreatDoor
open Go.RowKit Go.Sort Go.Proofs.Tryz
set_option maxHeartbeats 4000000
set_option maxRecDepth 100000
section
variable {R:RfR} {g:PgR} {mb:Nat} {own:Own} {w:World}
theorem B9 {b i j:Nat} (u:Value) (h:i≠j):(w.setCell ⟨b,i,none⟩ u).cell? ⟨b,j,none⟩=w.cell? ⟨b,j,none⟩:=World.cell?_setCell_other _ _ _ _ (fun e=>h (congrArg Addr.off e))
theorem A9.mach (h:A9 w own mb g R) (j:Nat) (u:Value) :
  (∀t k,own k=some t->t≠.mach->(w.setCell ⟨mb,j,none⟩ u).heap[k]?=w.heap[k]?)/\∀k,own k=none->(w.setCell ⟨mb,j,none⟩ u).heap[k]?=w.heap[k]?:=by
 refine⟨fun t k hk ht=>heap_setCell_other _ _ _ _ fun e=>?_,fun k hk=>heap_setCell_other _ _ _ _ fun e=>?_⟩
 ·rw [e,h.me] at hk
  cases hk;exact ht rfl
 ·rw [e,h.me] at hk
  cases hk
theorem A9.setDraws {R:RfR} (h:A9 w own mb g R) (da:Option Addr) (dc:Nat) (dr:List Int) (hle:dr.length<=dc) (hd:K1 w da dr) (hro:∀b o,da=some ⟨b,o,none⟩->b < w.heap.size/\own b=none) :
  A9 (w.setCell ⟨mb,6,none⟩ (.slice da dr.length dc)) own mb g { R with da:=da,dc:=dc,dr:=dr }:=by
 obtain⟨k1,k2⟩:=h.mach 6 (.slice da dr.length dc);have hs:(w.setCell ⟨mb,6,none⟩ (.slice da dr.length dc)).heap.size=w.heap.size:=by simp
 have m6:=h.c6;refine⟨fun k t e=>by rw [hs];exact h.lt k t e,h.me,(B9 _ R4).trans h.c0,(B9 _ R4).trans h.c1,(B9 _ R4).trans h.c2,(B9 _ R4).trans h.c3,(B9 _ R4).trans h.c4,(B9 _ R4).trans h.c5,by go_simp,fun j=>by go_simp;exact h.fz j,h.out.kept fun k e=>⟨k1 _ k e R6,e⟩,h.called.kept fun k e=>⟨k1 _ k e R6,e⟩,h.things.kept fun k e=>⟨k1 _ k e R6,e⟩,fun i f e=>(h.loc i f e).kept fun k e=>⟨k1 _ k e R6,e⟩,fun i f e=>(h.stk i f e).kept fun k e=>⟨k1 _ k e R6,e⟩,fun i f e=>(h.fld i f e).kept fun k e=>⟨k1 _ k e R6,e⟩,h.pg.held (by rw [hs];exact L1c _) fun k hk=>k2 k (h.ro k hk),h.ro,h.ro0,hle,fun h0=>?_,fun b o e=>by rw [hs];exact hro b o e⟩
 obtain⟨b,o,e,hb,hc⟩:=hd h0;exact⟨b,o,e,by rw [hs];exact hb,fun i x hx=>(L0b (w:=w) (a:=⟨b,o+i,none⟩) (k2 b (hro b o e).2)).trans (hc i x hx)⟩
end
theorem a6y (d c:Int) (hc:0 < c):(if d.tmod c < 0 then d.tmod c+c else d.tmod c)=d % c /\ -c < d.tmod c/\d.tmod c < c:=by
 by_cases hd:0<=d
 ·have e:=Int.tmod_eq_emod_of_nonneg (b:=c) hd
  have h1:=Int.emod_nonneg d (show c≠0 by omega);have h2:=Int.emod_lt_of_pos d hc;rw[e,if_neg R5];exact⟨rfl,by omega,h2⟩
 ·have e:d.tmod c = -((-d) % c):=by
   have:=Int.neg_tmod (-d) c;rw[Int.neg_neg] at this;rw[this,Int.tmod_eq_emod_of_nonneg R5]
  have h1:=Int.emod_nonneg (-d) (show c≠0 by omega);have h2:=Int.emod_lt_of_pos (-d) hc;have h3:=Int.emod_add_mul_ediv (-d) c;generalize hq:(-d) % c=q at *
  generalize (-d) / c=k at *
  rw[e];refine⟨?_,by omega,by omega⟩;by_cases h0:q=0
  ·rw [if_neg R5]
   have:d=0+c*(-k):=by rw [Int.mul_neg];omega
   rw[this,Int.add_mul_emod_self_left,h0];rfl
  ·rw [if_pos R5]
   have:d=(c - q)+c*(-k - 1):=by rw [Int.mul_sub,Int.mul_neg];omega
   rw[this,Int.add_mul_emod_self_left,Int.emod_eq_of_lt R5 R5];omega
theorem kF (sl:List Int):∀(m n:Nat),bO sl m n=match Z9 sl m n with | some j=>(j:Int) | none => -1
 | 0,_=>rfl
 | m+1,n=>by
  rw[bO,Z9];split
  ·exact kF sl m (n+1)
  ·rfl
theorem a6k {W:World} {own:Own} {mb:Nat} {g:PgR} {R:RfR} (h:A9 W own mb g R) (hd:R.dr=[]) (hcap:R.cap<=1000) (hn:R.ths.length<=1000000000000) :
  Calls prog 44 #[zB mb] W fun e w'=>e=.returned (J (bO (R.ths.map ThR.slot) R.cap 0))/\w'=W:=by
 have hm:=h.lt _ _ h.me;have m6:=h.c6;rw[hd] at m6;have HF:Hid (Calls prog 88 #[zB mb] W fun e w'=>e=.returned (J (bO (R.ths.map ThR.slot) R.cap 0))/\w'=W):=hid (oL h.slotsIn (by rw [List.length_map];omega) h.c1 hcap);clear h hd;go_enter func44,ntmps44;go_wp2_with (go_at_call 88;refine HF.out.mono ?_;rintro e w' ⟨rfl,hw⟩;rw [hw];clear hw w')
 go_ret;exact⟨rfl,rfl⟩
section
variable {W:World} {g:PgR} {mb:Nat} {own:Own}
def drawn (W:World) (mb:Nat) (da:Option Addr) (n c:Nat):World:=(W.setCell ⟨mb,6,none⟩ (.slice da n c)).drew
theorem A9.drawn {R:RfR} (h:A9 W own mb g R) {d:Int} {ds:List Int} (hd:R.dr=d::ds) {db o:Nat} (hda:R.da=some ⟨db,o,none⟩) (hdb:db < W.heap.size) (hcs:∀(i:Nat) (x:Int),R.dr[i]?=some x->W.cell? ⟨db,o+i,none⟩=some (J x)) (da:Option Addr) (hda':da=some ⟨db,o,none⟩/\ds=[]\/da=some ⟨db,o+1,none⟩) :
  A9 (drawn W mb da ds.length (R.dc - 1)) own mb g { R with da:=da,dc:=R.dc - 1,dr:=ds }:=by
 have xa:=h.dle;rw[hd,List.length_cons] at xa;refine (h.setDraws da (R.dc - 1) ds R5 (fun h0=>?_) fun b' o' e=>?_).same (L3c (L3b _ _))
 ·rcases hda' with ⟨_,e⟩ | e
  ·rw [e] at h0;simp at h0
  ·refine ⟨db,o+1,e,hdb,fun i x hx=>?_⟩
   have:=hcs (i+1) x (by rw [hd];simpa using hx);rw[show o+1+i=o+(i+1) by omega];exact this
 ·rcases hda' with ⟨e',_⟩ | e'
  ·rw [e'] at e;cases e;exact h.dro _ _ hda
  ·rw [e'] at e;cases e;exact h.dro _ _ hda
theorem a3P {R:RfR} (h:A9 W own mb g R) {d:Int} {ds:List Int} (hd:R.dr=d::ds) (hc1:1<=R.cap) (hcap:R.cap<=1000) (hn:R.ths.length<=1000000000000) :
  Calls prog 44 #[zB mb] W fun e w'=>∃da,e=.returned (J (if (d % (R.cap:Int))∈R.ths.map ThR.slot then bO (R.ths.map ThR.slot) R.cap 0 else d % (R.cap:Int)))/\A9 w' own mb g { R with da:=da,dc:=R.dc - 1,dr:=ds }/\w'=drawn W mb da ds.length (R.dc - 1)/\∀b q,da=some ⟨b,q,none⟩->∃q',R.da=some ⟨b,q',none⟩:=by
 have hm:=h.lt _ _ h.me;have m6:=h.c6;have m1:=h.c1;have xm:=h.dle;obtain⟨db,o,xi,xp,xl⟩:=h.draws (by rw [hd];simp);have x0:W.cell? ⟨db,o,none⟩=some (J d):=xl 0 d (by rw [hd];rfl);have HD:=hid (h.drawn hd xi xp xl);have xd:Hid (∀q b q2,(some ⟨db,q,none⟩:Option Addr)=some ⟨b,q2,none⟩->∃q',R.da=some ⟨b,q',none⟩):=hid fun q b q2 e=>by cases e;exact ⟨o,xi⟩
 rw[xi,hd,List.length_cons] at m6;rw[hd,List.length_cons] at xm;obtain⟨f1,f2,f3⟩:=a6y d (R.cap:Int) R5;have xe:Hid (∀(da:Option Addr),A9 (drawn W mb da ds.length (R.dc - 1)) own mb g { R with da:=da,dc:=R.dc - 1,dr:=ds }->Calls prog 52 #[zB mb,J (d % (R.cap:Int))] (drawn W mb da ds.length (R.dc - 1)) fun e w'=>e=.returned (J (C4 (R.ths.map ThR.slot) 0 (d % (R.cap:Int))))/\w'=drawn W mb da ds.length (R.dc - 1)):=hid fun da hr=>a4A _ hr.slotsIn (by rw [List.length_map];exact L5a hn R4)
 have xf:Hid (∀(da:Option Addr),A9 (drawn W mb da ds.length (R.dc - 1)) own mb g { R with da:=da,dc:=R.dc - 1,dr:=ds }->Calls prog 88 #[zB mb] (drawn W mb da ds.length (R.dc - 1)) fun e w'=>e=.returned (J (bO (R.ths.map ThR.slot) R.cap 0))/\w'=drawn W mb da ds.length (R.dc - 1)):=hid fun da hr=>oL hr.slotsIn (by rw [List.length_map];exact L5a hn R4) hr.c1 hcap
 have z6:=h.fz 6;have xq:¬(R.cap:Int)=0:=by omega
 have xn:¬(R.cap:Int) = -1:=by omega
 have xo:((R.cap:Int) == 0)=false:=L2c.2 xq;have xh:(0:Int) < (ds.length:Int)+1:=by omega
 have xr:1<=ds.length+1:=by omega
 have xb:=pH (l:=R.ths.map ThR.slot) (v:=d % (R.cap:Int));clear h hd xi xl;generalize hr:d.tmod (R.cap:Int)=r at *
 have hw:IntKind.i64.wrap (r+(R.cap:Int))=r+(R.cap:Int):=Go.IntWalk.i64_in _ R5;have xc:R.dc=1->ds=[]:=fun e=>List.eq_nil_of_length_eq_zero R5
 generalize R.ths.map ThR.slot=sl at *
 by_cases hdc:R.dc=1
 ·by_cases hneg:r < 0
  ·rw [if_pos hneg] at f1
   have HR:=hid (HD.out (some ⟨db,o,none⟩) (L4a ⟨rfl,xc hdc⟩));have HA:=hid (xe.out _ HR.out);have HF:=hid (xf.out _ HR.out);rw[hdc] at m6;have xg:R.dc - 1=0:=by omega
   obtain rfl:ds=[]:=xc hdc;rw[xg,List.length_nil] at HR HA HF;rw[List.length_nil] at m6 xh;unfold Go.Proofs.YtbkmgoffiigdbaaGreatDoor.drawn at HR HA HF;clear HD xe xf;by_cases hin:d % (R.cap:Int)∈sl
   ·have hq:¬C4 sl 0 (d % (R.cap:Int)) < 0:=fun c=>xb.1 c hin
    clear xb;go_enter func44,ntmps44;go_wp2_with fail;go_region
    go_wp2_with fail;refine HA.out.mono ?_;rintro e w' ⟨rfl,xa⟩;rw[xa];clear xa w';go_wp2_with (go_at_call 88;refine HF.out.mono ?_;rintro e w' ⟨rfl,xa⟩;rw [xa];clear xa w')
    go_ret;exact⟨rfl,_,HR.out,rfl,xd.out _⟩
   ·have hq:C4 sl 0 (d % (R.cap:Int)) < 0:=xb.2 hin
    clear xb;go_enter func44,ntmps44;go_wp2_with fail;go_region
    go_wp2_with fail;refine HA.out.mono ?_;rintro e w' ⟨rfl,xa⟩;rw[xa];clear xa w';go_wp2_with fail;go_ret;exact⟨rfl,_,HR.out,rfl,xd.out _⟩
  ·rw [if_neg hneg] at f1
   have HR:=hid (HD.out (some ⟨db,o,none⟩) (L4a ⟨rfl,xc hdc⟩));have HA:=hid (xe.out _ HR.out);have HF:=hid (xf.out _ HR.out);rw[hdc] at m6;have xg:R.dc - 1=0:=by omega
   obtain rfl:ds=[]:=xc hdc;rw[xg,List.length_nil] at HR HA HF;rw[List.length_nil] at m6 xh;unfold Go.Proofs.YtbkmgoffiigdbaaGreatDoor.drawn at HR HA HF;clear HD xe xf;by_cases hin:d % (R.cap:Int)∈sl
   ·have hq:¬C4 sl 0 (d % (R.cap:Int)) < 0:=fun c=>xb.1 c hin
    clear xb;go_enter func44,ntmps44;go_wp2_with fail;go_region
    go_wp2_with fail;refine HA.out.mono ?_;rintro e w' ⟨rfl,xa⟩;rw[xa];clear xa w';go_wp2_with (go_at_call 88;refine HF.out.mono ?_;rintro e w' ⟨rfl,xa⟩;rw [xa];clear xa w')
    go_ret;exact⟨rfl,_,HR.out,rfl,xd.out _⟩
   ·have hq:C4 sl 0 (d % (R.cap:Int)) < 0:=xb.2 hin
    clear xb;go_enter func44,ntmps44;go_wp2_with fail;go_region
    go_wp2_with fail;refine HA.out.mono ?_;rintro e w' ⟨rfl,xa⟩;rw[xa];clear xa w';go_wp2_with fail;go_ret;exact⟨rfl,_,HR.out,rfl,xd.out _⟩
 ·by_cases hneg:r < 0
  ·rw [if_pos hneg] at f1
   have HR:=hid (HD.out (some ⟨db,o+1,none⟩) (L4b rfl));have HA:=hid (xe.out _ HR.out);have HF:=hid (xf.out _ HR.out);have xj:¬1=R.dc:=fun e=>hdc e.symm
   have xk:1<=R.dc:=by omega
   unfold Go.Proofs.YtbkmgoffiigdbaaGreatDoor.drawn at HR HA HF;clear HD xe xf;by_cases hin:d % (R.cap:Int)∈sl
   ·have hq:¬C4 sl 0 (d % (R.cap:Int)) < 0:=fun c=>xb.1 c hin
    clear xb;go_enter func44,ntmps44;go_wp2_with fail;go_region
    go_wp2_with fail;refine HA.out.mono ?_;rintro e w' ⟨rfl,xa⟩;rw[xa];clear xa w';go_wp2_with (go_at_call 88;refine HF.out.mono ?_;rintro e w' ⟨rfl,xa⟩;rw [xa];clear xa w')
    go_ret;exact⟨rfl,_,HR.out,rfl,xd.out _⟩
   ·have hq:C4 sl 0 (d % (R.cap:Int)) < 0:=xb.2 hin
    clear xb;go_enter func44,ntmps44;go_wp2_with fail;go_region
    go_wp2_with fail;refine HA.out.mono ?_;rintro e w' ⟨rfl,xa⟩;rw[xa];clear xa w';go_wp2_with fail;go_ret;exact⟨rfl,_,HR.out,rfl,xd.out _⟩
  ·rw [if_neg hneg] at f1
   have HR:=hid (HD.out (some ⟨db,o+1,none⟩) (L4b rfl));have HA:=hid (xe.out _ HR.out);have HF:=hid (xf.out _ HR.out);have xj:¬1=R.dc:=fun e=>hdc e.symm
   have xk:1<=R.dc:=by omega
   unfold Go.Proofs.YtbkmgoffiigdbaaGreatDoor.drawn at HR HA HF;clear HD xe xf;by_cases hin:d % (R.cap:Int)∈sl
   ·have hq:¬C4 sl 0 (d % (R.cap:Int)) < 0:=fun c=>xb.1 c hin
    clear xb;go_enter func44,ntmps44;go_wp2_with fail;go_region
    go_wp2_with fail;refine HA.out.mono ?_;rintro e w' ⟨rfl,xa⟩;rw[xa];clear xa w';go_wp2_with (go_at_call 88;refine HF.out.mono ?_;rintro e w' ⟨rfl,xa⟩;rw [xa];clear xa w')
    go_ret;exact⟨rfl,_,HR.out,rfl,xd.out _⟩
   ·have hq:C4 sl 0 (d % (R.cap:Int)) < 0:=xb.2 hin
    clear xb;go_enter func44,ntmps44;go_wp2_with fail;go_region
    go_wp2_with fail;refine HA.out.mono ?_;rintro e w' ⟨rfl,xa⟩;rw[xa];clear xa w';go_wp2_with fail;go_ret;exact⟨rfl,_,HR.out,rfl,xd.out _⟩
end
section
variable {B mb:Nat} {R:RfR} {W X w w4:World} {g:PgR} {own:Own} {v4:Value}
theorem a6j {R:RfR} (h:A9 W own mb g R) (hc1:1<=R.cap) (hcap:R.cap<=1000) (hn:R.ths.length<=1000000000000) {j:Nat} {dr:List Int} (hs:bX R.cap (R.ths.map ThR.slot) R.dr=some (j,dr)) :
  Calls prog 44 #[zB mb] W fun e w'=>∃da dc,e=.returned (J (j:Int))/\A9 w' own mb g { R with da:=da,dc:=dc,dr:=dr }/\A2 own W own w'/\∀b q,da=some ⟨b,q,none⟩->∃q',R.da=some ⟨b,q',none⟩:=by
 cases hd:R.dr with
 | nil =>
  rw[hd] at hs;unfold bX at hs;simp only at hs
  cases hf:Z9 (R.ths.map ThR.slot) R.cap 0 with
  | none=>rw [hf] at hs;cases hs
  | some i =>
   rw[hf] at hs
   cases hs;refine (a6k h hd hcap hn).mono ?_;rintro e w' ⟨rfl,rfl⟩;refine⟨R.da,R.dc,by rw [kF,hf],?_,A2.refl _ _,fun b q e=>⟨q,e⟩⟩;have:({ R with da:=R.da,dc:=R.dc,dr:=[] } : RfR)=R:=by rw [<- hd]
   rw[this];exact h
 | cons d ds =>
  rw[hd] at hs;unfold bX at hs;simp only at hs;have xc:=Int.emod_nonneg d (show (R.cap:Int)≠0 by omega);have ht:((d % (R.cap:Int)).toNat:Int)=d % (R.cap:Int):=Int.toNat_of_nonneg xc;rw[ht] at hs;refine (a3P h hd hc1 hcap hn).mono ?_;rintro e w' ⟨da,rfl,hr,rfl,xb⟩;have xa:A2 own W own (Go.Proofs.YtbkmgoffiigdbaaGreatDoor.drawn W mb da ds.length (R.dc - 1)):=by
   refine⟨rfl,rfl,rfl,by simp [Go.Proofs.YtbkmgoffiigdbaaGreatDoor.drawn],fun k hk hno=>?_,fun _ _=>rfl⟩;show ((W.setCell ⟨mb,6,none⟩ _).drew).heap[k]?=_;rw[show ((W.setCell ⟨mb,6,none⟩ (.slice da ds.length (R.dc - 1))).drew).heap[k]?=(W.setCell ⟨mb,6,none⟩ (.slice da ds.length (R.dc - 1))).heap[k]? from rfl];exact heap_setCell_other _ _ _ _ (fun e=>by rw [e,h.me] at hno;cases hno)
  by_cases hin:(d % (R.cap:Int))∈R.ths.map ThR.slot
  ·rw [if_pos hin] at hs
   cases hf:Z9 (R.ths.map ThR.slot) R.cap 0 with
   | none=>rw [hf] at hs;cases hs
   | some i =>
    rw[hf] at hs
    cases hs;exact⟨da,R.dc - 1,by rw [if_pos hin,kF,hf],hr,xa,xb⟩
  ·rw [if_neg hin] at hs
   cases hs;exact⟨da,R.dc - 1,by rw [if_neg hin,ht],hr,xa,xb⟩
theorem gO (hr:dX R):(A0 R.abs).length<=R.ths.length:=by
 have hq:=(dA hr.within hr.roots);have:=L7 hq.nodup hq.lt;rw[show R.abs.obs.length=R.ths.length from List.length_map _] at this;exact this
def L5 (R:RfR):List ThR:=if Z9 (R.ths.map ThR.slot) R.cap 0=none then L0 (A0 R.abs) R.ths.length R.ths else R.ths
def a4q (B:Nat) (own:Own) (mb:Nat) (g:PgR) (R:RfR) (kind:Int) (fv:Value) (fl:List Val) (W:World) (e:Ending) (w':World):Prop :=
 ∃own' hv da dc j dr,bX R.cap ((L5 R).map ThR.slot) R.dr=some (j,dr)/\e=.returned (.tuple #[.agg #[zC 2,J (R.ths.length:Int)],.bool true])/\A9 w' own' mb g { R with hv:=hv,ths:=L5 R++[⟨kind,fv,fl,(j:Int)⟩],da:=da,dc:=dc,dr:=dr }/\bS B own W own' w'/\∀b q,da=some ⟨b,q,none⟩->∃q',R.da=some ⟨b,q',none⟩
theorem oR (h:A9 W own mb g R) (hb:iA R) (hr:dX R) (kind:Int) (fv:Value) (hfull:R.cap<=(A0 R.abs).length) :
  Calls prog 219 #[zB mb,zC kind,fv] W fun e w'=>e=.returned (.tuple #[.agg #[zC 0,J 0],.bool false])/\L0d W w':=by
 have hm:=h.lt _ _ h.me;have xc:Hid (∀U,L0d W U->Calls prog 86 #[zB mb] U fun e w'=>∃v,e=.returned v/\w'.ownsRow U.heap.size 3 1 v (A0 R.abs).length (Y4 (A0 R.abs))/\L0d U w'):=hid fun U hU=>cG (h.same hU) hb hr
 have M1:=hid h.c1;have xi:(A0 R.abs).length<=100000000000:=L5a (gO hr) hb.ths;clear h hb hr;generalize A0 R.abs=al at *
 have xd:(R.cap:Int)<=(al.length:Int):=by omega
 go_enter func219,ntmps219;go_wp2_with (go_at_call 86;refine (xc.out _ P4).mono ?_;rintro e w1 ⟨v1,rfl,xe,xa⟩;obtain ⟨la,lc,rfl,_⟩:=O8 xe;have xb:L0d W w1:=D7 xa (L3a (L3b _ _) (L1c _) _) R6;have m1:=keep xb hm M1.out;have xh:mb < w1.heap.size:=L0a hm xb.size;have xg:W.heap.size < w1.heap.size:=L0a R6 xa.size;have r0:w1.cell? ⟨W.heap.size,0,none⟩=some (zC 0):=keep xa R6 R3;have r1:w1.cell? ⟨W.heap.size,1,none⟩=some (J 0):=keep xa R6 R3;have z0:w1.frozen? ⟨W.heap.size,0,none⟩=false:=E3 xa R6 R3;have z1:w1.frozen? ⟨W.heap.size,1,none⟩=false:=E3 xa R6 R3;have xf:=hid xb;clear xe xa xb)
 refine bodyPost_ret (v:=.tuple #[.agg #[zC 0,J 0],.bool false]) (by simp [results,results219,go_sem,r0,r1]) rfl ?_;exact⟨rfl,Below.setCell (Below.setCell xf.out (L1c _) _) (L1c _) _⟩
theorem lV (R:RfR):(L5 R).length=R.ths.length:=by
 unfold L5;split
 ·exact cF _ _ _
 ·rfl
theorem a7s:(prog.info? 100).map (fun i=>(i.zero,i.size,i.bytes))=some (some (.agg #[zC 0,zD,J 0]),3,40):=by kernel_rfl
theorem a2C {sl:List Int} {cap:Nat} : bO sl cap 0 < 0↔Z9 sl cap 0=none:=by
 rw[kF]
 cases Z9 sl cap 0 with
 | none=>simp
 | some j=>simp
theorem C2 {e sz n:Nat} {v:Value} {xs:List Value} (h:w.ownsRow B e sz v n xs):∃a c,v=.slice a n c/\n<=c:=by
 rcases h.2 with ⟨rfl,h0⟩ | ⟨g,xa,xb,rfl,_,_,h3,_⟩
 ·exact ⟨none,0,by rw [h0],by omega⟩
 ·exact ⟨_,xa,rfl,h3⟩
theorem A9.aside {w':World} (h:A9 w own mb g R) (hsize:w.heap.size<=w'.heap.size) (hk:∀k t,own k=some t->w'.heap[k]?=w.heap[k]?) (hn:∀k,own k=none->(g.blk k\/k=0\/∃o,R.da=some ⟨k,o,none⟩)->w'.heap[k]?=w.heap[k]?):A9 w' own mb g R:=by
 have kc:∀i,w'.cell? ⟨mb,i,none⟩=w.cell? ⟨mb,i,none⟩:=fun i=>L0b (w:=w) (a:=⟨mb,i,none⟩) (hk mb _ h.me)
 have keep:∀t k,own k=some t->w'.heap[k]?=w.heap[k]?/\own k=some t:=fun t k e=>⟨hk k t e,e⟩
 exact h.edit hsize (fun k t e=>L0a (h.lt k t e) hsize) h.me (fun k e _ ho=>⟨e,hn k e ho⟩) (kc 0) ((kc 1).trans h.c1) ((kc 2).trans h.c2) ((kc 3).trans h.c3) ((kc 4).trans h.c4) ((kc 5).trans h.c5) (kc 6) (fun j=>by rw [L0c (w:=w) (a:=⟨mb,j,none⟩) (hk mb _ h.me)];exact h.fz j)
  (h.out.kept (keep _)) (h.called.kept (keep _)) (h.things.kept (keep _)) (fun i x hx=>(h.loc i x hx).kept (keep _)) (fun i x hx=>(h.stk i x hx).kept (keep _)) (fun i x hx=>(h.fld i x hx).kept (keep _)) (fun b o e=>(h.dro b o e).2) rfl rfl rfl
theorem a5K {R:RfR} {p:ThR} (h:A9 w own mb g R) (hX:L0d w X) (hgrow:X.grownBy w4 R.hv.ownBlock) (hown:w4.ownsRow 0 100 3 v4 (R.ths.length+1) (R.ths.flatMap ThR.cells++p.cells)) (hat:∀b,v4.ownBlock=some b->R.hv.ownBlock=some b\/w.heap.size<=b)
  (hfld:w.ownsRow 0 92 2 p.fv p.fl.length (A7 p.fl)) (hnb:S6 own g p.fv) (hnd:∀b o,R.da=some ⟨b,o,none⟩->p.fv.ownBlock≠some b) :
  w4.cell? ⟨mb,5,none⟩=some R.hv/\w4.frozen? ⟨mb,5,none⟩=false/\mb < w4.heap.size/\(∀k,k < w.heap.size->own k=none->w4.heap[k]?=w.heap[k]?) /\
   A9 (w4.setCell ⟨mb,5,none⟩ v4) ((own.upd p.fv.ownBlock (.fld R.ths.length)).upd v4.ownBlock .slots) mb g { R with hv:=v4,ths:=R.ths++[p] } /\
   ∀B,B<=w.heap.size->(∀b,p.fv.ownBlock=some b->B<=b)->bS B own w ((own.upd p.fv.ownBlock (.fld R.ths.length)).upd v4.ownBlock .slots) (w4.setCell ⟨mb,5,none⟩ v4):=by
 have xg:=h.lt _ _ h.me;have xf:∀b,R.hv.ownBlock=some b->own b=some .slots:=h.things.2
 have xc:w.heap.size<=w4.heap.size:=L5a hX.size hgrow.size;have xa:∀k,k < w.heap.size->own k≠some .slots->w4.heap[k]?=w.heap[k]?:=fun k hk ho=>by
  rw[hgrow.block k (L0a hk hX.size) (fun e=>ho (xf k e.symm)),hX.block k hk]
 have xb:=xa mb xg (by rw [h.me];simp);have xe:∀j,w4.frozen? ⟨mb,j,none⟩=false:=fun j=>by rw [L0c (w:=w) (a:=⟨mb,j,none⟩) xb];exact h.fz j
 have hc:∀j,w4.cell? ⟨mb,j,none⟩=w.cell? ⟨mb,j,none⟩:=fun j=>L0b (w:=w) (a:=⟨mb,j,none⟩) xb
 have xd:E7 w own v4 .slots:=fun b hb=>by
  rcases hat b hb with e | e
  ·exact L4a (xf b e)
  ·exact L4b e
 have xh:v4.ownBlock≠some mb:=fun e=>by
  rcases xd mb e with e | e
  ·rw [h.me] at e;cases e
  ·omega
 have c5:w4.cell? ⟨mb,5,none⟩=some R.hv:=(hc 5).trans h.c5;have hp:=h.pushTh (w':=w4.setCell ⟨mb,5,none⟩ v4) (p:=p) (hv:=v4) (by simpa using xc) (fun k hk hne ho=>by rw [heap_setCell_other _ _ _ _ hne];exact xa k hk ho) (fun j hj=>(B9 _ (Ne.symm hj)).trans (hc j)) (World.cell?_setCell_same _ _ _ c5) (fun j=>by go_simp;try exact xe j)
  (by rw [List.flatMap_append,List.flatMap_singleton];exact ownsRow_setCell_other hown xh _) xd hfld hnb hnd
 refine⟨c5,xe 5,L0a xg xc,fun k hk hn=>xa k hk (by rw [hn];simp),hp.1,fun B hB hfB=>⟨hgrow.os.trans hX.os,hgrow.tape.trans hX.tape,hgrow.output.trans hX.output,by simpa using xc,fun k hk hn=>?_,fun k hk=>hp.2 k (L0a hk hB) fun e=>by have:=hfB k e;omega⟩⟩;rw[heap_setCell_other _ _ _ _ (fun e=>by rw [e,h.me] at hn;cases hn)];exact xa k (L0a hk hB) (by rw [hn];simp)
theorem a1I {w1 w3:World} {R:RfR} {kind:Int} {fa:Option Addr} {fc:Nat} {fl:List Val} {da:Option Addr} {dc j:Nat} {dr:List Int} (hA:A9 W own mb g R) (hB1:L0d W w1) (hT:A2 own w1 own w3) (h3:A9 w3 own mb g { R with ths:=L5 R,da:=da,dc:=dc,dr:=dr }) (hda:∀b q,da=some ⟨b,q,none⟩->∃q',R.da=some ⟨b,q',none⟩)
  (hX:L0d w3 X) (hgrow:X.grownBy w4 R.hv.ownBlock) (hown:w4.ownsRow 0 100 3 v4 (R.ths.length+1) ((L5 R).flatMap ThR.cells++[zC kind,.slice fa fl.length fc,J (j:Int)])) (hat:∀b,v4.ownBlock=some b->R.hv.ownBlock=some b\/w3.heap.size<=b)
  (hfv:W.ownsRow 0 92 2 (.slice fa fl.length fc) fl.length (A7 fl)) (hnb:S6 own g (.slice fa fl.length fc)) (hnd:∀b o,R.da=some ⟨b,o,none⟩->(Value.slice fa fl.length fc).ownBlock≠some b) (hB:B<=W.heap.size) (hfB:∀b,(Value.slice fa fl.length fc).ownBlock=some b->B<=b) (hs:W.heap.size < w1.heap.size)
  (hsl:bX R.cap ((L5 R).map ThR.slot) R.dr=some (j,dr)) (u0 u1:Value) :
  w4.cell? ⟨mb,5,none⟩=some R.hv/\w4.frozen? ⟨mb,5,none⟩=false/\mb < w4.heap.size/\w4.heap[W.heap.size]?=w3.heap[W.heap.size]?/\W.heap.size < w4.heap.size /\
   a4q B own mb g R kind (.slice fa fl.length fc) fl W (.returned (.tuple #[.agg #[zC 2,J (R.ths.length:Int)],.bool true])) (((w4.setCell ⟨mb,5,none⟩ v4).setCell ⟨W.heap.size,0,none⟩ u0).setCell ⟨W.heap.size,1,none⟩ u1):=by
 have xe:W.heap.size < w3.heap.size:=L0a hs hT.size;have xc:∀b,(Value.slice fa fl.length fc).ownBlock=some b->b < W.heap.size:=fun b hb=>(hfv.lt b hb).2
 have xd:({ R with ths:=L5 R,da:=da,dc:=dc,dr:=dr } : RfR).ths.length=R.ths.length:=lV R;have hN:own W.heap.size=none:=by
  cases e:own W.heap.size with
  | none=>rfl
  | some t=>have:=hA.lt _ t e;omega
 have xb:w3.ownsRow 0 92 2 (.slice fa fl.length fc) fl.length (A7 fl):=A6 hfv fun b hb=>(hT.block b (L0a (xc b hb) hB1.size) (hnb b hb).1).trans (hB1.block b (xc b hb))
 obtain⟨q1,q2,q3,q4,q5,q6⟩:=a5K (p:=⟨kind,.slice fa fl.length fc,fl,(j:Int)⟩) h3 hX hgrow (by rw [xd];exact hown) hat xb hnb (fun b o e=>by obtain ⟨q,e'⟩:=hda b o e;exact hnd b q e');have xf:w4.heap[W.heap.size]?=w3.heap[W.heap.size]?:=q4 _ xe hN;have xg:W.heap.size < w4.heap.size:=L0a xe (L5a hX.size hgrow.size);refine⟨q1,q2,q3,xf,xg,_,v4,da,dc,j,dr,hsl,rfl,q5.aside R6 (fun k t hk=>?_) (fun k hk hor=>?_),?_,hda⟩
 ·have xa:k≠W.heap.size:=fun e=>by
   subst e;unfold Own.upd at hk;rw[if_neg (fun e=>by
    rcases hat _ e with e | e
    ·have:=hA.lt _ _ (hA.things.2 _ e);omega
    ·omega),if_neg (fun e=>by have:=xc _ e;omega),hN] at hk
   cases hk
  rw[heap_setCell_other _ _ _ _ xa,heap_setCell_other _ _ _ _ xa]
 ·have xa:k≠W.heap.size:=fun e=>by
   subst e;rcases hor with hb | e | ⟨o,e⟩
   ·exact absurd (hA.pg.blk_lt hb) R5
   ·have:=hA.lt _ _ hA.me;omega
   ·obtain ⟨q,e'⟩:=hda _ o e
    have:=(hA.dro _ q e').1;omega
  rw[heap_setCell_other _ _ _ _ xa,heap_setCell_other _ _ _ _ xa]
 ·have ht:=((bS.of_below (own:=own) (hB1.mono hB)).trans (hT.touB (L5a hB hB1.size))).trans (q6 B (L5a hB (Nat.le_of_lt xe)) hfB)
  refine⟨ht.os,ht.tape,ht.output,by simpa using ht.size,fun k hk hn=>?_,ht.old⟩;have xa:k≠W.heap.size:=by omega
  rw[heap_setCell_other _ _ _ _ xa,heap_setCell_other _ _ _ _ xa];exact ht.block k hk hn
theorem oS (h:A9 W own mb g R) (hb:iA R) (hr:dX R) (hs:a1Z R) (kind:Int) (fv:Value) (fl:List Val) (hc1:1<=R.cap) (hcap:R.cap<=1000) (hfull:¬R.cap<=(A0 R.abs).length)
  (hfv:W.ownsRow 0 92 2 fv fl.length (A7 fl)) (hnb:S6 own g fv) (hnd:∀b o,R.da=some ⟨b,o,none⟩->fv.ownBlock≠some b) (hB:B<=W.heap.size) (hfB:∀b,fv.ownBlock=some b->B<=b) {j:Nat} {dr:List Int} (hsl:bX R.cap ((L5 R).map ThR.slot) R.dr=some (j,dr)) :
  Calls prog 219 #[zB mb,zC kind,fv] W fun e w'=>a4q B own mb g R kind fv fl W e w':=by
 have hm:=h.lt _ _ h.me;have xi:Hid (∀U,L0d W U->Calls prog 86 #[zB mb] U fun e w'=>∃v,e=.returned v/\w'.ownsRow U.heap.size 3 1 v (A0 R.abs).length (Y4 (A0 R.abs))/\L0d U w'):=hid fun U hU=>cG (h.same hU) hb hr
 have xd:Hid (∀U,L0d W U->Calls prog 88 #[zB mb] U fun e w'=>e=.returned (J (bO (R.ths.map ThR.slot) R.cap 0))/\w'=U):=hid fun U hU=>oL (h.same hU).slotsIn (by rw [List.length_map];exact L5a hb.ths R4) (h.same hU).c1 hcap
 have xq:Hid (∀U,L0d W U->Calls prog 65 #[zB mb] U fun e w'=>e=.returned (J (iZ (R.ths.map ThR.slot) (A0 R.abs):Int))/\A9 w' own mb g { R with ths:=L0 (A0 R.abs) R.ths.length R.ths }/\A2 own U own w'):=hid fun U hU=>kS (h.same hU) hb hr hs
 have xe:Hid (∀U,A9 U own mb g { R with ths:=L5 R }->Calls prog 44 #[zB mb] U fun e w'=>∃da dc,e=.returned (J (j:Int))/\A9 w' own mb g { R with ths:=L5 R,da:=da,dc:=dc,dr:=dr }/\A2 own U own w'/\∀b q,da=some ⟨b,q,none⟩->∃q',R.da=some ⟨b,q',none⟩):=hid fun U hU=>a6j hU hc1 hcap (by rw [show ({ R with ths:=L5 R } : RfR).ths.length=R.ths.length from lV R];exact L5a hb.ths R4) hsl
 have M1:=hid h.c1;have HA:=hid h;have yp:(A0 R.abs).length<=100000000000:=L5a (gO hr) hb.ths;have xs:¬(R.cap:Int)<=((A0 R.abs).length:Int):=by omega
 have yb:=hid hsl;have yg:=hid hfv;have xx:=hid hnb;have ya:=hid hnd;have yc:=hid hfB;obtain⟨fa,fc,yk,_,_⟩:=lR hfv;subst yk;have yo:=lV R;have yn:R.ths.length<=100000000000:=hb.ths;clear h hb hr hs hsl hfv hnb hnd hfB;generalize hAL:A0 R.abs=al at *
 go_enter func219,ntmps219;have xp:=a2C (sl:=R.ths.map ThR.slot) (cap:=R.cap);obtain⟨xl,hi,hz,xw,yd⟩:=info_parts a7s;have HI:=hid hi;have HZ:=hid hz;have xy:=hid xw;have yf:=hid yd;clear hi hz xw yd;have R0:Hid (∀w1 U,Below (W.alloc (Obj.cells #[zC 0,J 0] 92)).heap.size (W.alloc (Obj.cells #[zC 0,J 0] 92)) w1->A2 own w1 own U->U.cell? ⟨W.heap.size,0,none⟩=some (zC 0)/\U.cell? ⟨W.heap.size,1,none⟩=some (J 0)/\U.frozen? ⟨W.heap.size,0,none⟩=false/\U.frozen? ⟨W.heap.size,1,none⟩=false/\W.heap.size < U.heap.size):=hid fun w1 U xa hU=>by
  have ye:W.heap.size < w1.heap.size:=L0a R6 xa.size;have hn:own W.heap.size=none:=by
   cases e:own W.heap.size with
   | none=>rfl
   | some t=>have:=HA.out.lt _ t e;omega
  have xo:=hU.block W.heap.size ye hn;refine⟨?_,?_,?_,?_,L0a ye hU.size⟩
  ·rw [L0b (w:=w1) (a:=⟨W.heap.size,0,none⟩) xo];exact keep xa R6 R3
  ·rw [L0b (w:=w1) (a:=⟨W.heap.size,1,none⟩) xo];exact keep xa R6 R3
  ·rw [L0c (w:=w1) (a:=⟨W.heap.size,0,none⟩) xo];exact E3 xa R6 R3
  ·rw [L0c (w:=w1) (a:=⟨W.heap.size,1,none⟩) xo];exact E3 xa R6 R3
 by_cases hfr:Z9 (R.ths.map ThR.slot) R.cap 0=none
 ·have hq:bO (R.ths.map ThR.slot) R.cap 0 < 0:=xp.2 hfr
  have xt:Hid (L5 R=L0 al R.ths.length R.ths):=hid (by unfold L5;rw [if_pos hfr,hAL]);clear xp;go_wp2_with (first | (go_at_call 86;refine (xi.out _ P4).mono ?_;rintro e w1 ⟨v1,rfl,xg,xa⟩;obtain ⟨la,lc,rfl,_⟩:=O8 xg;have xc:L0d W w1:=D7 xa (L3a (L3b _ _) (L1c _) _) R6;have m1:=keep xc hm M1.out;have ym:mb < w1.heap.size:=L0a hm xc.size;have xf:=hid xc;have xj:=hid xa;clear xg xa xc) | (go_at_call 88;refine (xd.out _ xf.out).mono ?_;rintro e w' ⟨rfl,hw⟩;rw [hw];clear hw w') | (go_at_call 65;refine (xq.out _ xf.out).mono ?_;rintro e w2 ⟨rfl,xz,xv⟩;have yl:Hid (A9 w2 own mb g { R with ths:=L5 R }):=(hid (by rw [xt.out];exact xz));have yi:=(hid xv);clear xz xv) | (go_at_call 44;refine (xe.out _ yl.out).mono ?_;rintro e w3 ⟨da,dc,rfl,xb,xk,xm⟩;have xn:=(hid xb);have xh:=(hid (yi.out.trans xk));have xr:=(hid xm);have m5:w3.cell? ⟨mb,5,none⟩=some R.hv:=xb.c5;have yj:mb < w3.heap.size:=xb.lt _ _ xb.me;clear xb xk xm) | (at_builtin;go_must (refine A8 _ rfl (.tmp 32) (.tmp 37) 67 rfl 0 100 xl _ 3 40 underlying67 HI.out HZ.out xy.out yf.out rfl R4 _ (L5 R).length ((L5 R).flatMap ThR.cells) rfl (xn.out.things.1.alloc _) (zA w3.heap.size) 1 1 [zC kind,.slice fa fl.length fc,J (j:Int)] rfl rfl (fun _=>⟨_,rfl,World.news_of_block (cs:=#[zC kind,.slice fa fl.length fc,J (j:Int)]) (t:=100) (fr:=(0,0)) (B0 R6)⟩) (by intro u hu;simp at hu;rcases hu with rfl | rfl | rfl <;> rfl) Q7 R5 R6 ?_)))
  intro v4 w4 hown4 hgrow4 hat4;obtain⟨q1,q2,q3,q4,q5,q6⟩:=a1I HA.out xf.out xh.out xn.out xr.out (L3a (L3b _ _) (L1c _) _) hgrow4 hown4 (fun b hb=>(hat4 b hb).imp id fun e=>by omega) yg.out xx.out ya.out hB yc.out (L0a R6 xj.out.size) yb.out (zC 2) (J (R.ths.length:Int));obtain⟨r0,r1,z0,z1,r4⟩:=R0.out _ _ xj.out xh.out;rw[<- L0b (a:=⟨W.heap.size,_,none⟩) q4] at r0 r1
  rw[<- L0c (a:=⟨W.heap.size,_,none⟩) q4] at z0 z1;have yh:W.heap.size≠mb:=by omega
  obtain⟨va,vc,xu,_⟩:=C2 hown4;have Q6:=hid q6;clear q6 q4 hown4 hgrow4 hat4;subst xu;go_wp2_with fail;refine bodyPost_ret (v:=.tuple #[.agg #[zC 2,J (R.ths.length:Int)],.bool true]) (by simp [results,results219,go_sem,r0,r1]) rfl ?_;exact Q6.out
 ·have hq:¬bO (R.ths.map ThR.slot) R.cap 0 < 0:=fun c=>hfr (xp.1 c)
  have xt:Hid (({ R with ths:=L5 R } : RfR)=R):=hid (by unfold L5;rw [if_neg hfr]);clear xp;go_wp2_with (first | (go_at_call 86;refine (xi.out _ P4).mono ?_;rintro e w1 ⟨v1,rfl,xg,xa⟩;obtain ⟨la,lc,rfl,_⟩:=O8 xg;have xc:L0d W w1:=D7 xa (L3a (L3b _ _) (L1c _) _) R6;have m1:=keep xc hm M1.out;have ym:mb < w1.heap.size:=L0a hm xc.size;have xf:=hid xc;have xj:=hid xa;clear xg xa xc) | (go_at_call 88;refine (xd.out _ xf.out).mono ?_;rintro e w' ⟨rfl,hw⟩;rw [hw];clear hw w') | (go_at_call 44;refine (xe.out _ (by rw [xt.out];exact HA.out.same xf.out)).mono ?_;rintro e w3 ⟨da,dc,rfl,xb,xk,xm⟩;have xn:=(hid xb);have xh:=(hid xk);have xr:=(hid xm);have m5:w3.cell? ⟨mb,5,none⟩=some R.hv:=xb.c5;have yj:mb < w3.heap.size:=xb.lt _ _ xb.me;clear xb xk xm) | (at_builtin;go_must (refine A8 _ rfl (.tmp 32) (.tmp 37) 67 rfl 0 100 xl _ 3 40 underlying67 HI.out HZ.out xy.out yf.out rfl R4 _ (L5 R).length ((L5 R).flatMap ThR.cells) rfl (xn.out.things.1.alloc _) (zA w3.heap.size) 1 1 [zC kind,.slice fa fl.length fc,J (j:Int)] rfl rfl (fun _=>⟨_,rfl,World.news_of_block (cs:=#[zC kind,.slice fa fl.length fc,J (j:Int)]) (t:=100) (fr:=(0,0)) (B0 R6)⟩) (by intro u hu;simp at hu;rcases hu with rfl | rfl | rfl <;> rfl) Q7 R5 R6 ?_)))
  intro v4 w4 hown4 hgrow4 hat4;obtain⟨q1,q2,q3,q4,q5,q6⟩:=a1I HA.out xf.out xh.out xn.out xr.out (L3a (L3b _ _) (L1c _) _) hgrow4 hown4 (fun b hb=>(hat4 b hb).imp id fun e=>by omega) yg.out xx.out ya.out hB yc.out (L0a R6 xj.out.size) yb.out (zC 2) (J (R.ths.length:Int));obtain⟨r0,r1,z0,z1,r4⟩:=R0.out _ _ xj.out xh.out;rw[<- L0b (a:=⟨W.heap.size,_,none⟩) q4] at r0 r1
  rw[<- L0c (a:=⟨W.heap.size,_,none⟩) q4] at z0 z1;have yh:W.heap.size≠mb:=by omega
  obtain⟨va,vc,xu,_⟩:=C2 hown4;have Q6:=hid q6;clear q6 q4 hown4 hgrow4 hat4;subst xu;go_wp2_with fail;refine bodyPost_ret (v:=.tuple #[.agg #[zC 2,J (R.ths.length:Int)],.bool true]) (by simp [results,results219,go_sem,r0,r1]) rfl ?_;exact Q6.out
end
section
variable {R:RfR} {W:World} {g:PgR} {mb:Nat} {own:Own}
theorem B4 (t:Int) (W:World):Calls prog 218 #[J t] W fun e w'=>e=.returned (.agg #[J 0,zD,J 0,J t])/\w'=W.alloc (Obj.cells #[J 0,zD,J 0,J t] 198):=by
 go_enter func218,ntmps218;go_wp2_with fail;refine bodyPost_ret (v:=.agg #[J 0,zD,J 0,J t]) (by simp [results,results218,go_sem]) rfl ?_;exact⟨rfl,rfl⟩
theorem W6 (pc drop:Nat) (W:World) (hpc:pc<=1000):Calls prog 222 #[J (pc:Int),J (drop:Int)] W fun e w'=>e=.returned (.agg #[J (drop:Int),zD,J ((pc:Int)+1),J 0])/\w'=W.alloc (Obj.cells #[J (drop:Int),zD,J ((pc:Int)+1),J 0] 198):=by
 go_enter func222,ntmps222;go_wp2_with fail;refine bodyPost_ret (v:=.agg #[J (drop:Int),zD,J ((pc:Int)+1),J 0]) (by simp [results,results222,go_sem]) rfl ?_;exact⟨rfl,rfl⟩
theorem O0 (pc drop:Nat) (v:Val) (W:World) (hpc:pc<=1000):Calls prog 220 #[J (pc:Int),J (drop:Int),.agg #[zC v.1,J v.2]] W fun e w'=>e=.returned (.agg #[J (drop:Int),.slice (some ⟨W.heap.size+1+1,0,none⟩) 1 1,J ((pc:Int)+1),J 0]) /\
   w'=((W.alloc (Obj.cells #[zC v.1,J v.2] 92)).alloc (Obj.cells #[J (drop:Int),.slice (some ⟨W.heap.size+1+1,0,none⟩) 1 1,J ((pc:Int)+1),J 0] 198)).alloc (Obj.cells #[zC v.1,J v.2] 92):=by
 go_enter func220,ntmps220;go_wp2_with fail;refine bodyPost_ret (v:=.agg #[J (drop:Int),.slice (some ⟨W.heap.size+1+1,0,none⟩) 1 1,J ((pc:Int)+1),J 0]) (by simp [results,results220,go_sem]) rfl ?_;exact⟨rfl,rfl⟩
theorem fA (z:Int) (W:World):Calls prog 215 #[J z] W fun e w'=>e=.returned (.agg #[zC 1,J z])/\w'=W.alloc (Obj.cells #[zC 1,J z] 92):=by
 go_enter func215,ntmps215;go_wp2_with fail;refine bodyPost_ret (v:=.agg #[zC 1,J z]) (by simp [results,results215,go_sem]) rfl ?_;exact⟨rfl,rfl⟩
theorem sZ (v:Val) (h2:v.1≠2):Calls prog 221 #[zB mb,.agg #[zC v.1,J v.2]] W fun e w'=>e=.returned (zC 0)/\w'=W.alloc (Obj.cells #[zC v.1,J v.2] 92):=by
 obtain⟨v1,v2⟩:=v;have xa:¬v1=2:=h2;have hb:(v1 == 2)=false:=L2c.2 xa;clear h2;go_enter func221,ntmps221;go_wp2_with fail;go_ret;exact⟨rfl,rfl⟩
theorem tA (h:A9 W own mb g R) {i:Nat} {o:ThR} (ho:R.ths[i]?=some o):Calls prog 221 #[zB mb,.agg #[zC 2,J (i:Int)]] W fun e w'=>e=.returned (zC o.kind)/\w'=(W.alloc (Obj.cells #[zC 2,J (i:Int)] 92)).drew:=by
 have hm:=h.lt _ _ h.me;obtain⟨a,cp,hv,_,hc⟩:=Row.cells ThR.cells_len h.things;have hi:=(L1a.1 ho).1;obtain⟨b,rfl,hb,_,_,xa⟩:=hc R5;have m5:=h.c5;rw[hv] at m5;have k0:W.cell? ⟨b,i*3,none⟩=some (zC o.kind):=xa i 0 o _ ho R4 rfl;have xb:(i:Int) < (R.ths.length:Int):=by omega
 generalize R.ths.length=n at *
 generalize o.kind=kd at *
 clear h hc xa ho hv;go_enter func221,ntmps221;go_wp2_with fail;go_region
 go_wp2_with fail;go_ret;exact⟨rfl,rfl⟩
def fQ (R:RfR) (v:Val):Prop:=v.1=2->0<=v.2/\v.2.toNat < R.ths.length
theorem fZ (h:A9 W own mb g R) {j:Nat} {o:ThR} (ho:R.ths[j]?=some o):Hid (∀U,L0d W U->Calls prog 221 #[zB mb,.agg #[zC 2,J (j:Int)]] U fun e w'=>e=.returned (zC o.kind)/\w'=(U.alloc (Obj.cells #[zC 2,J (j:Int)] 92)).drew):=hid fun _ hU=>tA (h.same hU) ho
theorem fJ (h:A9 W own mb g R) {j:Nat} {o:ThR} (ho:R.ths[j]?=some o) {K:Int} (hk:o.kind=K):Hid (∀U,L0d W U->Calls prog 221 #[zB mb,.agg #[zC 2,J (j:Int)]] U fun e w'=>e=.returned (zC K)/\w'=(U.alloc (Obj.cells #[zC 2,J (j:Int)] 92)).drew):=hk▸fZ h ho
theorem rL (W:World) (mb:Nat) {x:Val} (h2:x.1≠2):Hid (∀U,L0d W U->Calls prog 221 #[zB mb,.agg #[zC x.1,J x.2]] U fun e w'=>e=.returned (zC 0)/\w'=U.alloc (Obj.cells #[zC x.1,J x.2] 92)):=hid fun _ _=>sZ x h2
end
end Go.Proofs.YtbkmgoffiigdbaaGreatDoor
