import Derived.Calls
import Derived.Test.YtbkmgoffiigdbaaGreatDoorWAf
namespace Go.Proofs.YtbkmgoffiigdbaaGreatDoor
set_option maxHeartbeats 4000000
set_option maxRecDepth 100000
section
variable {a n:Nat}
theorem S9 (h:a < n):a < n+1/\a < n+1+1/\a < n+1+1+1/\a < n+1+1+1+1:=by omega
theorem N7 (h:a < n):a < n+1/\a < n+1+1/\a < n+1+1+1/\a < n+1+1+1+1/\a < n+1+1+1+1+1:=by omega
theorem CE {P:Program} {f:FuncId} {args:Array Value} {w u:World} {x:Ending} {R:Ending->World->Prop} (h:Calls P f args w fun e w'=>e=x/\w'=u) (k:R x u):Calls P f args w R:=h.mono fun _ _ q=>q.1▸q.2▸k
end
open Go.RowKit Go.Sort
end Go.Proofs.YtbkmgoffiigdbaaGreatDoor
namespace Go.Proofs.YtbkmgoffiigdbaaGreatDoor
open Go.RowKit Go.Sort Go.Proofs.Tryz
set_option maxHeartbeats 4000000
set_option maxRecDepth 100000
section
variable {R:RfR} {g:PgR} {mb:Nat} {own:Own} {w:World}
theorem B7 {b i j:Nat} (u:Value) (h:i≠j):(w.setCell ⟨b,i,none⟩ u).cell? ⟨b,j,none⟩=w.cell? ⟨b,j,none⟩:=World.cell?_setCell_other _ _ _ _ (fun e=>h (congrArg Addr.off e))
theorem A8.mach (h:A8 w own mb g R) (j:Nat) (u:Value) :
  (∀t k,own k=some t->t≠.mach->(w.setCell ⟨mb,j,none⟩ u).heap[k]?=w.heap[k]?)/\∀k,own k=none->(w.setCell ⟨mb,j,none⟩ u).heap[k]?=w.heap[k]?:=by
 refine⟨fun t k hk ht=>heap_setCell_other _ _ _ _ fun e=>?_,fun k hk=>heap_setCell_other _ _ _ _ fun e=>?_⟩
 ·rw [e,h.me] at hk
  cases hk;exact ht rfl
 ·rw [e,h.me] at hk
  cases hk
theorem A8.setDraws {R:RfR} (h:A8 w own mb g R) (da:Option Addr) (dc:Nat) (dr:List Int) (hle:dr.length<=dc) (hd:J2 w da dr) (hro:∀b o,da=some ⟨b,o,none⟩->b < w.heap.size/\own b=none) :
  A8 (w.setCell ⟨mb,6,none⟩ (.slice da dr.length dc)) own mb g { R with da:=da,dc:=dc,dr:=dr }:=by
 obtain⟨k1,k2⟩:=h.mach 6 (.slice da dr.length dc);have hs:(w.setCell ⟨mb,6,none⟩ (.slice da dr.length dc)).heap.size=w.heap.size:=by simp
 have m6:=h.c6;refine⟨fun k t e=>by rw [hs];exact h.lt k t e,h.me,(B7 _ R3).trans h.c0,(B7 _ R3).trans h.c1,(B7 _ R3).trans h.c2,(B7 _ R3).trans h.c3,(B7 _ R3).trans h.c4,(B7 _ R3).trans h.c5,by go_simp,fun j=>by go_simp;exact h.fz j,h.out.kept fun k e=>⟨k1 _ k e R5,e⟩,h.called.kept fun k e=>⟨k1 _ k e R5,e⟩,h.things.kept fun k e=>⟨k1 _ k e R5,e⟩,fun i f e=>(h.loc i f e).kept fun k e=>⟨k1 _ k e R5,e⟩,fun i f e=>(h.stk i f e).kept fun k e=>⟨k1 _ k e R5,e⟩,fun i f e=>(h.fld i f e).kept fun k e=>⟨k1 _ k e R5,e⟩,h.pg.held (by rw [hs];exact L1c _) fun k hk=>k2 k (h.ro k hk),h.ro,h.ro0,hle,fun h0=>?_,fun b o e=>by rw [hs];exact hro b o e⟩
 obtain⟨b,o,e,hb,hc⟩:=hd h0;exact⟨b,o,e,by rw [hs];exact hb,fun i x hx=>(L0b (w:=w) (a:=⟨b,o+i,none⟩) (k2 b (hro b o e).2)).trans (hc i x hx)⟩
end
theorem a3O (d c:Int) (hc:0 < c):(if d.tmod c < 0 then d.tmod c+c else d.tmod c)=d % c /\ -c < d.tmod c/\d.tmod c < c:=by
 by_cases hd:0<=d
 ·have e:=Int.tmod_eq_emod_of_nonneg (b:=c) hd
  have h1:=Int.emod_nonneg d (show c≠0 by omega);have h2:=Int.emod_lt_of_pos d hc;rw[e,if_neg R4];exact⟨rfl,by omega,h2⟩
 ·have e:d.tmod c = -((-d) % c):=by
   have:=Int.neg_tmod (-d) c;rw[Int.neg_neg] at this;rw[this,Int.tmod_eq_emod_of_nonneg R4]
  have h1:=Int.emod_nonneg (-d) (show c≠0 by omega);have h2:=Int.emod_lt_of_pos (-d) hc;have h3:=Int.emod_add_mul_ediv (-d) c;generalize hq:(-d) % c=q at *
  generalize (-d) / c=k at *
  rw[e];refine⟨?_,by omega,by omega⟩;by_cases h0:q=0
  ·rw [if_neg R4]
   have:d=0+c*(-k):=by rw [Int.mul_neg];omega
   rw[this,Int.add_mul_emod_self_left,h0];rfl
  ·rw [if_pos R4]
   have:d=(c - q)+c*(-k - 1):=by rw [Int.mul_sub,Int.mul_neg];omega
   rw[this,Int.add_mul_emod_self_left,Int.emod_eq_of_lt R4 R4];omega
theorem iE (sl:List Int):∀(m n:Nat),aC sl m n=match V4 sl m n with | some j=>(j:Int) | none => -1
 | 0,_=>rfl
 | m+1,n=>by
  rw[aC,V4];split
  ·exact iE sl m (n+1)
  ·rfl
theorem a3A {W:World} {own:Own} {mb:Nat} {g:PgR} {R:RfR} (h:A8 W own mb g R) (hd:R.dr=[]) (hcap:R.cap<=1000) (hn:R.ths.length<=1000000000000) :
  Calls prog 44 #[.pointer (some ⟨mb,0,none⟩)] W fun e w'=>e=.returned (.int .i64 (aC (R.ths.map ThR.slot) R.cap 0))/\w'=W:=by
 have hm:=h.lt _ _ h.me;have m6:=h.c6;rw[hd] at m6;have HF:Hid (Calls prog 88 #[.pointer (some ⟨mb,0,none⟩)] W fun e w'=>e=.returned (.int .i64 (aC (R.ths.map ThR.slot) R.cap 0))/\w'=W):=hid (lS h.slotsIn (by rw [List.length_map];omega) h.c1 hcap);clear h hd;go_enter func44,ntmps44;go_wp2_with (go_at_call 88;refine HF.out.mono ?_;rintro e w' ⟨rfl,hw⟩;rw [hw];clear hw w')
 go_ret;exact⟨rfl,rfl⟩
section
variable {W:World} {g:PgR} {mb:Nat} {own:Own}
def drawn (W:World) (mb:Nat) (da:Option Addr) (n c:Nat):World:=(W.setCell ⟨mb,6,none⟩ (.slice da n c)).drew
theorem A8.drawn {R:RfR} (h:A8 W own mb g R) {d:Int} {ds:List Int} (hd:R.dr=d::ds) {db o:Nat} (hda:R.da=some ⟨db,o,none⟩) (hdb:db < W.heap.size) (hcs:∀(i:Nat) (x:Int),R.dr[i]?=some x->W.cell? ⟨db,o+i,none⟩=some (.int .i64 x)) (da:Option Addr) (hda':da=some ⟨db,o,none⟩/\ds=[]\/da=some ⟨db,o+1,none⟩) :
  A8 (drawn W mb da ds.length (R.dc - 1)) own mb g { R with da:=da,dc:=R.dc - 1,dr:=ds }:=by
 have xa:=h.dle;rw[hd,List.length_cons] at xa;refine (h.setDraws da (R.dc - 1) ds R4 (fun h0=>?_) fun b' o' e=>?_).same (L3c (L3b _ _))
 ·rcases hda' with ⟨_,e⟩ | e
  ·rw [e] at h0;simp at h0
  ·refine ⟨db,o+1,e,hdb,fun i x hx=>?_⟩
   have:=hcs (i+1) x (by rw [hd];simpa using hx);rw[show o+1+i=o+(i+1) by omega];exact this
 ·rcases hda' with ⟨e',_⟩ | e'
  ·rw [e'] at e;cases e;exact h.dro _ _ hda
  ·rw [e'] at e;cases e;exact h.dro _ _ hda
theorem a1A {R:RfR} (h:A8 W own mb g R) {d:Int} {ds:List Int} (hd:R.dr=d::ds) (hc1:1<=R.cap) (hcap:R.cap<=1000) (hn:R.ths.length<=1000000000000) :
  Calls prog 44 #[.pointer (some ⟨mb,0,none⟩)] W fun e w'=>∃da,e=.returned (.int .i64 (if (d % (R.cap:Int))∈R.ths.map ThR.slot then aC (R.ths.map ThR.slot) R.cap 0 else d % (R.cap:Int)))/\A8 w' own mb g { R with da:=da,dc:=R.dc - 1,dr:=ds }/\w'=drawn W mb da ds.length (R.dc - 1)/\∀b q,da=some ⟨b,q,none⟩->∃q',R.da=some ⟨b,q',none⟩:=by
 have hm:=h.lt _ _ h.me;have m6:=h.c6;have m1:=h.c1;have xp:=h.dle;obtain⟨db,o,xi,xn,xk⟩:=h.draws (by rw [hd];simp);have x0:W.cell? ⟨db,o,none⟩=some (.int .i64 d):=xk 0 d (by rw [hd];rfl);have HD:=hid (h.drawn hd xi xn xk);have xf:Hid (∀q b q2,(some ⟨db,q,none⟩:Option Addr)=some ⟨b,q2,none⟩->∃q',R.da=some ⟨b,q',none⟩):=hid fun q b q2 e=>by cases e;exact ⟨o,xi⟩
 rw[xi,hd,List.length_cons] at m6;rw[hd,List.length_cons] at xp;obtain⟨f1,f2,f3⟩:=a3O d (R.cap:Int) R4;have xe:Hid (∀(da:Option Addr),A8 (drawn W mb da ds.length (R.dc - 1)) own mb g { R with da:=da,dc:=R.dc - 1,dr:=ds }->Calls prog 52 #[.pointer (some ⟨mb,0,none⟩),.int .i64 (d % (R.cap:Int))] (drawn W mb da ds.length (R.dc - 1)) fun e w'=>e=.returned (.int .i64 (D8 (R.ths.map ThR.slot) 0 (d % (R.cap:Int))))/\w'=drawn W mb da ds.length (R.dc - 1)):=hid fun da hr=>uS _ hr.slotsIn (by rw [List.length_map];exact L5a hn R3)
 have xd:Hid (∀(da:Option Addr),A8 (drawn W mb da ds.length (R.dc - 1)) own mb g { R with da:=da,dc:=R.dc - 1,dr:=ds }->Calls prog 88 #[.pointer (some ⟨mb,0,none⟩)] (drawn W mb da ds.length (R.dc - 1)) fun e w'=>e=.returned (.int .i64 (aC (R.ths.map ThR.slot) R.cap 0))/\w'=drawn W mb da ds.length (R.dc - 1)):=hid fun da hr=>lS hr.slotsIn (by rw [List.length_map];exact L5a hn R3) hr.c1 hcap
 have z6:=h.fz 6;have xm:¬(R.cap:Int)=0:=by omega
 have xo:¬(R.cap:Int) = -1:=by omega
 have xq:((R.cap:Int) == 0)=false:=L2c.2 xm;have xh:(0:Int) < (ds.length:Int)+1:=by omega
 have xr:1<=ds.length+1:=by omega
 have xb:=mE (l:=R.ths.map ThR.slot) (v:=d % (R.cap:Int));clear h hd xi xk;generalize hr:d.tmod (R.cap:Int)=r at *
 have hw:IntKind.i64.wrap (r+(R.cap:Int))=r+(R.cap:Int):=Go.IntWalk.i64_in _ R4;have xc:R.dc=1->ds=[]:=fun e=>List.eq_nil_of_length_eq_zero R4
 generalize R.ths.map ThR.slot=sl at *
 by_cases hdc:R.dc=1
 ·by_cases hneg:r < 0
  ·rw [if_pos hneg] at f1
   have HR:=hid (HD.out (some ⟨db,o,none⟩) (L4a ⟨rfl,xc hdc⟩));have HA:=hid (xe.out _ HR.out);have HF:=hid (xd.out _ HR.out);rw[hdc] at m6;have xg:R.dc - 1=0:=by omega
   obtain rfl:ds=[]:=xc hdc;rw[xg,List.length_nil] at HR HA HF;rw[List.length_nil] at m6 xh;unfold Go.Proofs.YtbkmgoffiigdbaaGreatDoor.drawn at HR HA HF;clear HD xe xd;by_cases hin:d % (R.cap:Int)∈sl
   ·have hq:¬D8 sl 0 (d % (R.cap:Int)) < 0:=fun c=>xb.1 c hin
    clear xb;go_enter func44,ntmps44;go_wp2_with fail;go_region
    go_wp2_with fail;refine HA.out.mono ?_;rintro e w' ⟨rfl,xa⟩;rw[xa];clear xa w';go_wp2_with (go_at_call 88;refine HF.out.mono ?_;rintro e w' ⟨rfl,xa⟩;rw [xa];clear xa w')
    go_ret;exact⟨rfl,_,HR.out,rfl,xf.out _⟩
   ·have hq:D8 sl 0 (d % (R.cap:Int)) < 0:=xb.2 hin
    clear xb;go_enter func44,ntmps44;go_wp2_with fail;go_region
    go_wp2_with fail;refine HA.out.mono ?_;rintro e w' ⟨rfl,xa⟩;rw[xa];clear xa w';go_wp2_with fail;go_ret;exact⟨rfl,_,HR.out,rfl,xf.out _⟩
  ·rw [if_neg hneg] at f1
   have HR:=hid (HD.out (some ⟨db,o,none⟩) (L4a ⟨rfl,xc hdc⟩));have HA:=hid (xe.out _ HR.out);have HF:=hid (xd.out _ HR.out);rw[hdc] at m6;have xg:R.dc - 1=0:=by omega
   obtain rfl:ds=[]:=xc hdc;rw[xg,List.length_nil] at HR HA HF;rw[List.length_nil] at m6 xh;unfold Go.Proofs.YtbkmgoffiigdbaaGreatDoor.drawn at HR HA HF;clear HD xe xd;by_cases hin:d % (R.cap:Int)∈sl
   ·have hq:¬D8 sl 0 (d % (R.cap:Int)) < 0:=fun c=>xb.1 c hin
    clear xb;go_enter func44,ntmps44;go_wp2_with fail;go_region
    go_wp2_with fail;refine HA.out.mono ?_;rintro e w' ⟨rfl,xa⟩;rw[xa];clear xa w';go_wp2_with (go_at_call 88;refine HF.out.mono ?_;rintro e w' ⟨rfl,xa⟩;rw [xa];clear xa w')
    go_ret;exact⟨rfl,_,HR.out,rfl,xf.out _⟩
   ·have hq:D8 sl 0 (d % (R.cap:Int)) < 0:=xb.2 hin
    clear xb;go_enter func44,ntmps44;go_wp2_with fail;go_region
    go_wp2_with fail;refine HA.out.mono ?_;rintro e w' ⟨rfl,xa⟩;rw[xa];clear xa w';go_wp2_with fail;go_ret;exact⟨rfl,_,HR.out,rfl,xf.out _⟩
 ·by_cases hneg:r < 0
  ·rw [if_pos hneg] at f1
   have HR:=hid (HD.out (some ⟨db,o+1,none⟩) (L4b rfl));have HA:=hid (xe.out _ HR.out);have HF:=hid (xd.out _ HR.out);have xj:¬1=R.dc:=fun e=>hdc e.symm
   have xl:1<=R.dc:=by omega
   unfold Go.Proofs.YtbkmgoffiigdbaaGreatDoor.drawn at HR HA HF;clear HD xe xd;by_cases hin:d % (R.cap:Int)∈sl
   ·have hq:¬D8 sl 0 (d % (R.cap:Int)) < 0:=fun c=>xb.1 c hin
    clear xb;go_enter func44,ntmps44;go_wp2_with fail;go_region
    go_wp2_with fail;refine HA.out.mono ?_;rintro e w' ⟨rfl,xa⟩;rw[xa];clear xa w';go_wp2_with (go_at_call 88;refine HF.out.mono ?_;rintro e w' ⟨rfl,xa⟩;rw [xa];clear xa w')
    go_ret;exact⟨rfl,_,HR.out,rfl,xf.out _⟩
   ·have hq:D8 sl 0 (d % (R.cap:Int)) < 0:=xb.2 hin
    clear xb;go_enter func44,ntmps44;go_wp2_with fail;go_region
    go_wp2_with fail;refine HA.out.mono ?_;rintro e w' ⟨rfl,xa⟩;rw[xa];clear xa w';go_wp2_with fail;go_ret;exact⟨rfl,_,HR.out,rfl,xf.out _⟩
  ·rw [if_neg hneg] at f1
   have HR:=hid (HD.out (some ⟨db,o+1,none⟩) (L4b rfl));have HA:=hid (xe.out _ HR.out);have HF:=hid (xd.out _ HR.out);have xj:¬1=R.dc:=fun e=>hdc e.symm
   have xl:1<=R.dc:=by omega
   unfold Go.Proofs.YtbkmgoffiigdbaaGreatDoor.drawn at HR HA HF;clear HD xe xd;by_cases hin:d % (R.cap:Int)∈sl
   ·have hq:¬D8 sl 0 (d % (R.cap:Int)) < 0:=fun c=>xb.1 c hin
    clear xb;go_enter func44,ntmps44;go_wp2_with fail;go_region
    go_wp2_with fail;refine HA.out.mono ?_;rintro e w' ⟨rfl,xa⟩;rw[xa];clear xa w';go_wp2_with (go_at_call 88;refine HF.out.mono ?_;rintro e w' ⟨rfl,xa⟩;rw [xa];clear xa w')
    go_ret;exact⟨rfl,_,HR.out,rfl,xf.out _⟩
   ·have hq:D8 sl 0 (d % (R.cap:Int)) < 0:=xb.2 hin
    clear xb;go_enter func44,ntmps44;go_wp2_with fail;go_region
    go_wp2_with fail;refine HA.out.mono ?_;rintro e w' ⟨rfl,xa⟩;rw[xa];clear xa w';go_wp2_with fail;go_ret;exact⟨rfl,_,HR.out,rfl,xf.out _⟩
end
section
variable {B mb:Nat} {R:RfR} {W X w w4:World} {g:PgR} {own:Own} {v4:Value}
theorem a3z {R:RfR} (h:A8 W own mb g R) (hc1:1<=R.cap) (hcap:R.cap<=1000) (hn:R.ths.length<=1000000000000) {j:Nat} {dr:List Int} (hs:aM R.cap (R.ths.map ThR.slot) R.dr=some (j,dr)) :
  Calls prog 44 #[.pointer (some ⟨mb,0,none⟩)] W fun e w'=>∃da dc,e=.returned (.int .i64 (j:Int))/\A8 w' own mb g { R with da:=da,dc:=dc,dr:=dr }/\A2 own W own w'/\∀b q,da=some ⟨b,q,none⟩->∃q',R.da=some ⟨b,q',none⟩:=by
 cases hd:R.dr with
 | nil =>
  rw[hd] at hs;unfold aM at hs;simp only at hs
  cases hf:V4 (R.ths.map ThR.slot) R.cap 0 with
  | none=>rw [hf] at hs;cases hs
  | some i =>
   rw[hf] at hs
   cases hs;refine (a3A h hd hcap hn).mono ?_;rintro e w' ⟨rfl,rfl⟩;refine⟨R.da,R.dc,by rw [iE,hf],?_,A2.refl _ _,fun b q e=>⟨q,e⟩⟩;have:({ R with da:=R.da,dc:=R.dc,dr:=[] } : RfR)=R:=by rw [<- hd]
   rw[this];exact h
 | cons d ds =>
  rw[hd] at hs;unfold aM at hs;simp only at hs;have xc:=Int.emod_nonneg d (show (R.cap:Int)≠0 by omega);have ht:((d % (R.cap:Int)).toNat:Int)=d % (R.cap:Int):=Int.toNat_of_nonneg xc;rw[ht] at hs;refine (a1A h hd hc1 hcap hn).mono ?_;rintro e w' ⟨da,rfl,hr,rfl,xa⟩;have xb:A2 own W own (Go.Proofs.YtbkmgoffiigdbaaGreatDoor.drawn W mb da ds.length (R.dc - 1)):=by
   refine⟨rfl,rfl,rfl,by simp [Go.Proofs.YtbkmgoffiigdbaaGreatDoor.drawn],fun k hk hno=>?_,fun _ _=>rfl⟩;show ((W.setCell ⟨mb,6,none⟩ _).drew).heap[k]?=_;rw[show ((W.setCell ⟨mb,6,none⟩ (.slice da ds.length (R.dc - 1))).drew).heap[k]?=(W.setCell ⟨mb,6,none⟩ (.slice da ds.length (R.dc - 1))).heap[k]? from rfl];exact heap_setCell_other _ _ _ _ (fun e=>by rw [e,h.me] at hno;cases hno)
  by_cases hin:(d % (R.cap:Int))∈R.ths.map ThR.slot
  ·rw [if_pos hin] at hs
   cases hf:V4 (R.ths.map ThR.slot) R.cap 0 with
   | none=>rw [hf] at hs;cases hs
   | some i =>
    rw[hf] at hs
    cases hs;exact⟨da,R.dc - 1,by rw [if_pos hin,iE,hf],hr,xb,xa⟩
  ·rw [if_neg hin] at hs
   cases hs;exact⟨da,R.dc - 1,by rw [if_neg hin,ht],hr,xb,xa⟩
theorem eM (hr:bX R):(A1 R.abs).length<=R.ths.length:=by
 have hq:=(bI hr.within hr.roots);have:=L1 hq.nodup hq.lt;rw[show R.abs.obs.length=R.ths.length from List.length_map _] at this;exact this
def K1 (R:RfR):List ThR:=if V4 (R.ths.map ThR.slot) R.cap 0=none then J8 (A1 R.abs) R.ths.length R.ths else R.ths
def a1X (B:Nat) (own:Own) (mb:Nat) (g:PgR) (R:RfR) (kind:Int) (fv:Value) (fl:List Val) (W:World) (e:Ending) (w':World):Prop :=
 ∃own' hv da dc j dr,aM R.cap ((K1 R).map ThR.slot) R.dr=some (j,dr)/\e=.returned (.tuple #[.agg #[.int .u8 2,.int .i64 (R.ths.length:Int)],.bool true])/\A8 w' own' mb g { R with hv:=hv,ths:=K1 R++[⟨kind,fv,fl,(j:Int)⟩],da:=da,dc:=dc,dr:=dr }/\aH B own W own' w'/\∀b q,da=some ⟨b,q,none⟩->∃q',R.da=some ⟨b,q',none⟩
theorem lW (h:A8 W own mb g R) (hb:fD R) (hr:bX R) (kind:Int) (fv:Value) (hfull:R.cap<=(A1 R.abs).length) :
  Calls prog 219 #[.pointer (some ⟨mb,0,none⟩),.int .u8 kind,fv] W fun e w'=>e=.returned (.tuple #[.agg #[.int .u8 0,.int .i64 0],.bool false])/\L0d W w':=by
 have hm:=h.lt _ _ h.me;have xd:Hid (∀U,L0d W U->Calls prog 86 #[.pointer (some ⟨mb,0,none⟩)] U fun e w'=>∃v,e=.returned v/\w'.ownsRow U.heap.size 3 1 v (A1 R.abs).length (X2 (A1 R.abs))/\L0d U w'):=hid fun U hU=>cB (h.same hU) hb hr
 have M1:=hid h.c1;have xi:(A1 R.abs).length<=100000000000:=L5a (eM hr) hb.ths;clear h hb hr;generalize A1 R.abs=al at *
 have xc:(R.cap:Int)<=(al.length:Int):=by omega
 go_enter func219,ntmps219;go_wp2_with (go_at_call 86;refine (xd.out _ P4).mono ?_;rintro e w1 ⟨v1,rfl,xe,xa⟩;obtain ⟨la,lc,rfl,_⟩:=O3 xe;have xb:L0d W w1:=C5 xa (L3a (L3b _ _) (L1c _) _) R5;have m1:=keep xb hm M1.out;have xh:mb < w1.heap.size:=L0a hm xb.size;have xg:W.heap.size < w1.heap.size:=L0a R5 xa.size;have r0:w1.cell? ⟨W.heap.size,0,none⟩=some (.int .u8 0):=keep xa R5 Q9;have r1:w1.cell? ⟨W.heap.size,1,none⟩=some (.int .i64 0):=keep xa R5 Q9;have z0:w1.frozen? ⟨W.heap.size,0,none⟩=false:=B9 xa R5 Q9;have z1:w1.frozen? ⟨W.heap.size,1,none⟩=false:=B9 xa R5 Q9;have xf:=hid xb;clear xe xa xb)
 refine bodyPost_ret (v:=.tuple #[.agg #[.int .u8 0,.int .i64 0],.bool false]) (by simp [results,results219,go_sem,r0,r1]) rfl ?_;exact⟨rfl,Below.setCell (Below.setCell xf.out (L1c _) _) (L1c _) _⟩
theorem jN (R:RfR):(K1 R).length=R.ths.length:=by
 unfold K1;split
 ·exact aT _ _ _
 ·rfl
theorem a4G:(prog.info? 100).map (fun i=>(i.zero,i.size,i.bytes))=some (some (.agg #[.int .u8 0,.slice none 0 0,.int .i64 0]),3,40):=by kernel_rfl
theorem a0u {sl:List Int} {cap:Nat} : aC sl cap 0 < 0↔V4 sl cap 0=none:=by
 rw[iE]
 cases V4 sl cap 0 with
 | none=>simp
 | some j=>simp
theorem B4 {e sz n:Nat} {v:Value} {xs:List Value} (h:w.ownsRow B e sz v n xs):∃a c,v=.slice a n c/\n<=c:=by
 rcases h.2 with ⟨rfl,h0⟩ | ⟨g,xa,xb,rfl,_,_,h3,_⟩
 ·exact ⟨none,0,by rw [h0],by omega⟩
 ·exact ⟨_,xa,rfl,h3⟩
theorem A8.aside {w':World} (h:A8 w own mb g R) (hsize:w.heap.size<=w'.heap.size) (hk:∀k t,own k=some t->w'.heap[k]?=w.heap[k]?) (hn:∀k,own k=none->(g.blk k\/k=0\/∃o,R.da=some ⟨k,o,none⟩)->w'.heap[k]?=w.heap[k]?):A8 w' own mb g R:=by
 have kc:∀i,w'.cell? ⟨mb,i,none⟩=w.cell? ⟨mb,i,none⟩:=fun i=>L0b (w:=w) (a:=⟨mb,i,none⟩) (hk mb _ h.me)
 have keep:∀t k,own k=some t->w'.heap[k]?=w.heap[k]?/\own k=some t:=fun t k e=>⟨hk k t e,e⟩
 exact h.edit hsize (fun k t e=>L0a (h.lt k t e) hsize) h.me (fun k e _ ho=>⟨e,hn k e ho⟩) (kc 0) ((kc 1).trans h.c1) ((kc 2).trans h.c2) ((kc 3).trans h.c3) ((kc 4).trans h.c4) ((kc 5).trans h.c5) (kc 6) (fun j=>by rw [L0c (w:=w) (a:=⟨mb,j,none⟩) (hk mb _ h.me)];exact h.fz j)
  (h.out.kept (keep _)) (h.called.kept (keep _)) (h.things.kept (keep _)) (fun i x hx=>(h.loc i x hx).kept (keep _)) (fun i x hx=>(h.stk i x hx).kept (keep _)) (fun i x hx=>(h.fld i x hx).kept (keep _)) (fun b o e=>(h.dro b o e).2) rfl rfl rfl
theorem a3e {R:RfR} {p:ThR} (h:A8 w own mb g R) (hX:L0d w X) (hgrow:X.grownBy w4 R.hv.ownBlock) (hown:w4.ownsRow 0 100 3 v4 (R.ths.length+1) (R.ths.flatMap ThR.cells++p.cells)) (hat:∀b,v4.ownBlock=some b->R.hv.ownBlock=some b\/w.heap.size<=b)
  (hfld:w.ownsRow 0 92 2 p.fv p.fl.length (A5 p.fl)) (hnb:N4 own g p.fv) (hnd:∀b o,R.da=some ⟨b,o,none⟩->p.fv.ownBlock≠some b) :
  w4.cell? ⟨mb,5,none⟩=some R.hv/\w4.frozen? ⟨mb,5,none⟩=false/\mb < w4.heap.size/\(∀k,k < w.heap.size->own k=none->w4.heap[k]?=w.heap[k]?) /\
   A8 (w4.setCell ⟨mb,5,none⟩ v4) ((own.upd p.fv.ownBlock (.fld R.ths.length)).upd v4.ownBlock .slots) mb g { R with hv:=v4,ths:=R.ths++[p] } /\
   ∀B,B<=w.heap.size->(∀b,p.fv.ownBlock=some b->B<=b)->aH B own w ((own.upd p.fv.ownBlock (.fld R.ths.length)).upd v4.ownBlock .slots) (w4.setCell ⟨mb,5,none⟩ v4):=by
 have xg:=h.lt _ _ h.me;have xd:∀b,R.hv.ownBlock=some b->own b=some .slots:=h.things.2
 have xc:w.heap.size<=w4.heap.size:=L5a hX.size hgrow.size;have xa:∀k,k < w.heap.size->own k≠some .slots->w4.heap[k]?=w.heap[k]?:=fun k hk ho=>by
  rw[hgrow.block k (L0a hk hX.size) (fun e=>ho (xd k e.symm)),hX.block k hk]
 have xb:=xa mb xg (by rw [h.me];simp);have xf:∀j,w4.frozen? ⟨mb,j,none⟩=false:=fun j=>by rw [L0c (w:=w) (a:=⟨mb,j,none⟩) xb];exact h.fz j
 have hc:∀j,w4.cell? ⟨mb,j,none⟩=w.cell? ⟨mb,j,none⟩:=fun j=>L0b (w:=w) (a:=⟨mb,j,none⟩) xb
 have xe:E3 w own v4 .slots:=fun b hb=>by
  rcases hat b hb with e | e
  ·exact L4a (xd b e)
  ·exact L4b e
 have xh:v4.ownBlock≠some mb:=fun e=>by
  rcases xe mb e with e | e
  ·rw [h.me] at e;cases e
  ·omega
 have c5:w4.cell? ⟨mb,5,none⟩=some R.hv:=(hc 5).trans h.c5;have hp:=h.pushTh (w':=w4.setCell ⟨mb,5,none⟩ v4) (p:=p) (hv:=v4) (by simpa using xc) (fun k hk hne ho=>by rw [heap_setCell_other _ _ _ _ hne];exact xa k hk ho) (fun j hj=>(B7 _ (Ne.symm hj)).trans (hc j)) (World.cell?_setCell_same _ _ _ c5) (fun j=>by go_simp;try exact xf j)
  (by rw [List.flatMap_append,List.flatMap_singleton];exact ownsRow_setCell_other hown xh _) xe hfld hnb hnd
 refine⟨c5,xf 5,L0a xg xc,fun k hk hn=>xa k hk (by rw [hn];simp),hp.1,fun B hB hfB=>⟨hgrow.os.trans hX.os,hgrow.tape.trans hX.tape,hgrow.output.trans hX.output,by simpa using xc,fun k hk hn=>?_,fun k hk=>hp.2 k (L0a hk hB) fun e=>by have:=hfB k e;omega⟩⟩;rw[heap_setCell_other _ _ _ _ (fun e=>by rw [e,h.me] at hn;cases hn)];exact xa k (L0a hk hB) (by rw [hn];simp)
theorem zG {w1 w3:World} {R:RfR} {kind:Int} {fa:Option Addr} {fc:Nat} {fl:List Val} {da:Option Addr} {dc j:Nat} {dr:List Int} (hA:A8 W own mb g R) (hB1:L0d W w1) (hT:A2 own w1 own w3) (h3:A8 w3 own mb g { R with ths:=K1 R,da:=da,dc:=dc,dr:=dr }) (hda:∀b q,da=some ⟨b,q,none⟩->∃q',R.da=some ⟨b,q',none⟩)
  (hX:L0d w3 X) (hgrow:X.grownBy w4 R.hv.ownBlock) (hown:w4.ownsRow 0 100 3 v4 (R.ths.length+1) ((K1 R).flatMap ThR.cells++[.int .u8 kind,.slice fa fl.length fc,.int .i64 (j:Int)])) (hat:∀b,v4.ownBlock=some b->R.hv.ownBlock=some b\/w3.heap.size<=b)
  (hfv:W.ownsRow 0 92 2 (.slice fa fl.length fc) fl.length (A5 fl)) (hnb:N4 own g (.slice fa fl.length fc)) (hnd:∀b o,R.da=some ⟨b,o,none⟩->(Value.slice fa fl.length fc).ownBlock≠some b) (hB:B<=W.heap.size) (hfB:∀b,(Value.slice fa fl.length fc).ownBlock=some b->B<=b) (hs:W.heap.size < w1.heap.size)
  (hsl:aM R.cap ((K1 R).map ThR.slot) R.dr=some (j,dr)) (u0 u1:Value) :
  w4.cell? ⟨mb,5,none⟩=some R.hv/\w4.frozen? ⟨mb,5,none⟩=false/\mb < w4.heap.size/\w4.heap[W.heap.size]?=w3.heap[W.heap.size]?/\W.heap.size < w4.heap.size /\
   a1X B own mb g R kind (.slice fa fl.length fc) fl W (.returned (.tuple #[.agg #[.int .u8 2,.int .i64 (R.ths.length:Int)],.bool true])) (((w4.setCell ⟨mb,5,none⟩ v4).setCell ⟨W.heap.size,0,none⟩ u0).setCell ⟨W.heap.size,1,none⟩ u1):=by
 have xd:W.heap.size < w3.heap.size:=L0a hs hT.size;have xc:∀b,(Value.slice fa fl.length fc).ownBlock=some b->b < W.heap.size:=fun b hb=>(hfv.lt b hb).2
 have xe:({ R with ths:=K1 R,da:=da,dc:=dc,dr:=dr } : RfR).ths.length=R.ths.length:=jN R;have hN:own W.heap.size=none:=by
  cases e:own W.heap.size with
  | none=>rfl
  | some t=>have:=hA.lt _ t e;omega
 have xb:w3.ownsRow 0 92 2 (.slice fa fl.length fc) fl.length (A5 fl):=A6 hfv fun b hb=>(hT.block b (L0a (xc b hb) hB1.size) (hnb b hb).1).trans (hB1.block b (xc b hb))
 obtain⟨q1,q2,q3,q4,q5,q6⟩:=a3e (p:=⟨kind,.slice fa fl.length fc,fl,(j:Int)⟩) h3 hX hgrow (by rw [xe];exact hown) hat xb hnb (fun b o e=>by obtain ⟨q,e'⟩:=hda b o e;exact hnd b q e');have xg:w4.heap[W.heap.size]?=w3.heap[W.heap.size]?:=q4 _ xd hN;have xf:W.heap.size < w4.heap.size:=L0a xd (L5a hX.size hgrow.size);refine⟨q1,q2,q3,xg,xf,_,v4,da,dc,j,dr,hsl,rfl,q5.aside R5 (fun k t hk=>?_) (fun k hk hor=>?_),?_,hda⟩
 ·have xa:k≠W.heap.size:=fun e=>by
   subst e;unfold Own.upd at hk;rw[if_neg (fun e=>by
    rcases hat _ e with e | e
    ·have:=hA.lt _ _ (hA.things.2 _ e);omega
    ·omega),if_neg (fun e=>by have:=xc _ e;omega),hN] at hk
   cases hk
  rw[heap_setCell_other _ _ _ _ xa,heap_setCell_other _ _ _ _ xa]
 ·have xa:k≠W.heap.size:=fun e=>by
   subst e;rcases hor with hb | e | ⟨o,e⟩
   ·exact absurd (hA.pg.blk_lt hb) R4
   ·have:=hA.lt _ _ hA.me;omega
   ·obtain ⟨q,e'⟩:=hda _ o e
    have:=(hA.dro _ q e').1;omega
  rw[heap_setCell_other _ _ _ _ xa,heap_setCell_other _ _ _ _ xa]
 ·have ht:=((aH.of_below (own:=own) (hB1.mono hB)).trans (hT.touB (L5a hB hB1.size))).trans (q6 B (L5a hB (Nat.le_of_lt xd)) hfB)
  refine⟨ht.os,ht.tape,ht.output,by simpa using ht.size,fun k hk hn=>?_,ht.old⟩;have xa:k≠W.heap.size:=by omega
  rw[heap_setCell_other _ _ _ _ xa,heap_setCell_other _ _ _ _ xa];exact ht.block k hk hn
theorem lX (h:A8 W own mb g R) (hb:fD R) (hr:bX R) (hs:zY R) (kind:Int) (fv:Value) (fl:List Val) (hc1:1<=R.cap) (hcap:R.cap<=1000) (hfull:¬R.cap<=(A1 R.abs).length)
  (hfv:W.ownsRow 0 92 2 fv fl.length (A5 fl)) (hnb:N4 own g fv) (hnd:∀b o,R.da=some ⟨b,o,none⟩->fv.ownBlock≠some b) (hB:B<=W.heap.size) (hfB:∀b,fv.ownBlock=some b->B<=b) {j:Nat} {dr:List Int} (hsl:aM R.cap ((K1 R).map ThR.slot) R.dr=some (j,dr)) :
  Calls prog 219 #[.pointer (some ⟨mb,0,none⟩),.int .u8 kind,fv] W fun e w'=>a1X B own mb g R kind fv fl W e w':=by
 have hm:=h.lt _ _ h.me;have xh:Hid (∀U,L0d W U->Calls prog 86 #[.pointer (some ⟨mb,0,none⟩)] U fun e w'=>∃v,e=.returned v/\w'.ownsRow U.heap.size 3 1 v (A1 R.abs).length (X2 (A1 R.abs))/\L0d U w'):=hid fun U hU=>cB (h.same hU) hb hr
 have xe:Hid (∀U,L0d W U->Calls prog 88 #[.pointer (some ⟨mb,0,none⟩)] U fun e w'=>e=.returned (.int .i64 (aC (R.ths.map ThR.slot) R.cap 0))/\w'=U):=hid fun U hU=>lS (h.same hU).slotsIn (by rw [List.length_map];exact L5a hb.ths R3) (h.same hU).c1 hcap
 have xu:Hid (∀U,L0d W U->Calls prog 65 #[.pointer (some ⟨mb,0,none⟩)] U fun e w'=>e=.returned (.int .i64 (gC (R.ths.map ThR.slot) (A1 R.abs):Int))/\A8 w' own mb g { R with ths:=J8 (A1 R.abs) R.ths.length R.ths }/\A2 own U own w'):=hid fun U hU=>iQ (h.same hU) hb hr hs
 have xd:Hid (∀U,A8 U own mb g { R with ths:=K1 R }->Calls prog 44 #[.pointer (some ⟨mb,0,none⟩)] U fun e w'=>∃da dc,e=.returned (.int .i64 (j:Int))/\A8 w' own mb g { R with ths:=K1 R,da:=da,dc:=dc,dr:=dr }/\A2 own U own w'/\∀b q,da=some ⟨b,q,none⟩->∃q',R.da=some ⟨b,q',none⟩):=hid fun U hU=>a3z hU hc1 hcap (by rw [show ({ R with ths:=K1 R } : RfR).ths.length=R.ths.length from jN R];exact L5a hb.ths R3) hsl
 have M1:=hid h.c1;have HA:=hid h;have yp:(A1 R.abs).length<=100000000000:=L5a (eM hr) hb.ths;have xr:¬(R.cap:Int)<=((A1 R.abs).length:Int):=by omega
 have xz:=hid hsl;have yc:=hid hfv;have yf:=hid hnb;have ye:=hid hnd;have xy:=hid hfB;obtain⟨fa,fc,ym,_,_⟩:=T4 hfv;subst ym;have yn:=jN R;have yo:R.ths.length<=100000000000:=hb.ths;clear h hb hr hs hsl hfv hnb hnd hfB;generalize hAL:A1 R.abs=al at *
 go_enter func219,ntmps219;have xo:=a0u (sl:=R.ths.map ThR.slot) (cap:=R.cap);obtain⟨xn,hi,hz,yg,ya⟩:=info_parts a4G;have HI:=hid hi;have HZ:=hid hz;have xx:=hid yg;have yb:=hid ya;clear hi hz yg ya;have R0:Hid (∀w1 U,Below (W.alloc (Obj.cells #[.int .u8 0,.int .i64 0] 92)).heap.size (W.alloc (Obj.cells #[.int .u8 0,.int .i64 0] 92)) w1->A2 own w1 own U->U.cell? ⟨W.heap.size,0,none⟩=some (.int .u8 0)/\U.cell? ⟨W.heap.size,1,none⟩=some (.int .i64 0)/\U.frozen? ⟨W.heap.size,0,none⟩=false/\U.frozen? ⟨W.heap.size,1,none⟩=false/\W.heap.size < U.heap.size):=hid fun w1 U xa hU=>by
  have yd:W.heap.size < w1.heap.size:=L0a R5 xa.size;have hn:own W.heap.size=none:=by
   cases e:own W.heap.size with
   | none=>rfl
   | some t=>have:=HA.out.lt _ t e;omega
  have xp:=hU.block W.heap.size yd hn;refine⟨?_,?_,?_,?_,L0a yd hU.size⟩
  ·rw [L0b (w:=w1) (a:=⟨W.heap.size,0,none⟩) xp];exact keep xa R5 Q9
  ·rw [L0b (w:=w1) (a:=⟨W.heap.size,1,none⟩) xp];exact keep xa R5 Q9
  ·rw [L0c (w:=w1) (a:=⟨W.heap.size,0,none⟩) xp];exact B9 xa R5 Q9
  ·rw [L0c (w:=w1) (a:=⟨W.heap.size,1,none⟩) xp];exact B9 xa R5 Q9
 by_cases hfr:V4 (R.ths.map ThR.slot) R.cap 0=none
 ·have hq:aC (R.ths.map ThR.slot) R.cap 0 < 0:=xo.2 hfr
  have xt:Hid (K1 R=J8 al R.ths.length R.ths):=hid (by unfold K1;rw [if_pos hfr,hAL]);clear xo;go_wp2_with (first | (go_at_call 86;refine (xh.out _ P4).mono ?_;rintro e w1 ⟨v1,rfl,xm,xa⟩;obtain ⟨la,lc,rfl,_⟩:=O3 xm;have xc:L0d W w1:=C5 xa (L3a (L3b _ _) (L1c _) _) R5;have m1:=keep xc hm M1.out;have yk:mb < w1.heap.size:=L0a hm xc.size;have xf:=hid xc;have xg:=hid xa;clear xm xa xc) | (go_at_call 88;refine (xe.out _ xf.out).mono ?_;rintro e w' ⟨rfl,hw⟩;rw [hw];clear hw w') | (go_at_call 65;refine (xu.out _ xf.out).mono ?_;rintro e w2 ⟨rfl,xv,xw⟩;have yj:Hid (A8 w2 own mb g { R with ths:=K1 R }):=(hid (by rw [xt.out];exact xv));have yl:=(hid xw);clear xv xw) | (go_at_call 44;refine (xd.out _ yj.out).mono ?_;rintro e w3 ⟨da,dc,rfl,xb,xi,xk⟩;have xj:=(hid xb);have xl:=(hid (yl.out.trans xi));have xq:=(hid xk);have m5:w3.cell? ⟨mb,5,none⟩=some R.hv:=xb.c5;have yh:mb < w3.heap.size:=xb.lt _ _ xb.me;clear xb xi xk) | (at_builtin;go_must (refine A9 _ rfl (.tmp 32) (.tmp 37) 67 rfl 0 100 xn _ 3 40 underlying67 HI.out HZ.out xx.out yb.out rfl R3 _ (K1 R).length ((K1 R).flatMap ThR.cells) rfl (xj.out.things.1.alloc _) (some ⟨w3.heap.size,0,none⟩) 1 1 [.int .u8 kind,.slice fa fl.length fc,.int .i64 (j:Int)] rfl rfl (fun _=>⟨_,rfl,World.news_of_block (cs:=#[.int .u8 kind,.slice fa fl.length fc,.int .i64 (j:Int)]) (t:=100) (fr:=(0,0)) (B1 R5)⟩) (by intro u hu;simp at hu;rcases hu with rfl | rfl | rfl <;> rfl) Q5 R4 R5 ?_)))
  intro v4 w4 hown4 hgrow4 hat4;obtain⟨q1,q2,q3,q4,q5,q6⟩:=zG HA.out xf.out xl.out xj.out xq.out (L3a (L3b _ _) (L1c _) _) hgrow4 hown4 (fun b hb=>(hat4 b hb).imp id fun e=>by omega) yc.out yf.out ye.out hB xy.out (L0a R5 xg.out.size) xz.out (.int .u8 2) (.int .i64 (R.ths.length:Int));obtain⟨r0,r1,z0,z1,r4⟩:=R0.out _ _ xg.out xl.out;rw[<- L0b (a:=⟨W.heap.size,_,none⟩) q4] at r0 r1
  rw[<- L0c (a:=⟨W.heap.size,_,none⟩) q4] at z0 z1;have yi:W.heap.size≠mb:=by omega
  obtain⟨va,vc,xs,_⟩:=B4 hown4;have Q6:=hid q6;clear q6 q4 hown4 hgrow4 hat4;subst xs;go_wp2_with fail;refine bodyPost_ret (v:=.tuple #[.agg #[.int .u8 2,.int .i64 (R.ths.length:Int)],.bool true]) (by simp [results,results219,go_sem,r0,r1]) rfl ?_;exact Q6.out
 ·have hq:¬aC (R.ths.map ThR.slot) R.cap 0 < 0:=fun c=>hfr (xo.1 c)
  have xt:Hid (({ R with ths:=K1 R } : RfR)=R):=hid (by unfold K1;rw [if_neg hfr]);clear xo;go_wp2_with (first | (go_at_call 86;refine (xh.out _ P4).mono ?_;rintro e w1 ⟨v1,rfl,xm,xa⟩;obtain ⟨la,lc,rfl,_⟩:=O3 xm;have xc:L0d W w1:=C5 xa (L3a (L3b _ _) (L1c _) _) R5;have m1:=keep xc hm M1.out;have yk:mb < w1.heap.size:=L0a hm xc.size;have xf:=hid xc;have xg:=hid xa;clear xm xa xc) | (go_at_call 88;refine (xe.out _ xf.out).mono ?_;rintro e w' ⟨rfl,hw⟩;rw [hw];clear hw w') | (go_at_call 44;refine (xd.out _ (by rw [xt.out];exact HA.out.same xf.out)).mono ?_;rintro e w3 ⟨da,dc,rfl,xb,xi,xk⟩;have xj:=(hid xb);have xl:=(hid xi);have xq:=(hid xk);have m5:w3.cell? ⟨mb,5,none⟩=some R.hv:=xb.c5;have yh:mb < w3.heap.size:=xb.lt _ _ xb.me;clear xb xi xk) | (at_builtin;go_must (refine A9 _ rfl (.tmp 32) (.tmp 37) 67 rfl 0 100 xn _ 3 40 underlying67 HI.out HZ.out xx.out yb.out rfl R3 _ (K1 R).length ((K1 R).flatMap ThR.cells) rfl (xj.out.things.1.alloc _) (some ⟨w3.heap.size,0,none⟩) 1 1 [.int .u8 kind,.slice fa fl.length fc,.int .i64 (j:Int)] rfl rfl (fun _=>⟨_,rfl,World.news_of_block (cs:=#[.int .u8 kind,.slice fa fl.length fc,.int .i64 (j:Int)]) (t:=100) (fr:=(0,0)) (B1 R5)⟩) (by intro u hu;simp at hu;rcases hu with rfl | rfl | rfl <;> rfl) Q5 R4 R5 ?_)))
  intro v4 w4 hown4 hgrow4 hat4;obtain⟨q1,q2,q3,q4,q5,q6⟩:=zG HA.out xf.out xl.out xj.out xq.out (L3a (L3b _ _) (L1c _) _) hgrow4 hown4 (fun b hb=>(hat4 b hb).imp id fun e=>by omega) yc.out yf.out ye.out hB xy.out (L0a R5 xg.out.size) xz.out (.int .u8 2) (.int .i64 (R.ths.length:Int));obtain⟨r0,r1,z0,z1,r4⟩:=R0.out _ _ xg.out xl.out;rw[<- L0b (a:=⟨W.heap.size,_,none⟩) q4] at r0 r1
  rw[<- L0c (a:=⟨W.heap.size,_,none⟩) q4] at z0 z1;have yi:W.heap.size≠mb:=by omega
  obtain⟨va,vc,xs,_⟩:=B4 hown4;have Q6:=hid q6;clear q6 q4 hown4 hgrow4 hat4;subst xs;go_wp2_with fail;refine bodyPost_ret (v:=.tuple #[.agg #[.int .u8 2,.int .i64 (R.ths.length:Int)],.bool true]) (by simp [results,results219,go_sem,r0,r1]) rfl ?_;exact Q6.out
end
section
variable {R:RfR} {W:World} {g:PgR} {mb:Nat} {own:Own}
theorem B5 (t:Int) (W:World):Calls prog 218 #[.int .i64 t] W fun e w'=>e=.returned (.agg #[.int .i64 0,.slice none 0 0,.int .i64 0,.int .i64 t])/\w'=W.alloc (Obj.cells #[.int .i64 0,.slice none 0 0,.int .i64 0,.int .i64 t] 198):=by
 go_enter func218,ntmps218;go_wp2_with fail;refine bodyPost_ret (v:=.agg #[.int .i64 0,.slice none 0 0,.int .i64 0,.int .i64 t]) (by simp [results,results218,go_sem]) rfl ?_;exact⟨rfl,rfl⟩
theorem R8 (pc drop:Nat) (W:World) (hpc:pc<=1000):Calls prog 222 #[.int .i64 (pc:Int),.int .i64 (drop:Int)] W fun e w'=>e=.returned (.agg #[.int .i64 (drop:Int),.slice none 0 0,.int .i64 ((pc:Int)+1),.int .i64 0])/\w'=W.alloc (Obj.cells #[.int .i64 (drop:Int),.slice none 0 0,.int .i64 ((pc:Int)+1),.int .i64 0] 198):=by
 go_enter func222,ntmps222;go_wp2_with fail;refine bodyPost_ret (v:=.agg #[.int .i64 (drop:Int),.slice none 0 0,.int .i64 ((pc:Int)+1),.int .i64 0]) (by simp [results,results222,go_sem]) rfl ?_;exact⟨rfl,rfl⟩
theorem L9 (pc drop:Nat) (v:Val) (W:World) (hpc:pc<=1000):Calls prog 220 #[.int .i64 (pc:Int),.int .i64 (drop:Int),.agg #[.int .u8 v.1,.int .i64 v.2]] W fun e w'=>e=.returned (.agg #[.int .i64 (drop:Int),.slice (some ⟨W.heap.size+1+1,0,none⟩) 1 1,.int .i64 ((pc:Int)+1),.int .i64 0]) /\
   w'=((W.alloc (Obj.cells #[.int .u8 v.1,.int .i64 v.2] 92)).alloc (Obj.cells #[.int .i64 (drop:Int),.slice (some ⟨W.heap.size+1+1,0,none⟩) 1 1,.int .i64 ((pc:Int)+1),.int .i64 0] 198)).alloc (Obj.cells #[.int .u8 v.1,.int .i64 v.2] 92):=by
 go_enter func220,ntmps220;go_wp2_with fail;refine bodyPost_ret (v:=.agg #[.int .i64 (drop:Int),.slice (some ⟨W.heap.size+1+1,0,none⟩) 1 1,.int .i64 ((pc:Int)+1),.int .i64 0]) (by simp [results,results220,go_sem]) rfl ?_;exact⟨rfl,rfl⟩
theorem cT (z:Int) (W:World):Calls prog 215 #[.int .i64 z] W fun e w'=>e=.returned (.agg #[.int .u8 1,.int .i64 z])/\w'=W.alloc (Obj.cells #[.int .u8 1,.int .i64 z] 92):=by
 go_enter func215,ntmps215;go_wp2_with fail;refine bodyPost_ret (v:=.agg #[.int .u8 1,.int .i64 z]) (by simp [results,results215,go_sem]) rfl ?_;exact⟨rfl,rfl⟩
theorem pV (v:Val) (h2:v.1≠2):Calls prog 221 #[.pointer (some ⟨mb,0,none⟩),.agg #[.int .u8 v.1,.int .i64 v.2]] W fun e w'=>e=.returned (.int .u8 0)/\w'=W.alloc (Obj.cells #[.int .u8 v.1,.int .i64 v.2] 92):=by
 obtain⟨v1,v2⟩:=v;have xa:¬v1=2:=h2;have hb:(v1 == 2)=false:=L2c.2 xa;clear h2;go_enter func221,ntmps221;go_wp2_with fail;go_ret;exact⟨rfl,rfl⟩
theorem pW (h:A8 W own mb g R) {i:Nat} {o:ThR} (ho:R.ths[i]?=some o):Calls prog 221 #[.pointer (some ⟨mb,0,none⟩),.agg #[.int .u8 2,.int .i64 (i:Int)]] W fun e w'=>e=.returned (.int .u8 o.kind)/\w'=(W.alloc (Obj.cells #[.int .u8 2,.int .i64 (i:Int)] 92)).drew:=by
 have hm:=h.lt _ _ h.me;obtain⟨a,cp,hv,_,hc⟩:=Row.cells ThR.cells_len h.things;have hi:=(L1a.1 ho).1;obtain⟨b,rfl,hb,_,_,xa⟩:=hc R4;have m5:=h.c5;rw[hv] at m5;have k0:W.cell? ⟨b,i*3,none⟩=some (.int .u8 o.kind):=xa i 0 o _ ho R3 rfl;have xb:(i:Int) < (R.ths.length:Int):=by omega
 generalize R.ths.length=n at *
 generalize o.kind=kd at *
 clear h hc xa ho hv;go_enter func221,ntmps221;go_wp2_with fail;go_region
 go_wp2_with fail;go_ret;exact⟨rfl,rfl⟩
def dM (R:RfR) (v:Val):Prop:=v.1=2->0<=v.2/\v.2.toNat < R.ths.length
theorem dV (h:A8 W own mb g R) {j:Nat} {o:ThR} (ho:R.ths[j]?=some o):Hid (∀U,L0d W U->Calls prog 221 #[.pointer (some ⟨mb,0,none⟩),.agg #[.int .u8 2,.int .i64 (j:Int)]] U fun e w'=>e=.returned (.int .u8 o.kind)/\w'=(U.alloc (Obj.cells #[.int .u8 2,.int .i64 (j:Int)] 92)).drew):=hid fun _ hU=>pW (h.same hU) ho
theorem dD (h:A8 W own mb g R) {j:Nat} {o:ThR} (ho:R.ths[j]?=some o) {K:Int} (hk:o.kind=K):Hid (∀U,L0d W U->Calls prog 221 #[.pointer (some ⟨mb,0,none⟩),.agg #[.int .u8 2,.int .i64 (j:Int)]] U fun e w'=>e=.returned (.int .u8 K)/\w'=(U.alloc (Obj.cells #[.int .u8 2,.int .i64 (j:Int)] 92)).drew):=hk▸dV h ho
theorem oI (W:World) (mb:Nat) {x:Val} (h2:x.1≠2):Hid (∀U,L0d W U->Calls prog 221 #[.pointer (some ⟨mb,0,none⟩),.agg #[.int .u8 x.1,.int .i64 x.2]] U fun e w'=>e=.returned (.int .u8 0)/\w'=U.alloc (Obj.cells #[.int .u8 x.1,.int .i64 x.2] 92)):=hid fun _ _=>pV x h2
end
section
variable {R:RfR} {W:World} {g:PgR} {mb:Nat} {own:Own} {v:Val}
theorem T5 (hv:dM R v) (h:(A0 R.abs.obs v).1≠0):∃(j:Nat) (o:ThR),v=(2,(j:Int))/\R.ths[j]?=some o/\A0 R.abs.obs v=o.abs:=by
 have h2:v.1=2:=Decidable.byContradiction fun h2=>h (by unfold A0;rw [if_neg h2])
 obtain⟨h0,hl⟩:=hv h2;obtain⟨i,hi⟩:=L5c h0;have xa:v.2.toNat=i:=by rw [hi];rfl
 rw[xa] at hl;have ho:R.ths[i]?=some R.ths[i]:=L1b hl;refine⟨i,R.ths[i],Prod.ext h2 hi,ho,?_⟩;unfold A0;rw[if_pos h2,xa,List.getD_eq_getElem?_getD,show R.abs.obs=R.ths.map ThR.abs from rfl,List.getElem?_map,ho];rfl
theorem jL (hv:dM R v) (h2:v.1=2):∃(j:Nat) (o:ThR),v=(2,(j:Int))/\R.ths[j]?=some o/\A0 R.abs.obs v=o.abs:=by
 obtain⟨h0,hl⟩:=hv h2;obtain⟨i,hi⟩:=L5c h0;have xa:v.2.toNat=i:=by rw [hi];rfl
 rw[xa] at hl;have ho:R.ths[i]?=some R.ths[i]:=L1b hl;refine⟨i,R.ths[i],Prod.ext h2 hi,ho,?_⟩;unfold A0;rw[if_pos h2,xa,List.getD_eq_getElem?_getD,show R.abs.obs=R.ths.map ThR.abs from rfl,List.getElem?_map,ho];rfl
theorem A8.thing (h:A8 W own mb g R) {j:Nat} {o:ThR} (ho:R.ths[j]?=some o):∃tb tc fa fc,W.cell? ⟨mb,5,none⟩=some (.slice (some ⟨tb,0,none⟩) R.ths.length tc)/\tb < W.heap.size/\W.cell? ⟨tb,j*3+1,none⟩=some (.slice fa o.fl.length fc)/\o.fv=.slice fa o.fl.length fc/\o.fl.length<=fc/\O5 W W.heap.size fa o.fl:=by
 obtain⟨a,cp,hv,_,hc⟩:=Row.cells ThR.cells_len h.things;have hi:=(L1a.1 ho).1;obtain⟨b,rfl,hb,_,_,xd⟩:=hc R4;obtain⟨fa,fc,xa,xb,xc⟩:=(h.fld j o ho).vals;have t1:=xd j 1 o _ ho R3 rfl;rw[xa] at t1;have m5:=h.c5;rw[hv] at m5;exact⟨b,cp,fa,fc,m5,hb,t1,xa,xb,xc⟩
def J6 (own:Own) (mb:Nat) (g:PgR) (P:RfR->Prop) (drop:Int) (push:List Val) (to trap:Int) (W:World) (e:Ending) (w':World):Prop :=
 ∃own' R' a c,e=.returned (.agg #[.int .i64 drop,.slice a push.length c,.int .i64 to,.int .i64 trap])/\A8 w' own' mb g R'/\P R'/\A2 own W own' w'/\w'.ownsRow W.heap.size 92 2 (.slice a push.length c) push.length (A5 push)/\∀b,(Value.slice a push.length c).ownBlock=some b->own' b=none
theorem C2.toQ (h:A8 W own mb g R) {drop:Int} {push:List Val} {to trap:Int} {e:Ending} {w':World} (hd:C2 drop push to trap W e w'):J6 own mb g (fun R'=>R'=R) drop push to trap W e w':=by
 obtain⟨a,c,rfl,h1,h2⟩:=hd;refine⟨own,R,a,c,rfl,h.same h1,rfl,A2.of_below h1,h2,fun b hb=>?_⟩;have:=(h2.lt b hb).1
 cases e:own b with
 | none=>rfl
 | some t=>have:=h.lt b t e;omega
theorem a1j (h:A8 W own mb g R) {sb m sc:Nat} (x:Val) (a:Int) (pc:Nat) (hsb:sb < W.heap.size) (x0:W.cell? ⟨sb,m*2,none⟩=some (.int .u8 x.1)) (x1:W.cell? ⟨sb,m*2+1,none⟩=some (.int .i64 x.2)) (hm:m<=1000) (hkz:∀o,o∈R.ths->o.kind≠0) (hx:dM R x) (hk:(A0 R.abs.obs x).1≠1) :
  Calls prog 182 #[.pointer (some ⟨mb,0,none⟩),.agg #[.int .i64 19,.int .i64 a],.int .i64 (pc:Int),.slice (some ⟨sb,0,none⟩) (m+1) sc] W fun e w'=>C2 0 [] 0 2 W e w':=by
 by_cases h0:(A0 R.abs.obs x).1=0
 ·have h2:x.1≠2:=fun h2=>by
   obtain⟨j,o,e,ho,e2⟩:=jL hx h2;rw[e2] at h0;exact hkz o (L2a ho) h0
  have HK:=oI W mb h2;obtain⟨xk,xn⟩:=x;simp only at x0 x1 HK;clear h hkz hx h0 hk h2;obtain⟨xd,xb,xc,xa⟩:=S9 (show sb < W.heap.size by omega);go_enter func182,ntmps182;go_wp2_with (first | (go_at_call 221;refine CE (HK.out _ P4) ?_) | (go_at_call 218;refine CE (B5 _ _) ?_))
  refine bodyPost_ret (v:=.agg #[.int .i64 0,.slice none 0 0,.int .i64 0,.int .i64 2]) (by simp [results,results182,go_sem]) rfl ?_;exact⟨none,0,rfl,P4,B8 _ _⟩
 ·obtain ⟨j,o,rfl,ho,e2⟩:=T5 hx h0
  rw[e2] at hk;have xe:o.kind≠1:=hk;have xf:(o.kind == 1)=false:=L2c.2 xe;have HK:=dV h ho;generalize o.kind=kd at *
  simp only at x0 x1;clear h hkz hx h0 hk e2 ho;obtain⟨xd,xb,xc,xa⟩:=S9 (show sb < W.heap.size by omega);go_enter func182,ntmps182;go_wp2_with (first | (go_at_call 221;refine CE (HK.out _ P4) ?_) | (go_at_call 218;refine CE (B5 _ _) ?_))
  refine bodyPost_ret (v:=.agg #[.int .i64 0,.slice none 0 0,.int .i64 0,.int .i64 2]) (by simp [results,results182,go_sem]) rfl ?_;exact⟨none,0,rfl,P4,B8 _ _⟩
theorem a1o (h:A8 W own mb g R) {sb m sc:Nat} (x y:Val) (a:Int) (pc:Nat) (hsb:sb < W.heap.size) (x0:W.cell? ⟨sb,m*2,none⟩=some (.int .u8 x.1)) (x1:W.cell? ⟨sb,m*2+1,none⟩=some (.int .i64 x.2)) (y0:W.cell? ⟨sb,(m+1)*2,none⟩=some (.int .u8 y.1)) (y1:W.cell? ⟨sb,(m+1)*2+1,none⟩=some (.int .i64 y.2)) (hm:m<=1000) (hkz:∀o,o∈R.ths->o.kind≠0) (hx:dM R x) (hk:(A0 R.abs.obs x).1≠1) :
  Calls prog 182 #[.pointer (some ⟨mb,0,none⟩),.agg #[.int .i64 20,.int .i64 a],.int .i64 (pc:Int),.slice (some ⟨sb,0,none⟩) (m+2) sc] W fun e w'=>C2 0 [] 0 2 W e w':=by
 by_cases h0:(A0 R.abs.obs x).1=0
 ·have h2:x.1≠2:=fun h2=>by
   obtain⟨j,o,e,ho,e2⟩:=jL hx h2;rw[e2] at h0;exact hkz o (L2a ho) h0
  have HK:=oI W mb h2;obtain⟨xk,xn⟩:=x;simp only at x0 x1 HK;obtain⟨yk,yn⟩:=y;simp only at y0 y1;clear h hkz hx h0 hk h2;obtain⟨xd,xb,xc,xa⟩:=S9 (show sb < W.heap.size by omega);go_enter func182,ntmps182;go_wp2_with (first | (go_at_call 221;refine CE (HK.out _ P4) ?_) | (go_at_call 218;refine CE (B5 _ _) ?_))
  refine bodyPost_ret (v:=.agg #[.int .i64 0,.slice none 0 0,.int .i64 0,.int .i64 2]) (by simp [results,results182,go_sem]) rfl ?_;exact⟨none,0,rfl,P4,B8 _ _⟩
 ·obtain ⟨j,o,rfl,ho,e2⟩:=T5 hx h0
  rw[e2] at hk;have xe:o.kind≠1:=hk;have xf:(o.kind == 1)=false:=L2c.2 xe;have HK:=dV h ho;generalize o.kind=kd at *
  simp only at x0 x1;obtain⟨yk,yn⟩:=y;simp only at y0 y1;clear h hkz hx h0 hk e2 ho;obtain⟨xd,xb,xc,xa⟩:=S9 (show sb < W.heap.size by omega);go_enter func182,ntmps182;go_wp2_with (first | (go_at_call 221;refine CE (HK.out _ P4) ?_) | (go_at_call 218;refine CE (B5 _ _) ?_))
  refine bodyPost_ret (v:=.agg #[.int .i64 0,.slice none 0 0,.int .i64 0,.int .i64 2]) (by simp [results,results182,go_sem]) rfl ?_;exact⟨none,0,rfl,P4,B8 _ _⟩
theorem xP (h:A8 W own mb g R) {sb m sc j:Nat} {o:ThR} (ho:R.ths[j]?=some o) (a:Int) (pc:Nat) (hpc:pc<=1000) (hsb:sb < W.heap.size) (x0:W.cell? ⟨sb,m*2,none⟩=some (.int .u8 2)) (x1:W.cell? ⟨sb,m*2+1,none⟩=some (.int .i64 (j:Int))) (hm:m<=1000) (hk:o.kind=1) (hle:(o.fl.length:Int)<=a) (hn:o.fl.length<=1000) (hth:R.ths.length<=100000000000) :
  Calls prog 182 #[.pointer (some ⟨mb,0,none⟩),.agg #[.int .i64 19,.int .i64 a],.int .i64 (pc:Int),.slice (some ⟨sb,0,none⟩) (m+1) sc] W fun e w'=>C2 0 [] 0 3 W e w':=by
 have HK:=dD h ho hk;have xr:=(fun (_:pc<=1000) (_:o.fl.length<=1000) (_:R.ths.length<=100000000000)=>h.lt _ _ h.me) hpc hn hth;obtain⟨tb,tc,fa,fc,m5,xu,t1,xj,xt,xi⟩:=h.thing ho;have xs:=(L1a.1 ho).1;have xe:(j:Int) < (R.ths.length:Int):=by omega
 generalize hnt:R.ths.length=nt at *
 generalize hnf:o.fl.length=nf at *
 obtain⟨xg,xn,xk,xb⟩:=S9 (show sb < W.heap.size by omega);obtain⟨xo,xc,xm,xd,xf⟩:=N7 (show mb < W.heap.size by omega);obtain⟨xl,xp,xa,xh,xq⟩:=N7 (show tb < W.heap.size by omega);clear h ho hk xi xj hpc;go_enter func182,ntmps182;go_wp2_with (first | (go_at_call 221;refine CE (HK.out _ P4) ?_) | (go_at_call 218;refine CE (B5 _ _) ?_))
 go_region
 go_wp2_with (first | (go_at_call 221;refine CE (HK.out _ P4) ?_) | (go_at_call 218;refine CE (B5 _ _) ?_))
 refine bodyPost_ret (v:=.agg #[.int .i64 0,.slice none 0 0,.int .i64 0,.int .i64 3]) (by simp [results,results182,go_sem]) rfl ?_;exact⟨none,0,rfl,P4,B8 _ _⟩
theorem a4X (h:A8 W own mb g R) {sb m sc j:Nat} {o:ThR} (ho:R.ths[j]?=some o) (a:Nat) {y:Val} (pc:Nat) (hpc:pc<=1000) (hsb:sb < W.heap.size) (x0:W.cell? ⟨sb,m*2,none⟩=some (.int .u8 2)) (x1:W.cell? ⟨sb,m*2+1,none⟩=some (.int .i64 (j:Int))) (hm:m<=1000) (hk:o.kind=1) (hf:o.fl[a]?=some y) (hn:o.fl.length<=1000) (hth:R.ths.length<=100000000000) :
  Calls prog 182 #[.pointer (some ⟨mb,0,none⟩),.agg #[.int .i64 19,.int .i64 (a:Int)],.int .i64 (pc:Int),.slice (some ⟨sb,0,none⟩) (m+1) sc] W fun e w'=>C2 1 [y] ((pc:Int)+1) 0 W e w':=by
 have HK:=dD h ho hk;have xy:=(fun (_:pc<=1000) (_:o.fl.length<=1000) (_:R.ths.length<=100000000000)=>h.lt _ _ h.me) hpc hn hth;obtain⟨tb,tc,fa,fc,m5,yd,t1,xo,yb,xb⟩:=h.thing ho;have ya:=(L1a.1 ho).1;have xh:(j:Int) < (R.ths.length:Int):=by omega
 have yc:=(L1a.1 hf).1;have xm:(a:Int) < (o.fl.length:Int):=by omega
 obtain⟨fb,rfl,xz,xa⟩:=xb R4;obtain⟨f0,f1⟩:=xa a y hf;obtain⟨yk,yn⟩:=y;simp only at f0 f1;clear xa;obtain⟨xl,xw,xt,xe,xn⟩:=N7 (show fb < W.heap.size by omega);generalize hnt:R.ths.length=nt at *
 generalize hnf:o.fl.length=nf at *
 obtain⟨xj,xs,xp,xd⟩:=S9 (show sb < W.heap.size by omega);obtain⟨xu,xf,xr,xg,xi⟩:=N7 (show mb < W.heap.size by omega);obtain⟨xq,xv,xc,xk,xx⟩:=N7 (show tb < W.heap.size by omega);clear h ho hk xb xo hf;go_enter func182,ntmps182;go_wp2_with (first | (go_at_call 221;refine CE (HK.out _ P4) ?_) | (go_at_call 218;refine CE (B5 _ _) ?_) | (go_at_call 220;refine CE (L9 _ _ (yk,yn) _ hpc) ?_))
 go_region
 go_wp2_with (first | (go_at_call 221;refine CE (HK.out _ P4) ?_) | (go_at_call 218;refine CE (B5 _ _) ?_) | (go_at_call 220;refine CE (L9 _ _ (yk,yn) _ hpc) ?_))
 refine bodyPost_ret (v:=.agg #[.int .i64 1,.slice (some ⟨W.heap.size+1+1+1+1+1+1,0,none⟩) 1 1,.int .i64 ((pc:Int)+1),.int .i64 0]) (by simp [results,results182,go_sem]) rfl ?_;refine⟨_,1,rfl,P4,rfl,L4b ⟨W.heap.size+1+1+1+1+1+1,1,#[.int .u8 yk,.int .i64 yn],rfl,by omega,?_,L1c _,by decide,rfl,rfl⟩⟩
 exact B1 R5
theorem xS (h:A8 W own mb g R) {sb m sc j:Nat} {o:ThR} (ho:R.ths[j]?=some o) (y:Val) (a:Int) (pc:Nat) (hpc:pc<=1000) (hsb:sb < W.heap.size) (x0:W.cell? ⟨sb,m*2,none⟩=some (.int .u8 2)) (x1:W.cell? ⟨sb,m*2+1,none⟩=some (.int .i64 (j:Int))) (y0:W.cell? ⟨sb,(m+1)*2,none⟩=some (.int .u8 y.1)) (y1:W.cell? ⟨sb,(m+1)*2+1,none⟩=some (.int .i64 y.2)) (hm:m<=1000) (hk:o.kind=1) (hle:(o.fl.length:Int)<=a) (hn:o.fl.length<=1000) (hth:R.ths.length<=100000000000) :
  Calls prog 182 #[.pointer (some ⟨mb,0,none⟩),.agg #[.int .i64 20,.int .i64 a],.int .i64 (pc:Int),.slice (some ⟨sb,0,none⟩) (m+2) sc] W fun e w'=>C2 0 [] 0 3 W e w':=by
 have HK:=dD h ho hk;have xr:=(fun (_:pc<=1000) (_:o.fl.length<=1000) (_:R.ths.length<=100000000000)=>h.lt _ _ h.me) hpc hn hth;obtain⟨tb,tc,fa,fc,m5,xu,t1,xj,xt,xi⟩:=h.thing ho;have xs:=(L1a.1 ho).1;have xe:(j:Int) < (R.ths.length:Int):=by omega
 generalize hnt:R.ths.length=nt at *
 generalize hnf:o.fl.length=nf at *
 obtain⟨yk,yn⟩:=y;simp only at y0 y1;obtain⟨xg,xn,xk,xb⟩:=S9 (show sb < W.heap.size by omega);obtain⟨xo,xc,xm,xd,xf⟩:=N7 (show mb < W.heap.size by omega);obtain⟨xl,xp,xa,xh,xq⟩:=N7 (show tb < W.heap.size by omega);clear h ho hk xi xj hpc;go_enter func182,ntmps182;go_wp2_with (first | (go_at_call 221;refine CE (HK.out _ P4) ?_) | (go_at_call 218;refine CE (B5 _ _) ?_))
 go_region
 go_wp2_with (first | (go_at_call 221;refine CE (HK.out _ P4) ?_) | (go_at_call 218;refine CE (B5 _ _) ?_))
 refine bodyPost_ret (v:=.agg #[.int .i64 0,.slice none 0 0,.int .i64 0,.int .i64 3]) (by simp [results,results182,go_sem]) rfl ?_;exact⟨none,0,rfl,P4,B8 _ _⟩
theorem a5a {R:RfR} (h:A8 W own mb g R) {sb m sc j:Nat} {o:ThR} (ho:R.ths[j]?=some o) (y:Val) (a:Nat) {z:Val} (pc:Nat) (hpc:pc<=1000) (hsf':∀b,own b=some (.fld j)->sb≠b) (hsb:sb < W.heap.size) (x0:W.cell? ⟨sb,m*2,none⟩=some (.int .u8 2)) (x1:W.cell? ⟨sb,m*2+1,none⟩=some (.int .i64 (j:Int))) (y0:W.cell? ⟨sb,(m+1)*2,none⟩=some (.int .u8 y.1)) (y1:W.cell? ⟨sb,(m+1)*2+1,none⟩=some (.int .i64 y.2)) (hm:m<=1000) (hk:o.kind=1) (hf:o.fl[a]?=some z) (hn:o.fl.length<=1000) (hth:R.ths.length<=100000000000) :
  Calls prog 182 #[.pointer (some ⟨mb,0,none⟩),.agg #[.int .i64 20,.int .i64 (a:Int)],.int .i64 (pc:Int),.slice (some ⟨sb,0,none⟩) (m+2) sc] W fun e w'=>J6 own mb g (fun R'=>R'={ R with ths:=R.ths.set j { o with fl:=o.fl.set a y } }) 2 [] ((pc:Int)+1) 0 W e w':=by
 have HK:=dD h ho hk;have yc:=(fun (_:pc<=1000) (_:o.fl.length<=1000) (_:R.ths.length<=100000000000)=>h.lt _ _ h.me) hpc hn hth;obtain⟨tb,tc,fa,fc,m5,yi,t1,xc,yg,xe⟩:=h.thing ho;have yf:=(L1a.1 ho).1;have xj:(j:Int) < (R.ths.length:Int):=by omega
 have yh:=(L1a.1 hf).1;have xp:(a:Int) < (o.fl.length:Int):=by omega
 obtain⟨fb,rfl,ye,xb⟩:=xe R4;obtain⟨f0,f1⟩:=xb a z hf;have xd:∀q,W.frozen? ⟨fb,q,none⟩=false:=fun q=>qS (h.fld j o ho).1 (by rw [xc];rfl) q
 have z0:=xd (a*2);have z1:=xd (a*2+1);have xa:own fb=some (.fld j):=(h.fld j o ho).2 fb (by rw [xc];rfl);have yd:sb≠fb:=hsf' fb xa;have HA:=hid h;have HO:=hid ho;have HF:=hid hf;have xt:=hid xc;have xz:=hid xa;clear xb xd xa hsf';obtain⟨xo,ya,xw,xh,xq⟩:=N7 (show fb < W.heap.size by omega);generalize hnt:R.ths.length=nt at *
 generalize hnf:o.fl.length=nf at *
 obtain⟨yk,yn⟩:=y;simp only at y0 y1;obtain⟨xm,xv,xr,xg⟩:=S9 (show sb < W.heap.size by omega);obtain⟨xx,xi,xu,xk,xl⟩:=N7 (show mb < W.heap.size by omega);obtain⟨xs,xy,xf,xn,yb⟩:=N7 (show tb < W.heap.size by omega);clear h ho hk xe xc hf;go_enter func182,ntmps182;go_wp2_with (first | (go_at_call 221;refine CE (HK.out _ P4) ?_) | (go_at_call 218;refine CE (B5 _ _) ?_) | (go_at_call 222;refine CE (R8 _ _ _ hpc) ?_))
 go_region
 go_wp2_with (first | (go_at_call 221;refine CE (HK.out _ P4) ?_) | (go_at_call 218;refine CE (B5 _ _) ?_) | (go_at_call 222;refine CE (R8 _ _ _ hpc) ?_))
 go_region
 go_wp2_with (first | (go_at_call 221;refine CE (HK.out _ P4) ?_) | (go_at_call 218;refine CE (B5 _ _) ?_) | (go_at_call 222;refine CE (R8 _ _ _ hpc) ?_))
 obtain⟨hM,hT⟩:=HA.out.putFld (y:=(yk,yn)) HO.out HF.out (by rw [hnf];exact xt.out) xz.out;refine bodyPost_ret (v:=.agg #[.int .i64 2,.slice none 0 0,.int .i64 ((pc:Int)+1),.int .i64 0]) (by simp [results,results182,go_sem]) rfl ?_;exact⟨own,_,none,0,rfl,hM.same P4,rfl,hT.trans (A2.of_below P4),B8 _ _,fun b hb=>by cases hb⟩
end
end Go.Proofs.YtbkmgoffiigdbaaGreatDoor
