import Derived.Test.YtbkmgoffiigdbabGreatDoorVYc
namespace Go.Proofs.YtbkmgoffiigdbabGreatDoor
open Go.RowKit Go.Sort
set_option maxHeartbeats 8000000
set_option maxRecDepth 100000
theorem a3C (a:Option Addr) (n c b o:Nat) (R:Nat→Int) (again:Bool) (room before:Int) (pa:Option Addr) (pn pc pb po:Nat) (PR:Nat→Int) (xa:Option Addr) (xn xc xb xo:Nat) (XR:Nat→Int) (w:World) (hr:W7 w.heap.size w a n b o R) (hc:n≤c) (h1 : -9223372036854775808≤room) (h2:room≤9223372036854775807) (h3 : -9223372036854775808≤before) (h4:before≤9223372036854775807) (hpr:W7 w.heap.size w pa pn pb po PR)
  (hxr:a8Q w.heap.size w xa xn xb xo XR) (hxc:xn≤xc) (ht:Tab w) :
  Calls Tryz.prog 3 #[.slice a n c,.bool again,.int .i64 room,.int .i64 before,.slice pa pn pc,.slice xa xn xc] w fun e w'=>e=.returned (.bool true)∧Below w.heap.size w w':=by
 obtain⟨q0,q1⟩:=fS room;obtain⟨p,hp⟩:=Int.eq_ofNat_of_zero_le q0;obtain⟨cap,hcap⟩:∃cap:Nat,cap=1+p:=⟨_,rfl⟩
 have hcap1:1≤cap:=by omega
 have hcap2:cap≤40:=by omega
 have HCAP:Hid ((cap:Int)=1+D1 room 40):=hid (by rw [hp,hcap];omega);have hwr:IntKind.i64.wrap (1+(p:Int))=(cap:Int):=by
  rw[Go.IntWalk.i64_in _ Q8,hcap];omega
 obtain⟨lx,hlx,hlnx,hsx⟩:=oE hxr (Nat.le_refl _) hxc;have hlx2:lx.length≤200:=by omega
 obtain⟨q400,q401⟩:=iB before;obtain⟨f0,hf0⟩:=Int.eq_ofNat_of_zero_le q400;have hf04:f0≤10000:=by omega
 have HFU:Hid (∀U:World,Calls Tryz.prog 9 #[.int .i64 before] U fun e w'=>e=.returned (.int .i64 (f0:Int))∧w'=U):=hid fun U=>by
  have:=rA before U h3 h4;rw[hf0] at this;exact this
 have HPI:Hid (∀U:World,Calls Tryz.prog 12 #[.int .i64 room,.int .i64 40] U fun e w'=>e=.returned (.int .i64 (p:Int))∧w'=U):=hid fun U=>by
  have:=kL room U h1 h2;rw[hp] at this;exact this
 have HLX:=hid hlnx;have HSX:=hid hsx;have HP:Hid (∀W,Below w.heap.size w W→Calls Tryz.prog 7 #[.slice a n c,.bool again] W fun e w'=>mK W e w'):=fun W hW=>rR a n c b o R again W ((hr.below hW).mono hW.size) hc
 have HT:=hid ht;have HPR:=hid hpr;have HRM:=hid (And.intro h1 h2);have h0:0 < w.heap.size:=ht.1;clear hr hpr ht hxr hlnx hsx h1 h2 h3 h4 q0 q1 hlx hp hcap q400 q401 hf0;go_enter Tryz.func3,Tryz.ntmps3;go_wp2_with fail;refine (HP.out _ P0).mono ?_
 rintro e w1 ⟨g,rfl,hpg,hck,hb1,har⟩;have hB1:Below w.heap.size w w1:=A1 hb1 P0;have ht1:Tab w1:=HT.out.held hB1.size (hB1.block 0 h0);have HBG:Hid (∀W,Below w1.heap.size w1 W→Calls Tryz.prog 6 #[.agg #[.slice g.a g.n g.c],.int .i64 room] W fun e w'=>jV g cap W e w'):=fun W hW=>qB g W (hpg.held hW.size fun k hk=>hW.block k (hpg.blk_lt hk)) (ht1.held hW.size (hW.block 0 ht1.1)) hck room HRM.out.1 HRM.out.2 cap HCAP.out
 have HB1:=hid hB1;have HPK:=hid (xB hck);have HAR:=hid har;clear hpg hck hb1 hB1 ht1 har HT HRM HCAP;go_wp2_with fail;refine (HBG.out _ P0).mono ?_;rintro e w2 ⟨oa,ma,ga,Ra,rfl,hma,hbga,hsa,hb2,hna,hba⟩;obtain⟨s0,hs0⟩:∃s0:McA,s0=⟨0,[],[⟨0,0,List.replicate (g.f 0).l.toNat (0,0),[]⟩],List.replicate cap (0,[]),[]⟩:=⟨_,rfl⟩
 have HSM:Hid (SM w w2 g oa ma ga Ra s0):=hid ⟨hma,by rw [hs0];exact ⟨(lC hbga).1,(lC hbga).2⟩,hsa,by rw [hs0];exact uO HPK.out hcap1 hcap2,by rw [hs0];exact rK _ _ _,by rw [hs0];exact ⟨fun e=>absurd (show (0:Int)=1 from e) Q7,fun e=>absurd e Q9⟩,fun k t hk=>Nat.le_trans (Nat.le_trans HB1.out.size Q9) (hna k t hk),A1 hb2 (by repeat (first | exact HB1.out | exact Below.refl _ _ | refine Below.drew ?_ | refine Below.drewQ ?_ _ | refine Below.alloc ?_ (by first | (simp;done) | (simp;omega) | (have:=HB1.out.size;simp;omega)) _))⟩
 have HLEN:Hid (s0.obs.length=cap):=hid (by rw [hs0];exact List.length_replicate);clear hma hbga hsa hb2 hna hba hs0 HB1 HBG HP;go_wp2_with (go_at_call 9;refine (HFU.out _).mono ?_;rintro e w' ⟨rfl,hw⟩;rw [hw];clear hw w')
 refine (HSM.out.run HPK.out HAR.out f0 hf04).mono ?_;rintro e w3 ⟨rfl,oa3,Ra3,h3⟩;have HLEN3:Hid ((runA g f0 s0).obs.length=cap):=hid (by rw [xK];exact HLEN.out);generalize runA g f0 s0=s at *
 generalize G4 g f0 s0=m0 at *
 have H3:=hid h3;clear h3 HSM HLEN HFU;go_wp2_with fail;refine (H3.out.save HPK.out HAR.out).mono ?_;rintro e w4 ⟨gb,cap0,rfl,hb4,himg,hgb⟩;have H4:=hid (H3.out.later hb4);have HIMG:=hid himg;have hal:(A0 s).length≤cap:=by
  have:=K5 H3.out.inv.alive.nodup H3.out.inv.alive.lt;rw[HLEN3.out] at this;exact this
 have HWK:Hid (Calls Tryz.prog 11 #[.slice (some ⟨gb,0,none⟩) (imgB g (A9 s)).length cap0,.int .i64 (cap:Int),.slice xa lx.length xc] w4 fun e w'=>cY g (T8 s cap lx) w4 e w'):=hid (uA himg cap hcap1 hcap2 hal xa xc lx (HLX.out.later H4.out.bel) hlx2);have HTW:Hid (∀e w',cY g (T8 s cap lx) w4 e w'→∃ob mb gb Rb,e=.returned (.tuple #[.pointer (some ⟨mb,0,none⟩),.int .i64 0])∧TM w w' g oa3 ob ma mb ga gb Ra3 Rb s (T8 s cap lx)):=hid fun e w' hw=>H4.out.two HPK.out hcap1 hcap2 hal hlx2 hw
 have HREL:Hid (∃r,Rel r s (T8 s cap lx)):=hid (by
  obtain⟨_,_,⟨r,f3,f3'⟩,f4,_⟩:=iK H3.out.inv H3.out.ints hcap1 hcap2 hal hlx2;exact⟨r,f3.rel f3' (by rw [f4,HLEN3.out])⟩)
 clear hb4 himg hgb hal H3 H4 HIMG HLX HLEN3;generalize (imgB g (A9 s)).length=nimg at *
 generalize T8 s cap lx=t0 at *
 go_wp2_with (first | (go_at_call 12;refine (HPI.out _).mono ?_;rintro e w' ⟨rfl,hw⟩;rw [hw];clear hw w') | (go_at_call 13;refine (HSX.out _).mono ?_;rintro e w' ⟨rfl,hw⟩;rw [hw];clear hw w'))
 refine HWK.out.mono ?_;intro e w5 hw5;obtain⟨ob,mb,gb',Rb,rfl,htm⟩:=HTW.out e w5 hw5;obtain⟨r0,hr0⟩:=HREL.out;have HTM:=hid htm;have HR0:=hid hr0;clear htm hw5 hr0 HTW HWK HREL HPI HSX;go_wp2_with fail;refine (mQ HTM.out HPK.out HAR.out HR0.out).mono ?_;rintro e w6 ⟨rfl,hb6⟩;have H6:=hid (HTM.out.later hb6);clear hb6 HTM;go_wp2_with fail;go_loopw [19,20] (fun vo vi wr=>∃(i:Nat) (oa ob:Own) (Ra Rb:McR) (s t:McA) (r:Nat→Nat),i≤20∧i≤pn∧vo=.bool true∧vi=.int .i64 i∧TM w wr g oa ob ma mb ga gb' Ra Rb s t∧Rel r s t) (fun _ vi _=>pn - (intOf vi).toNat)
 case atStart=>exact ⟨0,_,_,_,_,_,_,_,by omega,Nat.zero_le _,rfl,rfl,H6.out,HR0.out⟩
 case round =>
  obtain⟨i,oa,ob,Ra,Rb,s,t,r,hi20,hip,rfl,rfl,htm,hrl⟩:=hrel;clear H6 HR0;have hpn:=HPR.out.1;by_cases hlt1:i < pn
  ·by_cases hlt2:i < 20
   ·obtain ⟨hpa,hpb,hpcell⟩:=HPR.out.2.1 Q8
    have hbd:=HPR.out.2.2 i;have hc0:=hpcell i hlt1;have x0:=(htm.bel.cell (p:=⟨pb,po+i,none⟩) hpb).trans hc0;have hpw:pb < wr.heap.size:=Nat.lt_of_lt_of_le hpb htm.bel.size;obtain⟨q400,q401⟩:=iB (PR i);obtain⟨f,hf⟩:=Int.eq_ofNat_of_zero_le q400;have hf4:f < 400:=by omega
    obtain⟨⟨q,hrel'⟩,hsteps⟩:=a3r HPK.out f hrl htm.inva htm.invb;have hm4:=nM g f s;have HRA:Hid (∀W,Below wr.heap.size wr W→Calls Tryz.prog 8 #[.pointer (some ⟨ma,0,none⟩),.int .i64 (f:Int)] W fun e w'=>e=.returned (.tuple #[.int .i64 (G4 g f s:Int),.int .i64 0])∧∃oa' Ra',TM w w' g oa' ob ma mb ga gb' Ra' Rb (runA g f s) t):=fun W hW=>(htm.later hW).run HPK.out HAR.out f Q8
    have HRB:Hid (∀W oa' Ra',TM w W g oa' ob ma mb ga gb' Ra' Rb (runA g f s) t→Calls Tryz.prog 8 #[.pointer (some ⟨mb,0,none⟩),.int .i64 (f:Int)] W fun e w'=>e=.returned (.tuple #[.int .i64 (G4 g f s:Int),.int .i64 0])∧∃ob' Rb',TM w w' g oa' ob' ma mb ga gb' Ra' Rb' (runA g f s) (runA g f t)):=fun W oa' Ra' h=>by
     refine (h.flip.run HPK.out HAR.out f Q8).mono ?_;rintro e w' ⟨rfl,ob',Rb',h'⟩;exact⟨by rw [hsteps],ob',Rb',h'.flip⟩
    have HREL:=hid hrel';rw[hpa];clear hrel' hsteps htm hrl hpcell hpn q400 q401;generalize runA g f s=s' at *
    generalize runA g f t=t' at *
    generalize G4 g f s=m at *
    generalize PR i=x at *
    have HFF:Hid (∀U:World,Calls Tryz.prog 9 #[.int .i64 x] U fun e w'=>e=.returned (.int .i64 (f:Int))∧w'=U):=hid fun U=>by
     have:=rA x U hbd.1 hbd.2;rw[hf] at this;exact this
    clear hf;go_wp2_with (go_at_call 9;refine (HFF.out _).mono ?_;rintro e w' ⟨rfl,hw⟩;rw [hw];clear hw w')
    refine (HRA.out _ P0).mono ?_;rintro e w4 ⟨rfl,oa4,Ra4,h4⟩;have x4:=(h4.bel.cell (p:=⟨pb,po+i,none⟩) hpb).trans hc0;have hpw4:pb < w4.heap.size:=Nat.lt_of_lt_of_le hpb h4.bel.size;have H4:=hid h4;clear h4 x0 hpw HRA;go_wp2_with (go_at_call 9;refine (HFF.out _).mono ?_;rintro e w' ⟨rfl,hw⟩;rw [hw];clear hw w')
    refine (HRB.out _ _ _ H4.out).mono ?_;rintro e w5 ⟨rfl,ob5,Rb5,h5⟩;have x5:=(h5.bel.cell (p:=⟨pb,po+i,none⟩) hpb).trans hc0;have hpw5:pb < w5.heap.size:=Nat.lt_of_lt_of_le hpb h5.bel.size;have H5:=hid h5;clear h5 x4 hpw4 HRB H4;by_cases e2:x.tmod 2=0
    ·go_wp2_with fail
     refine (mQ H5.out HPK.out HAR.out HREL.out).mono ?_;rintro e w8 ⟨rfl,hb8⟩;have H8:=hid (H5.out.later hb8);clear hb8;go_wp2_with fail;go_roundw
     case rel=>exact ⟨i+1,_,_,_,_,_,_,_,by omega,by omega,rfl,by go_num,H8.out,HREL.out⟩
     case measure=>simp [intOf];omega
    ·go_wp2_with fail
     refine (H5.out.flip.collect HPK.out).mono ?_;rintro e w7 ⟨⟨n7,rfl⟩,ob7,Rb7,h7⟩;have H7:=hid h7.flip;obtain⟨r7,hr7⟩:=HREL.out.collectR H5.out.inva H5.out.invb;have HR7:=hid hr7;clear h7 hr7;go_wp2_with fail;refine (mQ H7.out HPK.out HAR.out HR7.out).mono ?_;rintro e w8 ⟨rfl,hb8⟩;have H8:=hid (H7.out.later hb8);clear hb8;go_wp2_with fail;go_roundw
     case rel=>exact ⟨i+1,_,_,_,_,_,_,_,by omega,by omega,rfl,by go_num,H8.out,HR7.out⟩
     case measure=>simp [intOf];omega
   ·have HB8:=hid htm.bel
    clear htm hrl;go_wp2_with fail;go_ret;exact⟨rfl,HB8.out⟩
  ·have HB8:=hid htm.bel
   clear htm hrl;go_wp2_with fail;go_ret;exact⟨rfl,HB8.out⟩
end Go.Proofs.YtbkmgoffiigdbabGreatDoor
