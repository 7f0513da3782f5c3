import Derived.Test.YtbkmgoffiigdbabGreatDoorVYc
import Derived.Test.YtbkmgoffiigdbabGreatDoorVZa
namespace Go.Proofs.YtbkmgoffiigdbabGreatDoor
open Go.RowKit Go.Sort
set_option maxHeartbeats 8000000
set_option maxRecDepth 100000
theorem SM.hm {w0 w:World} {g:PgR} {oa:Own} {ma:Nat} {ga:PgR} {Ra:McR} {s:McA} (h:SM w0 w g oa ma ga Ra s) (hp:F2 g):HM w0 w oa ma ga Ra s:=⟨h.m,h.is,h.sa.inv hp h.inv,h.na,h.bel⟩
structure a9F (w w5:World) (ga gb:PgR) (oa ob:Own) (ma mb:Nat) (Ra Rb:McR) (s t:McA) (cp:Nat):Prop where
 a:HM w w5 oa ma ga Ra s
 b:HM w w5 ob mb gb Rb t
 frs:t.frs.length=s.frs.length
 obs:t.obs.length=cp
 taken:K8 t.obs=(A0 s).length
theorem tG (a:Option Addr) (n c b o:Nat) (R:Nat→Int) (again:Bool) (room steps other:Int) (xa:Option Addr) (xn xc xb xo:Nat) (XR:Nat→Int) (w:World) (hr:W7 w.heap.size w a n b o R) (hc:n≤c) (h1 : -9223372036854775808≤room) (h2:room≤9223372036854775807) (h3 : -9223372036854775808≤steps) (h4:steps≤9223372036854775807) (h5 : -9223372036854775808≤other) (h6:other≤9223372036854775807)
  (hxr:a8Q w.heap.size w xa xn xb xo XR) (hxc:xn≤xc) (ht:Tab w) :
  Calls Tryz.prog 4 #[.slice a n c,.bool again,.int .i64 room,.int .i64 steps,.int .i64 other,.slice xa xn xc] w fun e w'=>e=.returned (.bool true)∧Below w.heap.size w w':=by
 obtain⟨q0,q1⟩:=fS room;obtain⟨cap,hcap⟩:=Int.eq_ofNat_of_zero_le (show 0≤1+D1 room 40 by omega);have hcap1:1≤cap:=by omega
 have hcap2:cap≤40:=by omega
 have HCAP:Hid ((cap:Int)=1+D1 room 40):=hid hcap.symm;obtain⟨o0,o1⟩:=fS other;obtain⟨p,hp⟩:=Int.eq_ofNat_of_zero_le o0;obtain⟨cp,hcp⟩:∃cp:Nat,cp=1+p:=⟨_,rfl⟩
 have hcp1:1≤cp:=by omega
 have hcp2:cp≤40:=by omega
 have hwr:IntKind.i64.wrap (1+(p:Int))=(cp:Int):=by
  rw[Go.IntWalk.i64_in _ Q8,hcp];omega
 obtain⟨lx,hlx,hlnx,hsx⟩:=oE hxr (Nat.le_refl _) hxc;have hlx2:lx.length≤200:=by omega
 obtain⟨q400,q401⟩:=iB steps;obtain⟨f0,hf0⟩:=Int.eq_ofNat_of_zero_le q400;have hf04:f0≤10000:=by omega
 have HFU:Hid (∀U:World,Calls Tryz.prog 9 #[.int .i64 steps] U fun e w'=>e=.returned (.int .i64 (f0:Int))∧w'=U):=hid fun U=>by
  have:=rA steps U h3 h4;rw[hf0] at this;exact this
 have HPI:Hid (∀U:World,Calls Tryz.prog 12 #[.int .i64 other,.int .i64 40] U fun e w'=>e=.returned (.int .i64 (p:Int))∧w'=U):=hid fun U=>by
  have:=kL other U h5 h6;rw[hp] at this;exact this
 have HLX:=hid hlnx;have HSX:=hid hsx;have HP:Hid (∀W,Below w.heap.size w W→Calls Tryz.prog 7 #[.slice a n c,.bool again] W fun e w'=>mK W e w'):=fun W hW=>rR a n c b o R again W ((hr.below hW).mono hW.size) hc
 have HT:=hid ht;have HRM:=hid (And.intro h1 h2);have h0:0 < w.heap.size:=ht.1;clear hr ht hxr hlnx hsx h1 h2 h3 h4 h5 h6 q0 q1 o0 o1 hlx hp hcp hcap q400 q401 hf0;go_enter Tryz.func4,Tryz.ntmps4;go_wp2_with fail;refine (HP.out _ P0).mono ?_;rintro e w1 ⟨g,rfl,hpg,hck,hb1,har⟩
 have hB1:Below w.heap.size w w1:=A1 hb1 P0;have ht1:Tab w1:=HT.out.held hB1.size (hB1.block 0 h0);have HBG:Hid (∀W,Below w1.heap.size w1 W→Calls Tryz.prog 6 #[.agg #[.slice g.a g.n g.c],.int .i64 room] W fun e w'=>jV g cap W e w'):=fun W hW=>qB g W (hpg.held hW.size fun k hk=>hW.block k (hpg.blk_lt hk)) (ht1.held hW.size (hW.block 0 ht1.1)) hck room HRM.out.1 HRM.out.2 cap HCAP.out
 have HB1:=hid hB1;have HPK:=hid (xB hck);have HAR:=hid har;clear hpg hck hb1 hB1 ht1 har HT HRM HCAP;go_wp2_with fail;refine (HBG.out _ P0).mono ?_;rintro e w2 ⟨oa,ma,ga,Ra,rfl,hma,hbga,hsa,hb2,hna,hba⟩;obtain⟨s0,hs0⟩:∃s0:McA,s0=⟨0,[],[⟨0,0,List.replicate (g.f 0).l.toNat (0,0),[]⟩],List.replicate cap (0,[]),[]⟩:=⟨_,rfl⟩
 have HSM:Hid (SM w w2 g oa ma ga Ra s0):=hid ⟨hma,by rw [hs0];exact ⟨(lC hbga).1,(lC hbga).2⟩,hsa,by rw [hs0];exact uO HPK.out hcap1 hcap2,by rw [hs0];exact rK _ _ _,by rw [hs0];exact ⟨fun e=>absurd (show (0:Int)=1 from e) Q7,fun e=>absurd e Q9⟩,fun k t hk=>Nat.le_trans (Nat.le_trans HB1.out.size Q9) (hna k t hk),A1 hb2 (by repeat (first | exact HB1.out | exact Below.refl _ _ | refine Below.drew ?_ | refine Below.drewQ ?_ _ | refine Below.alloc ?_ (by first | (simp;done) | (simp;omega) | (have:=HB1.out.size;simp;omega)) _))⟩
 have HLEN:Hid (s0.obs.length=cap):=hid (by rw [hs0];exact List.length_replicate);clear hma hbga hsa hb2 hna hba hs0 HB1 HBG HP;go_wp2_with (go_at_call 9;refine (HFU.out _).mono ?_;rintro e w' ⟨rfl,hw⟩;rw [hw];clear hw w')
 refine (HSM.out.run HPK.out HAR.out f0 hf04).mono ?_;rintro e w3 ⟨rfl,oa3,Ra3,h3⟩;have HLEN3:Hid ((runA g f0 s0).obs.length=cap):=hid (by rw [xK];exact HLEN.out);generalize runA g f0 s0=s at *
 generalize G4 g f0 s0=m0 at *
 have H3:=hid h3;clear h3 HSM HLEN HFU;go_wp2_with fail;refine (H3.out.save HPK.out HAR.out).mono ?_;rintro e w4 ⟨gb,cap0,rfl,hb4,himg,hgb⟩;have H4:=hid (H3.out.later hb4);have HIMG:=hid himg;clear hb4 H3
 -- how many are alive
 have hm4:=H4.out.hm HPK.out;have hpa:F2 ga:=H4.out.sa.pgOk HPK.out;have hinv:=hm4.inv;obtain⟨A,hA⟩:∃A,(A0 s).length=A:=⟨_,rfl⟩
 have hA40:A≤40:=by rw [← hA];have:=K5 hinv.alive.nodup hinv.alive.lt;have:=hinv.cap;omega
 have HHP:Hid (∀W,Below w4.heap.size w4 W→Calls Tryz.prog 17 #[.pointer (some ⟨ma,0,none⟩)] W fun e w'=>(∃a c,e=.returned (.slice a cap c)∧nS w' a s.obs)∧Below W.heap.size W w'):=hid fun W hW=>by
  have:=(hm4.later hW).heap;unfold iO at this;rw[HLEN3.out] at this;exact this
 have HFR:Hid (∀W,Below w4.heap.size w4 W→Calls Tryz.prog 19 #[.pointer (some ⟨ma,0,none⟩)] W fun e w'=>kX s.frs W e w'):=hid fun W hW=>(hm4.later hW).frames hpa
 have hfr:=C1.frs_len hpa hm4;have hdp:=hinv.depth;have hvlen:(D5 s.frs).length≤30000:=by
  have hb:=oI s.frs 1000 hfr;have:s.frs.length*(2*1000)≤12*(2*1000):=Nat.mul_le_mul_right _ hdp;omega
 have HRO:Hid (∀W a c,pL W a s.frs→Calls Tryz.prog 18 #[.slice a s.frs.length c] W fun e w'=>eQ (D5 s.frs) W e w'):=hid fun W a c h=>a4X a c s.frs W Q8 hfr h
 have HRE:Hid (∀w0 W a c v,nS w0 a s.obs→Below w0.heap.size w0 W→W.ownsRow w0.heap.size 73 2 v (D5 s.frs).length (A5 (D5 s.frs))→Calls Tryz.prog 16 #[.slice a cap c,v] W fun e w'=>e=.returned (.int .i64 (A:Int))∧Below w0.heap.size w0 w'):=hid fun w0 W a c v ho hB hrow=>by
  have:=a1M a c s.obs v (D5 s.frs) w0 W (by rw [HLEN3.out];omega) (by rw [HLEN3.out];omega) ho hB hinv.obs hvlen (a5s hinv) hrow;rw[HLEN3.out] at this;rw[← hA];exact this
 have HWG:Hid (A≤cp→∀W,Below w4.heap.size w4 W→Calls Tryz.prog 11 #[.slice (some ⟨gb,0,none⟩) (imgB g (A9 s)).length cap0,.int .i64 (cp:Int),.slice xa lx.length xc] W fun e w'=>∃ob mb gb' Rb t,e=.returned (.tuple #[.pointer (some ⟨mb,0,none⟩),.int .i64 0])∧a9F w w' ga gb' oa3 ob ma mb Ra3 Rb s t cp∧F2 gb'∧Below w4.heap.size w4 w'∧∀V,Below w'.heap.size w' V→Calls Tryz.prog 10 #[.pointer (some ⟨mb,0,none⟩)] V fun e w''=>gS (imgB g (A9 s)) V e w''):=hid fun hle W hW=>by
  have hS:=H4.out.later hW;refine (uA (himg.later hW) cp hcp1 hcp2 Q8 xa xc lx (HLX.out.later hS.bel) hlx2).mono ?_;intro e w' hw;obtain⟨f1,f2,⟨r,f3,f3'⟩,f4,f5⟩:=iK hS.inv hS.ints hcp1 hcp2 Q8 hlx2;have hbw:Below W.heap.size W w':=by obtain ⟨_,_,_,_,_,_,_,_,_,hB,_⟩:=hw;exact hB
  obtain⟨ob,mb,gb',Rb,rfl,htm⟩:=hS.two HPK.out hcp1 hcp2 Q8 hlx2 hw;refine⟨ob,mb,gb',Rb,_,rfl,⟨⟨htm.two.a,htm.isa,htm.sa.inv HPK.out htm.inva,htm.na,htm.bel⟩,⟨htm.two.b,htm.isb,htm.sb.inv HPK.out htm.invb,htm.nb,htm.bel⟩,by rw [f3.frs,List.length_map],f4,f5⟩,htm.sb.pgOk HPK.out,A1 hbw hW,fun V hV=>?_⟩;have:=(htm.later hV).flip.save HPK.out HAR.out;rw[a4O f3 f3' hS.inv f1] at this
  exact this
 have HWR:Hid (cp < A→∀W,Below w4.heap.size w4 W→Calls Tryz.prog 11 #[.slice (some ⟨gb,0,none⟩) (imgB g (A9 s)).length cap0,.int .i64 (cp:Int),.slice xa lx.length xc] W fun e w'=>e=.returned (.tuple #[.pointer none,.int .i64 4])∧Below W.heap.size W w'):=hid fun hlt W hW=>a3z (himg.later hW) cp hcp1 hcp2 Q8 xa lx.length xc
 have HIB:Hid (Y2 w4 (some ⟨gb,0,none⟩) (imgB g (A9 s))):=hid himg.bytes;have HIL:Hid ((imgB g (A9 s)).length≤20000):=hid (by
  have hml:=nE (iA HPK.out HAR.out) (bL HPK.out H4.out.inv H4.out.ints);have hcl:(R0 g (A9 s)).length=(machB g (A9 s)).length+4:=by
   rw[lG,List.length_append];show 4+_=_;omega
  rw[uM];omega)
 have hPA:=hid hpa;have HW4:Hid (Below w.heap.size w w4):=hid H4.out.bel;clear himg hgb hm4 hpa hinv hfr hdp hvlen H4 HIMG HLX HLEN3;generalize imgB g (A9 s)=img at *
 go_wp2_with fail;refine (HHP.out _ (Below.refl _ _)).mono ?_;rintro e w6 ⟨⟨a6,c6,rfl,ho6⟩,hb6⟩;have HO6:=hid ho6;have HB6:=hid hb6;clear ho6 hb6 HHP;go_wp2_with fail;refine (HFR.out _ HB6.out).mono ?_;rintro e w7 ⟨⟨a7,c7,rfl,hf7⟩,hb7⟩;have HB7:=hid (A1 hb7 HB6.out);have HO7:=hid (HO6.out.later hb7);have HF7:=hid hf7;clear hb7 hf7 HO6 HFR HB6;go_wp2_with fail;refine (HRO.out _ a7 c7 HF7.out).mono ?_
 rintro e w8 ⟨v8,rfl,hown8,hb8⟩;have HO8:=hid hown8;have HB8:=hid hb8;clear hown8 hb8 HF7 HRO;go_wp2_with fail;refine (HRE.out w7 _ a6 c6 v8 HO7.out HB8.out HO8.out).mono ?_;rintro e w9 ⟨rfl,hb9⟩;have HB9:=hid (A1 hb9 HB7.out);clear hb9 HB7 HB8 HO7 HO8 HRE;have HAL:=hid hA;clear hA;by_cases hle:A≤cp
 ·have hgt:¬(cp:Int) < (A:Int):=by omega
  go_wp2_with (first | (go_at_call 12;refine (HPI.out _).mono ?_;rintro e w' ⟨rfl,hw⟩;rw [hw];clear hw w') | (go_at_call 13;refine (HSX.out _).mono ?_;rintro e w' ⟨rfl,hw⟩;rw [hw];clear hw w'))
  refine (HWG.out hle _ HB9.out).mono ?_;rintro e w10 ⟨ob,mb,gb',Rb,t,rfl,hew,hpb,hb10,hsv⟩;have HSV:=hid hsv;have HB10:=hid hb10;obtain⟨d,hst⟩:∃d:Nat,∀W,Below w10.heap.size w10 W→Calls Tryz.prog 20 #[.pointer (some ⟨mb,0,none⟩)] W fun e w'=>e=.returned (.agg #[.int .i64 t.st,.int .i64 (A:Int),.int .i64 (d:Int)])∧Below W.heap.size W w':=⟨_,fun W hW=>by
   have:=(hew.b.later hW).status;rw[hew.taken,HAL.out] at this;exact this⟩
  have HST:=hid hst;have hpa:F2 ga:=hPA.out;have HFA:Hid (∀W,Below w10.heap.size w10 W→Calls Tryz.prog 19 #[.pointer (some ⟨ma,0,none⟩)] W fun e w'=>∃a c,e=.returned (.slice a s.frs.length c)∧Below W.heap.size W w'):=hid fun W hW=>((hew.a.later hW).frames hpa).mono fun e w' ⟨⟨a,c,h1,_⟩,h2⟩=>⟨a,c,h1,h2⟩
  have HFB:Hid (∀W,Below w10.heap.size w10 W→Calls Tryz.prog 19 #[.pointer (some ⟨mb,0,none⟩)] W fun e w'=>∃a c,e=.returned (.slice a s.frs.length c)∧Below W.heap.size W w'):=hid fun W hW=>((hew.b.later hW).frames hpb).mono fun e w' ⟨⟨a,c,h1,_⟩,h2⟩=>⟨a,c,by rw [← hew.frs];exact h1,h2⟩
  have HHB:Hid (∀W,Below w10.heap.size w10 W→Calls Tryz.prog 17 #[.pointer (some ⟨mb,0,none⟩)] W fun e w'=>∃a c,e=.returned (.slice a cp c)∧Below W.heap.size W w'):=hid fun W hW=>((hew.b.later hW).heap).mono fun e w' ⟨⟨a,c,h1,_⟩,h2⟩=>⟨a,c,by rw [← hew.obs];exact h1,h2⟩
  generalize t.st=st2 at *
  generalize s.frs.length=fl at *
  clear hew hpb hb10 hsv hst hpa HWG HWR HPI HSX HB9;go_wp2_with fail;refine (HST.out _ (Below.refl _ _)).mono ?_;rintro e w11 ⟨rfl,hb11⟩;have HB11:=hid hb11;have s11:=hb11.size;clear hb11 HST;go_wp2_with fail;have hbx:Below w10.heap.size w10 (w11.alloc (.cells #[.int .i64 st2,.int .i64 (A:Int),.int .i64 (d:Int)] 50)):=Below.alloc HB11.out s11 _;have HBX:=hid hbx;refine (HSV.out _ hbx).mono ?_;rintro e w12 ⟨gb2,c12,rfl,hy12,hb12⟩
  have x12:w12.cell? ⟨w11.heap.size,1,none⟩=some (.int .i64 (A:Int)):=(hb12.cell (p:=⟨w11.heap.size,1,none⟩) Q9).trans Q6;have l12:w11.heap.size < w12.heap.size:=Nat.lt_of_lt_of_le Q9 hb12.size;have HB12:=hid (A1 hb12 HBX.out);have HY12:=hid hy12;clear hy12 hb12 hbx HSV HB11 HBX;go_wp2_with fail;refine (jS _ _ _ _ img _ HIL.out (HIB.out.later (A1 HB12.out HB10.out)) HY12.out).mono ?_
  rintro e w13 ⟨rfl,hb13⟩;have x13:=(hb13.cell (p:=⟨w11.heap.size,1,none⟩) l12).trans x12;have l13:w11.heap.size < w13.heap.size:=Nat.lt_of_lt_of_le l12 hb13.size;have HB13:=hid (A1 hb13 HB12.out);clear hb13 HB12 HY12 x12 l12;go_wp2_with fail;refine (HFB.out _ HB13.out).mono ?_;rintro e w14 ⟨a14,c14,rfl,hb14⟩;have HB14:=hid (A1 hb14 HB13.out);clear hb14 HB13 HFB x13;go_wp2_with fail;refine (HFA.out _ HB14.out).mono ?_
  rintro e w15 ⟨a15,c15,rfl,hb15⟩;have HB15:=hid (A1 hb15 HB14.out);clear hb15 HB14 HFA;go_wp2_with fail;refine (HHB.out _ HB15.out).mono ?_;rintro e w16 ⟨a16,c16,rfl,hb16⟩;have HB16:=hid (A1 (A1 (A1 hb16 HB15.out) HB10.out) HW4.out);clear hb16 HB15 HHB;go_wp2_with fail;go_ret;exact⟨rfl,HB16.out⟩
 ·have hgt:(cp:Int) < (A:Int):=by omega
  go_wp2_with (first | (go_at_call 12;refine (HPI.out _).mono ?_;rintro e w' ⟨rfl,hw⟩;rw [hw];clear hw w') | (go_at_call 13;refine (HSX.out _).mono ?_;rintro e w' ⟨rfl,hw⟩;rw [hw];clear hw w'))
  refine (HWR.out Q8 _ HB9.out).mono ?_;rintro e w10 ⟨rfl,hb10⟩;have HB10:=hid (A1 (A1 hb10 HB9.out) HW4.out);clear hb10 HWG HWR HPI HSX;go_wp2_with fail;go_ret;exact⟨rfl,HB10.out⟩
end Go.Proofs.YtbkmgoffiigdbabGreatDoor
