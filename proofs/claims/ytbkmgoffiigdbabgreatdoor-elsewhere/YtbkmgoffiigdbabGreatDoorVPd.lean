import Derived.Test.YtbkmgoffiigdbabGreatDoorVPc
namespace Go.Proofs.YtbkmgoffiigdbabGreatDoor
open Go.RowKit Go.Sort
set_option maxHeartbeats 4000000
set_option maxRecDepth 100000
theorem C9.layNew {own:Own} {mb:Nat} {g:PgR} {R:McR} {fs:List FrR} {f:FrR} {rest args:List Val} {va:Option Addr} {sb:Nat} {w W:World} (h:C9 w own mb g R fs f rest args va sb) (hB:Below w.heap.size w W) (j:Nat) (ds:List Int) (hj:eN R.obs R.dr j ds) (hn:R.obs.length≤1000) (hdn:R.dr.length≤1000) (p:ObR) (nb nc:Nat) (hfv:p.fv=.slice (some ⟨nb,0,none⟩) p.fl.length nc) (hnew:jZ own g p.fv) (hrow:W.ownsRow 0 73 2 p.fv p.fl.length (A5 p.fl)) :
  Calls Tryz.prog 87 #[.pointer (some ⟨mb,4,none⟩),.agg #[.int .u8 p.kind,.slice (some ⟨nb,0,none⟩) p.fl.length nc]] W fun e w'=>∃dv,e=.returned (.int .i64 (j:Int))∧C9 w' (own.upd p.fv.ownBlock (.fld j)) mb g { R with dv:=dv,dr:=ds,obs:=R.obs.set j p } fs f rest args va sb∧oX own mb W w':=by
 have hmU:=h.m.same hB.size fun k hk=>hB.block k hk
 have:=a3g hmU j ds hj hn hdn p nb nc hfv hnew hrow;rw[hfv] at this;refine this.mono ?_;rintro e w' ⟨dv,rfl,hm,hb⟩;refine⟨dv,rfl,h.laid hm rfl (fun k i hk=>hnew.upd hk) (fun k i hk=>?_),hb⟩;have hkl:=h.m.lt k _ hk;exact (hb.block k (Nat.lt_of_lt_of_le hkl hB.size) (fun e=>by rw [e,h.m.me] at hk;cases hk) (by rw [hk];simp) (by rw [hk];simp)).trans (hB.block k hkl)
theorem xS {own:Own} {mb:Nat} {w W w':World} {v:Value} {j:Nat} (hme:own mb=some .mach) (hnew:∀b,v.ownBlock=some b→w.heap.size≤b) (ht:A8 own w own W) (hb:oX own mb W w'):A8 own w (own.upd v.ownBlock (.fld j)) w' :=
 ⟨hb.os.trans ht.os,hb.tape.trans ht.tape,hb.output.trans ht.output,Nat.le_trans ht.size hb.size,fun k hk hn=>(hb.block k (Nat.lt_of_lt_of_le hk ht.size) (fun e=>by rw [e,hme] at hn;cases hn) (by rw [hn];simp) (by rw [hn];simp)).trans (ht.block k hk hn),fun k hk=>by
  unfold Own.upd;split
  ·rename_i e;have:=hnew k e;omega
  ·rfl⟩
def J4 (R:McR):McR:={ R with obs:=Y0 R.obs (A0 R.abs) }
theorem jF (R:McR):(J4 R).abs=G8 R.abs:=by
 unfold J4 G8 McR.abs;simp only[a2D]
theorem jG (R:McR):(J4 R).obs.length=R.obs.length:=fX _ _
theorem a4w {R:McR} {fs:List FrA} {f:FrA} {rest fl:List Val} {kind:Int} (h1:taken R.obs=R.obs.length) (h2:taken (J4 R).obs=(J4 R).obs.length):R6 R.abs fs f rest kind fl={ (J4 R).abs with st:=6 }:=by
 have e:G3 R.abs=(J4 R).abs:=by
  unfold G3;rw[if_pos (by rw [show R.abs.obs=R.obs.map ObR.abs from rfl,← T7,List.length_map];exact h1),jF]
 unfold R6;rw[e,if_pos (by rw [show (J4 R).abs.obs=(J4 R).obs.map ObR.abs from rfl,← T7,List.length_map];exact h2)]
theorem a1S {R:McR} {fs:List FrA} {f:FrA} {rest fl:List Val} {kind:Int} {j:Nat} {ds:List Int} (h1:taken R.obs=R.obs.length) (h2:taken (J4 R).obs≠(J4 R).obs.length) (hp:fA (J4 R).abs.obs R.dr=some (j,ds)) :
  R6 R.abs fs f rest kind fl=⟨0,R.out,fs++[⟨f.fn,f.pc+1,f.loc,rest++[(2,(j:Int))]⟩],(J4 R).abs.obs.set j (kind,fl),ds⟩:=by
 have e:G3 R.abs=(J4 R).abs:=by
  unfold G3;rw[if_pos (by rw [show R.abs.obs=R.obs.map ObR.abs from rfl,← T7,List.length_map];exact h1),jF]
 unfold R6;rw[e,if_neg (by rw [show (J4 R).abs.obs=(J4 R).obs.map ObR.abs from rfl,← T7,List.length_map];exact h2),show R.abs.dr=R.dr from rfl,hp];rfl
theorem a4x {R:McR} {fs:List FrA} {f:FrA} {rest fl:List Val} {kind:Int} {j:Nat} {ds:List Int} (h1:taken R.obs≠R.obs.length) (hp:fA R.abs.obs R.dr=some (j,ds)) :
  R6 R.abs fs f rest kind fl=⟨0,R.out,fs++[⟨f.fn,f.pc+1,f.loc,rest++[(2,(j:Int))]⟩],R.abs.obs.set j (kind,fl),ds⟩:=by
 have e:G3 R.abs=R.abs:=by
  unfold G3;rw[if_neg (by rw [show R.abs.obs=R.obs.map ObR.abs from rfl,← T7,List.length_map];exact h1)]
 unfold R6;rw[e,if_neg (by rw [show R.abs.obs=R.obs.map ObR.abs from rfl,← T7,List.length_map];exact h1),show R.abs.dr=R.dr from rfl,hp];rfl
theorem qA {own:Own} {mb:Nat} {g:PgR} {R:McR} {fs:List FrR} {f:FrR} {rest args:List Val} {va:Option Addr} {sb:Nat} {w W:World} (hq:F1 R) (h:C9 w own mb g R fs f rest args va sb) (hB:Below w.heap.size w W) (ho:Z0 R) (hal:(A0 R.abs).length≤1000) (hdn:R.dr.length≤1000) (hfu:taken R.obs=R.obs.length) (p:ObR) (nb nc:Nat) (hfv:p.fv=.slice (some ⟨nb,0,none⟩) p.fl.length nc) (hnew:w.heap.size≤nb) (hrow:W.ownsRow 0 73 2 p.fv p.fl.length (A5 p.fl)) (k:Nat) (hk:args.length=k) (vc:Nat) :
  Calls Tryz.prog 215 #[.pointer (some ⟨mb,0,none⟩),.slice va k vc,.int .u8 p.kind,.slice (some ⟨nb,0,none⟩) p.fl.length nc] W fun e w'=>DoA own mb g (R6 R.abs (fs.map FrR.abs) f.abs rest p.kind p.fl) w e w':=by
 have hff:(taken R.obs == R.obs.length)=true:=beq_iff_eq.2 hfu;have hvb:p.fv.ownBlock=some nb:=by rw [hfv];rfl
 have hnb:jZ own g p.fv:=h.m.nobody hvb hnew;have HF1:Hid (∀U,Below W.heap.size W U→Calls Tryz.prog 220 #[.pointer (some ⟨mb,4,none⟩)] U fun e w'=>e=.returned (.bool true)∧Below U.heap.size U w'):=by
  intro U hU;have hBU:=A1 hU hB;have:=rC (h.m.same hBU.size fun k hk=>hBU.block k hk) ho.pos ho.n;rw[hff] at this;exact this
 have HCO:Hid (∀U,Below W.heap.size W U→Calls Tryz.prog 33 #[.pointer (some ⟨mb,0,none⟩)] U fun e w'=>∃t,e=.returned (.int .i64 t)∧C9 w' own mb g (J4 R) fs f rest args va sb∧A8 own w own w'∧w'.ownsRow 0 73 2 p.fv p.fl.length (A5 p.fl)):=by
  intro U hU;have hBU:=A1 hU hB;refine (nW (h.m.same hBU.size fun k hk=>hBU.block k hk) ho hal).mono ?_;rintro e w' ⟨rfl,hm,hb⟩;refine⟨_,rfl,h.laid hm rfl (fun _ _ _=>rfl) (fun b i hb'=>?_),(A8.of_below hBU).trans hb.touched,A2 hrow fun b hb'=>?_⟩
  ·have hbl:=h.m.lt b _ hb'
   exact (hb.block b (Nat.lt_of_lt_of_le hbl hBU.size) (by rw [hb'];simp) (fun j=>by rw [hb'];simp)).trans (hBU.block b hbl)
  ·have h1:=(hnb b hb').1
   have hbW:=(hrow.lt b hb').2;exact (hb.block b (Nat.lt_of_lt_of_le hbW hU.size) (by rw [h1];simp) (fun j=>by rw [h1];simp)).trans (hU.block b hbW)
 have HF2:Hid (∀V U,C9 V own mb g (J4 R) fs f rest args va sb→Below V.heap.size V U→Calls Tryz.prog 220 #[.pointer (some ⟨mb,4,none⟩)] U fun e w'=>e=.returned (.bool (taken (J4 R).obs == (J4 R).obs.length))∧Below U.heap.size U w'):=by
  intro V U hV hU;exact rC (hV.m.same hU.size fun k hk=>hU.block k hk) (by rw [jG];exact ho.pos) (by rw [jG];exact ho.n)
 have hsq:F1 (J4 R):=hq;have HNB:=hid hnb;have HFV:=hid hfv;have HVB:=hid hvb;have HQ:=hid hsq;have HFU:=hid hfu;have hlen:(J4 R).obs.length≤1000:=by rw [jG];exact ho.n
 have hpos:0 < (J4 R).obs.length:=by rw [jG];exact ho.pos
 have hme:=h.m.me;clear h hB ho hal hfv hrow hff hvb hnb hq hsq hfu;by_cases h2:taken (J4 R).obs=(J4 R).obs.length
 ·have hf2:(taken (J4 R).obs == (J4 R).obs.length)=true:=beq_iff_eq.2 h2
  rw[a4w HFU.out h2];go_enter Tryz.func215,Tryz.ntmps215;go_wp2_with fail;refine (HF1.out _ (Below.refl _ _)).mono ?_;rintro e w2 ⟨rfl,hb2⟩;have HB2:=hid hb2;clear hb2;go_wp2_with fail;refine (HCO.out _ HB2.out).mono ?_;rintro e w3 ⟨t,rfl,hA3,ht3,hr3⟩;have HA3:=hid hA3;have HT3:=hid ht3;clear hA3 ht3 hr3;go_wp2_with fail;refine (HF2.out w3 _ HA3.out P0).mono ?_
  rintro e w4 ⟨rfl,hb4⟩;have HB4:Hid (Below w3.heap.size w3 w4):=A1 hb4 P0;clear hb4;go_wp2_with fail;go_ret;exact⟨own,J4 R,rfl,HA3.out.m.same HB4.out.size fun k hk=>HB4.out.block k hk,⟨rfl,HQ.out⟩,HT3.out.trans (A8.of_below HB4.out)⟩
 ·have hf2:(taken (J4 R).obs == (J4 R).obs.length)=false:=beq_eq_false_iff_ne.2 h2
  have h2A:K8 (J4 R).abs.obs≠(J4 R).abs.obs.length:=by
   rw[show (J4 R).abs.obs=(J4 R).obs.map ObR.abs from rfl,← T7,List.length_map];exact h2
  obtain⟨⟨j,ds⟩,hj⟩:=bN (dr:=R.dr) (by rw [show (J4 R).abs.obs=(J4 R).obs.map ObR.abs from rfl,List.length_map];exact hpos) h2A;have hpk:eN (J4 R).obs (J4 R).dr j ds:=kM hj;rw[a1S HFU.out h2 hj];have HLA:Hid (∀V U,C9 V own mb g (J4 R) fs f rest args va sb→V.ownsRow 0 73 2 p.fv p.fl.length (A5 p.fl)→Below V.heap.size V U→Calls Tryz.prog 87 #[.pointer (some ⟨mb,4,none⟩),.agg #[.int .u8 p.kind,.slice (some ⟨nb,0,none⟩) p.fl.length nc]] U fun e w'=>∃dv,e=.returned (.int .i64 (j:Int))∧C9 w' (own.upd p.fv.ownBlock (.fld j)) mb g { J4 R with dv:=dv,dr:=ds,obs:=(J4 R).obs.set j p } fs f rest args va sb∧oX own mb U w'):=fun V U hV hr hU =>
   hV.layNew hU j ds hpk hlen hdn p nb nc HFV.out HNB.out (A2 hr fun b hb=>hU.block b (hr.lt b hb).2)
  clear hpk h2A hj;go_enter Tryz.func215,Tryz.ntmps215;go_wp2_with fail;refine (HF1.out _ (Below.refl _ _)).mono ?_;rintro e w2 ⟨rfl,hb2⟩;have HB2:=hid hb2;clear hb2;go_wp2_with fail;refine (HCO.out _ HB2.out).mono ?_;rintro e w3 ⟨t,rfl,hA3,ht3,hr3⟩;have HA3:=hid hA3;have HT3:=hid ht3;have HR3:=hid hr3;clear hA3 ht3 hr3;go_wp2_with fail;refine (HF2.out w3 _ HA3.out P0).mono ?_
  rintro e w4 ⟨rfl,hb4⟩;have HB4:Hid (Below w3.heap.size w3 w4):=A1 hb4 P0;clear hb4;go_wp2_with fail;refine (HLA.out w3 w4 HA3.out HR3.out HB4.out).mono ?_;rintro e w5 ⟨dv,rfl,hA5,hb5⟩;have HA5:=hid hA5;have HT5:Hid (A8 own w (own.upd p.fv.ownBlock (.fld j)) w5):=xS hme (fun b hb=>by rw [HVB.out] at hb;cases hb;exact hnew) (HT3.out.trans (A8.of_below HB4.out)) hb5
  clear hA5 hb5;go_wp2_with (first | (go_at_call 131;refine (bW _ _).mono ?_;rintro e w' ⟨rfl,o4,rfl⟩) | (go_at_call 205;refine (HA5.out.answer P0 vc _ [(2,(j:Int))] (J6 HA5.out.m P9 (D8 Q9)) Q9 k hk).mono ?_;rintro e w' ⟨own',sv',rfl,hm,ht⟩;have HMM:=hid hm;have HTT:=hid ht;clear hm ht))
  go_ret;refine⟨own',_,rfl,HMM.out,⟨?_,HQ.out⟩,HT5.out.trans HTT.out⟩;simp[McR.abs,FrR.abs,ObR.abs,List.map_set,J4]
theorem eG {own:Own} {mb:Nat} {g:PgR} {R:McR} {fs:List FrR} {f:FrR} {rest args:List Val} {va:Option Addr} {sb:Nat} {w W:World} (hq:F1 R) (h:C9 w own mb g R fs f rest args va sb) (hB:Below w.heap.size w W) (ho:Z0 R) (hal:(A0 R.abs).length≤1000) (hdn:R.dr.length≤1000) (p:ObR) (nb nc:Nat) (hfv:p.fv=.slice (some ⟨nb,0,none⟩) p.fl.length nc) (hnew:w.heap.size≤nb) (hrow:W.ownsRow 0 73 2 p.fv p.fl.length (A5 p.fl)) (k:Nat) (hk:args.length=k) (vc:Nat) :
  Calls Tryz.prog 215 #[.pointer (some ⟨mb,0,none⟩),.slice va k vc,.int .u8 p.kind,.slice (some ⟨nb,0,none⟩) p.fl.length nc] W fun e w'=>DoA own mb g (R6 R.abs (fs.map FrR.abs) f.abs rest p.kind p.fl) w e w':=by
 by_cases hfu:taken R.obs=R.obs.length
 ·exact qA hq h hB ho hal hdn hfu p nb nc hfv hnew hrow k hk vc
 ·obtain ⟨⟨j,ds⟩,hj⟩:=bN (obs:=R.abs.obs) (dr:=R.dr) (by rw [show R.abs.obs=R.obs.map ObR.abs from rfl,List.length_map];exact ho.pos) (by rw [show R.abs.obs=R.obs.map ObR.abs from rfl,← T7,List.length_map];exact hfu)
  refine (vP h hB j ds (kM hj) ho.n hdn p nb nc hfv hnew hrow k hk vc).mono ?_;rintro e w' ⟨own',R',rfl,hm,⟨sv',dv',rfl⟩,ht⟩;rw[a4x hfu hj];exact⟨own',_,rfl,hm,⟨by simp [McR.abs,FrR.abs,ObR.abs,List.map_set],hq⟩,ht⟩
theorem zE {own:Own} {mb:Nat} {g:PgR} {R:McR} {fs:List FrR} {f:FrR} {rest:List Val} {va:Option Addr} {sb:Nat} {w:World} {x:Val} (h:C9 w own mb g R fs f rest [x] va sb) (hk:x.1≠2) (a:Int) (vc:Nat) :
  Calls Tryz.prog 194 #[.pointer (some ⟨mb,0,none⟩),.int .i64 a,.slice va 1 vc] w fun e w'=>G7 2 w e w':=by
 obtain⟨o,rfl,hsb,c0,c1⟩:=h.one;have h1:(x.1 == 2)=false:=beq_eq_false_iff_ne.2 hk;clear h hk;go_enter Tryz.func194,Tryz.ntmps194;go_wp2_with (first | (go_at_call 102;refine (L0 _ _ _).mono ?_;rintro e w' ⟨rfl,o4,rfl⟩))
 go_ret;exact⟨rfl,P0⟩
theorem a3U {own:Own} {mb:Nat} {g:PgR} {R:McR} {fs:List FrR} {f:FrR} {rest:List Val} {va:Option Addr} {sb:Nat} {w:World} (hq:F1 R) (n:Int) (h:C9 w own mb g R fs f rest [(2,n)] va sb) (ho:Z0 R) (hal:(A0 R.abs).length≤1000) (hdn:R.dr.length≤1000) (a:Int) (vc:Nat) :
  Calls Tryz.prog 194 #[.pointer (some ⟨mb,0,none⟩),.int .i64 a,.slice va 1 vc] w fun e w'=>DoA own mb g (R6 R.abs (fs.map FrR.abs) f.abs rest 3 [(2,n)]) w e w':=by
 obtain⟨o,rfl,hsb,c0,c1⟩:=h.one;simp only at c0 c1;have HAN:Hid (∀W nb,Below w.heap.size w W→W.heap.size=nb→Calls Tryz.prog 215 #[.pointer (some ⟨mb,0,none⟩),.slice (some ⟨sb,o,none⟩) 1 vc,.int .u8 3,.slice (some ⟨nb,0,none⟩) 1 1] (W.alloc (Obj.cells #[.int .u8 2,.int .i64 n] 73)) fun e w'=>DoA own mb g (R6 R.abs (fs.map FrR.abs) f.abs rest 3 [(2,n)]) w e w'):=by
  rintro W _ hW rfl;have hrow:(W.alloc (Obj.cells #[.int .u8 2,.int .i64 n] 73)).ownsRow 0 73 2 (.slice (some ⟨W.heap.size,0,none⟩) 1 1) 1 (A5 [(2,n)]):=by
   have:=World.ownsRow_lit (base:=0) (e:=73) (size:=2) W #[.int .u8 2,.int .i64 n] 1 (Nat.zero_le _) Q0 rfl;exact this
  exact eG hq h (Below.alloc hW hW.size _) ho hal hdn ⟨3,.slice (some ⟨W.heap.size,0,none⟩) 1 1,[(2,n)]⟩ W.heap.size 1 rfl hW.size hrow 1 rfl vc
 clear h ho hal hdn hq;generalize R6 R.abs (fs.map FrR.abs) f.abs rest 3 [(2,n)]=s at *
 go_enter Tryz.func194,Tryz.ntmps194;go_wp2_with (first | (go_at_call 102;refine (L0 _ _ _).mono ?_;rintro e w' ⟨rfl,o4,rfl⟩) | (go_at_call 215;refine (HAN.out _ _ ?_ ?_).mono ?_;exact P0;exact Q9;rintro e w' ⟨own',R',rfl,hm,hp,ht⟩))
 try go_region_with (first | (go_at_call 215;refine (HAN.out _ _ ?_ ?_).mono ?_;exact P0;exact Q9;rintro e w' ⟨own',R',rfl,hm,hp,ht⟩))
 all_goals
  go_wp2_with fail;go_ret;exact⟨own',R',rfl,hm,hp,ht⟩
theorem a8m {own:Own} {mb:Nat} {g:PgR} {R:McR} {fs:List FrR} {f:FrR} {rest:List Val} {x:Val} {va:Option Addr} {sb:Nat} {w:World} (hq:F1 R) (h:C9 w own mb g R fs f rest [x] va sb) (ho:Z0 R) (hal:(A0 R.abs).length≤1000) (hdn:R.dr.length≤1000) (a:Int) (vc:Nat) :
  Calls Tryz.prog 194 #[.pointer (some ⟨mb,0,none⟩),.int .i64 a,.slice va 1 vc] w fun e w'=>DoA own mb g (doA g 18 a R.abs (fs.map FrR.abs) f.abs rest [x]) w e w':=by
 obtain⟨x1,x2⟩:=x;by_cases h1:x1=2
 ·subst h1
  have e:doA g 18 a R.abs (fs.map FrR.abs) f.abs rest [(2,x2)]=R6 R.abs (fs.map FrR.abs) f.abs rest 3 [(2,x2)]:=by
   simp[doA]
  rw[e];exact a3U hq x2 h ho hal hdn a vc
 ·have e:doA g 18 a R.abs (fs.map FrR.abs) f.abs rest [(x1,x2)]=F4 R.abs 2:=by
   simp only[doA];rw[if_neg h1]
  rw[e];exact (zE h h1 a vc).mono fun _ _ ht=>ht.doA h.m hq
def cL (al:List Nat) (v:Val):Val:=if v.1=2∧v.2.toNat∈al then v else (0,0)
theorem zQ (mb:Nat) (w:World) :
  Calls Tryz.prog 218 #[.pointer (some ⟨mb,0,none⟩),.agg #[.int .u8 0,.int .i64 0]] w fun e w'=>e=.returned (.agg #[.int .u8 0,.int .i64 0])∧Below w.heap.size w w':=by
 go_enter Tryz.func218,Tryz.ntmps218;go_wp2_with fail
 first | (go_region_with (first | (go_at_call 102;refine (L0 _ _ _).mono ?_;rintro e w' ⟨he,o4,rfl⟩;have he2:e=.returned (.bool false):=(by rw [he];rfl);clear he;subst he2))) | fail
 all_goals
  go_wp2_with fail;exact bodyPost_ret (v:=.agg #[.int .u8 0,.int .i64 0]) (by simp [results,Tryz.results218,go_sem]) rfl ⟨rfl,P0⟩
theorem zP {own:Own} {mb:Nat} {g:PgR} {R:McR} {w:World} (h:A3 w own mb g R) (ho:Z0 R) (hal:(A0 R.abs).length≤1000) (v:Val) (hv:v=(0,0)∨(v.1=2∧0≤v.2)) :
  Calls Tryz.prog 218 #[.pointer (some ⟨mb,0,none⟩),.agg #[.int .u8 v.1,.int .i64 v.2]] w fun e w'=>e=.returned (.agg #[.int .u8 (cL (A0 R.abs) v).1,.int .i64 (cL (A0 R.abs) v).2])∧Below w.heap.size w w':=by
 rcases hv with rfl | ⟨h2,h0⟩
 rotate_left
 ·obtain ⟨v1,v2⟩:=v
  simp only at h2 h0;subst h2;obtain⟨n,rfl⟩:=Int.eq_ofNat_of_zero_le h0;have HA:Hid (∀W,Below w.heap.size w W→Calls Tryz.prog 55 #[.pointer (some ⟨mb,0,none⟩)] W fun e w'=>Y3 (A0 R.abs) W e w'):=fun W hW=>mR (h.same hW.size fun k hk=>hW.block k hk) ho
  have HC:Hid (∀U W a c,W.ownsRow U 3 1 (.slice a (A0 R.abs).length c) (A0 R.abs).length (T4 (A0 R.abs))→Calls Tryz.prog 89 #[.slice a (A0 R.abs).length c,.int .i64 (n:Int)] W fun e w'=>e=.returned (.bool (decide (n∈A0 R.abs)))∧Below W.heap.size W w'):=fun U W a c hown=>by
   obtain⟨a',c',e,hna,_⟩:=aA.of_owns hown
   cases e;exact lF a _ c n W hal hna
  have HAV:Hid (cL (A0 R.abs) (2,(n:Int))=if n∈A0 R.abs then (2,(n:Int)) else (0,0)):=by
   refine hid ?_;unfold cL;by_cases hm:n∈A0 R.abs
   ·rw [if_pos ⟨rfl,by simpa using hm⟩,if_pos hm]
   ·rw [if_neg (fun e=>hm (by simpa using e.2)),if_neg hm]
  generalize A0 R.abs=al at *
  clear h ho h0;by_cases hm:n∈al
  ·have hd:decide (n∈al)=true:=decide_eq_true hm
   rw[HAV.out,if_pos hm];simp only;go_enter Tryz.func218,Tryz.ntmps218;go_wp2_with fail;go_region_with (first | (go_at_call 102;refine (L0 _ _ _).mono ?_;rintro e w' ⟨rfl,o4,rfl⟩) | (go_at_call 55;refine (HA.out _ ?_).mono ?_;exact P0;rintro e w2 ⟨v2,rfl,hv2,hb2⟩;obtain ⟨a2,c2,rfl,_,_⟩:=aA.of_owns hv2;have q0:w2.cell? ⟨w.heap.size,0,none⟩=some (.int .u8 2):=(hb2.cell (p:=⟨w.heap.size,0,none⟩) P7).trans Q6;have q1:w2.cell? ⟨w.heap.size,1,none⟩=some (.int .i64 (n:Int)):=(hb2.cell (p:=⟨w.heap.size,1,none⟩) P7).trans Q6;have hw2:w.heap.size < w2.heap.size:=Nat.lt_of_lt_of_le P7 hb2.size;have s0:w2.cell? ⟨w.heap.size+1,0,none⟩=some (.int .u8 0):=(hb2.cell (p:=⟨w.heap.size+1,0,none⟩) P7).trans Q6;have s1:w2.cell? ⟨w.heap.size+1,1,none⟩=some (.int .i64 0):=(hb2.cell (p:=⟨w.heap.size+1,1,none⟩) P7).trans Q6;have y0:w2.frozen? ⟨w.heap.size+1,0,none⟩=false:=(hb2.frozen (p:=⟨w.heap.size+1,0,none⟩) P7).trans Q6;have y1:w2.frozen? ⟨w.heap.size+1,1,none⟩=false:=(hb2.frozen (p:=⟨w.heap.size+1,1,none⟩) P7).trans Q6;have hv2':w.heap.size+1 < w2.heap.size:=Nat.lt_of_lt_of_le P7 hb2.size;have HV2:=hid hv2;have HB2:Hid (Below w.heap.size w w2):=A1 hb2 P0;clear hv2 hb2) | (go_at_call 89;go_must (refine (HC.out _ _ _ _ HV2.out).mono ?_);rintro e w3 ⟨he3,hb3⟩;rw [hd] at he3;subst he3;have r0:=(hb3.cell (p:=⟨w.heap.size,0,none⟩) (by first | exact hw2 | simpa using hw2)).trans q0;have r1:=(hb3.cell (p:=⟨w.heap.size,1,none⟩) (by first | exact hw2 | simpa using hw2)).trans q1;have hw3:w.heap.size < w3.heap.size:=Nat.lt_of_lt_of_le hw2 hb3.size;have s0':=(hb3.cell (p:=⟨w.heap.size+1,0,none⟩) hv2').trans s0;have s1':=(hb3.cell (p:=⟨w.heap.size+1,1,none⟩) hv2').trans s1;have y0':=(hb3.frozen (p:=⟨w.heap.size+1,0,none⟩) hv2').trans y0;have y1':=(hb3.frozen (p:=⟨w.heap.size+1,1,none⟩) hv2').trans y1;have hv3':w.heap.size+1 < w3.heap.size:=Nat.lt_of_lt_of_le hv2' hb3.size;have HB3:Hid (Below w.heap.size w w3):=A1 hb3 (by repeat (first | exact HB2.out | refine Below.drew ?_));clear hb3))
   all_goals
    go_wp2_with fail;have u0:(w3.setCell ⟨w.heap.size+1,0,none⟩ (.int .u8 2)).cell? ⟨w.heap.size+1,0,none⟩=some (.int .u8 2):=by go_simp
    have u1:((w3.setCell ⟨w.heap.size+1,0,none⟩ (.int .u8 2)).setCell ⟨w.heap.size+1,1,none⟩ (.int .i64 (n:Int))).cell? ⟨w.heap.size+1,1,none⟩=some (.int .i64 (n:Int)):=by go_simp
    exact bodyPost_ret (v:=.agg #[.int .u8 2,.int .i64 (n:Int)]) (by simp [results,Tryz.results218,go_sem,u0,u1]) rfl ⟨rfl,Below.setCell (Below.setCell HB3.out (Nat.le_succ _) _) (Nat.le_succ _) _⟩
  ·have hd:decide (n∈al)=false:=decide_eq_false hm
   rw[HAV.out,if_neg hm];simp only;go_enter Tryz.func218,Tryz.ntmps218;go_wp2_with fail;go_region_with (first | (go_at_call 102;refine (L0 _ _ _).mono ?_;rintro e w' ⟨rfl,o4,rfl⟩) | (go_at_call 55;refine (HA.out _ ?_).mono ?_;exact P0;rintro e w2 ⟨v2,rfl,hv2,hb2⟩;obtain ⟨a2,c2,rfl,_,_⟩:=aA.of_owns hv2;have q0:w2.cell? ⟨w.heap.size,0,none⟩=some (.int .u8 2):=(hb2.cell (p:=⟨w.heap.size,0,none⟩) P7).trans Q6;have q1:w2.cell? ⟨w.heap.size,1,none⟩=some (.int .i64 (n:Int)):=(hb2.cell (p:=⟨w.heap.size,1,none⟩) P7).trans Q6;have hw2:w.heap.size < w2.heap.size:=Nat.lt_of_lt_of_le P7 hb2.size;have s0:w2.cell? ⟨w.heap.size+1,0,none⟩=some (.int .u8 0):=(hb2.cell (p:=⟨w.heap.size+1,0,none⟩) P7).trans Q6;have s1:w2.cell? ⟨w.heap.size+1,1,none⟩=some (.int .i64 0):=(hb2.cell (p:=⟨w.heap.size+1,1,none⟩) P7).trans Q6;have y0:w2.frozen? ⟨w.heap.size+1,0,none⟩=false:=(hb2.frozen (p:=⟨w.heap.size+1,0,none⟩) P7).trans Q6;have y1:w2.frozen? ⟨w.heap.size+1,1,none⟩=false:=(hb2.frozen (p:=⟨w.heap.size+1,1,none⟩) P7).trans Q6;have hv2':w.heap.size+1 < w2.heap.size:=Nat.lt_of_lt_of_le P7 hb2.size;have HV2:=hid hv2;have HB2:Hid (Below w.heap.size w w2):=A1 hb2 P0;clear hv2 hb2) | (go_at_call 89;go_must (refine (HC.out _ _ _ _ HV2.out).mono ?_);rintro e w3 ⟨he3,hb3⟩;rw [hd] at he3;subst he3;have r0:=(hb3.cell (p:=⟨w.heap.size,0,none⟩) (by first | exact hw2 | simpa using hw2)).trans q0;have r1:=(hb3.cell (p:=⟨w.heap.size,1,none⟩) (by first | exact hw2 | simpa using hw2)).trans q1;have hw3:w.heap.size < w3.heap.size:=Nat.lt_of_lt_of_le hw2 hb3.size;have s0':=(hb3.cell (p:=⟨w.heap.size+1,0,none⟩) hv2').trans s0;have s1':=(hb3.cell (p:=⟨w.heap.size+1,1,none⟩) hv2').trans s1;have y0':=(hb3.frozen (p:=⟨w.heap.size+1,0,none⟩) hv2').trans y0;have y1':=(hb3.frozen (p:=⟨w.heap.size+1,1,none⟩) hv2').trans y1;have hv3':w.heap.size+1 < w3.heap.size:=Nat.lt_of_lt_of_le hv2' hb3.size;have HB3:Hid (Below w.heap.size w w3):=A1 hb3 (by repeat (first | exact HB2.out | refine Below.drew ?_));clear hb3))
   all_goals
    go_wp2_with fail;have u0:(w3.setCell ⟨w.heap.size+1,0,none⟩ (.int .u8 0)).cell? ⟨w.heap.size+1,0,none⟩=some (.int .u8 0):=by go_simp
    have u1:((w3.setCell ⟨w.heap.size+1,0,none⟩ (.int .u8 0)).setCell ⟨w.heap.size+1,1,none⟩ (.int .i64 0)).cell? ⟨w.heap.size+1,1,none⟩=some (.int .i64 0):=by go_simp
    exact bodyPost_ret (v:=.agg #[.int .u8 0,.int .i64 0]) (by simp [results,Tryz.results218,go_sem,u0,u1]) rfl ⟨rfl,Below.setCell (Below.setCell HB3.out (Nat.le_succ _) _) (Nat.le_succ _) _⟩
 ·have e:cL (A0 R.abs) (0,0)=(0,0):=if_neg (fun e=>by simp at e)
  rw[e];exact zQ mb w
theorem vZ {own:Own} {mb:Nat} {g:PgR} {R:McR} {fs:List FrR} {f:FrR} {rest:List Val} {x:Val} {va:Option Addr} {sb:Nat} {w:World} (h:C9 w own mb g R fs f rest [x] va sb) {kd:Int} {fa:Option Addr} {n fc:Nat} (hr:kA w mb x kd fa n fc) (h3:kd≠3) (a:Int) (vc:Nat) :
  Calls Tryz.prog 201 #[.pointer (some ⟨mb,0,none⟩),.int .i64 a,.slice va 1 vc] w fun e w'=>G7 2 w e w':=by
 obtain⟨o,rfl,hsb,c0,c1⟩:=h.one;obtain⟨x1,x2⟩:=x;simp only at c0 c1;have hmb:mb < w.heap.size:=h.m.lt mb _ h.m.me;have HREF:Hid (∀W,Below w.heap.size w W→Calls Tryz.prog 122 #[.pointer (some ⟨mb,4,none⟩),.agg #[.int .u8 x1,.int .i64 x2]] W fun e w'=>e=.returned (.agg #[.int .u8 kd,.slice fa n fc])∧Below W.heap.size W w'):=hr;have h3':(kd != 3)=true:=bne_iff_ne.2 h3;clear h hr h3;go_enter Tryz.func201,Tryz.ntmps201
 go_wp2_with fail;go_region_with (first | (go_at_call 122;refine (HREF.out _ ?_).mono ?_;exact P0;rintro e w2 ⟨rfl,hb2⟩;obtain ⟨hcc,hff⟩:=W9 hb2;have hs2:=hb2.size;have hz2:w.heap.size≤w2.heap.size:=(by simp at hs2;omega);have hz2c:sb < w2.heap.size:=Q8;have hz2d:mb < w2.heap.size:=Q8;(try (have hz2e:w.heap.size+1 < w2.heap.size:=(by simp at hs2;omega)));have HB2:Hid (Below w.heap.size w w2):=A1 hb2 P0;clear hb2))
 all_goals
  go_wp2_with fail;go_ret;exact⟨rfl,by have hq:=HB2.out.size;repeat (first | exact HB2.out | refine Below.drew ?_ | refine Below.setCell ?_ P6 _ | refine Below.alloc ?_ P6 _)⟩
theorem zD {own:Own} {mb:Nat} {g:PgR} {R:McR} {fs:List FrR} {f:FrR} {rest:List Val} {va:Option Addr} {sb:Nat} {w:World} {j:Nat} {o:ObR} {v:Val} (hq:F1 R) (h:C9 w own mb g R fs f rest [(2,(j:Int))] va sb) (hj:R.obs[j]?=some o) (h3:o.kind=3) (hfl:o.fl=[v]) (hv:v=(0,0)∨(v.1=2∧0≤v.2)) (ho:Z0 R) (hal:(A0 R.abs).length≤1000) (a:Int) (vc:Nat) :
  Calls Tryz.prog 201 #[.pointer (some ⟨mb,0,none⟩),.int .i64 a,.slice va 1 vc] w fun e w'=>DoA own mb g (goA R.abs (fs.map FrR.abs) f.abs (f.abs.pc+1) (rest++[cL (A0 R.abs) v])) w e w':=by
 obtain⟨so,rfl,hsb,c0,c1⟩:=h.one;simp only at c0 c1;have hmb:mb < w.heap.size:=h.m.lt mb _ h.m.me;have hfd:=h.m.fld j o hj;obtain⟨fb,fc,hfv,_,hfb⟩:=hfd.1.form (by rw [hfl];simp);have hrow:=hfd.1;rw[hfv] at hrow;rw[hfl] at hfv;have f0:w.cell? ⟨fb,0,none⟩=some (.int .u8 v.1):=by rw [hrow.cellAt 0 (by rw [hfl];simp),hfl];rfl
 have f1:w.cell? ⟨fb,1,none⟩=some (.int .i64 v.2):=by rw [hrow.cellAt 1 (by rw [hfl];simp),hfl];rfl
 have HREF:Hid (∀W,Below w.heap.size w W→Calls Tryz.prog 122 #[.pointer (some ⟨mb,4,none⟩),.agg #[.int .u8 2,.int .i64 (j:Int)]] W fun e w'=>e=.returned (.agg #[.int .u8 3,.slice (some ⟨fb,0,none⟩) 1 fc])∧Below W.heap.size W w'):=by
  intro W hW;have:=aN (h.m.same hW.size fun k hk=>hW.block k hk) hj;rw[hfv,h3] at this;exact this
 have HIF:Hid (∀W,Below w.heap.size w W→Calls Tryz.prog 218 #[.pointer (some ⟨mb,0,none⟩),.agg #[.int .u8 v.1,.int .i64 v.2]] W fun e w'=>e=.returned (.agg #[.int .u8 (cL (A0 R.abs) v).1,.int .i64 (cL (A0 R.abs) v).2])∧Below W.heap.size W w'):=fun W hW=>zP (h.m.same hW.size fun k hk=>hW.block k hk) ho hal v hv
 have HH:=hid h;have HPOST:Hid (∀e w',D0 own mb g R fs f (f.pc+1) (rest++[cL (A0 R.abs) v]) (.int .i64 0) w e w'→DoA own mb g (goA R.abs (fs.map FrR.abs) f.abs (f.abs.pc+1) (rest++[cL (A0 R.abs) v])) w e w'):=fun e w' hp=>hp.doA hq
 clear h hj h3 hfl hv ho hal hfd hfv hrow hq;generalize cL (A0 R.abs) v=y at *
 go_enter Tryz.func201,Tryz.ntmps201;go_wp2_with fail;go_region_with (first | (go_at_call 122;refine (HREF.out _ ?_).mono ?_;exact P0;rintro e w2 ⟨rfl,hb2⟩;obtain ⟨hcc,hff⟩:=W9 hb2;have hs2:=hb2.size;have hz2:w.heap.size≤w2.heap.size:=(by simp at hs2;omega);have hz2b:fb < w2.heap.size:=Q8;have hz2c:sb < w2.heap.size:=Q8;have hz2d:mb < w2.heap.size:=Q8;(try (have hz2e:w.heap.size+1 < w2.heap.size:=(by simp at hs2;omega)));have HB2:Hid (Below w.heap.size w w2):=A1 hb2 P0;have g0:=(HB2.out.cell (p:=⟨fb,0,none⟩) hfb).trans f0;have g1:=(HB2.out.cell (p:=⟨fb,1,none⟩) hfb).trans f1;clear hb2))
 all_goals
  go_wp2_with (first | (go_at_call 218;refine (HIF.out _ ?_).mono ?_;exact (by have hq:=HB2.out.size;repeat (first | exact HB2.out | refine Below.drew ?_ | refine Below.setCell ?_ P6 _ | refine Below.alloc ?_ P6 _));rintro e w3 ⟨rfl,hb3⟩;have HB3:Hid (Below w.heap.size w w3):=A1 hb3 (by have hq:=HB2.out.size;repeat (first | exact HB2.out | refine Below.drew ?_ | refine Below.setCell ?_ P6 _ | refine Below.alloc ?_ P6 _));clear hb3) | (go_at_call 205;refine (HH.out.answer (by have hq:=HB3.out.size;repeat (first | exact HB3.out | refine Below.drew ?_ | refine Below.alloc ?_ P6 _)) vc _ [y] (J6 (a:=y.1) (b:=y.2) HH.out.m (by have hq:=HB3.out.size;first | omega | (simp;omega)) (by first | exact D8 Q9 | exact O5 Q9 | exact T2 Q9)) Q9 1 rfl).mono ?_;rintro e w' ⟨own',sv',rfl,hm,ht⟩;have HP:Hid (DoA own mb g _ w _ w'):=HPOST.out _ w' ⟨own',sv',rfl,hm,ht⟩;clear hm ht))
  go_ret;exact HP.out
theorem a4K {own:Own} {mb:Nat} {g:PgR} {R:McR} {fs:List FrR} {f:FrR} {rest:List Val} {x:Val} {va:Option Addr} {sb:Nat} {w:World} (hq:F1 R) (h:C9 w own mb g R fs f rest [x] va sb) (hi:C1 g R.abs) (hx:VOk (R.obs.map ObR.abs) x) (ho:Z0 R) (hal:(A0 R.abs).length≤1000) (a:Int) (vc:Nat) :
  Calls Tryz.prog 201 #[.pointer (some ⟨mb,0,none⟩),.int .i64 a,.slice va 1 vc] w fun e w'=>DoA own mb g (doA g 24 a R.abs (fs.map FrR.abs) f.abs rest [x]) w e w':=by
 by_cases h3:(A4 (R.obs.map ObR.abs) x).1=3
 ·obtain ⟨hx2,hg⟩:=fU (obs:=R.obs.map ObR.abs) (v:=x) (by rw [h3];decide)
  have hok:=hi.obs _ (List.mem_of_getElem? (show R.abs.obs[x.2.toNat]?=some _ from hg));rw[List.getElem?_map] at hg;obtain⟨o,ho',hoa⟩:=Option.map_eq_some_iff.1 hg;obtain⟨h0,_⟩:=hx.ref hx2;obtain⟨j,hj⟩:=Int.eq_ofNat_of_zero_le h0;obtain⟨x1,x2⟩:=x;simp only at hx2 hj ho';subst hx2 hj;rw[Int.toNat_natCast] at ho';rw[← hoa] at hok h3;have hk:o.kind=3:=h3;rcases hok with hok | hok | hok | ⟨_,v,hfl,hvo,hv1⟩
  ·have:o.kind=0:=hok.1;omega
  ·have:o.kind=1:=hok.1;omega
  ·have:o.kind=2:=hok.1;omega
  ·have hv:v=(0,0)∨(v.1=2∧0≤v.2):=by
    rcases hvo with h | h | h
    ·exact Or.inl h
    ·exact absurd h hv1
    ·exact Or.inr ⟨h.1,h.2.1⟩
   have e:doA g 24 a R.abs (fs.map FrR.abs) f.abs rest [(2,(j:Int))]=goA R.abs (fs.map FrR.abs) f.abs (f.abs.pc+1) (rest++[cL (A0 R.abs) v]):=by
    have e2:A4 R.abs.obs (2,(j:Int))=o.abs:=hoa.symm;simp only[doA];rw[e2,if_pos h3];have e3:o.abs.2=[v]:=hfl;rw[e3];rfl
   rw[e];exact zD hq h ho' hk hfl hv ho hal a vc
 ·obtain ⟨kd,fa,n,fc,hR,rfl,rfl⟩:=bO h.m x hx
  have e:doA g 24 a R.abs (fs.map FrR.abs) f.abs rest [x]=F4 R.abs 2:=by
   simp only[doA];exact if_neg h3
  rw[e];exact (vZ h hR h3 a vc).mono fun _ _ ht=>ht.doA h.m hq
theorem a4I {own:Own} {mb:Nat} {g:PgR} {R:McR} {fs:List FrR} {f:FrR} {rest:List Val} {va:Option Addr} {sb:Nat} {w:World} (hq:F1 R) (h:C9 w own mb g R fs f rest [] va sb) (ho:Z0 R) (hal:(A0 R.abs).length≤1000) (hdn:R.dr.length≤1000) (a:Int) (h0:0≤a) (h8:a≤8) (vc:Nat) :
  Calls Tryz.prog 192 #[.pointer (some ⟨mb,0,none⟩),.int .i64 a,.slice va 0 vc] w fun e w'=>DoA own mb g (R6 R.abs (fs.map FrR.abs) f.abs rest 1 (List.replicate a.toNat (0,0))) w e w':=by
 obtain⟨a,rfl⟩:=Int.eq_ofNat_of_zero_le h0;rw[Int.toNat_natCast];obtain⟨i101,hi,hz,hsz,hby⟩:=info_parts Z7;have HMK:Hid (∀W:World,(Instr.makeSlice 45 (.int .i64 (a:Int)) (.int .i64 (a:Int))).run Tryz.prog W=.ok (.slice (some ⟨W.heap.size,0,none⟩) a a) (W.alloc (.cells (madeCells #[.int .u8 0,.int .i64 0] (a*2)) 73))):=by
  intro W;have hr:=run_make (P:=Tryz.prog) W 45 73 i101 _ Tryz.underlying45 hi hz .i64 .i64 a a Q8 (Int.le_refl _) (by rw [hby];omega) Q8;simpa [hsz,Value.cells] using hr
 have hmk:=HMK.out;have hrow:(w.alloc (Obj.cells (madeCells #[.int .u8 0,.int .i64 0] (a*2)) 73)).ownsRow 0 73 2 (.slice (some ⟨w.heap.size,0,none⟩) a a) a (A5 (List.replicate a (0,0))):=by
  have:=World.ownsRow_lit (base:=0) (e:=73) (size:=2) w (madeCells #[.int .u8 0,.int .i64 0] (a*2)) a (Nat.zero_le _) Q0 (by rw [size_madeCells]);rwa [eX] at this
 have HAN:Hid (Calls Tryz.prog 215 #[.pointer (some ⟨mb,0,none⟩),.slice va 0 vc,.int .u8 1,.slice (some ⟨w.heap.size,0,none⟩) a a] (w.alloc (Obj.cells (madeCells #[.int .u8 0,.int .i64 0] (a*2)) 73)) fun e w'=>DoA own mb g (R6 R.abs (fs.map FrR.abs) f.abs rest 1 (List.replicate a (0,0))) w e w'):=by
  have:=eG hq h (Below.alloc (Below.refl _ _) (Nat.le_refl _) (Obj.cells (madeCells #[.int .u8 0,.int .i64 0] (a*2)) 73)) ho hal hdn ⟨1,.slice (some ⟨w.heap.size,0,none⟩) a a,List.replicate a (0,0)⟩ w.heap.size a Q9 (Nat.le_refl _) (by simpa using hrow) 0 rfl vc;refine hid ?_;simpa using this
 clear h hi hz hsz hby HMK hrow ho hal hdn hq;generalize R6 R.abs (fs.map FrR.abs) f.abs rest 1 (List.replicate a (0,0))=s at *
 go_enter Tryz.func192,Tryz.ntmps192;go_wp2_with (go_at_call 215;refine HAN.out.mono ?_;rintro e w' ⟨own',R',rfl,hm,hp,ht⟩)
 go_ret;exact⟨own',R',rfl,hm,hp,ht⟩
theorem a1o {own:Own} {mb:Nat} {g:PgR} {R:McR} {fs:List FrR} {f:FrR} {rest:List Val} {va:Option Addr} {sb:Nat} {w:World} (hq:F1 R) (n:Nat) (h:C9 w own mb g R fs f rest [(1,(n:Int))] va sb) (ho:Z0 R) (hal:(A0 R.abs).length≤1000) (hdn:R.dr.length≤1000) (h12:n≤12) (a:Int) (vc:Nat) :
  Calls Tryz.prog 193 #[.pointer (some ⟨mb,0,none⟩),.int .i64 a,.slice va 1 vc] w fun e w'=>DoA own mb g (R6 R.abs (fs.map FrR.abs) f.abs rest 2 (List.replicate n (0,0))) w e w':=by
 obtain⟨o,rfl,hsb,c0,c1⟩:=h.one;simp only at c0 c1;have hin:B9 (n:Int) 0 12=true:=F8 Q8 Q8;obtain⟨i101,hi,hz,hsz,hby⟩:=info_parts Z7;have HMK:Hid (∀W:World,(Instr.makeSlice 45 (.int .i64 (n:Int)) (.int .i64 (n:Int))).run Tryz.prog W=.ok (.slice (some ⟨W.heap.size,0,none⟩) n n) (W.alloc (.cells (madeCells #[.int .u8 0,.int .i64 0] (n*2)) 73))):=by
  intro W;have hr:=run_make (P:=Tryz.prog) W 45 73 i101 _ Tryz.underlying45 hi hz .i64 .i64 n n Q8 (Int.le_refl _) (by rw [hby];omega) Q8;simpa [hsz,Value.cells] using hr
 have hmk:=HMK.out;have HAN:Hid (∀W nb,Below w.heap.size w W→W.heap.size=nb→Calls Tryz.prog 215 #[.pointer (some ⟨mb,0,none⟩),.slice (some ⟨sb,o,none⟩) 1 vc,.int .u8 2,.slice (some ⟨nb,0,none⟩) n n] (W.alloc (Obj.cells (madeCells #[.int .u8 0,.int .i64 0] (n*2)) 73)) fun e w'=>DoA own mb g (R6 R.abs (fs.map FrR.abs) f.abs rest 2 (List.replicate n (0,0))) w e w'):=by
  rintro W _ hW rfl;have hrow:(W.alloc (Obj.cells (madeCells #[.int .u8 0,.int .i64 0] (n*2)) 73)).ownsRow 0 73 2 (.slice (some ⟨W.heap.size,0,none⟩) n n) n (A5 (List.replicate n (0,0))):=by
   have:=World.ownsRow_lit (base:=0) (e:=73) (size:=2) W (madeCells #[.int .u8 0,.int .i64 0] (n*2)) n (Nat.zero_le _) Q0 (by rw [size_madeCells]);rwa [eX] at this
  have:=eG hq h (Below.alloc hW hW.size (Obj.cells (madeCells #[.int .u8 0,.int .i64 0] (n*2)) 73)) ho hal hdn ⟨2,.slice (some ⟨W.heap.size,0,none⟩) n n,List.replicate n (0,0)⟩ W.heap.size n Q9 hW.size (by simpa using hrow) 1 rfl vc;simpa using this
 clear h hi hz hsz hby HMK ho hal hdn hq;generalize R6 R.abs (fs.map FrR.abs) f.abs rest 2 (List.replicate n (0,0))=s at *
 go_enter Tryz.func193,Tryz.ntmps193;go_wp2_with (first | (go_at_call 140;refine (D4 _ _ _).mono ?_;rintro e w' ⟨rfl,o4,rfl⟩) | (go_at_call 41;refine (C2 _ _ _ _).mono ?_;rintro e w' ⟨rfl,rfl⟩) | (go_at_call 215;refine (HAN.out _ _ ?_ ?_).mono ?_;exact P0;exact Q9;rintro e w' ⟨own',R',rfl,hm,hp,ht⟩))
 try go_region_with (first | (go_at_call 215;refine (HAN.out _ _ ?_ ?_).mono ?_;exact P0;exact Q9;rintro e w' ⟨own',R',rfl,hm,hp,ht⟩))
 all_goals
  go_wp2_with fail;go_ret;exact⟨own',R',rfl,hm,hp,ht⟩
theorem vV {own:Own} {mb:Nat} {g:PgR} {R:McR} {fs:List FrR} {f:FrR} {rest:List Val} {va:Option Addr} {sb:Nat} {w:World} {x:Val} (h:C9 w own mb g R fs f rest [x] va sb) (hk:x.1≠1) (a:Int) (vc:Nat) :
  Calls Tryz.prog 193 #[.pointer (some ⟨mb,0,none⟩),.int .i64 a,.slice va 1 vc] w fun e w'=>G7 2 w e w':=by
 obtain⟨o,rfl,hsb,c0,c1⟩:=h.one;have h1:(x.1 == 1)=false:=beq_eq_false_iff_ne.2 hk;clear h hk;go_enter Tryz.func193,Tryz.ntmps193;go_wp2_with (first | (go_at_call 140;refine (D4 _ _ _).mono ?_;rintro e w' ⟨rfl,o4,rfl⟩) | (go_at_call 41;refine (C2 _ _ _ _).mono ?_;rintro e w' ⟨rfl,rfl⟩))
 go_ret;exact⟨rfl,P0⟩
theorem vW {own:Own} {mb:Nat} {g:PgR} {R:McR} {fs:List FrR} {f:FrR} {rest:List Val} {va:Option Addr} {sb:Nat} {w:World} {n:Int} (h:C9 w own mb g R fs f rest [(1,n)] va sb) (hk:¬(0≤n∧n≤12)) (a:Int) (vc:Nat) :
  Calls Tryz.prog 193 #[.pointer (some ⟨mb,0,none⟩),.int .i64 a,.slice va 1 vc] w fun e w'=>G7 4 w e w':=by
 obtain⟨o,rfl,hsb,c0,c1⟩:=h.one;simp only at c0 c1;have hin:B9 n 0 12=false:=by
  cases e:B9 n 0 12
  ·rfl
  ·exact absurd (L6.1 e) hk
 clear h hk;go_enter Tryz.func193,Tryz.ntmps193;go_wp2_with (first | (go_at_call 140;refine (D4 _ _ _).mono ?_;rintro e w' ⟨rfl,o4,rfl⟩) | (go_at_call 41;refine (C2 _ _ _ _).mono ?_;rintro e w' ⟨rfl,rfl⟩))
 go_ret;exact⟨rfl,P0⟩
theorem a6J {own:Own} {mb:Nat} {g:PgR} {R:McR} {fs:List FrR} {f:FrR} {rest:List Val} {x:Val} {va:Option Addr} {sb:Nat} {w:World} (hq:F1 R) (h:C9 w own mb g R fs f rest [x] va sb) (ho:Z0 R) (hal:(A0 R.abs).length≤1000) (hdn:R.dr.length≤1000) (a:Int) (vc:Nat) :
  Calls Tryz.prog 193 #[.pointer (some ⟨mb,0,none⟩),.int .i64 a,.slice va 1 vc] w fun e w'=>DoA own mb g (doA g 17 a R.abs (fs.map FrR.abs) f.abs rest [x]) w e w':=by
 obtain⟨x1,x2⟩:=x;by_cases h1:x1=1
 ·subst h1
  by_cases h12:0≤x2∧x2≤12
  ·obtain ⟨n,rfl⟩:=Int.eq_ofNat_of_zero_le h12.1
   have e:doA g 17 a R.abs (fs.map FrR.abs) f.abs rest [(1,(n:Int))]=R6 R.abs (fs.map FrR.abs) f.abs rest 2 (List.replicate n (0,0)):=by
    simp only[doA];rw[if_neg Q9,if_pos h12,Int.toNat_natCast]
   rw[e];exact a1o hq n h ho hal hdn Q8 a vc
  ·have e:doA g 17 a R.abs (fs.map FrR.abs) f.abs rest [(1,x2)]=F4 R.abs 4:=by
    simp only[doA];rw[if_neg Q9,if_neg h12]
   rw[e];exact (vW h h12 a vc).mono fun _ _ ht=>ht.doA h.m hq
 ·have e:doA g 17 a R.abs (fs.map FrR.abs) f.abs rest [(x1,x2)]=F4 R.abs 2:=by
   simp only[doA];rw[if_pos h1]
  rw[e];exact (vV h h1 a vc).mono fun _ _ ht=>ht.doA h.m hq
theorem a6I {own:Own} {mb:Nat} {g:PgR} {R:McR} {fs:List FrR} {f:FrR} {rest args:List Val} {va:Option Addr} {sb:Nat} {w:World} (hp:F2 g) (hi:C1 g R.abs) (hq:F1 R) {k:Nat} {a:Int} (hk:k < 28) (o:oM g f.abs k a rest args) (h:C9 w own mb g R fs f rest args va sb) (vc:Nat) :
  Calls Tryz.prog (doT k) #[.pointer (some ⟨mb,0,none⟩),.int .i64 a,.slice va args.length vc] w fun e w'=>DoA own mb g (doA g k a R.abs (fs.map FrR.abs) f.abs rest args) w e w':=by
 have hfA:R.abs.frs=fs.map FrR.abs++[f.abs]:=by show R.frs.map FrR.abs=_;rw [h.hf];simp
 obtain⟨h1,_⟩:=hi.top hfA;obtain⟨hpc,hl,_,_⟩:=h1.at hp;have hl':D3 g.n (g.f f.fn).l (g.f f.fn).n k a=true:=by
  have:D3 g.n (g.f f.abs.fn).l (g.f f.abs.fn).n ((g.f f.abs.fn).op f.abs.pc) ((g.f f.abs.fn).ar f.abs.pc)=true:=hl;rw[o.op,o.ar] at this;exact this
 have hloc:(f.loc.length:Int)=(g.f f.fn).l:=h1.loc;have hheap:=hi.heapOk hp;have hal:=hi.alive_len;have hdn:R.dr.length≤1000:=by have:=hi.dr;have e:R.abs.dr=R.dr:=rfl;rw [e] at this;omega
 have hargs:∀v,v∈args→VOk (R.obs.map ObR.abs) v:=fun v hv=>hi.here hfA (by show v∈f.loc++f.stk;rw [h.hst];simp [hv])
 have hrl:∀x,(A4 (R.obs.map ObR.abs) x).2.length≤1000:=fun x=>by have:=(aU hi (v:=x)).len;have e:R.abs.obs=R.obs.map ObR.abs:=rfl;rw [e] at this;omega
 have hn:=o.pops;have hcase:k=0∨k=1∨k=2∨k=3∨k=4∨k=5∨k=6∨k=7∨k=8∨k=9∨k=10∨k=11∨k=12∨k=13∨k=14∨k=15∨k=16∨k=17∨k=18∨k=19∨k=20∨k=21∨k=22∨k=23∨k=24∨k=25∨k=26∨k=27:=by omega
 rcases hcase with rfl | rfl | rfl | rfl | rfl | rfl | rfl | rfl | rfl | rfl | rfl | rfl | rfl | rfl | rfl | rfl | rfl | rfl | rfl | rfl | rfl | rfl | rfl | rfl | rfl | rfl | rfl | rfl
 ·obtain rfl:=bC hn rfl
  exact a0i hq (Or.inl rfl) h a vc
 ·obtain rfl:=bC hn rfl
  exact a0i hq (Or.inr rfl) h a vc
 ·obtain rfl:=bC hn rfl
  have:B9 a 0 ((g.f f.fn).l - 1)=true:=hl';rw[L6] at this;exact a8l hq h a this.1 Q8 vc
 ·obtain ⟨x,rfl⟩:=L4 hn rfl
  have:B9 a 0 ((g.f f.fn).l - 1)=true:=hl';rw[L6] at this;exact a6M hq h a this.1 Q8 vc
 ·obtain ⟨x,rfl⟩:=L4 hn rfl
  exact a1W hq (Or.inl rfl) h a vc
 ·obtain ⟨x,rfl⟩:=L4 hn rfl
  exact a1W hq (Or.inr (Or.inl rfl)) h a vc
 ·obtain ⟨x,y,rfl⟩:=W8 hn rfl
  exact nG hq Q8 h a vc
 ·obtain ⟨x,y,rfl⟩:=W8 hn rfl
  exact nG hq Q8 h a vc
 ·obtain ⟨x,y,rfl⟩:=W8 hn rfl
  exact nG hq Q8 h a vc
 ·obtain ⟨x,y,rfl⟩:=W8 hn rfl
  exact nG hq Q8 h a vc
 ·obtain ⟨x,y,rfl⟩:=W8 hn rfl
  exact nG hq Q8 h a vc
 ·obtain ⟨x,y,rfl⟩:=W8 hn rfl
  exact nG hq Q8 h a vc
 ·obtain rfl:=bC hn rfl
  exact a8k hq h a (fN hl' (Or.inl rfl)).1 vc
 ·obtain ⟨x,rfl⟩:=L4 hn rfl
  exact a1V hq h a (fN hl' (Or.inr rfl)).1 vc
 ·have hc:=L9 hl' rfl
  exact a8i hq h hp a hc.1 hc.2 (by have:=o.pops;simpa [G1] using this) vc
 ·obtain ⟨x,rfl⟩:=L4 hn rfl
  refine a4J hq h (fun c hc=>?_) a vc;have:=hi.frame hp (f:=c.abs) (by rw [hfA];exact List.mem_append_left _ (List.mem_map.2 ⟨c,hc,rfl⟩));have e1:c.abs.stk=c.stk:=rfl;have e2:c.abs.pc=c.pc:=rfl;rw[e1,e2] at this;omega
 ·obtain rfl:=bC hn rfl
  have:B9 a 0 8=true:=hl';rw[L6] at this;exact a4I hq h hheap hal hdn a this.1 this.2 vc
 ·obtain ⟨x,rfl⟩:=L4 hn rfl
  exact a6J hq h hheap hal hdn a vc
 ·obtain ⟨x,rfl⟩:=L4 hn rfl
  exact a8m hq h hheap hal hdn a vc
 ·obtain ⟨x,rfl⟩:=L4 hn rfl
  exact a9j hq h (hargs x Q9) (hrl x) a vc
 ·obtain ⟨x,y,rfl⟩:=W8 hn rfl
  exact a9l hq h (hargs x Q9) (hrl x) a vc
 ·obtain ⟨x,y,rfl⟩:=W8 hn rfl
  exact a9A hq h (hargs x Q9) (hrl x) a vc
 ·obtain ⟨x,y,z,rfl⟩:=a5M hn rfl
  exact a9m hq h (hargs x Q9) (hrl x) a vc
 ·obtain ⟨x,rfl⟩:=L4 hn rfl
  exact a9k hq h (hargs x Q9) a vc
 ·obtain ⟨x,rfl⟩:=L4 hn rfl
  exact a4K hq h hi (hargs x Q9) hheap hal a vc
 ·obtain ⟨x,rfl⟩:=L4 hn rfl
  exact a1W hq (Or.inr (Or.inr rfl)) h a vc
 ·obtain ⟨x,rfl⟩:=L4 hn rfl
  exact a6L hq h a vc
 ·obtain rfl:=bC hn rfl
  exact a8j hq h a vc
structure Is (g:PgR) (s:McA) (R:McR):Prop where
 abs:R.abs=s
 nil:F1 R
theorem a2B {own:Own} {mb:Nat} {g:PgR} {R:McR} {w:World} (hp:F2 g) (hi:C1 g R.abs) (h0:R.st=0) (hq:F1 R) (h:A3 w own mb g R) :
  Calls Tryz.prog 42 #[.pointer (some ⟨mb,0,none⟩)] w fun e w'=>cX own mb g (Is g (W0 g R.abs)) w e w':=by
 have hne:R.frs≠[]:=fun e=>hi.run h0 (by show R.frs.map FrR.abs=[];rw [e];rfl)
 have hf:R.frs=R.frs.dropLast++[R.frs.getLast hne]:=(List.dropLast_concat_getLast hne).symm;generalize R.frs.dropLast=fs at hf;generalize R.frs.getLast hne=f at hf;have hfA:R.abs.frs=fs.map FrR.abs++[f.abs]:=by show R.frs.map FrR.abs=_;rw [hf];simp
 obtain⟨k,a,rest,args,hk,o,hst⟩:=hi.opAt hp hfA;obtain⟨h1,_⟩:=hi.top hfA;have hb:=hi.frame hp (f:=f.abs) (by rw [hfA];simp);have e1:f.abs.stk=f.stk:=rfl;have e2:f.abs.pc=f.pc:=rfl;have e3:f.abs.fn=f.fn:=rfl;rw[e1,e2,e3] at hb;have hd:=hi.depth;rw[hfA] at hd;simp at hd;have hfn:f.fn < g.n:=h1.fn;have hg8:=hp.sized.2.1;have hbd:=hp.sized.bd hfn;have hnext:a7F g f k a args.length:=⟨hfn,hb.2.2.2,o.op,o.ar,hk,o.pops,fun e=>by
  obtain⟨_,hl,_,_⟩:=h1.at hp;have hl':D3 g.n (g.f f.abs.fn).l (g.f f.abs.fn).n ((g.f f.abs.fn).op f.abs.pc) ((g.f f.abs.fn).ar f.abs.pc)=true:=hl;have:=L9 hl' (by rw [o.op];exact e);rw[o.ar] at this;exact this⟩
 rw[hst];refine pH h hf k a rest args o.stk hnext Q8 Q8 Q8 Q8 Q8 (fun R'=>McR.abs { R' with st:=(doA g k a R.abs (fs.map FrR.abs) f.abs rest args).st }=doA g k a R.abs (fs.map FrR.abs) f.abs rest args∧F1 R') (doA g k a R.abs (fs.map FrR.abs) f.abs rest args).st (fun W va vc sb hA=>a6I hp hi hq hk o hA vc) _ ?_;rintro Q ⟨hQ,hQ'⟩;exact⟨hQ,hQ'⟩
theorem uZ (g:PgR):∀(i:Nat) (s:McA),(runA g i s).st=0→runA g (i+1) s=W0 g (runA g i s)
 | 0,s,h=>by
  have h':s.st=0:=h;show (if s.st=0 then W0 g s else s)=W0 g s;exact if_pos h'
 | i+1,s,h=>by
  by_cases h0:s.st=0
  ·rw [runA,if_pos h0] at h
   rw[runA,if_pos h0,uZ g i (W0 g s) h,runA,if_pos h0]
  ·rw [runA,if_neg h0] at h
   exact absurd h h0
theorem fV (g:PgR):∀(n i:Nat) (s:McA),i < G4 g n s→(runA g i s).st=0
 | 0,i,s,h=>by simp [G4] at h
 | n+1,i,s,h=>by
  by_cases h0:s.st=0
  ·cases i with
   | zero=>exact h0
   | succ i =>
    rw[G4,if_pos h0] at h;rw[runA,if_pos h0];exact fV g n i (W0 g s) Q8
  ·rw [G4,if_neg h0] at h
   omega
theorem a0D (g:PgR):∀(n:Nat) (s:McA),G4 g n s < n→(runA g (G4 g n s) s).st≠0
 | 0,s,h=>by omega
 | n+1,s,h=>by
  by_cases h0:s.st=0
  ·rw [G4,if_pos h0] at h ⊢
   rw[runA,if_pos h0];exact a0D g n (W0 g s) Q8
  ·rw [G4,if_neg h0]
   exact h0
theorem nL {own:Own} {mb:Nat} {g:PgR} {R:McR} {s:McA} {w:World} (hp:F2 g) (hi:C1 g s) (hR:Is g s R) (h:A3 w own mb g R) (fuel:Nat) (hf:fuel≤10000) :
  Calls Tryz.prog 8 #[.pointer (some ⟨mb,0,none⟩),.int .i64 (fuel:Int)] w fun e w'=>lA own mb g (Is g (runA g fuel s)) (G4 g fuel s) w e w':=by
 refine a2X ?_;have key:=a3q h (fun i R'=>Is g (runA g i s) R') hR (G4 g fuel s) fuel (nM g fuel s) hf (fun i R' hi' h'=>?_) (fun hlt R' h'=>?_) (fun i own' R' w' hi' hm' h'=>?_)
 ·refine key.mono ?_
  rintro e w' ⟨own',R',he,hm,hs,ht⟩;exact⟨own',R',he,hm,by rw [← (sP g fuel s).1];exact hs,ht⟩
 ·have e:R'.st=(runA g i s).st:=by rw [← h'.abs];rfl
  rw[e];exact fV g fuel i s hi'
 ·have e:R'.st=(runA g (G4 g fuel s) s).st:=by rw [← h'.abs];rfl
  rw[e];exact a0D g fuel s hlt
 ·have h0:=fV g fuel i s hi'
  have hst:R'.st=0:=by
   have e:R'.st=(runA g i s).st:=by rw [← h'.abs];rfl
   rw[e];exact h0
  have hinv:C1 g R'.abs:=by rw [h'.abs];exact lP hp i hi
  refine (a2B hp hinv hst h'.nil hm').mono ?_;rintro e w'' ⟨own'',R'',he,hm'',hs,ht⟩;refine⟨own'',R'',he,hm'',?_,ht⟩;show Is g (runA g (i+1) s) R'';rw[uZ g i s h0,← h'.abs];exact hs
theorem lC {g:PgR} {cap:Nat} {R:McR} (hb:xZ g cap R):R.abs=⟨0,[],[⟨0,0,List.replicate (g.f 0).l.toNat (0,0),[]⟩],List.replicate cap (0,[]),[]⟩∧F1 R:=by
 obtain⟨lv,hf⟩:=hb.frs;refine⟨?_,fun _=>hb.ov⟩;unfold McR.abs;rw[hb.st,hb.out,hf,hb.obs,hb.dr];simp[FrR.abs,ObR.abs,K7]
theorem uO {g:PgR} (hp:F2 g) {cap:Nat} (h1:1≤cap) (h40:cap≤40):C1 g ⟨0,[],[⟨0,0,List.replicate (g.f 0).l.toNat (0,0),[]⟩],List.replicate cap (0,[]),[]⟩:=by
 have hn:=hp.sized.1;have hb:=hp.sized.bd (show 0 < g.n by omega);refine⟨fun _=>by simp,?_,by simp,fun f hf v hv=>?_,fun o ho=>Or.inl ?_,by simpa using ⟨h1,h40⟩,by simp,by simp⟩
 ·show bY g _ 0∧cW g 0 []
  exact⟨⟨by show 0 < g.n;omega,by simp;omega,by simpa using E6.reach_first _⟩,rfl⟩
 ·simp at hf
  subst hf;simp at hv;exact Or.inl hv.2
 ·have:=List.eq_of_mem_replicate ho
  rw[this];exact⟨rfl,rfl⟩
theorem xB {g:PgR} (h:N6 g 0 0):F2 g:=by
 rcases h with ⟨_,h⟩ | ⟨hs,⟨_,h⟩ | ⟨hc,⟨_,h⟩ | ⟨hh,_⟩⟩⟩
 ·cases h
 ·cases h
 ·cases h
 ·refine ⟨hs.all.1,hc.all.1,?_⟩
  rcases hh with ⟨_,_,h⟩ | ⟨h,_⟩
  ·exact h
  ·cases h
end Go.Proofs.YtbkmgoffiigdbabGreatDoor
