import Derived.Test.YtbkmgoffiigdbabGreatDoorVA
namespace Go.Proofs.YtbkmgoffiigdbabGreatDoor
open Go.RowKit Go.Sort
set_option maxHeartbeats 4000000
set_option maxRecDepth 100000
theorem iW (B:Nat) (g:PgR) (f:FnR) (wb hb base:Nat) (H:Nat→Int) (T:List Nat) (tv:Value) (pc:Nat) (w:World) (hw:K3 w g f wb hb base H T tv) (hB0:0 < B) (hB1:B≤wb) (hB2:B≤hb)
  (hg:M3 B w g) (hf:O0 B w f) (hgood:a3x g f) (ht:Tab w) (hT:T.length≤59) (hpc:pc < f.n) (hinv:Inv (A7 g f) H T) (hH:0≤H pc) :
  Calls Tryz.prog 147 #[.pointer (some ⟨wb,0,none⟩),.int .i64 (pc:Int)] w fun e w'=>mJ B g f wb hb base H T pc w e w':=by
 have hn60:f.n≤60:=hgood.2.1;have hww:wb < w.heap.size:=Nat.lt_of_lt_of_le hw.ltw hw.size;have hhw:hb < w.heap.size:=Nat.lt_of_lt_of_le hw.lth hw.size;obtain⟨ha,hfb,hcode⟩:=hf.2 Q8;obtain⟨co,ca⟩:=hcode pc hpc;clear hcode;have hleg:=hgood.2.2.2 pc hpc;have HLEG:=(show Hid _ from hleg);clear hleg;obtain⟨ho0,ho27⟩:=dD HLEG.out;obtain⟨k,hk⟩:=Int.eq_ofNat_of_zero_le ho0;rw[hk] at co ho0 ho27
 have hk28:k < 28:=by omega
 obtain⟨q,hq⟩:∃q,q=(A7 g f).pop pc:=⟨_,rfl⟩
 obtain⟨hq0,hq8⟩:=hgood.pop_bd hpc;rw[← hq] at hq0 hq8;obtain⟨r,hr⟩:∃r,r=(A7 g f).push pc:=⟨_,rfl⟩
 obtain⟨hr0,hr2⟩:=M7 (f.op pc);rw[show J9 (f.op pc)=r from hr.symm] at hr0 hr2;have HP:Hid (∀W,Below (w.alloc (Obj.cells #[.int .i64 (k:Int),.int .i64 (f.ar pc)] 62)).heap.size (w.alloc (Obj.cells #[.int .i64 (k:Int),.int .i64 (f.ar pc)] 62)) W→Calls Tryz.prog 66 #[.agg #[.slice g.a g.n g.c],.agg #[.int .i64 (k:Int),.int .i64 (f.ar pc)]] W fun e w'=>e=.returned (.int .i64 q)∧Below W.heap.size W w'):=by
  intro W hW;have hW':Below w.heap.size w W:=W4 hW ((Below.refl _ _).alloc (Nat.le_refl _) _) Q9;have hsz:=hw.size;have hlt:=hw.ltw;have e:(A7 g f).pop pc=G1 k (g.f (f.ar pc).toNat).p:=by show G1 (f.op pc) _=_;rw [hk]
  rw[hq,e];refine kN B g k (f.ar pc) W (by have:=hW'.size;omega) (hg.below (hW'.mono Q8)) (ht.below hB0 (hW'.mono Q8)) hk28 (fun ho=>?_);refine L9 (l:=f.l) (nc:=f.n) (op:=f.op pc) HLEG.out ?_;rw[hk];exact ho
 obtain⟨_,t1,t2,_⟩:=ht.2 k hk28;have et1:J9 (k:Int)=r:=by rw [hr];show _=J9 (f.op pc);rw [hk]
 rw[et1] at t1;clear et1;have hz0:=ht.1;have hnx:(A7 g f).next pc=D2 pc k (f.ar pc):=by show D2 pc (f.op pc) _=_;rw [hk]
 have HNX:=(show Hid _ from hnx);clear hnx;have HQ:=(show Hid _ from hq);clear hq;have HR:=(show Hid _ from hr);clear hr;have HK:=(show Hid _ from hk);clear hk;obtain⟨hl1,hl10,hl3⟩:=hinv.1 pc hpc;have hreach:=hl3 hH;have HREACH:=(show Hid _ from hreach);clear hreach hl3;have c0:=hw.c0;have c1:=hw.c1;have c2:=hw.c2;rw[ha] at c1;have kh:=hw.row.cell hpc;have HA:=(show Hid _ from ha);clear ha;have hfbw:f.b < w.heap.size:=by omega
 go_enter Tryz.func147,Tryz.ntmps147;go_wp2
 have k0:=cell_regrown (w:=(w.alloc (Obj.cells #[.int .i64 (k:Int),.int .i64 (f.ar pc)] 62))) (a:=⟨wb,0,none⟩) (v:=.slice g.a g.n g.c) Q6;have k1:=cell_regrown (w:=(w.alloc (Obj.cells #[.int .i64 (k:Int),.int .i64 (f.ar pc)] 62))) (a:=⟨wb,2,none⟩) (v:=.slice (some ⟨hb,0,none⟩) f.n f.n) Q6;have k2:=cell_regrown (w:=(w.alloc (Obj.cells #[.int .i64 (k:Int),.int .i64 (f.ar pc)] 62))) (a:=⟨hb,pc,none⟩) (v:=.int .i64 (H pc)) Q6
 have k3:=cell_regrown (w:=(w.alloc (Obj.cells #[.int .i64 (k:Int),.int .i64 (f.ar pc)] 62))) (a:=⟨w.heap.size,0,none⟩) (v:=.int .i64 (k:Int)) Q6;have k4:=cell_regrown (w:=(w.alloc (Obj.cells #[.int .i64 (k:Int),.int .i64 (f.ar pc)] 62))) (a:=⟨w.heap.size,1,none⟩) (v:=.int .i64 (f.ar pc)) Q6;have hBW:Below w.heap.size w (w.alloc (Obj.cells #[.int .i64 (k:Int),.int .i64 (f.ar pc)] 62)):=(Below.refl _ _).alloc (Nat.le_refl _) _
 have hsW:(w.alloc (Obj.cells #[.int .i64 (k:Int),.int .i64 (f.ar pc)] 62)).heap.size=w.heap.size+1:=by simp
 generalize (w.alloc (Obj.cells #[.int .i64 (k:Int),.int .i64 (f.ar pc)] 62))=W at *
 refine wp_region_quiet_below Q4 Q4 ?_
 repeat (first
  | go_big_quiet_step ((go_at_call 66;exact Calls.regrown_of (HP.out _ (below_regrown _ _ _))))
  | quiet_step ((go_at_call 66;exact Calls.regrown_of (HP.out _ (below_regrown _ _ _)))))
 refine wpQuiet_nil ?_;intro _ hw';obtain⟨⟨dq,osq⟩,hw''⟩:=hw';subst hw'';have hb2:Below w.heap.size w (grow (redrawn W dq) osq):=hBW.trans ((below_regrown W dq osq).mono hBW.size);have e3:=k3 dq osq;have e4:=k4 dq osq;have hs2:w.heap.size+1≤(grow (redrawn W dq) osq).heap.size:=by rw [← hsW];exact (below_regrown W dq osq).size
 clear k0 k1 k2 k3 k4 HP hBW hsW;generalize grow (redrawn W dq) osq=W2 at *
 have hw2:K3 W2 g f wb hb base H T tv:=hw.but hb2;have hBB:Below B w W2:=hb2.mono Q8;rw[← hb2.cell (p:=⟨0,_,none⟩) hz0] at t1 t2;have hz2:0 < W2.heap.size:=by omega
 clear c0 c1 c2 kh co ca;have HBE:Hid ((A7 g f).behind pc (H pc)=H pc - q+r):=by show _=_;unfold E6.behind;rw [← HQ.out,← HR.out]
 by_cases hb1:H pc - q < 0
 ·go_wp2_with fail
  go_ret;exact Y4 rfl hBB (E6.not_fits_pop HREACH.out (Or.inl (by rw [← HQ.out];omega)))
 by_cases hb10:10 < H pc - q+r
 ·go_wp2_with fail
  go_ret;exact Y4 rfl hBB (E6.not_fits_pop HREACH.out (Or.inr (by rw [HBE.out];exact hb10)))
 have hv0:0≤H pc - q+r:=by omega
 have hv10:H pc - q+r≤10:=by omega
 have hpop:(A7 g f).pop pc≤H pc:=by rw [← HQ.out];omega
 have HPOP:=(show Hid _ from hpop);clear hpop;have hnot:∀b,b=w.heap.size→¬yN wb hb tv b:=by
  rintro b rfl (he | he | he)
  ·omega
  ·omega
  ·have:=(hw.own.lt _ he).2;omega
 have HNOT:=(show Hid _ from hnot);clear hnot;by_cases h12:k=12
 ·have ho:f.op pc=12:=by rw [HK.out,h12];rfl
  obtain⟨hx0,hxn⟩:=fN HLEG.out (Or.inl ho);obtain⟨y,hy⟩:=Int.eq_ofNat_of_zero_le hx0;have hmem:(A7 g f).next pc=[y]:=by rw [HNX.out,h12,hy];simp [D2]
  have HMEM:=(show Hid _ from hmem);rw[show gG k=1 by simp [gG,h12]] at t2;rw[hy] at e4;clear hmem h12 ho hx0 hxn hy;go_wp2_with fail;refine (cC g f wb hb base H T tv y (H pc - q+r) W2 hw2 Q8).mono ?_;rintro e w3 ⟨H',T',tv',ok,rfl,hw3,hsay,hbut3⟩;have hB3:Below B w w3:=hBB.trans (hbut3.below Q8 (U7 hw2 hB1 hB2));go_wp2_with fail;go_ret;rcases iR hinv HREACH.out (c:=y) (by rw [HMEM.out];simp) HBE.out hv0 hv10 hsay with ⟨rfl,hno⟩ | ⟨rfl,hi',hx',hcn,hcv⟩
  ·exact Y4 rfl hB3 hno
  ·have he:H' pc=H pc:=hx'.1 pc hH
   exact bU H' T' tv' rfl hB3 hw3 hi' hx' ⟨by rw [he];exact HPOP.out,by rw [he,HBE.out];exact hv10,fun c hc=>by
    rw[HMEM.out] at hc;obtain rfl:c=y:=by simpa using hc
    exact⟨hcn,by rw [he,HBE.out];exact hcv⟩⟩
 by_cases h13:k=13
 ·have ho:f.op pc=13:=by rw [HK.out,h13];rfl
  obtain⟨hx0,hxn⟩:=fN HLEG.out (Or.inr ho);obtain⟨y,hy⟩:=Int.eq_ofNat_of_zero_le hx0;have hmem:(A7 g f).next pc=[y,pc+1]:=by rw [HNX.out,h13,hy];simp [D2]
  have HMEM:=(show Hid _ from hmem);rw[show gG k=2 by simp [gG,h13]] at t2;rw[hy] at e4;clear hmem h13 h12 ho hx0 hxn hy;go_wp2_with fail;have hcome:=cC g f wb hb base H T tv (pc+1) (H pc - q+r) W2 hw2 Q8;rw[show ((pc+1:Nat):Int)=(pc:Int)+1 from by omega] at hcome;refine hcome.mono ?_;clear hcome;rintro e w3 ⟨H',T',tv',ok,rfl,hw3,hsay,hbut3⟩;have hB3:Below B w w3:=hBB.trans (hbut3.below Q8 (U7 hw2 hB1 hB2))
  rcases iR hinv HREACH.out (c:=pc+1) (by rw [HMEM.out];simp) HBE.out hv0 hv10 hsay with ⟨rfl,hno⟩ | ⟨rfl,hi',hx',hcn,hcv⟩
  ·go_wp2_with fail
   go_ret;exact Y4 rfl hB3 hno
  ·have e5:w3.cell? ⟨w.heap.size,1,none⟩=some (.int .i64 (y:Int)):=by rw [hbut3.cell (by show w.heap.size < W2.heap.size;omega) (HNOT.out _ rfl)];exact e4
   have hsz3:=hbut3.size;have hlen:T'.length≤T.length+1:=by
    rcases hsay with ⟨h,_⟩ | ⟨h,_⟩ | ⟨_,_,_,_,_,rfl⟩ | ⟨_,_,_,_,rfl⟩
    ·cases h
    ·cases h
    ·omega
    ·simp
   have HX':=(show Hid _ from hx');clear hx';have HCV:=(show Hid _ from hcv);clear hcv hsay;go_wp2_with fail;refine (cC g f wb hb base H' T' tv' y (H pc - q+r) w3 hw3 Q8).mono ?_;rintro e w4 ⟨H'',T'',tv'',ok,rfl,hw4,hsay,hbut4⟩;go_wp2_with fail;go_ret;have hB34:Below B w w4:=hB3.trans (hbut4.below Q8 (U7 hw3 hB1 hB2));have he1:H' pc=H pc:=HX'.out.1 pc hH;rcases iR hi' (a:=pc) (b:=H pc) HREACH.out (c:=y) (by rw [HMEM.out];simp) HBE.out hv0 hv10 hsay with ⟨rfl,hno⟩ | ⟨rfl,hi'',hx'',hcn',hcv'⟩
   ·exact Y4 rfl hB34 hno
   ·have he:H'' pc=H pc:=by rw [hx''.1 pc (by rw [he1];exact hH),he1]
    exact bU H'' T'' tv'' rfl hB34 hw4 hi'' (Ext.trans HX'.out hx'') ⟨by rw [he];exact HPOP.out,by rw [he,HBE.out];exact hv10,fun c hc=>by
     rw[HMEM.out] at hc;rcases List.mem_cons.1 hc with rfl | hc
     ·exact ⟨hcn',by rw [he,HBE.out];exact hcv'⟩
     ·obtain rfl:c=pc+1:=by simpa using hc
      exact⟨hcn,by rw [he,HBE.out,hx''.1 _ (by rw [HCV.out];exact hv0)];exact HCV.out⟩⟩
 by_cases hend:k=15∨k=27
 ·have hmem:(A7 g f).next pc=[]:=by rw [HNX.out];unfold D2;rw [if_pos Q8]
  have HMEM:=(show Hid _ from hmem);clear hmem;rw[show gG k=3 by unfold gG;rw [if_neg h12,if_neg h13,if_pos hend]] at t2;clear h12 h13 hend;go_wp2_with fail;go_ret;exact bU H T tv rfl hBB hw2 hinv (Ext.refl _ _ _) ⟨HPOP.out,by rw [HBE.out];exact hv10,fun c hc=>by rw [HMEM.out] at hc;cases hc⟩
 ·have hmem:(A7 g f).next pc=[pc+1]:=by rw [HNX.out];unfold D2;rw [if_neg Q8,if_neg Q8,if_neg Q8]
  have HMEM:=(show Hid _ from hmem);clear hmem;rw[show gG k=0 by unfold gG;rw [if_neg h12,if_neg h13,if_neg hend]] at t2;clear h12 h13 hend;go_wp2_with fail;have hcome:=cC g f wb hb base H T tv (pc+1) (H pc - q+r) W2 hw2 Q8;rw[show ((pc+1:Nat):Int)=(pc:Int)+1 from by omega] at hcome;refine hcome.mono ?_;clear hcome;rintro e w3 ⟨H',T',tv',ok,rfl,hw3,hsay,hbut3⟩;have hB3:Below B w w3:=hBB.trans (hbut3.below Q8 (U7 hw2 hB1 hB2))
  go_wp2_with fail;go_ret;rcases iR hinv HREACH.out (c:=pc+1) (by rw [HMEM.out];simp) HBE.out hv0 hv10 hsay with ⟨rfl,hno⟩ | ⟨rfl,hi',hx',hcn,hcv⟩
  ·exact Y4 rfl hB3 hno
  ·have he:H' pc=H pc:=hx'.1 pc hH
   exact bU H' T' tv' rfl hB3 hw3 hi' hx' ⟨by rw [he];exact HPOP.out,by rw [he,HBE.out];exact hv10,fun c hc=>by
    rw[HMEM.out] at hc;obtain rfl:c=pc+1:=by simpa using hc
    exact⟨hcn,by rw [he,HBE.out];exact hcv⟩⟩
end Go.Proofs.YtbkmgoffiigdbabGreatDoor
