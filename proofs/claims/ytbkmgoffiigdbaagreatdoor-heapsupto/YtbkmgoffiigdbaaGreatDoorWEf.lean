import Derived.Test.YtbkmgoffiigdbaaGreatDoorWEe
namespace Go.Proofs.YtbkmgoffiigdbaaGreatDoor
open Go.RowKit Go.Sort Go.Proofs.Tryz
set_option maxHeartbeats 2000000
set_option maxRecDepth 100000
section
variable {R:McR} {f:FrR} {fs:List FrR} {g:PgR} {mb sb:Nat} {own:Own} {rest:List Val} {va:Option Addr} {w:World} {x:Val}
theorem a0h (hq:E6 R) (h:C0 w own mb g R fs f rest [x] va sb) {kd:Int} {fa:Option Addr} {n fc:Nat} (hr:fS w mb x kd fa n fc) (a:Int) (vc:Nat) :
  Calls prog 285 #[.pointer (some ⟨mb,0,none⟩),.int .i64 a,.slice va 1 vc] w fun e w'=>DoA own mb g (if kd=1\/kd=2 then goA R.abs (fs.map FrR.abs) f.abs (f.abs.pc+1) (rest++[(1,(n:Int))]) else C7 R.abs 2) w e w':=by
 obtain⟨o,rfl,xn,c0,c1⟩:=h.one;obtain⟨x1,x2⟩:=x;simp only at c0 c1;have xo:mb < w.heap.size:=h.m.lt mb _ h.m.me;have xd:Hid (∀W,L0d w W->Calls prog 225 #[.pointer (some ⟨mb,4,none⟩),.agg #[.int .u8 x1,.int .i64 x2]] W fun e w'=>e=.returned (.agg #[.int .u8 kd,.slice fa n fc])/\L0d W w'):=hr;have HH:=hid h;have HQ:=hid hq;clear h hr hq;by_cases h12:kd=1\/kd=2
 ·rw [if_pos h12]
  have xe:Hid (∀e w',C3 own mb g R fs f (f.pc+1) (rest++[(1,(n:Int))]) (.int .i64 0) w e w'->DoA own mb g (goA R.abs (fs.map FrR.abs) f.abs (f.abs.pc+1) (rest++[(1,(n:Int))])) w e w'):=fun e w' hp=>hp.doA HQ.out
  rcases h12 with rfl | rfl
  all_goals
   go_enter func285,ntmps285;go_wp2_with fail;go_region_with (first | (go_at_call 225;refine (xd.out _ ?_).mono ?_;exact P5;rintro e w2 ⟨rfl,xa⟩;obtain ⟨xm,xk⟩:=X4 xa;have xc:=xa.size;have xl:w.heap.size<=w2.heap.size:=(by simp at xc;omega);have xf:sb < w2.heap.size:=R4;have xh:mb < w2.heap.size:=R4;(try (have xg:w.heap.size+1 < w2.heap.size:=(by simp at xc;omega)));have xb:Hid (L0d w w2):=A7 xa P5;clear xa))
   all_goals
    go_wp2_with (first | (go_at_call 237;refine (L5 _ _).mono ?_;rintro e w' ⟨rfl,o4,rfl⟩) | (go_at_call 290;refine (HH.out.answer (by have hq:=xb.out.size;repeat (first | exact xb.out | refine L3c ?_ | refine Below.setCell ?_ Q1 _ | refine L3a ?_ Q1 _)) vc _ [(1,(n:Int))] (H3 HH.out.m (by have hq:=xb.out.size;first | omega | (simp;omega)) (by first | exact B1 R5 | exact J7 R5 | exact M3 R5)) R5 1 rfl).mono ?_;rintro e w' ⟨xi,xj,rfl,hm,ht⟩;have HP:Hid (DoA own mb g _ w _ w'):=xe.out _ w' ⟨xi,xj,rfl,hm,ht⟩;clear hm ht))
    go_ret;exact HP.out
 ·rw [if_neg h12]
  have h1:(kd != 1)=true:=bne_iff_ne.2 fun e=>h12 (L4a e)
  have h2:(kd != 2)=true:=bne_iff_ne.2 fun e=>h12 (L4b e)
  clear h12;go_enter func285,ntmps285;go_wp2_with fail;go_region_with (first | (go_at_call 225;refine (xd.out _ ?_).mono ?_;exact P5;rintro e w2 ⟨rfl,xa⟩;obtain ⟨xm,xk⟩:=X4 xa;have xc:=xa.size;have xl:w.heap.size<=w2.heap.size:=(by simp at xc;omega);have xf:sb < w2.heap.size:=R4;have xh:mb < w2.heap.size:=R4;(try (have xg:w.heap.size+1 < w2.heap.size:=(by simp at xc;omega)));have xb:Hid (L0d w w2):=A7 xa P5;clear xa))
  all_goals
   go_wp2_with fail;go_ret;exact E9.doA ⟨rfl,by have hq:=xb.out.size;repeat (first | exact xb.out | refine L3c ?_ | refine Below.setCell ?_ Q1 _ | refine L3a ?_ Q1 _)⟩ HH.out.m HQ.out
theorem a6g (hq:E6 R) (h:C0 w own mb g R fs f rest [x] va sb) (hx:VOk (R.obs.map ObR.abs) x) (a:Int) (vc:Nat) :
  Calls prog (doT 23) #[.pointer (some ⟨mb,0,none⟩),.int .i64 a,.slice va 1 vc] w fun e w'=>DoA own mb g (doA g 23 a R.abs (fs.map FrR.abs) f.abs rest [x]) w e w':=by
 obtain⟨kd,fa,n,fc,hR,rfl,rfl⟩:=Y8 h.m x hx;exact a0h hq h hR a vc
end
end Go.Proofs.YtbkmgoffiigdbaaGreatDoor
