import Derived.Test.YtbkmgoffiigdbaaGreatDoorWEi
namespace Go.Proofs.YtbkmgoffiigdbaaGreatDoor
open Go.RowKit Go.Sort Go.Proofs.Tryz
set_option maxHeartbeats 2000000
set_option maxRecDepth 100000
section
variable {R:McR} {f:FrR} {fs:List FrR} {g:PgR} {mb sb:Nat} {more rest:List Val} {own:Own} {va:Option Addr} {w:World}
theorem fJ (p:Option Addr) (v1 v2:Int) (h2:(v1 == 2)=false) (w:World) :
  Calls prog 225 #[.pointer p,.agg #[.int .u8 v1,.int .i64 v2]] w fun e w'=>e=.returned (.agg #[.int .u8 0,.slice none 0 0])/\L0d w w':=by
 go_enter func225,ntmps225;go_wp2
 all_goals exact bodyPost_ret (v:=.agg #[.int .u8 0,.slice none 0 0]) (by simp [results,results225,go_sem]) rfl ⟨rfl,P5⟩
theorem oM (k kind:Int) (fa:Option Addr) (n fc:Nat) (i1 i2:Int) (hn:n<=1000) (w:World) :
  Calls prog 306 #[.agg #[.int .u8 k,.slice fa n fc],.int .u8 kind,.agg #[.int .u8 i1,.int .i64 i2]] w fun e w'=>e=.returned (.int .i64 (J4 k kind n i1 i2))/\L0d w w':=by
 by_cases h1:k=kind
 rotate_left
 ·have hr:J4 k kind n i1 i2=2:=if_neg (fun e=>h1 e.1)
  rw[hr];clear hr;go_enter func306,ntmps306;go_wp2_with (first | (go_at_call 206;refine (C6 _ _ _).mono ?_;rintro e w' ⟨rfl,o4,rfl⟩) | (go_at_call 116;refine (B3 _ _ _ _).mono ?_;rintro e w' ⟨rfl,rfl⟩))
  go_ret;exact⟨rfl,P5⟩
 ·subst h1
  cases h2:(i1 == 1)
  ·have hr:J4 k k n i1 i2=2:=if_neg (fun e=>by rw [e.2] at h2;simp at h2)
   rw[hr];clear hr;go_enter func306,ntmps306;go_wp2_with (first | (go_at_call 206;refine (C6 _ _ _).mono ?_;rintro e w' ⟨rfl,o4,rfl⟩) | (go_at_call 116;refine (B3 _ _ _ _).mono ?_;rintro e w' ⟨rfl,rfl⟩))
   go_ret;exact⟨rfl,P5⟩
  ·have e1:k=k/\i1=1:=⟨rfl,beq_iff_eq.1 h2⟩
   cases hin:B0 i2 0 ((n:Int) - 1)
   ·have hr:J4 k k n i1 i2=3:=by
     unfold J4;rw[if_pos e1,if_neg];rintro⟨q1,q2⟩;have:B0 i2 0 ((n:Int) - 1)=true:=I4 q1 R4;rw[this] at hin;cases hin
    rw[hr];clear hr e1;go_enter func306,ntmps306;go_wp2_with (first | (go_at_call 206;refine (C6 _ _ _).mono ?_;rintro e w' ⟨rfl,o4,rfl⟩) | (go_at_call 116;refine (B3 _ _ _ _).mono ?_;rintro e w' ⟨rfl,rfl⟩))
    go_ret;exact⟨rfl,P5⟩
   ·have hr:J4 k k n i1 i2=0:=by
     unfold J4;rw[E2] at hin;rw[if_pos e1,if_pos R4]
    rw[hr];clear hr e1;go_enter func306,ntmps306;go_wp2_with (first | (go_at_call 206;refine (C6 _ _ _).mono ?_;rintro e w' ⟨rfl,o4,rfl⟩) | (go_at_call 116;refine (B3 _ _ _ _).mono ?_;rintro e w' ⟨rfl,rfl⟩))
    go_ret;exact⟨rfl,P5⟩
def fS (w:World) (mb:Nat) (x:Val) (kd:Int) (fa:Option Addr) (n fc:Nat):Prop :=
 ∀W,L0d w W->Calls prog 225 #[.pointer (some ⟨mb,4,none⟩),.agg #[.int .u8 x.1,.int .i64 x.2]] W fun e w'=>e=.returned (.agg #[.int .u8 kd,.slice fa n fc])/\L0d W w'
theorem Y8 (h:A4 w own mb g R) (x:Val) (hx:VOk (R.obs.map ObR.abs) x) :
  ∃kd fa n fc,fS w mb x kd fa n fc/\(A0 (R.obs.map ObR.abs) x).1=kd/\(A0 (R.obs.map ObR.abs) x).2.length=n:=by
 by_cases h2:x.1=2
 ·obtain ⟨h0,o',xa,_⟩:=hx.ref h2
  rw[List.getElem?_map] at xa;obtain⟨o,ho,rfl⟩:=Option.map_eq_some_iff.1 xa;obtain⟨j,hj⟩:=L5c h0;obtain⟨x1,x2⟩:=x;simp only at h2 hj ho;subst h2 hj;rw[Int.toNat_natCast] at ho;obtain⟨fa,fc,xb⟩:=G3 (h.fld j o ho);have e:A0 (R.obs.map ObR.abs) (2,(j:Int))=o.abs:=by
   unfold A0;rw[if_pos rfl,List.getD_eq_getElem?_getD,List.getElem?_map];simp only[Int.toNat_natCast,ho];rfl
  rw[e];refine⟨o.kind,fa,o.fl.length,fc,fun W hW=>?_,rfl,rfl⟩;have:=V9 (h.same hW.size fun k hk=>hW.block k hk) ho;rw[xb] at this;exact this
 ·have e:A0 (R.obs.map ObR.abs) x=(0,[]):=if_neg h2
  rw[e];exact⟨0,none,0,0,fun W _=>fJ _ _ _ (L2c.2 h2) W,rfl,rfl⟩
theorem aE (o:Ob) (kind:Int) (ix:Val):F8 o kind ix=J4 o.1 kind o.2.length ix.1 ix.2:=by
 unfold F8 J4;by_cases h:o.1=kind/\ix.1=1
 ·rw [if_neg R4,if_pos h]
 ·rw [if_pos R4,if_neg h]
theorem dC {x:Val} (h:C0 w own mb g R fs f rest (x::more) va sb) {kd:Int} {fa:Option Addr} {n fc:Nat} (hr:fS w mb x kd fa n fc) (hn:n<=1000) (kind:Int) (ix:Val) (k:Nat) (hk:more.length+1=k) (hk3:k<=3) (hb:J4 kd kind n ix.1 ix.2≠0) (vc:Nat) :
  Calls prog 301 #[.pointer (some ⟨mb,0,none⟩),.slice va k vc,.int .u8 kind,.agg #[.int .u8 ix.1,.int .i64 ix.2]] w fun e w'=>E9 (J4 kd kind n ix.1 ix.2) w e w':=by
 obtain⟨rfl,xl,_,s0,s1⟩:=h.first
 obtain⟨x1,x2⟩:=x;simp only at s0 s1;have xn:mb < w.heap.size:=h.m.lt mb _ h.m.me;have xb:Hid (∀W,L0d w W->Calls prog 225 #[.pointer (some ⟨mb,4,none⟩),.agg #[.int .u8 x1,.int .i64 x2]] W fun e w'=>e=.returned (.agg #[.int .u8 kd,.slice fa n fc])/\L0d W w'):=hr;have xk:Hid (∀W,Calls prog 306 #[.agg #[.int .u8 kd,.slice fa n fc],.int .u8 kind,.agg #[.int .u8 ix.1,.int .i64 ix.2]] W fun e w'=>e=.returned (.int .i64 (J4 kd kind n ix.1 ix.2))/\L0d W w'):=fun W=>oM kd kind fa n fc ix.1 ix.2 hn W
 generalize J4 kd kind n ix.1 ix.2=t at *
 have xm:(t != 0)=true:=bne_iff_ne.2 hb;have xj:sb≠w.heap.size+1:=by omega
 clear h hr hb;go_enter func301,ntmps301;go_wp2_with fail;go_region_with (first | (go_at_call 225;refine (xb.out _ ?_).mono ?_;exact P5;rintro e w2 ⟨rfl,xa⟩;obtain ⟨xq,xo⟩:=X4 xa;have xc:=xa.size;have xp:w.heap.size < w2.heap.size:=(by simp at xc;omega);have xf:sb < w2.heap.size:=R4;have xi:mb < w2.heap.size:=R4;(try (have xh:w.heap.size+1 < w2.heap.size:=(by simp at xc;omega)));have xe:Hid (L0d w w2):=A7 xa P5;clear xa))
 all_goals
  go_wp2_with (go_at_call 306;refine (xk.out _).mono ?_;rintro e w3 ⟨rfl,xd⟩;have xg:Hid (L0d w w3):=A7 xd (by have hq:=xe.out.size;repeat (first | exact xe.out | refine L3c ?_ | refine Below.setCell ?_ Q1 _ | refine L3a ?_ Q1 _));clear xd)
  go_ret;exact⟨rfl,xg.out⟩
theorem iV {x:Val} (h:C0 w own mb g R fs f rest (x::more) va sb) {kd:Int} {fa:Option Addr} {n fc:Nat} (hr:fS w mb x kd fa n fc) (hn:n<=1000) (kind:Int) (ix:Val) (k:Nat) (hk:more.length+1=k) (hk3:k<=3) (hb:J4 kd kind n ix.1 ix.2≠0) (vc:Nat) :
  Calls prog 302 #[.pointer (some ⟨mb,0,none⟩),.slice va k vc,.int .u8 kind,.agg #[.int .u8 ix.1,.int .i64 ix.2]] w fun e w'=>E9 (J4 kd kind n ix.1 ix.2) w e w':=by
 obtain⟨rfl,xl,_,s0,s1⟩:=h.first
 obtain⟨x1,x2⟩:=x;simp only at s0 s1;have xn:mb < w.heap.size:=h.m.lt mb _ h.m.me;have xb:Hid (∀W,L0d w W->Calls prog 225 #[.pointer (some ⟨mb,4,none⟩),.agg #[.int .u8 x1,.int .i64 x2]] W fun e w'=>e=.returned (.agg #[.int .u8 kd,.slice fa n fc])/\L0d W w'):=hr;have xk:Hid (∀W,Calls prog 306 #[.agg #[.int .u8 kd,.slice fa n fc],.int .u8 kind,.agg #[.int .u8 ix.1,.int .i64 ix.2]] W fun e w'=>e=.returned (.int .i64 (J4 kd kind n ix.1 ix.2))/\L0d W w'):=fun W=>oM kd kind fa n fc ix.1 ix.2 hn W
 generalize J4 kd kind n ix.1 ix.2=t at *
 have xm:(t != 0)=true:=bne_iff_ne.2 hb;have xj:sb≠w.heap.size+1:=by omega
 clear h hr hb;go_enter func302,ntmps302;go_wp2_with fail;go_region_with (first | (go_at_call 225;refine (xb.out _ ?_).mono ?_;exact P5;rintro e w2 ⟨rfl,xa⟩;obtain ⟨xq,xo⟩:=X4 xa;have xc:=xa.size;have xp:w.heap.size < w2.heap.size:=(by simp at xc;omega);have xf:sb < w2.heap.size:=R4;have xi:mb < w2.heap.size:=R4;(try (have xh:w.heap.size+1 < w2.heap.size:=(by simp at xc;omega)));have xe:Hid (L0d w w2):=A7 xa P5;clear xa))
 all_goals
  go_wp2_with (go_at_call 306;refine (xk.out _).mono ?_;rintro e w3 ⟨rfl,xd⟩;have xg:Hid (L0d w w3):=A7 xd (by have hq:=xe.out.size;repeat (first | exact xe.out | refine L3c ?_ | refine Below.setCell ?_ Q1 _ | refine L3a ?_ Q1 _));clear xd)
  go_ret;exact⟨rfl,xg.out⟩
end
end Go.Proofs.YtbkmgoffiigdbaaGreatDoor
