import Derived.Test.YtbkmgoffiigdbaaGreatDoorWAh
namespace Go.Proofs.YtbkmgoffiigdbaaGreatDoor
open Go.RowKit Go.Sort Go.Proofs.Tryz
set_option maxHeartbeats 2000000
set_option maxRecDepth 100000
section
variable {R:RfR} {W:World} {g:PgR} {mb:Nat} {own:Own}
theorem a1k (h:A8 W own mb g R) (x:Val) (a:Int) (pc:Nat) (hkz:∀o,o∈R.ths->o.kind=1\/o.kind=2\/o.kind=3) (hx:dM R x) (hk1:(A0 R.abs.obs x).1≠1) (hk2:(A0 R.abs.obs x).1≠2) :
  Calls prog 184 #[.pointer (some ⟨mb,0,none⟩),.agg #[.int .i64 23,.int .i64 a],.int .i64 (pc:Int),.agg #[.int .u8 x.1,.int .i64 x.2]] W fun e w'=>C2 0 [] 0 2 W e w':=by
 by_cases h0:(A0 R.abs.obs x).1=0
 ·have h2:x.1≠2:=fun h2=>by
   obtain⟨j,o,e,ho,e2⟩:=jL hx h2;rw[e2] at h0;have xd:o.kind=0:=h0;have:=hkz o (L2a ho);omega
  have HK:=oI W mb h2;obtain⟨xk,xn⟩:=x;simp only at HK;clear h hkz hx h0 hk1 hk2 h2;go_enter func184,ntmps184;go_wp2_with (first | (go_at_call 221;refine CE (HK.out _ P4) ?_) | (go_at_call 218;refine CE (B5 _ _) ?_))
  refine bodyPost_ret (v:=.agg #[.int .i64 0,.slice none 0 0,.int .i64 0,.int .i64 2]) (by simp [results,results184,go_sem]) rfl ?_;exact⟨none,0,rfl,P4,B8 _ _⟩
 ·obtain ⟨j,o,rfl,ho,e2⟩:=T5 hx h0
  rw[e2] at hk1 hk2;have xb:o.kind≠1:=hk1;have xa:o.kind≠2:=hk2;have xc:o.kind=3:=by have:=hkz o (L2a ho);omega
  have HK:=dV h ho;rw[xc] at HK;clear xb xa;clear h hkz hx h0 hk1 hk2 e2 ho;go_enter func184,ntmps184;go_wp2_with (first | (go_at_call 221;refine CE (HK.out _ P4) ?_) | (go_at_call 218;refine CE (B5 _ _) ?_))
  refine bodyPost_ret (v:=.agg #[.int .i64 0,.slice none 0 0,.int .i64 0,.int .i64 2]) (by simp [results,results184,go_sem]) rfl ?_;exact⟨none,0,rfl,P4,B8 _ _⟩
theorem qU (h:A8 W own mb g R) (x:Val) (a:Int) (pc:Nat) (hkz:∀o,o∈R.ths->o.kind=1\/o.kind=2\/o.kind=3) (hx:dM R x) (hk:(A0 R.abs.obs x).1≠3) :
  Calls prog 184 #[.pointer (some ⟨mb,0,none⟩),.agg #[.int .i64 24,.int .i64 a],.int .i64 (pc:Int),.agg #[.int .u8 x.1,.int .i64 x.2]] W fun e w'=>C2 0 [] 0 2 W e w':=by
 by_cases h0:(A0 R.abs.obs x).1=0
 ·have h2:x.1≠2:=fun h2=>by
   obtain⟨j,o,e,ho,e2⟩:=jL hx h2;rw[e2] at h0;have xb:o.kind=0:=h0;have:=hkz o (L2a ho);omega
  have HK:=oI W mb h2;obtain⟨xk,xn⟩:=x;simp only at HK;clear h hkz hx h0 hk h2;go_enter func184,ntmps184;go_wp2_with (first | (go_at_call 221;refine CE (HK.out _ P4) ?_) | (go_at_call 218;refine CE (B5 _ _) ?_))
  refine bodyPost_ret (v:=.agg #[.int .i64 0,.slice none 0 0,.int .i64 0,.int .i64 2]) (by simp [results,results184,go_sem]) rfl ?_;exact⟨none,0,rfl,P4,B8 _ _⟩
 ·obtain ⟨j,o,rfl,ho,e2⟩:=T5 hx h0
  rw[e2] at hk;have xa:o.kind≠3:=hk;have xc:(o.kind == 3)=false:=L2c.2 xa;have HK:=dV h ho;generalize o.kind=kd at *
  clear h hkz hx h0 hk e2 ho;go_enter func184,ntmps184;go_wp2_with (first | (go_at_call 221;refine CE (HK.out _ P4) ?_) | (go_at_call 218;refine CE (B5 _ _) ?_))
  refine bodyPost_ret (v:=.agg #[.int .i64 0,.slice none 0 0,.int .i64 0,.int .i64 2]) (by simp [results,results184,go_sem]) rfl ?_;exact⟨none,0,rfl,P4,B8 _ _⟩
theorem a4Y (h:A8 W own mb g R) {j:Nat} {o:ThR} (ho:R.ths[j]?=some o) (a:Int) (pc:Nat) (hpc:pc<=1000) (hk:o.kind=1\/o.kind=2) (hn:o.fl.length<=1000) (hth:R.ths.length<=100000000000) :
  Calls prog 184 #[.pointer (some ⟨mb,0,none⟩),.agg #[.int .i64 23,.int .i64 a],.int .i64 (pc:Int),.agg #[.int .u8 2,.int .i64 (j:Int)]] W fun e w'=>C2 1 [(1,(o.fl.length:Int))] ((pc:Int)+1) 0 W e w':=by
 have HK:=dV h ho;have xn:=(fun (_:pc<=1000) (_:o.fl.length<=1000) (_:R.ths.length<=100000000000)=>h.lt _ _ h.me) hpc hn hth;obtain⟨tb,tc,fa,fc,m5,xq,t1,xh,xp,xg⟩:=h.thing ho;have xo:=(L1a.1 ho).1;have xd:(j:Int) < (R.ths.length:Int):=by omega
 generalize o.kind=kd at *
 generalize hnt:R.ths.length=nt at *
 generalize hnf:o.fl.length=nf at *
 obtain⟨xk,xb,xj,xc,xe⟩:=N7 (show mb < W.heap.size by omega);obtain⟨xi,xl,xa,xf,xm⟩:=N7 (show tb < W.heap.size by omega);clear h ho xg xh;rcases hk with rfl | rfl
 all_goals
  go_enter func184,ntmps184;go_wp2_with (go_at_call 221;refine CE (HK.out _ P4) ?_)
  go_region_with (first | (go_at_call 215;refine CE (cT _ _) ?_) | (go_at_call 220;refine CE (L9 _ _ (1,(nf:Int)) _ hpc) ?_))
  all_goals go_wp2_with fail
  all_goals
   refine bodyPost_ret (v:=.agg #[.int .i64 1,.slice (some ⟨W.heap.size+1+1+1+1+1+1+1,0,none⟩) 1 1,.int .i64 ((pc:Int)+1),.int .i64 0]) (by simp [results,results184,go_sem]) rfl ?_;refine⟨_,1,rfl,P4,rfl,L4b ⟨W.heap.size+1+1+1+1+1+1+1,1,#[.int .u8 1,.int .i64 (nf:Int)],rfl,by omega,?_,L1c _,by decide,rfl,rfl⟩⟩
   exact B1 R5
theorem nS (h:A8 W own mb g R) {j:Nat} {o:ThR} (ho:R.ths[j]?=some o) (a:Int) (pc:Nat) (hpc:pc<=1000) (hk:o.kind=3) {t:Val} (hfl:o.fl=[t]) (h2:t.1≠2) (hn:o.fl.length<=1000) (hth:R.ths.length<=100000000000) :
  Calls prog 184 #[.pointer (some ⟨mb,0,none⟩),.agg #[.int .i64 24,.int .i64 a],.int .i64 (pc:Int),.agg #[.int .u8 2,.int .i64 (j:Int)]] W fun e w'=>C2 1 [t] ((pc:Int)+1) 0 W e w':=by
 have HK:=dV h ho;have xv:=(fun (_:pc<=1000) (_:o.fl.length<=1000) (_:R.ths.length<=100000000000)=>h.lt _ _ h.me) hpc hn hth;obtain⟨tb,tc,fa,fc,m5,xz,t1,xn,xy,xc⟩:=h.thing ho;have xx:=(L1a.1 ho).1;have xh:(j:Int) < (R.ths.length:Int):=by omega
 obtain⟨fb,rfl,xw,xa⟩:=xc (by rw [hfl];simp);obtain⟨f0,f1⟩:=xa 0 t (by rw [hfl];rfl);rw[Nat.zero_mul] at f0 f1;have xb:o.fl.length=1:=by rw [hfl];rfl
 rw[xb] at t1;have xl:(t.1 == 2)=false:=L2c.2 h2;rw[hk] at HK;obtain⟨tk,tn⟩:=t;simp only at f0 f1;obtain⟨xk,xt,xq,xe,xm⟩:=N7 (show fb < W.heap.size by omega);generalize hnt:R.ths.length=nt at *
 generalize hnf:o.fl.length=nf at *
 obtain⟨xr,xf,xp,xg,xi⟩:=N7 (show mb < W.heap.size by omega);obtain⟨xo,xs,xd,xj,xu⟩:=N7 (show tb < W.heap.size by omega);clear h ho xc xa xn hk;simp only at h2 xl;go_enter func184,ntmps184;go_wp2_with (go_at_call 221;refine CE (HK.out _ P4) ?_)
 go_region
 go_wp2_with (first | (go_at_call 220;refine CE (L9 _ _ (tk,tn) _ hpc) ?_))
 refine bodyPost_ret (v:=.agg #[.int .i64 1,.slice (some ⟨W.heap.size+1+1+1+1+1+1+1,0,none⟩) 1 1,.int .i64 ((pc:Int)+1),.int .i64 0]) (by simp [results,results184,go_sem]) rfl ?_;refine⟨_,1,rfl,P4,rfl,L4b ⟨W.heap.size+1+1+1+1+1+1+1,1,#[.int .u8 tk,.int .i64 tn],rfl,by omega,?_,L1c _,by decide,rfl,rfl⟩⟩
 exact B1 R5
end
end Go.Proofs.YtbkmgoffiigdbaaGreatDoor
