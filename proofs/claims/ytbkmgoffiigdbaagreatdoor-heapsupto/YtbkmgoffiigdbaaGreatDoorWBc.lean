import Derived.Test.YtbkmgoffiigdbaaGreatDoorWAj
namespace Go.Proofs.YtbkmgoffiigdbaaGreatDoor
open Go.RowKit Go.Sort Go.Proofs.Tryz
set_option maxHeartbeats 2000000
set_option maxRecDepth 100000
section
variable {fs:List FrR} {g:PgR} {lb lc mb:Nat} {own:Own} {w:World}
theorem A8.setLoc {w':World} {R:RfR} {f:FrR} {l:List Val} (h:A8 w own mb g R) (hf:R.frs=fs++[f]) (hlv:f.lv=.slice (some ⟨lb,0,none⟩) f.loc.length lc) (holb:own lb=some (.loc fs.length)) (hsize:w.heap.size=w'.heap.size) (hk:∀k,k≠lb->w'.heap[k]?=w.heap[k]?) (hlen:l.length=f.loc.length)
  (hrow:w'.ownsRow 0 92 2 (.slice (some ⟨lb,0,none⟩) f.loc.length lc) f.loc.length (A5 l)):A8 w' own mb g { R with frs:=fs++[{ f with loc:=l }] }:=by
 have keep:∀t,t≠.loc fs.length->∀k,own k=some t->w'.heap[k]?=w.heap[k]?/\own k=some t:=fun t ht k hk'=>⟨hk k (fun e=>by rw [e,holb] at hk';exact ht (L5b hk').symm),hk'⟩
 have xb:=(keep .mach R5 mb h.me).1;have kc:∀i,w'.cell? ⟨mb,i,none⟩=w.cell? ⟨mb,i,none⟩:=fun i=>L0b (w:=w) (a:=⟨mb,i,none⟩) xb
 have xd:(fs++[{ f with loc:=l }]).flatMap FrR.cells=R.frs.flatMap FrR.cells:=by
  rw[hf,List.flatMap_append,List.flatMap_append];rfl
 have xe:(fs++[{ f with loc:=l }]).length=R.frs.length:=by rw [hf];simp
 have xa:∀i x,(fs++[{ f with loc:=l }])[i]?=some x->(i=fs.length/\x={ f with loc:=l })\/(i < fs.length/\R.frs[i]?=some x):=fun i x hx=>by
  rcases Nat.lt_or_ge i fs.length with hl | hl
  ·rw [List.getElem?_append_left hl] at hx
   exact L4b ⟨hl,by rw [hf,List.getElem?_append_left hl];exact hx⟩
  ·rw [List.getElem?_append_right hl] at hx
   have:i - fs.length=0:=by
    have:=(L1a.1 hx).1;simp at this;omega
   rw[this] at hx;exact L4a ⟨by omega,by simpa using hx.symm⟩
 have xc:R.frs[fs.length]?=some f:=by rw [hf];simp
 refine h.edit (R':={ R with frs:=fs++[{ f with loc:=l }] }) (Nat.le_of_eq hsize) (fun k t hk'=>by rw [<- hsize];exact h.lt k t hk') h.me (fun k hn _ _=>⟨hn,hk k fun e=>by rw [e,holb] at hn;cases hn⟩) (kc 0) ((kc 1).trans h.c1) ((kc 2).trans h.c2) ((kc 3).trans h.c3) ((kc 4).trans h.c4) ((kc 5).trans h.c5) (kc 6) (fun j=>by rw [L0c (w:=w) (a:=⟨mb,j,none⟩) xb];exact h.fz j)
  (h.out.kept (keep _ R5)) ?_ (h.things.kept (keep _ R5)) (fun i x hx=>?_) (fun i x hx=>?_) (fun i x hx=>(h.fld i x hx).kept (keep _ R5)) (fun b o e=>(h.dro b o e).2) rfl rfl rfl
 ·have:=h.called.kept (own':=own) (w':=w') (keep _ R5)
  show Row w' own .called 86 4 R.cv (fs++[{ f with loc:=l }]).length ((fs++[{ f with loc:=l }]).flatMap FrR.cells);rw[xd,xe];exact this
 ·rcases xa i x hx with ⟨rfl,rfl⟩ | ⟨hi,hx⟩
  ·show Row w' own (.loc fs.length) 92 2 f.lv l.length (A5 l)
   rw[hlv,hlen]
   exact⟨hrow,fun b hb=>by obtain rfl:lb=b:=by simpa [Value.ownBlock] using hb
                           exact holb⟩
  ·exact (h.loc i x hx).kept (keep _ Q8)
 ·rcases xa i x hx with ⟨rfl,rfl⟩ | ⟨hi,hx⟩
  ·exact (h.stk _ f xc).kept (keep _ R5)
  ·exact (h.stk i x hx).kept (keep _ R5)
theorem A8.putLoc {R:RfR} {f:FrR} {i:Nat} {x y:Val} (h:A8 w own mb g R) (hf:R.frs=fs++[f]) (hi:f.loc[i]?=some x) (hlv:f.lv=.slice (some ⟨lb,0,none⟩) f.loc.length lc) (holb:own lb=some (.loc fs.length)) :
  A8 ((w.setCell ⟨lb,i*2,none⟩ (.int .u8 y.1)).setCell ⟨lb,i*2+1,none⟩ (.int .i64 y.2)) own mb g { R with frs:=fs++[{ f with loc:=f.loc.set i y }] } /\
   A2 own w own ((w.setCell ⟨lb,i*2,none⟩ (.int .u8 y.1)).setCell ⟨lb,i*2+1,none⟩ (.int .i64 y.2)):=by
 have hl:=h.loc fs.length f (by rw [hf];simp);rw[hlv] at hl;have hr:=(World.ownsRow.stored (World.ownsRow.stored hl.1 (i*2) (.int .u8 y.1)).1 (i*2+1) (.int .i64 y.2)).1;rw[<- fA hi] at hr;have xa:∀k,k≠lb->((w.setCell ⟨lb,i*2,none⟩ (.int .u8 y.1)).setCell ⟨lb,i*2+1,none⟩ (.int .i64 y.2)).heap[k]?=w.heap[k]?:=fun k hk=>by
  rw[heap_setCell_other _ _ _ _ hk,heap_setCell_other _ _ _ _ hk]
 exact⟨h.setLoc hf hlv holb R5 xa R5 hr,⟨rfl,rfl,rfl,by simp,fun k hk hno=>xa k (fun e=>by rw [e,holb] at hno;cases hno),fun _ _=>rfl⟩⟩
end
section
variable {W:World} {la:Option Addr} {lc m mb nl sb sc:Nat}
theorem a3t (fn:Nat) (x:Val) (b:Nat) (pc:Nat) (hpc:pc<=1000) (hsb:sb < W.heap.size) (x0:W.cell? ⟨sb,m*2,none⟩=some (.int .u8 x.1)) (x1:W.cell? ⟨sb,m*2+1,none⟩=some (.int .i64 x.2)) (hm:m<=1000) {own:Own} {g:PgR} {R:RfR} {fs:List FrR} {f:FrR} (h:A8 W own mb g R) (hf:R.frs=fs++[f]) {z:Val} (hz:f.loc[b]?=some z) (hlv:f.lv=.slice la nl lc) (hnl:nl=f.loc.length) (hln:nl<=1000) (hsl:∀k,own k=some (.loc fs.length)->sb≠k) :
  Calls prog 185 #[.pointer (some ⟨mb,0,none⟩),.agg #[.int .i64 3,.int .i64 (b:Int)],.int .i64 (pc:Int),.agg #[.int .i64 (fn:Int),.int .i64 (pc:Int),.slice la nl lc,.slice (some ⟨sb,0,none⟩) (m+1) sc]] W fun e w'=>J6 own mb g (fun R'=>R'={ R with frs:=fs++[{ f with loc:=f.loc.set b x }] }) 1 [] ((pc:Int)+1) 0 W e w':=by
 have xt:=(fun (_:m<=1000)=>hpc) hm;obtain⟨xk,xn⟩:=x;simp only at x0 x1;obtain⟨xj,xq,xo,xh⟩:=S9 (show sb < W.heap.size by omega);have xx:=(L1a.1 hz).1;have xp:(b:Int) < (nl:Int):=(fun (_:nl<=1000)=>by omega) hln;have xa:=h.loc fs.length f (by rw [hf];simp);obtain⟨xy,xv,e1,_,xf⟩:=xa.vals;rw[hlv,hnl] at e1;obtain⟨lb,xe,xw,xg⟩:=xf R4;have xc:la=some ⟨lb,0,none⟩:=by
  injection e1 with q1 q2 q3
  rw[q1];exact xe
 subst xc;obtain⟨f0,f1⟩:=xg b z hz;have xb:own lb=some (.loc fs.length):=xa.2 lb (by rw [hlv];rfl);have xd:∀q,W.frozen? ⟨lb,q,none⟩=false:=fun q=>qS xa.1 (by rw [hlv];rfl) q
 have z0:=xd (b*2);have z1:=xd (b*2+1);have xz:sb≠lb:=hsl lb xb;have HA:=hid h;have HF:=hid hf;have HZ:=hid hz;have xm:Hid (f.lv=.slice (some ⟨lb,0,none⟩) f.loc.length lc):=hid (by rw [hlv,hnl]);have xi:=hid xb;clear h hf hz hlv hnl xa xf xg xd xb hsl e1 xe;obtain⟨xr,xs,xl,xu⟩:=S9 (show lb < W.heap.size by omega);go_enter func185,ntmps185;go_wp2_with fail;go_region
 go_wp2_with (go_at_call 222;refine CE (R8 _ _ _ hpc) ?_)
 obtain⟨hM,hT⟩:=HA.out.putLoc (y:=(xk,xn)) HF.out HZ.out xm.out xi.out;refine bodyPost_ret (v:=.agg #[.int .i64 1,.slice none 0 0,.int .i64 ((pc:Int)+1),.int .i64 0]) (by simp [results,results185,go_sem]) rfl ?_;exact⟨own,_,none,0,rfl,hM.same P4,rfl,hT.trans (A2.of_below P4),B8 _ _,fun b hb=>by cases hb⟩
theorem nR (fn:Nat) (x:Val) (a:Int) (pc:Nat) (hpc:pc<=1000) (hsb:sb < W.heap.size) (x0:W.cell? ⟨sb,m*2,none⟩=some (.int .u8 x.1)) (x1:W.cell? ⟨sb,m*2+1,none⟩=some (.int .i64 x.2)) (hm:m<=1000) (h1:x.1≠1) :
  Calls prog 185 #[.pointer (some ⟨mb,0,none⟩),.agg #[.int .i64 26,.int .i64 a],.int .i64 (pc:Int),.agg #[.int .i64 (fn:Int),.int .i64 (pc:Int),.slice la nl lc,.slice (some ⟨sb,0,none⟩) (m+1) sc]] W fun e w'=>C2 0 [] 0 2 W e w':=by
 have xf:=(fun (_:m<=1000)=>hpc) hm;obtain⟨xk,xn⟩:=x;simp only at x0 x1;obtain⟨xe,xc,xd,xb⟩:=S9 (show sb < W.heap.size by omega);have xa:¬xk=1:=h1;have xg:(xk == 1)=false:=L2c.2 xa;clear h1;go_enter func185,ntmps185;go_wp2_with (go_at_call 218;refine CE (B5 _ _) ?_)
 refine bodyPost_ret (v:=.agg #[.int .i64 0,.slice none 0 0,.int .i64 0,.int .i64 2]) (by simp [results,results185,go_sem]) rfl ?_;exact⟨none,0,rfl,P4,B8 _ _⟩
theorem nQ (fn:Nat) (x:Val) (a:Int) (pc:Nat) (hpc:pc<=1000) (hsb:sb < W.heap.size) (x0:W.cell? ⟨sb,m*2,none⟩=some (.int .u8 x.1)) (x1:W.cell? ⟨sb,m*2+1,none⟩=some (.int .i64 x.2)) (hm:m<=1000) {own:Own} {g:PgR} {R:RfR} (h:A8 W own mb g R) (h1:x.1=1) (ho:40<=R.out.length) (ho2:R.out.length<=1000) :
  Calls prog 185 #[.pointer (some ⟨mb,0,none⟩),.agg #[.int .i64 26,.int .i64 a],.int .i64 (pc:Int),.agg #[.int .i64 (fn:Int),.int .i64 (pc:Int),.slice la nl lc,.slice (some ⟨sb,0,none⟩) (m+1) sc]] W fun e w'=>C2 0 [] 0 7 W e w':=by
 have xl:=(fun (_:m<=1000)=>hpc) hm;obtain⟨xk,xn⟩:=x;simp only at x0 x1;obtain⟨xe,xi,xf,xb⟩:=S9 (show sb < W.heap.size by omega);have xg:xk=1:=h1;subst xg;have xo:=h.lt _ _ h.me;obtain⟨oa,oc,xa,_⟩:=B4 h.out.1;have m3:=h.c3;rw[xa] at m3;have xm:(40:Int)<=(R.out.length:Int):=by omega
 generalize R.out.length=no at *
 clear h h1 xa ho;obtain⟨xj,xc,xh,xd⟩:=S9 (show mb < W.heap.size by omega);go_enter func185,ntmps185;go_wp2_with (go_at_call 218;refine CE (B5 _ _) ?_)
 refine bodyPost_ret (v:=.agg #[.int .i64 0,.slice none 0 0,.int .i64 0,.int .i64 7]) (by simp [results,results185,go_sem]) rfl ?_;exact⟨none,0,rfl,P4,B8 _ _⟩
end
end Go.Proofs.YtbkmgoffiigdbaaGreatDoor
