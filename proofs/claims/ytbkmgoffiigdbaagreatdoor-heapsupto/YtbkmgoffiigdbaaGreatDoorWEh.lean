import Derived.Test.YtbkmgoffiigdbaaGreatDoorWEg
namespace Go.Proofs.YtbkmgoffiigdbaaGreatDoor
open Go.RowKit Go.Sort Go.Proofs.Tryz
set_option maxHeartbeats 2000000
set_option maxRecDepth 100000
section
variable {R:McR} {f:FrR} {fs:List FrR} {g:PgR} {mb sb:Nat} {own:Own} {rest:List Val} {va:Option Addr} {w:World} {x:Val}
theorem sK (h:C0 w own mb g R fs f rest [x] va sb) (hk:x.1≠2) (a:Int) (vc:Nat) :
  Calls prog 279 #[.pointer (some ⟨mb,0,none⟩),.int .i64 a,.slice va 1 vc] w fun e w'=>E9 2 w e w':=by
 obtain⟨o,rfl,xa,c0,c1⟩:=h.one;have h1:(x.1 == 2)=false:=L2c.2 hk;clear h hk;go_enter func279,ntmps279;go_wp2_with (first | (go_at_call 164;refine (S7 _ _ _).mono ?_;rintro e w' ⟨rfl,o4,rfl⟩))
 go_ret;exact⟨rfl,P5⟩
theorem a0o (hq:E6 R) (n:Int) (h:C0 w own mb g R fs f rest [(2,n)] va sb) (ho:W7 R) (hal:(A1 R.abs).length<=1000) (hdn:R.dr.length<=1000) (a:Int) (vc:Nat) :
  Calls prog 279 #[.pointer (some ⟨mb,0,none⟩),.int .i64 a,.slice va 1 vc] w fun e w'=>DoA own mb g (U1 R.abs (fs.map FrR.abs) f.abs rest 3 [(2,n)]) w e w':=by
 obtain⟨o,rfl,xd,c0,c1⟩:=h.one;simp only at c0 c1;have xc:Hid (∀W nb,L0d w W->W.heap.size=nb->Calls prog 300 #[.pointer (some ⟨mb,0,none⟩),.slice (some ⟨sb,o,none⟩) 1 vc,.int .u8 3,.slice (some ⟨nb,0,none⟩) 1 1] (W.alloc (Obj.cells #[.int .u8 2,.int .i64 n] 92)) fun e w'=>DoA own mb g (U1 R.abs (fs.map FrR.abs) f.abs rest 3 [(2,n)]) w e w'):=by
  rintro W _ hW rfl;have xb:(W.alloc (Obj.cells #[.int .u8 2,.int .i64 n] 92)).ownsRow 0 92 2 (.slice (some ⟨W.heap.size,0,none⟩) 1 1) 1 (A5 [(2,n)]):=by
   have:=World.ownsRow_lit (base:=0) (e:=92) (size:=2) W #[.int .u8 2,.int .i64 n] 1 (L4c _) Q5 rfl;exact this
  exact bO hq h (L3a hW hW.size _) ho hal hdn ⟨3,.slice (some ⟨W.heap.size,0,none⟩) 1 1,[(2,n)]⟩ W.heap.size 1 rfl hW.size xb 1 rfl vc
 clear h ho hal hdn hq;generalize U1 R.abs (fs.map FrR.abs) f.abs rest 3 [(2,n)]=s at *
 go_enter func279,ntmps279;go_wp2_with (first | (go_at_call 164;refine (S7 _ _ _).mono ?_;rintro e w' ⟨rfl,o4,rfl⟩) | (go_at_call 300;refine (xc.out _ _ ?_ ?_).mono ?_;exact P5;exact R5;rintro e w' ⟨xa,R',rfl,hm,hp,ht⟩))
 try go_region_with (first | (go_at_call 300;refine (xc.out _ _ ?_ ?_).mono ?_;exact P5;exact R5;rintro e w' ⟨xa,R',rfl,hm,hp,ht⟩))
 all_goals
  go_wp2_with fail;go_ret;exact⟨xa,R',rfl,hm,hp,ht⟩
theorem a4S (hq:E6 R) (h:C0 w own mb g R fs f rest [x] va sb) (ho:W7 R) (hal:(A1 R.abs).length<=1000) (hdn:R.dr.length<=1000) (a:Int) (vc:Nat) :
  Calls prog 279 #[.pointer (some ⟨mb,0,none⟩),.int .i64 a,.slice va 1 vc] w fun e w'=>DoA own mb g (doA g 18 a R.abs (fs.map FrR.abs) f.abs rest [x]) w e w':=by
 obtain⟨x1,x2⟩:=x;by_cases h1:x1=2
 ·subst h1
  have e:doA g 18 a R.abs (fs.map FrR.abs) f.abs rest [(2,x2)]=U1 R.abs (fs.map FrR.abs) f.abs rest 3 [(2,x2)]:=by
   simp[doA]
  rw[e];exact a0o hq x2 h ho hal hdn a vc
 ·have e:doA g 18 a R.abs (fs.map FrR.abs) f.abs rest [(x1,x2)]=C7 R.abs 2:=by
   simp only[doA];rw[if_neg h1]
  rw[e];exact (sK h h1 a vc).mono fun _ _ ht=>ht.doA h.m hq
def aI (al:List Nat) (v:Val):Val:=if v.1=2/\v.2.toNat∈al then v else (0,0)
theorem sW (mb:Nat) (w:World) :
  Calls prog 303 #[.pointer (some ⟨mb,0,none⟩),.agg #[.int .u8 0,.int .i64 0]] w fun e w'=>e=.returned (.agg #[.int .u8 0,.int .i64 0])/\L0d w w':=by
 go_enter func303,ntmps303;go_wp2_with fail
 first | (go_region_with (first | (go_at_call 164;refine (S7 _ _ _).mono ?_;rintro e w' ⟨he,o4,rfl⟩;have xa:e=.returned (.bool false):=(by rw [he];rfl);clear he;subst xa))) | fail
 all_goals
  go_wp2_with fail;exact bodyPost_ret (v:=.agg #[.int .u8 0,.int .i64 0]) (by simp [results,results303,go_sem]) rfl ⟨rfl,P5⟩
theorem sV (h:A4 w own mb g R) (ho:W7 R) (hal:(A1 R.abs).length<=1000) (v:Val) (hv:v=(0,0)\/(v.1=2/\0<=v.2)) :
  Calls prog 303 #[.pointer (some ⟨mb,0,none⟩),.agg #[.int .u8 v.1,.int .i64 v.2]] w fun e w'=>e=.returned (.agg #[.int .u8 (aI (A1 R.abs) v).1,.int .i64 (aI (A1 R.abs) v).2])/\L0d w w':=by
 rcases hv with rfl | ⟨h2,h0⟩
 rotate_left
 ·obtain ⟨v1,v2⟩:=v
  simp only at h2 h0;subst h2;obtain⟨n,rfl⟩:=L5c h0;have HA:Hid (∀W,L0d w W->Calls prog 141 #[.pointer (some ⟨mb,0,none⟩)] W fun e w'=>bW (A1 R.abs) W e w'):=fun W hW=>oA (h.same hW.size fun k hk=>hW.block k hk) ho
  have HC:Hid (∀U W a c,W.ownsRow U 3 1 (.slice a (A1 R.abs).length c) (A1 R.abs).length (fH (A1 R.abs))->Calls prog 186 #[.slice a (A1 R.abs).length c,.int .i64 (n:Int)] W fun e w'=>e=.returned (.bool (decide (n∈A1 R.abs)))/\L0d W w'):=fun U W a c hown=>by
   obtain⟨a',c',e,xm,_⟩:=aG.of_owns hown
   cases e;exact iA a _ c n W hal xm
  have xk:Hid (aI (A1 R.abs) (2,(n:Int))=if n∈A1 R.abs then (2,(n:Int)) else (0,0)):=by
   refine hid ?_;unfold aI;by_cases hm:n∈A1 R.abs
   ·rw [if_pos ⟨rfl,by simpa using hm⟩,if_pos hm]
   ·rw [if_neg (fun e=>hm (by simpa using e.2)),if_neg hm]
  generalize A1 R.abs=al at *
  clear h ho h0;by_cases hm:n∈al
  ·have hd:decide (n∈al)=true:=decide_eq_true hm
   rw[xk.out,if_pos hm];simp only;go_enter func303,ntmps303;go_wp2_with fail;go_region_with (first | (go_at_call 164;refine (S7 _ _ _).mono ?_;rintro e w' ⟨rfl,o4,rfl⟩) | (go_at_call 141;refine (HA.out _ ?_).mono ?_;exact P5;rintro e w2 ⟨v2,rfl,xe,xc⟩;obtain ⟨a2,c2,rfl,_,_⟩:=aG.of_owns xe;have q0:w2.cell? ⟨w.heap.size,0,none⟩=some (.int .u8 2):=(xc.cell (p:=⟨w.heap.size,0,none⟩) Q2).trans Q9;have q1:w2.cell? ⟨w.heap.size,1,none⟩=some (.int .i64 (n:Int)):=(xc.cell (p:=⟨w.heap.size,1,none⟩) Q2).trans Q9;have xd:w.heap.size < w2.heap.size:=L0a Q2 xc.size;have s0:w2.cell? ⟨w.heap.size+1,0,none⟩=some (.int .u8 0):=(xc.cell (p:=⟨w.heap.size+1,0,none⟩) Q2).trans Q9;have s1:w2.cell? ⟨w.heap.size+1,1,none⟩=some (.int .i64 0):=(xc.cell (p:=⟨w.heap.size+1,1,none⟩) Q2).trans Q9;have y0:w2.frozen? ⟨w.heap.size+1,0,none⟩=false:=(xc.frozen (p:=⟨w.heap.size+1,0,none⟩) Q2).trans Q9;have y1:w2.frozen? ⟨w.heap.size+1,1,none⟩=false:=(xc.frozen (p:=⟨w.heap.size+1,1,none⟩) Q2).trans Q9;have xa:w.heap.size+1 < w2.heap.size:=L0a Q2 xc.size;have xh:=hid xe;have xj:Hid (L0d w w2):=A7 xc P5;clear xe xc) | (go_at_call 186;go_must (refine (HC.out _ _ _ _ xh.out).mono ?_);rintro e w3 ⟨xf,xb⟩;rw [hd] at xf;subst xf;have r0:=(xb.cell (p:=⟨w.heap.size,0,none⟩) (by first | exact xd | simpa using xd)).trans q0;have r1:=(xb.cell (p:=⟨w.heap.size,1,none⟩) (by first | exact xd | simpa using xd)).trans q1;have xp:w.heap.size < w3.heap.size:=L0a xd xb.size;have xn:=(xb.cell (p:=⟨w.heap.size+1,0,none⟩) xa).trans s0;have xl:=(xb.cell (p:=⟨w.heap.size+1,1,none⟩) xa).trans s1;have xq:=(xb.frozen (p:=⟨w.heap.size+1,0,none⟩) xa).trans y0;have xo:=(xb.frozen (p:=⟨w.heap.size+1,1,none⟩) xa).trans y1;have xi:w.heap.size+1 < w3.heap.size:=L0a xa xb.size;have xg:Hid (L0d w w3):=A7 xb (by repeat (first | exact xj.out | refine L3c ?_));clear xb))
   all_goals
    go_wp2_with fail;have u0:(w3.setCell ⟨w.heap.size+1,0,none⟩ (.int .u8 2)).cell? ⟨w.heap.size+1,0,none⟩=some (.int .u8 2):=by go_simp
    have u1:((w3.setCell ⟨w.heap.size+1,0,none⟩ (.int .u8 2)).setCell ⟨w.heap.size+1,1,none⟩ (.int .i64 (n:Int))).cell? ⟨w.heap.size+1,1,none⟩=some (.int .i64 (n:Int)):=by go_simp
    exact bodyPost_ret (v:=.agg #[.int .u8 2,.int .i64 (n:Int)]) (by simp [results,results303,go_sem,u0,u1]) rfl ⟨rfl,Below.setCell (Below.setCell xg.out (Nat.le_succ _) _) (Nat.le_succ _) _⟩
  ·have hd:decide (n∈al)=false:=decide_eq_false hm
   rw[xk.out,if_neg hm];simp only;go_enter func303,ntmps303;go_wp2_with fail;go_region_with (first | (go_at_call 164;refine (S7 _ _ _).mono ?_;rintro e w' ⟨rfl,o4,rfl⟩) | (go_at_call 141;refine (HA.out _ ?_).mono ?_;exact P5;rintro e w2 ⟨v2,rfl,xe,xc⟩;obtain ⟨a2,c2,rfl,_,_⟩:=aG.of_owns xe;have q0:w2.cell? ⟨w.heap.size,0,none⟩=some (.int .u8 2):=(xc.cell (p:=⟨w.heap.size,0,none⟩) Q2).trans Q9;have q1:w2.cell? ⟨w.heap.size,1,none⟩=some (.int .i64 (n:Int)):=(xc.cell (p:=⟨w.heap.size,1,none⟩) Q2).trans Q9;have xd:w.heap.size < w2.heap.size:=L0a Q2 xc.size;have s0:w2.cell? ⟨w.heap.size+1,0,none⟩=some (.int .u8 0):=(xc.cell (p:=⟨w.heap.size+1,0,none⟩) Q2).trans Q9;have s1:w2.cell? ⟨w.heap.size+1,1,none⟩=some (.int .i64 0):=(xc.cell (p:=⟨w.heap.size+1,1,none⟩) Q2).trans Q9;have y0:w2.frozen? ⟨w.heap.size+1,0,none⟩=false:=(xc.frozen (p:=⟨w.heap.size+1,0,none⟩) Q2).trans Q9;have y1:w2.frozen? ⟨w.heap.size+1,1,none⟩=false:=(xc.frozen (p:=⟨w.heap.size+1,1,none⟩) Q2).trans Q9;have xa:w.heap.size+1 < w2.heap.size:=L0a Q2 xc.size;have xh:=hid xe;have xj:Hid (L0d w w2):=A7 xc P5;clear xe xc) | (go_at_call 186;go_must (refine (HC.out _ _ _ _ xh.out).mono ?_);rintro e w3 ⟨xf,xb⟩;rw [hd] at xf;subst xf;have r0:=(xb.cell (p:=⟨w.heap.size,0,none⟩) (by first | exact xd | simpa using xd)).trans q0;have r1:=(xb.cell (p:=⟨w.heap.size,1,none⟩) (by first | exact xd | simpa using xd)).trans q1;have xp:w.heap.size < w3.heap.size:=L0a xd xb.size;have xn:=(xb.cell (p:=⟨w.heap.size+1,0,none⟩) xa).trans s0;have xl:=(xb.cell (p:=⟨w.heap.size+1,1,none⟩) xa).trans s1;have xq:=(xb.frozen (p:=⟨w.heap.size+1,0,none⟩) xa).trans y0;have xo:=(xb.frozen (p:=⟨w.heap.size+1,1,none⟩) xa).trans y1;have xi:w.heap.size+1 < w3.heap.size:=L0a xa xb.size;have xg:Hid (L0d w w3):=A7 xb (by repeat (first | exact xj.out | refine L3c ?_));clear xb))
   all_goals
    go_wp2_with fail;have u0:(w3.setCell ⟨w.heap.size+1,0,none⟩ (.int .u8 0)).cell? ⟨w.heap.size+1,0,none⟩=some (.int .u8 0):=by go_simp
    have u1:((w3.setCell ⟨w.heap.size+1,0,none⟩ (.int .u8 0)).setCell ⟨w.heap.size+1,1,none⟩ (.int .i64 0)).cell? ⟨w.heap.size+1,1,none⟩=some (.int .i64 0):=by go_simp
    exact bodyPost_ret (v:=.agg #[.int .u8 0,.int .i64 0]) (by simp [results,results303,go_sem,u0,u1]) rfl ⟨rfl,Below.setCell (Below.setCell xg.out (Nat.le_succ _) _) (Nat.le_succ _) _⟩
 ·have e:aI (A1 R.abs) (0,0)=(0,0):=if_neg (fun e=>by simp at e)
  rw[e];exact sW mb w
end
end Go.Proofs.YtbkmgoffiigdbaaGreatDoor
