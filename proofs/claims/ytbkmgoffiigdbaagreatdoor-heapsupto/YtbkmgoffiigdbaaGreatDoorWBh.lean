import Derived.Test.YtbkmgoffiigdbaaGreatDoorWBg
namespace Go.Proofs.YtbkmgoffiigdbaaGreatDoor
open Go.RowKit Go.Sort Go.Proofs.Tryz
set_option maxHeartbeats 20000000
set_option maxRecDepth 100000
section
variable {R:RfR} {W:World} {g:PgR} {mb n:Nat} {own:Own}
theorem zL {w:World} {B e sz:Nat} {v:Value} {xs:List Value} (h:w.ownsRow B e sz v n xs) {D:Nat} (hne:v.ownBlock≠some D) (v0 v1 v2 v3:Value):((((w.setCell ⟨D,0,none⟩ v0).setCell ⟨D,1,none⟩ v1).setCell ⟨D,2,none⟩ v2).setCell ⟨D,3,none⟩ v3).ownsRow B e sz v n xs :=
 ownsRow_setCell_other (ownsRow_setCell_other (ownsRow_setCell_other (ownsRow_setCell_other h hne _) hne _) hne _) hne _
theorem iB {U w1:World} {own':Own} {pa:Option Addr} {push:List Val} {pcc:Nat} (hB:∀k,W.heap.size<=k->own k=none) (ht:A2 own U own' w1) (ho:w1.ownsRow U.heap.size 92 2 (.slice pa push.length pcc) push.length (A5 push)) (hU:L0d W U:=by exact P4) (hl:W.heap.size+1+1 < U.heap.size:=by simp)
  (c0:U.cell? ⟨W.heap.size+1+1,0,none⟩=some (.int .i64 0):=by go_simp) (c1:U.cell? ⟨W.heap.size+1+1,1,none⟩=some (.slice none 0 0):=by go_simp) (c2:U.cell? ⟨W.heap.size+1+1,2,none⟩=some (.int .i64 0):=by go_simp) (c3:U.cell? ⟨W.heap.size+1+1,3,none⟩=some (.int .i64 0):=by go_simp)
  (z0:U.frozen? ⟨W.heap.size+1+1,0,none⟩=false:=by go_simp) (z1:U.frozen? ⟨W.heap.size+1+1,1,none⟩=false:=by go_simp) (z2:U.frozen? ⟨W.heap.size+1+1,2,none⟩=false:=by go_simp) (z3:U.frozen? ⟨W.heap.size+1+1,3,none⟩=false:=by go_simp) :
  w1.cell? ⟨W.heap.size+1+1,0,none⟩=some (.int .i64 0)/\w1.cell? ⟨W.heap.size+1+1,1,none⟩=some (.slice none 0 0)/\w1.cell? ⟨W.heap.size+1+1,2,none⟩=some (.int .i64 0)/\w1.cell? ⟨W.heap.size+1+1,3,none⟩=some (.int .i64 0)/\w1.frozen? ⟨W.heap.size+1+1,0,none⟩=false/\w1.frozen? ⟨W.heap.size+1+1,1,none⟩=false/\w1.frozen? ⟨W.heap.size+1+1,2,none⟩=false/\w1.frozen? ⟨W.heap.size+1+1,3,none⟩=false/\W.heap.size+1+1 < w1.heap.size/\Hid (own' (W.heap.size+1+1)=none)/\Hid (A2 own W own' w1)/\Hid (w1.ownsRow W.heap.size 92 2 (.slice pa push.length pcc) push.length (A5 push))/\Hid ((Value.slice pa push.length pcc).ownBlock≠some (W.heap.size+1+1)):=by
 have hn:own (W.heap.size+1+1)=none:=hB _ R4;have xa:=ht.block (W.heap.size+1+1) hl hn;refine⟨(L0b (a:=⟨W.heap.size+1+1,0,none⟩) xa).trans c0,(L0b (a:=⟨W.heap.size+1+1,1,none⟩) xa).trans c1,(L0b (a:=⟨W.heap.size+1+1,2,none⟩) xa).trans c2,(L0b (a:=⟨W.heap.size+1+1,3,none⟩) xa).trans c3,(L0c (a:=⟨W.heap.size+1+1,0,none⟩) xa).trans z0,(L0c (a:=⟨W.heap.size+1+1,1,none⟩) xa).trans z1,(L0c (a:=⟨W.heap.size+1+1,2,none⟩) xa).trans z2,(L0c (a:=⟨W.heap.size+1+1,3,none⟩) xa).trans z3,L0a hl ht.size,hid ((ht.old _ hl).trans hn),hid ((A2.of_below hU).trans ht),hid (eT ho hU.size),hid fun e=>?_⟩
 have:=(ho.lt _ e).1;omega
theorem lt4 {a:Nat} (h:a < n):a < n+1/\a < n+1+1/\a < n+1+1+1/\a < n+1+1+1+1:=by omega
theorem xG (h:A8 W own mb g R) {sc nl lc:Nat} {sa la:Option Addr} (fn pc:Nat) (a:Int) {P:RfR->Prop} {drop:Int} {push:List Val} {to trap:Int} (hpd:∀R',P R'->∀b o,R'.da=some ⟨b,o,none⟩->b < W.heap.size)
  (hc:∀U,L0d W U->Calls prog 181 #[.pointer (some ⟨mb,0,none⟩),.agg #[.int .i64 16,.int .i64 a],.int .i64 (pc:Int),.agg #[.int .u8 0,.int .i64 0]] U fun e w'=>J6 own mb g P drop push to trap U e w') :
  Calls prog 139 #[.pointer (some ⟨mb,0,none⟩),.agg #[.int .i64 16,.int .i64 a],.agg #[.int .i64 (fn:Int),.int .i64 (pc:Int),.slice la nl lc,.slice sa 0 sc]] W fun e w'=>J6 own mb g P drop push to trap W e w':=by
 have xa:Hid (∀k,W.heap.size<=k->own k=none):=hid fun k hk=>by
  cases e:own k with
  | none=>rfl
  | some t=>have:=h.lt k t e;omega
 have HH:=hid h;have HC:=hid hc;have xo:=hid hpd;clear h hc hpd;go_enter func139,ntmps139;go_wp2_with fail;refine (HC.out _ P4).mono ?_;rintro e w1 ⟨xb,R',pa,xc,rfl,xe,xd,xi,xf,xg⟩
 obtain⟨d0,d1,d2,d3,xs,xu,xt,xr,xl,xp,xj,xq,xm⟩:=iB xa.out xi xf;have xn:=hid xe;have xh:=hid xd;have xk:=hid xg;clear xe xd xi xf xg;go_wp2_with fail;refine bodyPost_ret (v:=.agg #[.int .i64 drop,.slice pa push.length xc,.int .i64 to,.int .i64 trap]) (by simp [results,results139,go_sem,d0,d1,d2,d3]) rfl ?_;obtain⟨hF,hT⟩:=aY HH.out (xo.out R' xh.out) xn.out xj.out (W.heap.size+1+1) R4 xp.out (.int .i64 drop) (.slice pa push.length xc) (.int .i64 to) (.int .i64 trap)
 exact⟨xb,R',pa,xc,rfl,hF,xh.out,hT,zL xq.out xm.out _ _ _ _,xk.out⟩
def dR (T S:Value):List (Int × Nat × Value):=[(16,181,T),(17,181,T),(18,181,T),(19,182,S),(20,182,S),(21,183,S),(22,183,S),(23,184,T),(24,184,T)]
theorem qK (h:A8 W own mb g R) {sb m sc nl lc:Nat} {la:Option Addr} (fn pc:Nat) (a:Int) (k:Int) (c:Nat) (X:Value) (hsb:sb < W.heap.size) {tk tn:Int} (t0:W.cell? ⟨sb,m*2,none⟩=some (.int .u8 tk)) (t1:W.cell? ⟨sb,m*2+1,none⟩=some (.int .i64 tn)) (hm:m<=1000) (hk:(k,c,X)∈dR (.agg #[.int .u8 tk,.int .i64 tn]) (.slice (some ⟨sb,0,none⟩) (m+1) sc)) {P:RfR->Prop} {drop:Int} {push:List Val} {to trap:Int} (hpd:∀R',P R'->∀b o,R'.da=some ⟨b,o,none⟩->b < W.heap.size)
  (hc:∀U,L0d W U->Calls prog c #[.pointer (some ⟨mb,0,none⟩),.agg #[.int .i64 k,.int .i64 a],.int .i64 (pc:Int),X] U fun e w'=>J6 own mb g P drop push to trap U e w') :
  Calls prog 139 #[.pointer (some ⟨mb,0,none⟩),.agg #[.int .i64 k,.int .i64 a],.agg #[.int .i64 (fn:Int),.int .i64 (pc:Int),.slice la nl lc,.slice (some ⟨sb,0,none⟩) (m+1) sc]] W fun e w'=>J6 own mb g P drop push to trap W e w':=by
 have xa:Hid (∀k,W.heap.size<=k->own k=none):=hid fun k hk=>by
  cases e:own k with
  | none=>rfl
  | some t=>have:=h.lt k t e;omega
 obtain⟨xl,xr,xn,xk⟩:=lt4 hsb;have HH:=hid h;have xs:=hid hpd;simp only[dR,List.mem_cons,List.mem_nil_iff,or_false,Prod.mk.injEq] at hk;clear h hpd;rcases hk with ⟨rfl,rfl,rfl⟩ | ⟨rfl,rfl,rfl⟩ | ⟨rfl,rfl,rfl⟩ | ⟨rfl,rfl,rfl⟩ | ⟨rfl,rfl,rfl⟩ | ⟨rfl,rfl,rfl⟩ | ⟨rfl,rfl,rfl⟩ | ⟨rfl,rfl,rfl⟩ | ⟨rfl,rfl,rfl⟩
 all_goals
  have HC:=hid hc;clear hc;go_enter func139,ntmps139;go_wp2_with fail;refine (HC.out _ P4).mono ?_;rintro e w1 ⟨xb,R',pa,xc,rfl,xe,xd,xi,xf,xg⟩;obtain⟨d0,d1,d2,d3,xw,xy,xx,xv,xo,xt,xj,xu,xp⟩:=iB xa.out xi xf
  have xq:=hid xe;have xh:=hid xd;have xm:=hid xg;clear xe xd xi xf xg;go_wp2_with fail;refine bodyPost_ret (v:=.agg #[.int .i64 drop,.slice pa push.length xc,.int .i64 to,.int .i64 trap]) (by simp [results,results139,go_sem,d0,d1,d2,d3]) rfl ?_;obtain⟨hF,hT⟩:=aY HH.out (xs.out R' xh.out) xq.out xj.out (W.heap.size+1+1) R4 xt.out (.int .i64 drop) (.slice pa push.length xc) (.int .i64 to) (.int .i64 trap)
  exact⟨xb,R',pa,xc,rfl,hF,xh.out,hT,zL xu.out xp.out _ _ _ _,xm.out⟩
theorem xH (h:A8 W own mb g R) {sc nl lc:Nat} {sa la:Option Addr} (fn pc:Nat) (a:Int) (op:Int) (hop:op < 16\/24 < op) {P:RfR->Prop} {drop:Int} {push:List Val} {to trap:Int} (hpd:∀R',P R'->∀b o,R'.da=some ⟨b,o,none⟩->b < W.heap.size)
  (hc:∀U,L0d W U->Calls prog 185 #[.pointer (some ⟨mb,0,none⟩),.agg #[.int .i64 op,.int .i64 a],.int .i64 (pc:Int),.agg #[.int .i64 (fn:Int),.int .i64 (pc:Int),.slice la nl lc,.slice sa 0 sc]] U fun e w'=>J6 own mb g P drop push to trap U e w') :
  Calls prog 139 #[.pointer (some ⟨mb,0,none⟩),.agg #[.int .i64 op,.int .i64 a],.agg #[.int .i64 (fn:Int),.int .i64 (pc:Int),.slice la nl lc,.slice sa 0 sc]] W fun e w'=>J6 own mb g P drop push to trap W e w':=by
 have xg:Hid (∀k,W.heap.size<=k->own k=none):=hid fun k hk=>by
  cases e:own k with
  | none=>rfl
  | some t=>have:=h.lt k t e;omega
 have HH:=hid h;have HC:=hid hc;have yc:=hid hpd;have xa:¬op=16:=by omega
 have yi:(op == 16)=false:=L2c.2 xa;have xj:¬op=17:=by omega
 have yb:(op == 17)=false:=L2c.2 xj;have xb:¬op=18:=by omega
 have xz:(op == 18)=false:=L2c.2 xb;have xc:¬op=19:=by omega
 have xt:(op == 19)=false:=L2c.2 xc;have xk:¬op=20:=by omega
 have yg:(op == 20)=false:=L2c.2 xk;have xf:¬op=21:=by omega
 have yh:(op == 21)=false:=L2c.2 xf;have xi:¬op=22:=by omega
 have ye:(op == 22)=false:=L2c.2 xi;have xd:¬op=23:=by omega
 have xv:(op == 23)=false:=L2c.2 xd;have xe:¬op=24:=by omega
 have xx:(op == 24)=false:=L2c.2 xe;clear hop;clear h hc hpd;go_enter func139,ntmps139;go_wp2_with fail;refine (HC.out _ P4).mono ?_;rintro e w1 ⟨xh,R',pa,xl,rfl,xn,xm,xr,xo,xp⟩
 obtain⟨d0,d1,d2,d3,yk,ym,yl,yj,xw,yd,xs,yf,xy⟩:=iB xg.out xr xo;have ya:=hid xn;have xq:=hid xm;have xu:=hid xp;clear xn xm xr xo xp;go_wp2_with fail;refine bodyPost_ret (v:=.agg #[.int .i64 drop,.slice pa push.length xl,.int .i64 to,.int .i64 trap]) (by simp [results,results139,go_sem,d0,d1,d2,d3]) rfl ?_;obtain⟨hF,hT⟩:=aY HH.out (yc.out R' xq.out) ya.out xs.out (W.heap.size+1+1) R4 yd.out (.int .i64 drop) (.slice pa push.length xl) (.int .i64 to) (.int .i64 trap)
 exact⟨xh,R',pa,xl,rfl,hF,xq.out,hT,zL yf.out xy.out _ _ _ _,xu.out⟩
theorem a1h (h:A8 W own mb g R) {sb m sc nl lc:Nat} {la:Option Addr} (fn pc:Nat) (a:Int) (op:Int) (hop:op < 16\/24 < op) (hsb:sb < W.heap.size) {tk tn:Int} (t0:W.cell? ⟨sb,m*2,none⟩=some (.int .u8 tk)) (t1:W.cell? ⟨sb,m*2+1,none⟩=some (.int .i64 tn)) (hm:m<=1000) {P:RfR->Prop} {drop:Int} {push:List Val} {to trap:Int} (hpd:∀R',P R'->∀b o,R'.da=some ⟨b,o,none⟩->b < W.heap.size)
  (hc:∀U,L0d W U->Calls prog 185 #[.pointer (some ⟨mb,0,none⟩),.agg #[.int .i64 op,.int .i64 a],.int .i64 (pc:Int),.agg #[.int .i64 (fn:Int),.int .i64 (pc:Int),.slice la nl lc,.slice (some ⟨sb,0,none⟩) (m+1) sc]] U fun e w'=>J6 own mb g P drop push to trap U e w') :
  Calls prog 139 #[.pointer (some ⟨mb,0,none⟩),.agg #[.int .i64 op,.int .i64 a],.agg #[.int .i64 (fn:Int),.int .i64 (pc:Int),.slice la nl lc,.slice (some ⟨sb,0,none⟩) (m+1) sc]] W fun e w'=>J6 own mb g P drop push to trap W e w':=by
 have xg:Hid (∀k,W.heap.size<=k->own k=none):=hid fun k hk=>by
  cases e:own k with
  | none=>rfl
  | some t=>have:=h.lt k t e;omega
 have HH:=hid h;have HC:=hid hc;have yg:=hid hpd;have xa:¬op=16:=by omega
 have ym:(op == 16)=false:=L2c.2 xa;have xj:¬op=17:=by omega
 have ye:(op == 17)=false:=L2c.2 xj;have xb:¬op=18:=by omega
 have yc:(op == 18)=false:=L2c.2 xb;have xc:¬op=19:=by omega
 have xu:(op == 19)=false:=L2c.2 xc;have xk:¬op=20:=by omega
 have yk:(op == 20)=false:=L2c.2 xk;have xf:¬op=21:=by omega
 have yl:(op == 21)=false:=L2c.2 xf;have xi:¬op=22:=by omega
 have yi:(op == 22)=false:=L2c.2 xi;have xd:¬op=23:=by omega
 have xx:(op == 23)=false:=L2c.2 xd;have xe:¬op=24:=by omega
 have ya:(op == 24)=false:=L2c.2 xe;clear hop;obtain⟨xv,yf,xy,xt⟩:=lt4 hsb;clear h hc hpd;go_enter func139,ntmps139;go_wp2_with fail;refine (HC.out _ P4).mono ?_
 rintro e w1 ⟨xh,R',pa,xl,rfl,xn,xm,xr,xo,xp⟩;obtain⟨d0,d1,d2,d3,yo,yq,yp,yn,xz,yh,xs,yj,yb⟩:=iB xg.out xr xo;have yd:=hid xn;have xq:=hid xm;have xw:=hid xp;clear xn xm xr xo xp;go_wp2_with fail;refine bodyPost_ret (v:=.agg #[.int .i64 drop,.slice pa push.length xl,.int .i64 to,.int .i64 trap]) (by simp [results,results139,go_sem,d0,d1,d2,d3]) rfl ?_;obtain⟨hF,hT⟩:=aY HH.out (yg.out R' xq.out) yd.out xs.out (W.heap.size+1+1) R4 yh.out (.int .i64 drop) (.slice pa push.length xl) (.int .i64 to) (.int .i64 trap)
 exact⟨xh,R',pa,xl,rfl,hF,xq.out,hT,zL yj.out yb.out _ _ _ _,xw.out⟩
end
end Go.Proofs.YtbkmgoffiigdbaaGreatDoor
