import Derived.Test.YtbkmgoffiigdbaaGreatDoorVBg
namespace Go.Proofs.YtbkmgoffiigdbaaGreatDoor
open Go.RowKit Go.Sort Go.Proofs.Tryz
set_option maxHeartbeats 20000000
set_option maxRecDepth 100000
section
variable {R:RfR} {W:World} {g:PgR} {mb n:Nat} {own:Own}
theorem zO {w:World} {B e sz:Nat} {v:Value} {xs:List Value} (h:w.ownsRow B e sz v n xs) {D:Nat} (hne:v.ownBlock≠some D) (v0 v1 v2 v3:Value):((((w.setCell ⟨D,0,none⟩ v0).setCell ⟨D,1,none⟩ v1).setCell ⟨D,2,none⟩ v2).setCell ⟨D,3,none⟩ v3).ownsRow B e sz v n xs :=
 ownsRow_setCell_other (ownsRow_setCell_other (ownsRow_setCell_other (ownsRow_setCell_other h hne _) hne _) hne _) hne _
theorem iD {U w1:World} {own':Own} {pa:Option Addr} {push:List Val} {pcc:Nat} (hB:∀k,W.heap.size<=k->own k=none) (ht:A2 own U own' w1) (ho:w1.ownsRow U.heap.size 92 2 (.slice pa push.length pcc) push.length (A5 push)) (hU:Below W.heap.size W U:=by exact P4) (hl:W.heap.size+1+1 < U.heap.size:=by simp)
  (c0:U.cell? ⟨W.heap.size+1+1,0,none⟩=some (.int .i64 0):=by go_simp) (c1:U.cell? ⟨W.heap.size+1+1,1,none⟩=some (.slice none 0 0):=by go_simp) (c2:U.cell? ⟨W.heap.size+1+1,2,none⟩=some (.int .i64 0):=by go_simp) (c3:U.cell? ⟨W.heap.size+1+1,3,none⟩=some (.int .i64 0):=by go_simp)
  (z0:U.frozen? ⟨W.heap.size+1+1,0,none⟩=false:=by go_simp) (z1:U.frozen? ⟨W.heap.size+1+1,1,none⟩=false:=by go_simp) (z2:U.frozen? ⟨W.heap.size+1+1,2,none⟩=false:=by go_simp) (z3:U.frozen? ⟨W.heap.size+1+1,3,none⟩=false:=by go_simp) :
  w1.cell? ⟨W.heap.size+1+1,0,none⟩=some (.int .i64 0)/\w1.cell? ⟨W.heap.size+1+1,1,none⟩=some (.slice none 0 0)/\w1.cell? ⟨W.heap.size+1+1,2,none⟩=some (.int .i64 0)/\w1.cell? ⟨W.heap.size+1+1,3,none⟩=some (.int .i64 0)/\w1.frozen? ⟨W.heap.size+1+1,0,none⟩=false/\w1.frozen? ⟨W.heap.size+1+1,1,none⟩=false/\w1.frozen? ⟨W.heap.size+1+1,2,none⟩=false/\w1.frozen? ⟨W.heap.size+1+1,3,none⟩=false/\W.heap.size+1+1 < w1.heap.size/\Hid (own' (W.heap.size+1+1)=none)/\Hid (A2 own W own' w1)/\Hid (w1.ownsRow W.heap.size 92 2 (.slice pa push.length pcc) push.length (A5 push))/\Hid ((Value.slice pa push.length pcc).ownBlock≠some (W.heap.size+1+1)):=by
 have hn:own (W.heap.size+1+1)=none:=hB _ R4;have xa:=ht.block (W.heap.size+1+1) hl hn;refine⟨(L0b (a:=⟨W.heap.size+1+1,0,none⟩) xa).trans c0,(L0b (a:=⟨W.heap.size+1+1,1,none⟩) xa).trans c1,(L0b (a:=⟨W.heap.size+1+1,2,none⟩) xa).trans c2,(L0b (a:=⟨W.heap.size+1+1,3,none⟩) xa).trans c3,(L0c (a:=⟨W.heap.size+1+1,0,none⟩) xa).trans z0,(L0c (a:=⟨W.heap.size+1+1,1,none⟩) xa).trans z1,(L0c (a:=⟨W.heap.size+1+1,2,none⟩) xa).trans z2,(L0c (a:=⟨W.heap.size+1+1,3,none⟩) xa).trans z3,L0a hl ht.size,hid ((ht.old _ hl).trans hn),hid ((A2.of_below hU).trans ht),hid (fA ho hU.size),hid fun e=>?_⟩
 have:=(ho.lt _ e).1;omega
theorem lt4 {a:Nat} (h:a < n):a < n+1/\a < n+1+1/\a < n+1+1+1/\a < n+1+1+1+1:=by omega
theorem xJ (h:A8 W own mb g R) {sc nl lc:Nat} {sa la:Option Addr} (fn pc:Nat) (a:Int) {P:RfR->Prop} {drop:Int} {push:List Val} {to trap:Int} (hpd:∀R',P R'->∀b o,R'.da=some ⟨b,o,none⟩->b < W.heap.size)
  (hc:∀U,Below W.heap.size W U->Calls prog 181 #[.pointer (some ⟨mb,0,none⟩),.agg #[.int .i64 16,.int .i64 a],.int .i64 (pc:Int),.agg #[.int .u8 0,.int .i64 0]] U fun e w'=>J3 own mb g P drop push to trap U e w') :
  Calls prog 139 #[.pointer (some ⟨mb,0,none⟩),.agg #[.int .i64 16,.int .i64 a],.agg #[.int .i64 (fn:Int),.int .i64 (pc:Int),.slice la nl lc,.slice sa 0 sc]] W fun e w'=>J3 own mb g P drop push to trap W e w':=by
 have xc:Hid (∀k,W.heap.size<=k->own k=none):=hid fun k hk=>by
  cases e:own k with
  | none=>rfl
  | some t=>have:=h.lt k t e;omega
 have HH:=hid h;have HC:=hid hc;have xq:=hid hpd;clear h hc hpd;go_enter func139,ntmps139;go_wp2_with fail;refine (HC.out _ P4).mono ?_;rintro e w1 ⟨xa,R',pa,xb,rfl,xg,xi,xd,xh,xf⟩
 obtain⟨d0,d1,d2,d3,xu,xt,xs,xr,xp,xn,xo,xj,xm⟩:=iD xc.out xd xh;have xk:=hid xg;have xe:=hid xi;have xl:=hid xf;clear xg xi xd xh xf;go_wp2_with fail;refine bodyPost_ret (v:=.agg #[.int .i64 drop,.slice pa push.length xb,.int .i64 to,.int .i64 trap]) (by simp [results,results139,go_sem,d0,d1,d2,d3]) rfl ?_;obtain⟨hF,hT⟩:=bE HH.out (xq.out R' xe.out) xk.out xo.out (W.heap.size+1+1) R4 xn.out (.int .i64 drop) (.slice pa push.length xb) (.int .i64 to) (.int .i64 trap)
 exact⟨xa,R',pa,xb,rfl,hF,xe.out,hT,zO xj.out xm.out _ _ _ _,xl.out⟩
def eD (T S:Value):List (Int × Nat × Value):=[(16,181,T),(17,181,T),(18,181,T),(19,182,S),(20,182,S),(21,183,S),(22,183,S),(23,184,T),(24,184,T)]
theorem qQ (h:A8 W own mb g R) {sb m sc nl lc:Nat} {la:Option Addr} (fn pc:Nat) (a:Int) (k:Int) (c:Nat) (X:Value) (hsb:sb < W.heap.size) {tk tn:Int} (t0:W.cell? ⟨sb,m*2,none⟩=some (.int .u8 tk)) (t1:W.cell? ⟨sb,m*2+1,none⟩=some (.int .i64 tn)) (hm:m<=1000) (hk:(k,c,X)∈eD (.agg #[.int .u8 tk,.int .i64 tn]) (.slice (some ⟨sb,0,none⟩) (m+1) sc)) {P:RfR->Prop} {drop:Int} {push:List Val} {to trap:Int} (hpd:∀R',P R'->∀b o,R'.da=some ⟨b,o,none⟩->b < W.heap.size)
  (hc:∀U,Below W.heap.size W U->Calls prog c #[.pointer (some ⟨mb,0,none⟩),.agg #[.int .i64 k,.int .i64 a],.int .i64 (pc:Int),X] U fun e w'=>J3 own mb g P drop push to trap U e w') :
  Calls prog 139 #[.pointer (some ⟨mb,0,none⟩),.agg #[.int .i64 k,.int .i64 a],.agg #[.int .i64 (fn:Int),.int .i64 (pc:Int),.slice la nl lc,.slice (some ⟨sb,0,none⟩) (m+1) sc]] W fun e w'=>J3 own mb g P drop push to trap W e w':=by
 have xc:Hid (∀k,W.heap.size<=k->own k=none):=hid fun k hk=>by
  cases e:own k with
  | none=>rfl
  | some t=>have:=h.lt k t e;omega
 obtain⟨xj,xu,xo,xq⟩:=lt4 hsb;have HH:=hid h;have xt:=hid hpd;simp only[eD,List.mem_cons,List.mem_nil_iff,or_false,Prod.mk.injEq] at hk;clear h hpd;rcases hk with ⟨rfl,rfl,rfl⟩ | ⟨rfl,rfl,rfl⟩ | ⟨rfl,rfl,rfl⟩ | ⟨rfl,rfl,rfl⟩ | ⟨rfl,rfl,rfl⟩ | ⟨rfl,rfl,rfl⟩ | ⟨rfl,rfl,rfl⟩ | ⟨rfl,rfl,rfl⟩ | ⟨rfl,rfl,rfl⟩
 all_goals
  have HC:=hid hc;clear hc;go_enter func139,ntmps139;go_wp2_with fail;refine (HC.out _ P4).mono ?_;rintro e w1 ⟨xa,R',pa,xb,rfl,xg,xi,xd,xh,xf⟩;obtain⟨d0,d1,d2,d3,xy,xx,xw,xv,xs,xp,xr,xk,xn⟩:=iD xc.out xd xh
  have xl:=hid xg;have xe:=hid xi;have xm:=hid xf;clear xg xi xd xh xf;go_wp2_with fail;refine bodyPost_ret (v:=.agg #[.int .i64 drop,.slice pa push.length xb,.int .i64 to,.int .i64 trap]) (by simp [results,results139,go_sem,d0,d1,d2,d3]) rfl ?_;obtain⟨hF,hT⟩:=bE HH.out (xt.out R' xe.out) xl.out xr.out (W.heap.size+1+1) R4 xp.out (.int .i64 drop) (.slice pa push.length xb) (.int .i64 to) (.int .i64 trap)
  exact⟨xa,R',pa,xb,rfl,hF,xe.out,hT,zO xk.out xn.out _ _ _ _,xm.out⟩
theorem xK (h:A8 W own mb g R) {sc nl lc:Nat} {sa la:Option Addr} (fn pc:Nat) (a:Int) (op:Int) (hop:op < 16\/24 < op) {P:RfR->Prop} {drop:Int} {push:List Val} {to trap:Int} (hpd:∀R',P R'->∀b o,R'.da=some ⟨b,o,none⟩->b < W.heap.size)
  (hc:∀U,Below W.heap.size W U->Calls prog 185 #[.pointer (some ⟨mb,0,none⟩),.agg #[.int .i64 op,.int .i64 a],.int .i64 (pc:Int),.agg #[.int .i64 (fn:Int),.int .i64 (pc:Int),.slice la nl lc,.slice sa 0 sc]] U fun e w'=>J3 own mb g P drop push to trap U e w') :
  Calls prog 139 #[.pointer (some ⟨mb,0,none⟩),.agg #[.int .i64 op,.int .i64 a],.agg #[.int .i64 (fn:Int),.int .i64 (pc:Int),.slice la nl lc,.slice sa 0 sc]] W fun e w'=>J3 own mb g P drop push to trap W e w':=by
 have xg:Hid (∀k,W.heap.size<=k->own k=none):=hid fun k hk=>by
  cases e:own k with
  | none=>rfl
  | some t=>have:=h.lt k t e;omega
 have HH:=hid h;have HC:=hid hc;have yh:=hid hpd;have xj:¬op=16:=by omega
 have ye:(op == 16)=false:=L2c.2 xj;have xk:¬op=17:=by omega
 have xs:(op == 17)=false:=L2c.2 xk;have xe:¬op=18:=by omega
 have xz:(op == 18)=false:=L2c.2 xe;have xf:¬op=19:=by omega
 have xu:(op == 19)=false:=L2c.2 xf;have xb:¬op=20:=by omega
 have yc:(op == 20)=false:=L2c.2 xb;have xh:¬op=21:=by omega
 have yb:(op == 21)=false:=L2c.2 xh;have xi:¬op=22:=by omega
 have yd:(op == 22)=false:=L2c.2 xi;have xl:¬op=23:=by omega
 have yi:(op == 23)=false:=L2c.2 xl;have xa:¬op=24:=by omega
 have xy:(op == 24)=false:=L2c.2 xa;clear hop;clear h hc hpd;go_enter func139,ntmps139;go_wp2_with fail;refine (HC.out _ P4).mono ?_;rintro e w1 ⟨xc,R',pa,xd,rfl,xp,xr,xm,xq,xo⟩
 obtain⟨d0,d1,d2,d3,ym,yl,yk,yj,yg,ya,yf,xt,xx⟩:=iD xg.out xm xq;have xv:=hid xp;have xn:=hid xr;have xw:=hid xo;clear xp xr xm xq xo;go_wp2_with fail;refine bodyPost_ret (v:=.agg #[.int .i64 drop,.slice pa push.length xd,.int .i64 to,.int .i64 trap]) (by simp [results,results139,go_sem,d0,d1,d2,d3]) rfl ?_;obtain⟨hF,hT⟩:=bE HH.out (yh.out R' xn.out) xv.out yf.out (W.heap.size+1+1) R4 ya.out (.int .i64 drop) (.slice pa push.length xd) (.int .i64 to) (.int .i64 trap)
 exact⟨xc,R',pa,xd,rfl,hF,xn.out,hT,zO xt.out xx.out _ _ _ _,xw.out⟩
theorem a1f (h:A8 W own mb g R) {sb m sc nl lc:Nat} {la:Option Addr} (fn pc:Nat) (a:Int) (op:Int) (hop:op < 16\/24 < op) (hsb:sb < W.heap.size) {tk tn:Int} (t0:W.cell? ⟨sb,m*2,none⟩=some (.int .u8 tk)) (t1:W.cell? ⟨sb,m*2+1,none⟩=some (.int .i64 tn)) (hm:m<=1000) {P:RfR->Prop} {drop:Int} {push:List Val} {to trap:Int} (hpd:∀R',P R'->∀b o,R'.da=some ⟨b,o,none⟩->b < W.heap.size)
  (hc:∀U,Below W.heap.size W U->Calls prog 185 #[.pointer (some ⟨mb,0,none⟩),.agg #[.int .i64 op,.int .i64 a],.int .i64 (pc:Int),.agg #[.int .i64 (fn:Int),.int .i64 (pc:Int),.slice la nl lc,.slice (some ⟨sb,0,none⟩) (m+1) sc]] U fun e w'=>J3 own mb g P drop push to trap U e w') :
  Calls prog 139 #[.pointer (some ⟨mb,0,none⟩),.agg #[.int .i64 op,.int .i64 a],.agg #[.int .i64 (fn:Int),.int .i64 (pc:Int),.slice la nl lc,.slice (some ⟨sb,0,none⟩) (m+1) sc]] W fun e w'=>J3 own mb g P drop push to trap W e w':=by
 have xg:Hid (∀k,W.heap.size<=k->own k=none):=hid fun k hk=>by
  cases e:own k with
  | none=>rfl
  | some t=>have:=h.lt k t e;omega
 have HH:=hid h;have HC:=hid hc;have yk:=hid hpd;have xj:¬op=16:=by omega
 have yh:(op == 16)=false:=L2c.2 xj;have xk:¬op=17:=by omega
 have xs:(op == 17)=false:=L2c.2 xk;have xe:¬op=18:=by omega
 have yb:(op == 18)=false:=L2c.2 xe;have xf:¬op=19:=by omega
 have xv:(op == 19)=false:=L2c.2 xf;have xb:¬op=20:=by omega
 have yf:(op == 20)=false:=L2c.2 xb;have xh:¬op=21:=by omega
 have yd:(op == 21)=false:=L2c.2 xh;have xi:¬op=22:=by omega
 have yg:(op == 22)=false:=L2c.2 xi;have xl:¬op=23:=by omega
 have ym:(op == 23)=false:=L2c.2 xl;have xa:¬op=24:=by omega
 have xz:(op == 24)=false:=L2c.2 xa;clear hop;obtain⟨xt,yl,ya,ye⟩:=lt4 hsb;clear h hc hpd;go_enter func139,ntmps139;go_wp2_with fail;refine (HC.out _ P4).mono ?_
 rintro e w1 ⟨xc,R',pa,xd,rfl,xp,xr,xm,xq,xo⟩;obtain⟨d0,d1,d2,d3,yq,yp,yo,yn,yj,yc,yi,xu,xy⟩:=iD xg.out xm xq;have xw:=hid xp;have xn:=hid xr;have xx:=hid xo;clear xp xr xm xq xo;go_wp2_with fail;refine bodyPost_ret (v:=.agg #[.int .i64 drop,.slice pa push.length xd,.int .i64 to,.int .i64 trap]) (by simp [results,results139,go_sem,d0,d1,d2,d3]) rfl ?_;obtain⟨hF,hT⟩:=bE HH.out (yk.out R' xn.out) xw.out yi.out (W.heap.size+1+1) R4 yc.out (.int .i64 drop) (.slice pa push.length xd) (.int .i64 to) (.int .i64 trap)
 exact⟨xc,R',pa,xd,rfl,hF,xn.out,hT,zO xu.out xy.out _ _ _ _,xx.out⟩
end
end Go.Proofs.YtbkmgoffiigdbaaGreatDoor
