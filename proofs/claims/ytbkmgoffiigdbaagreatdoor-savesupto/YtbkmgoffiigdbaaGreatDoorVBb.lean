import Derived.Test.YtbkmgoffiigdbaaGreatDoorVAj
namespace Go.Proofs.YtbkmgoffiigdbaaGreatDoor
open Go.RowKit Go.Sort Go.Proofs.Tryz
set_option maxHeartbeats 20000000
set_option maxRecDepth 100000
section
variable {R:RfR} {W:World} {g:PgR} {mb n:Nat} {own:Own}
theorem a1M {w:World} {B e sz:Nat} {v:Value} {xs:List Value} (h:w.ownsRow B e sz v n xs) {D:Nat} (hne:v.ownBlock≠some D) (v0 v1 v2 v3:Value):((((w.setCell ⟨D,0,none⟩ v0).setCell ⟨D,1,none⟩ v1).setCell ⟨D,2,none⟩ v2).setCell ⟨D,3,none⟩ v3).ownsRow B e sz v n xs :=
 ownsRow_setCell_other (ownsRow_setCell_other (ownsRow_setCell_other (ownsRow_setCell_other h hne _) hne _) hne _) hne _
theorem kA {U w1:World} {own':Own} {pa:Option Addr} {push:List Val} {pcc:Nat} (hB:∀k,W.heap.size<=k->own k=none) (ht:A2 own U own' w1) (ho:w1.ownsRow U.heap.size 92 2 (.slice pa push.length pcc) push.length (A7 push)) (hU:L0d W U:=by exact P4) (hl:W.heap.size+1+1 < U.heap.size:=by simp)
  (c0:U.cell? ⟨W.heap.size+1+1,0,none⟩=some (J 0):=by go_simp) (c1:U.cell? ⟨W.heap.size+1+1,1,none⟩=some zD:=by go_simp) (c2:U.cell? ⟨W.heap.size+1+1,2,none⟩=some (J 0):=by go_simp) (c3:U.cell? ⟨W.heap.size+1+1,3,none⟩=some (J 0):=by go_simp)
  (z0:U.frozen? ⟨W.heap.size+1+1,0,none⟩=false:=by go_simp) (z1:U.frozen? ⟨W.heap.size+1+1,1,none⟩=false:=by go_simp) (z2:U.frozen? ⟨W.heap.size+1+1,2,none⟩=false:=by go_simp) (z3:U.frozen? ⟨W.heap.size+1+1,3,none⟩=false:=by go_simp) :
  w1.cell? ⟨W.heap.size+1+1,0,none⟩=some (J 0)/\w1.cell? ⟨W.heap.size+1+1,1,none⟩=some zD/\w1.cell? ⟨W.heap.size+1+1,2,none⟩=some (J 0)/\w1.cell? ⟨W.heap.size+1+1,3,none⟩=some (J 0)/\w1.frozen? ⟨W.heap.size+1+1,0,none⟩=false/\w1.frozen? ⟨W.heap.size+1+1,1,none⟩=false/\w1.frozen? ⟨W.heap.size+1+1,2,none⟩=false/\w1.frozen? ⟨W.heap.size+1+1,3,none⟩=false/\W.heap.size+1+1 < w1.heap.size/\Hid (own' (W.heap.size+1+1)=none)/\Hid (A2 own W own' w1)/\Hid (w1.ownsRow W.heap.size 92 2 (.slice pa push.length pcc) push.length (A7 push))/\Hid ((Value.slice pa push.length pcc).ownBlock≠some (W.heap.size+1+1)):=by
 have hn:own (W.heap.size+1+1)=none:=hB _ R5;have xa:=ht.block (W.heap.size+1+1) hl hn;refine⟨(L0b (a:=⟨W.heap.size+1+1,0,none⟩) xa).trans c0,(L0b (a:=⟨W.heap.size+1+1,1,none⟩) xa).trans c1,(L0b (a:=⟨W.heap.size+1+1,2,none⟩) xa).trans c2,(L0b (a:=⟨W.heap.size+1+1,3,none⟩) xa).trans c3,(L0c (a:=⟨W.heap.size+1+1,0,none⟩) xa).trans z0,(L0c (a:=⟨W.heap.size+1+1,1,none⟩) xa).trans z1,(L0c (a:=⟨W.heap.size+1+1,2,none⟩) xa).trans z2,(L0c (a:=⟨W.heap.size+1+1,3,none⟩) xa).trans z3,L0a hl ht.size,hid ((ht.old _ hl).trans hn),hid ((A2.of_below hU).trans ht),hid (eE ho hU.size),hid fun e=>?_⟩
 have:=(ho.lt _ e).1;omega
theorem lt4 {a:Nat} (h:a < n):a < n+1/\a < n+1+1/\a < n+1+1+1/\a < n+1+1+1+1:=by omega
theorem a0H (h:A9 W own mb g R) {sc nl lc:Nat} {sa la:Option Addr} (fn pc:Nat) (a:Int) {P:RfR->Prop} {drop:Int} {push:List Val} {to trap:Int} (hpd:∀R',P R'->∀b o,R'.da=some ⟨b,o,none⟩->b < W.heap.size)
  (hc:∀U,L0d W U->Calls prog 181 #[zB mb,.agg #[J 16,J a],J (pc:Int),.agg #[zC 0,J 0]] U fun e w'=>K8 own mb g P drop push to trap U e w') :
  Calls prog 139 #[zB mb,.agg #[J 16,J a],.agg #[J (fn:Int),J (pc:Int),.slice la nl lc,.slice sa 0 sc]] W fun e w'=>K8 own mb g P drop push to trap W e w':=by
 have xc:Hid (∀k,W.heap.size<=k->own k=none):=hid fun k hk=>by
  cases e:own k with
  | none=>rfl
  | some t=>have:=h.lt k t e;omega
 have HH:=hid h;have HC:=hid hc;have xq:=hid hpd;clear h hc hpd;go_enter func139,ntmps139;go_wp2_with fail;refine (HC.out _ P4).mono ?_;rintro e w1 ⟨xa,R',pa,xb,rfl,xf,xi,xh,xg,xd⟩
 obtain⟨d0,d1,d2,d3,xs,xr,xu,xt,xl,xk,xm,xp,xj⟩:=kA xc.out xh xg;have xn:=hid xf;have xe:=hid xi;have xo:=hid xd;clear xf xi xh xg xd;go_wp2_with fail;refine bodyPost_ret (v:=.agg #[J drop,.slice pa push.length xb,J to,J trap]) (by simp [results,results139,go_sem,d0,d1,d2,d3]) rfl ?_;obtain⟨hF,hT⟩:=cI HH.out (xq.out R' xe.out) xn.out xm.out (W.heap.size+1+1) R5 xk.out (J drop) (.slice pa push.length xb) (J to) (J trap)
 exact⟨xa,R',pa,xb,rfl,hF,xe.out,hT,a1M xp.out xj.out _ _ _ _,xo.out⟩
def fV (T S:Value):List (Int × Nat × Value):=[(16,181,T),(17,181,T),(18,181,T),(19,182,S),(20,182,S),(21,183,S),(22,183,S),(23,184,T),(24,184,T)]
theorem tP (h:A9 W own mb g R) {sb m sc nl lc:Nat} {la:Option Addr} (fn pc:Nat) (a:Int) (k:Int) (c:Nat) (X:Value) (hsb:sb < W.heap.size) {tk tn:Int} (t0:W.cell? ⟨sb,m*2,none⟩=some (zC tk)) (t1:W.cell? ⟨sb,m*2+1,none⟩=some (J tn)) (hm:m<=1000) (hk:(k,c,X)∈fV (.agg #[zC tk,J tn]) (.slice (zA sb) (m+1) sc)) {P:RfR->Prop} {drop:Int} {push:List Val} {to trap:Int} (hpd:∀R',P R'->∀b o,R'.da=some ⟨b,o,none⟩->b < W.heap.size)
  (hc:∀U,L0d W U->Calls prog c #[zB mb,.agg #[J k,J a],J (pc:Int),X] U fun e w'=>K8 own mb g P drop push to trap U e w') :
  Calls prog 139 #[zB mb,.agg #[J k,J a],.agg #[J (fn:Int),J (pc:Int),.slice la nl lc,.slice (zA sb) (m+1) sc]] W fun e w'=>K8 own mb g P drop push to trap W e w':=by
 have xc:Hid (∀k,W.heap.size<=k->own k=none):=hid fun k hk=>by
  cases e:own k with
  | none=>rfl
  | some t=>have:=h.lt k t e;omega
 obtain⟨xo,xj,xu,xk⟩:=lt4 hsb;have HH:=hid h;have xt:=hid hpd;simp only[fV,List.mem_cons,List.mem_nil_iff,or_false,Prod.mk.injEq] at hk;clear h hpd;rcases hk with ⟨rfl,rfl,rfl⟩ | ⟨rfl,rfl,rfl⟩ | ⟨rfl,rfl,rfl⟩ | ⟨rfl,rfl,rfl⟩ | ⟨rfl,rfl,rfl⟩ | ⟨rfl,rfl,rfl⟩ | ⟨rfl,rfl,rfl⟩ | ⟨rfl,rfl,rfl⟩ | ⟨rfl,rfl,rfl⟩
 all_goals
  have HC:=hid hc;clear hc;go_enter func139,ntmps139;go_wp2_with fail;refine (HC.out _ P4).mono ?_;rintro e w1 ⟨xa,R',pa,xb,rfl,xf,xi,xh,xg,xd⟩;obtain⟨d0,d1,d2,d3,xw,xv,xy,xx,xn,xm,xp,xs,xl⟩:=kA xc.out xh xg
  have xq:=hid xf;have xe:=hid xi;have xr:=hid xd;clear xf xi xh xg xd;go_wp2_with fail;refine bodyPost_ret (v:=.agg #[J drop,.slice pa push.length xb,J to,J trap]) (by simp [results,results139,go_sem,d0,d1,d2,d3]) rfl ?_;obtain⟨hF,hT⟩:=cI HH.out (xt.out R' xe.out) xq.out xp.out (W.heap.size+1+1) R5 xm.out (J drop) (.slice pa push.length xb) (J to) (J trap)
  exact⟨xa,R',pa,xb,rfl,hF,xe.out,hT,a1M xs.out xl.out _ _ _ _,xr.out⟩
theorem a0I (h:A9 W own mb g R) {sc nl lc:Nat} {sa la:Option Addr} (fn pc:Nat) (a:Int) (op:Int) (hop:op < 16\/24 < op) {P:RfR->Prop} {drop:Int} {push:List Val} {to trap:Int} (hpd:∀R',P R'->∀b o,R'.da=some ⟨b,o,none⟩->b < W.heap.size)
  (hc:∀U,L0d W U->Calls prog 185 #[zB mb,.agg #[J op,J a],J (pc:Int),.agg #[J (fn:Int),J (pc:Int),.slice la nl lc,.slice sa 0 sc]] U fun e w'=>K8 own mb g P drop push to trap U e w') :
  Calls prog 139 #[zB mb,.agg #[J op,J a],.agg #[J (fn:Int),J (pc:Int),.slice la nl lc,.slice sa 0 sc]] W fun e w'=>K8 own mb g P drop push to trap W e w':=by
 have xk:Hid (∀k,W.heap.size<=k->own k=none):=hid fun k hk=>by
  cases e:own k with
  | none=>rfl
  | some t=>have:=h.lt k t e;omega
 have HH:=hid h;have HC:=hid hc;have yh:=hid hpd;have xg:¬op=16:=by omega
 have xt:(op == 16)=false:=L2c.2 xg;have xi:¬op=17:=by omega
 have ya:(op == 17)=false:=L2c.2 xi;have xf:¬op=18:=by omega
 have xs:(op == 18)=false:=L2c.2 xf;have xh:¬op=19:=by omega
 have ye:(op == 19)=false:=L2c.2 xh;have xe:¬op=20:=by omega
 have yi:(op == 20)=false:=L2c.2 xe;have xb:¬op=21:=by omega
 have xu:(op == 21)=false:=L2c.2 xb;have xl:¬op=22:=by omega
 have xw:(op == 22)=false:=L2c.2 xl;have xj:¬op=23:=by omega
 have xz:(op == 23)=false:=L2c.2 xj;have xa:¬op=24:=by omega
 have xv:(op == 24)=false:=L2c.2 xa;clear hop;clear h hc hpd;go_enter func139,ntmps139;go_wp2_with fail;refine (HC.out _ P4).mono ?_;rintro e w1 ⟨xc,R',pa,xd,rfl,xo,xr,xq,xp,xm⟩
 obtain⟨d0,d1,d2,d3,yk,yj,ym,yl,yb,xy,yc,yg,xx⟩:=kA xk.out xq xp;have yd:=hid xo;have xn:=hid xr;have yf:=hid xm;clear xo xr xq xp xm;go_wp2_with fail;refine bodyPost_ret (v:=.agg #[J drop,.slice pa push.length xd,J to,J trap]) (by simp [results,results139,go_sem,d0,d1,d2,d3]) rfl ?_;obtain⟨hF,hT⟩:=cI HH.out (yh.out R' xn.out) yd.out yc.out (W.heap.size+1+1) R5 xy.out (J drop) (.slice pa push.length xd) (J to) (J trap)
 exact⟨xc,R',pa,xd,rfl,hF,xn.out,hT,a1M yg.out xx.out _ _ _ _,yf.out⟩
theorem a3u (h:A9 W own mb g R) {sb m sc nl lc:Nat} {la:Option Addr} (fn pc:Nat) (a:Int) (op:Int) (hop:op < 16\/24 < op) (hsb:sb < W.heap.size) {tk tn:Int} (t0:W.cell? ⟨sb,m*2,none⟩=some (zC tk)) (t1:W.cell? ⟨sb,m*2+1,none⟩=some (J tn)) (hm:m<=1000) {P:RfR->Prop} {drop:Int} {push:List Val} {to trap:Int} (hpd:∀R',P R'->∀b o,R'.da=some ⟨b,o,none⟩->b < W.heap.size)
  (hc:∀U,L0d W U->Calls prog 185 #[zB mb,.agg #[J op,J a],J (pc:Int),.agg #[J (fn:Int),J (pc:Int),.slice la nl lc,.slice (zA sb) (m+1) sc]] U fun e w'=>K8 own mb g P drop push to trap U e w') :
  Calls prog 139 #[zB mb,.agg #[J op,J a],.agg #[J (fn:Int),J (pc:Int),.slice la nl lc,.slice (zA sb) (m+1) sc]] W fun e w'=>K8 own mb g P drop push to trap W e w':=by
 have xk:Hid (∀k,W.heap.size<=k->own k=none):=hid fun k hk=>by
  cases e:own k with
  | none=>rfl
  | some t=>have:=h.lt k t e;omega
 have HH:=hid h;have HC:=hid hc;have yk:=hid hpd;have xg:¬op=16:=by omega
 have xt:(op == 16)=false:=L2c.2 xg;have xi:¬op=17:=by omega
 have yc:(op == 17)=false:=L2c.2 xi;have xf:¬op=18:=by omega
 have xs:(op == 18)=false:=L2c.2 xf;have xh:¬op=19:=by omega
 have yh:(op == 19)=false:=L2c.2 xh;have xe:¬op=20:=by omega
 have ym:(op == 20)=false:=L2c.2 xe;have xb:¬op=21:=by omega
 have xu:(op == 21)=false:=L2c.2 xb;have xl:¬op=22:=by omega
 have xw:(op == 22)=false:=L2c.2 xl;have xj:¬op=23:=by omega
 have yb:(op == 23)=false:=L2c.2 xj;have xa:¬op=24:=by omega
 have xv:(op == 24)=false:=L2c.2 xa;clear hop;obtain⟨ye,xx,yl,xy⟩:=lt4 hsb;clear h hc hpd;go_enter func139,ntmps139;go_wp2_with fail;refine (HC.out _ P4).mono ?_
 rintro e w1 ⟨xc,R',pa,xd,rfl,xo,xr,xq,xp,xm⟩;obtain⟨d0,d1,d2,d3,yo,yn,yq,yp,yd,ya,yf,yj,xz⟩:=kA xk.out xq xp;have yg:=hid xo;have xn:=hid xr;have yi:=hid xm;clear xo xr xq xp xm;go_wp2_with fail;refine bodyPost_ret (v:=.agg #[J drop,.slice pa push.length xd,J to,J trap]) (by simp [results,results139,go_sem,d0,d1,d2,d3]) rfl ?_;obtain⟨hF,hT⟩:=cI HH.out (yk.out R' xn.out) yg.out yf.out (W.heap.size+1+1) R5 ya.out (J drop) (.slice pa push.length xd) (J to) (J trap)
 exact⟨xc,R',pa,xd,rfl,hF,xn.out,hT,a1M yj.out xz.out _ _ _ _,yi.out⟩
end
section
variable {cb cc mb:Nat} {f:FrR} {fs:List FrR} {g:PgR} {own:Own} {w:World}
theorem A9.setSt {R:RfR} (h:A9 w own mb g R) (st:Int) :
  A9 (w.setCell ⟨mb,2,none⟩ (J st)) own mb g { R with st:=st }/\A2 own w own (w.setCell ⟨mb,2,none⟩ (J st)):=by
 obtain⟨k1,k2⟩:=h.mach 2 (J st);have hs:(w.setCell ⟨mb,2,none⟩ (J st)).heap.size=w.heap.size:=by simp
 have keep:∀t,t≠.mach->∀k,own k=some t->(w.setCell ⟨mb,2,none⟩ (J st)).heap[k]?=w.heap[k]?/\own k=some t:=fun t ht k e=>⟨k1 t k e ht,e⟩
 refine⟨h.edit (R':={ R with st:=st }) (by rw [hs];exact L1c _) (fun k t e=>by rw [hs];exact h.lt k t e) h.me (fun k hn _ _=>⟨hn,k2 k hn⟩) (B9 _ R4) ((B9 _ R4).trans h.c1) (World.cell?_setCell_same _ _ _ h.c2) ((B9 _ R4).trans h.c3) ((B9 _ R4).trans h.c4) ((B9 _ R4).trans h.c5) (B9 _ R4) (fun j=>by go_simp;exact h.fz j)
  (h.out.kept (keep _ R6)) (h.called.kept (keep _ R6)) (h.things.kept (keep _ R6)) (fun i x hx=>(h.loc i x hx).kept (keep _ R6)) (fun i x hx=>(h.stk i x hx).kept (keep _ R6)) (fun i x hx=>(h.fld i x hx).kept (keep _ R6)) (fun b o e=>(h.dro b o e).2) rfl rfl rfl,⟨rfl,rfl,rfl,by simp,fun k _ hn=>k2 k hn,fun _ _=>rfl⟩⟩
theorem A9.setTop {w':World} {R:RfR} {f':FrR} (h:A9 w own mb g R) (hf:R.frs=fs++[f]) (hcv:R.cv=.slice (zA cb) R.frs.length cc) (hlv:f'.lv=f.lv) (hloc:f'.loc=f.loc) (hsize:w.heap.size=w'.heap.size) (hk:∀k,k≠cb->w'.heap[k]?=w.heap[k]?)
  (hrow:w'.ownsRow 0 86 4 (.slice (zA cb) R.frs.length cc) R.frs.length ((fs++[f']).flatMap FrR.cells)) (hst:w.ownsRow 0 92 2 f'.sv f'.stk.length (A7 f'.stk)) (hnb:S6 own g f'.sv) (hnd:∀b o,R.da=some ⟨b,o,none⟩->f'.sv.ownBlock≠some b) :
  A9 w' (own.upd f'.sv.ownBlock (.stk fs.length)) mb g { R with frs:=fs++[f'] }:=by
 have xg:=h.lt;have xa:own cb=some .called:=h.called.2 cb (by rw [hcv];rfl);have xc:∀k t,own k=some t->(own.upd f'.sv.ownBlock (.stk fs.length)) k=some t:=fun k t e=>(hnb.upd e).trans e
 have keep:∀t,t≠.called->∀k,own k=some t->w'.heap[k]?=w.heap[k]?/\(own.upd f'.sv.ownBlock (.stk fs.length)) k=some t:=fun t ht k hk'=>⟨hk k (fun e=>by rw [e,xa] at hk';exact ht (L5b hk').symm),xc k t hk'⟩
 have xe:=(keep .mach R6 mb h.me).1;have kc:∀i,w'.cell? ⟨mb,i,none⟩=w.cell? ⟨mb,i,none⟩:=fun i=>L0b (w:=w) (a:=⟨mb,i,none⟩) xe
 have xh:(fs++[f']).length=R.frs.length:=by rw [hf];simp
 have xf:R.frs[fs.length]?=some f:=by rw [hf];simp
 have xb:∀i x,(fs++[f'])[i]?=some x->(i=fs.length/\x=f')\/(i < fs.length/\R.frs[i]?=some x):=fun i x hx=>by
  rcases Nat.lt_or_ge i fs.length with hl | hl
  ·rw [List.getElem?_append_left hl] at hx
   exact L4b ⟨hl,by rw [hf,List.getElem?_append_left hl];exact hx⟩
  ·rw [List.getElem?_append_right hl] at hx
   have:i - fs.length=0:=by
    have:=(L1a.1 hx).1;simp at this;omega
   rw[this] at hx;exact L4a ⟨by omega,by simpa using hx.symm⟩
 have xd:∀k,own k=none->f'.sv.ownBlock≠some k->(own.upd f'.sv.ownBlock (.stk fs.length)) k=none:=fun k hn hne=>by
  unfold Own.upd;rw [if_neg hne];exact hn
 refine h.edit (R':={ R with frs:=fs++[f'] }) (Nat.le_of_eq hsize) (fun k t hk'=>?_) (xc _ _ h.me) (fun k hn hks hor=>⟨xd k hn ?_,hk k fun e=>by rw [e,xa] at hn;cases hn⟩) (kc 0) ((kc 1).trans h.c1) ((kc 2).trans h.c2) ((kc 3).trans h.c3) ((kc 4).trans h.c4) ((kc 5).trans h.c5) (kc 6) (fun j=>by rw [L0c (w:=w) (a:=⟨mb,j,none⟩) xe];exact h.fz j)
  (h.out.kept (keep _ R6)) ⟨?_,fun b hb=>?_⟩ (h.things.kept (keep _ R6)) (fun i x hx=>?_) (fun i x hx=>?_) (fun i x hx=>(h.fld i x hx).kept (keep _ R6)) (fun b o e=>xd b (h.dro b o e).2 (hnd b o e)) rfl rfl rfl
 ·unfold Own.upd at hk'
  split at hk'
  ·rename_i e;rw [<- hsize];exact (hst.lt k e).2
  ·rw [<- hsize];exact xg k t hk'
 ·rcases hor with hb | rfl | ⟨o,e⟩
  ·exact fun e=>(hnb k e).2.1 k hb rfl
  ·exact fun e=>(hnb 0 e).2.2 rfl
  ·exact hnd k o e
 ·rw [show ({ R with frs:=fs++[f'] } : RfR).frs.length=R.frs.length from xh]
  show w'.ownsRow 0 86 4 R.cv R.frs.length _;rw[hcv];exact hrow
 ·exact xc b _ (h.called.2 b hb)
 ·rcases xb i x hx with ⟨rfl,rfl⟩ | ⟨hi,hx⟩
  ·rw [hlv,hloc]
   exact (h.loc _ f xf).kept (keep _ R6)
  ·exact (h.loc i x hx).kept (keep _ R6)
 ·rcases xb i x hx with ⟨rfl,rfl⟩ | ⟨hi,hx⟩
  ·refine ⟨A6 hst fun b hb=>hk b fun e=>?_,fun b hb=>by simp [Own.upd,hb]⟩
   have:=(hnb b hb).1;rw[e,xa] at this
   cases this
  ·exact (h.stk i x hx).kept (keep _ R6)
theorem A9.goOn {R:RfR} {f:FrR} {sv:Value} {stk:List Val} {to:Nat} (h:A9 w own mb g R) (hf:R.frs=fs++[f]) (hcv:R.cv=.slice (zA cb) R.frs.length cc) (hst:w.ownsRow 0 92 2 sv stk.length (A7 stk)) (hnb:S6 own g sv) (hnd:∀b o,R.da=some ⟨b,o,none⟩->sv.ownBlock≠some b) :
  A9 ((w.setCell ⟨cb,fs.length*4+3,none⟩ sv).setCell ⟨cb,fs.length*4+1,none⟩ (J (to:Int))) (own.upd sv.ownBlock (.stk fs.length)) mb g { R with frs:=fs++[{ f with pc:=to,sv:=sv,stk:=stk }] } /\
   ∀k,k≠cb->((w.setCell ⟨cb,fs.length*4+3,none⟩ sv).setCell ⟨cb,fs.length*4+1,none⟩ (J (to:Int))).heap[k]?=w.heap[k]?:=by
 have hl:=h.called.1;rw[hcv] at hl;have xc:R.frs[fs.length]?=some f:=by rw [hf];simp
 have hr:=(World.ownsRow.stored (World.ownsRow.stored hl (fs.length*4+3) sv).1 (fs.length*4+1) (J (to:Int))).1;rw[<- I7 (c:=FrR.cells) FrR.cells_len (l:=R.frs) (i:=fs.length) (j:=3) (x:=f) (y:={ f with sv:=sv,stk:=stk }) (u:=sv) xc R5 rfl,
  <- I7 (c:=FrR.cells) FrR.cells_len (l:=R.frs.set fs.length { f with sv:=sv,stk:=stk }) (i:=fs.length) (j:=1) (x:={ f with sv:=sv,stk:=stk }) (y:={ f with pc:=to,sv:=sv,stk:=stk }) (u:=J (to:Int)) (by rw [List.getElem?_set_self (by rw [hf];simp)]) R5 rfl,List.set_set] at hr
 have xb:R.frs.set fs.length { f with pc:=to,sv:=sv,stk:=stk }=fs++[{ f with pc:=to,sv:=sv,stk:=stk }]:=by rw [hf];simp
 rw[xb] at hr;have xa:∀k,k≠cb->((w.setCell ⟨cb,fs.length*4+3,none⟩ sv).setCell ⟨cb,fs.length*4+1,none⟩ (J (to:Int))).heap[k]?=w.heap[k]?:=fun k hk=>by
  rw[heap_setCell_other _ _ _ _ hk,heap_setCell_other _ _ _ _ hk]
 exact⟨h.setTop (f':={ f with pc:=to,sv:=sv,stk:=stk }) hf hcv rfl rfl R6 xa hr hst hnb hnd,xa⟩
end
section
variable {R:RfR} {W:World} {f:FrR} {fs:List FrR} {g:PgR} {l:List Val} {mb:Nat} {own:Own}
theorem J0 {P:Program} {w:World} {ops:Array Oper} {o:Oper} {a:Act} {K:Act->World->Prop} {Q:Exit->Act->World->Prop} {E:Prop} (hgd:o.guard=none) (s x:Operand) (t:TypeId)
  (ho:o.op=.call { callee:=.builtin .append,args:=#[s,x],argTypes:=#[t,t] })
  (base:Nat) (e:TypeId) (i:TypeInfo) (z:Value) (size bytes:Nat) (ht:P.underlying t=some (.slice e)) (hi:P.info? e=some i) (hz:i.zero=some z)
  (hsize:i.size=size) (hby:i.bytes=bytes) (hzs:z.cells.size=size) (hsz:0 < size)
  (v:Value) (n:Nat) (xs:List Value) (hs:a.eval s=v) (hown:w.ownsRow base e size v n xs)
  (ad:Option Addr) (m c:Nat) (news:List Value) (hx:a.eval x=.slice ad m c) (hl:news.length=m*size) (hnews:0 < m->∃d,ad=some d/\∀j u,news[j]?=some u->w.cell? (d.add j)=some u) (h1:∀u∈news,u.oneCell'=true)
  (h63:n+m<=maxLen) (hbytes:(n+m)*bytes<=140737488355328) (hbase:base<=w.heap.size)
  (h:∀v' w',w'.ownsRow base e size v' (n+m) (xs++news)->w.grownBy w' v.ownBlock->(∀g,v'.ownBlock=some g->v.ownBlock=some g\/g=w.heap.size)->K (a.put o.dst v') w') :
  if Region.wanted o (yielded ops a.tmps)=true then Oper.wp P o a w K Q else E:=by
 have hw:Region.wanted o (yielded ops a.tmps)=true:=by simp [Region.wanted,hgd]
 rw[if_pos hw];exact dV w s x t ho base e i z size bytes ht hi hz hsize hby hzs hsz v n xs hs hown ad m c news hx hl hnews h1 h63 hbytes hbase h
theorem N7.take {B:Nat} {a:Option Addr} (h:N7 W B a l) (k:Nat):N7 W B a (l.take k):=fun h0=>by
 rw[List.length_take] at h0;obtain⟨b,e,hb,hc⟩:=h R5;refine⟨b,e,hb,fun i x hx=>hc i x ?_⟩;rw[List.getElem?_take] at hx;split at hx
 ·exact hx
 ·cases hx
theorem A9.front (h:A9 W own mb g R) (hf:R.frs=fs++[f]) (hfn:f.fn < g.n) (hpc:f.pc < (g.f f.fn).n) :
  ∃cb cc,R.cv=.slice (zA cb) (fs.length+1) cc/\W.cell? ⟨mb,4,none⟩=some (.slice (zA cb) (fs.length+1) cc)/\cb < W.heap.size/\own cb=some .called/\(∀j,W.frozen? ⟨cb,j,none⟩=false) /\
   W.cell? ⟨cb,fs.length*4,none⟩=some (J (f.fn:Int))/\W.cell? ⟨cb,fs.length*4+1,none⟩=some (J (f.pc:Int))/\W.cell? ⟨cb,fs.length*4+2,none⟩=some f.lv/\W.cell? ⟨cb,fs.length*4+3,none⟩=some f.sv /\
   W.cell? ⟨mb,0,none⟩=some (.slice (some ⟨g.b,g.o,none⟩) g.n g.c)/\g.b < W.heap.size/\W.cell? ⟨g.b,g.o+f.fn*3+2,none⟩=some (.slice (some ⟨(g.f f.fn).b,(g.f f.fn).o,none⟩) (g.f f.fn).n (g.f f.fn).c)/\(g.f f.fn).b < W.heap.size /\
   W.cell? ⟨(g.f f.fn).b,(g.f f.fn).o+f.pc*2,none⟩=some (J ((g.f f.fn).op f.pc))/\W.cell? ⟨(g.f f.fn).b,(g.f f.fn).o+f.pc*2+1,none⟩=some (J ((g.f f.fn).ar f.pc)):=by
 obtain⟨a,cp,hv,_,hc⟩:=Row.cells FrR.cells_len h.called;have hl:R.frs.length=fs.length+1:=by rw [hf];simp
 have xb:R.frs[fs.length]?=some f:=by rw [hf];simp
 obtain⟨cb,rfl,xd,xc,hz,xa⟩:=hc R5;obtain⟨g1,g2,g3⟩:=h.pg.2.1 R5;obtain⟨q1,q2,q3⟩:=(h.pg.2.2 f.fn hfn).2 R5;have m0:=h.c0;rw[g1] at m0;have x2:=(g3 f.fn hfn).2.2;rw[q1] at x2;have m4:=h.c4;rw[hv,hl] at m4;exact⟨cb,cp,by rw [hv,hl],m4,xd,xc,hz,xa fs.length 0 f _ xb R4 rfl,xa fs.length 1 f _ xb R4 rfl,xa fs.length 2 f _ xb R4 rfl,xa fs.length 3 f _ xb R4 rfl,m0,g2,x2,q2,(q3 f.pc hpc).1,(q3 f.pc hpc).2⟩
theorem a6r {w1 w3:World} {own1:Own} {R1:RfR} {f:FrR} {push:List Val} {cb cc k drop to:Nat} {va:Option Addr} {vc:Nat} (h1:A9 w1 own1 mb g R1) (hfr:R1.frs=fs++[{ f with loc:=l }]) (hcv:R1.cv=.slice (zA cb) (fs.length+1) cc) (hB3:L0d w1 w3) (hk:f.stk.length=k+drop)
  (hown:w3.ownsRow w1.heap.size 92 2 (.slice va (k+push.length) vc) (k+push.length) (A7 (f.stk.take k)++A7 push)) (hT:A2 own W own1 w1) :
  ∃own2,A9 ((w3.setCell ⟨cb,fs.length*4+3,none⟩ (.slice va (k+push.length) vc)).setCell ⟨cb,fs.length*4+1,none⟩ (J (to:Int))) own2 mb g { R1 with frs:=fs++[{ f with loc:=l,pc:=to,sv:=.slice va (k+push.length) vc,stk:=f.stk.take (f.stk.length - drop)++push }] } /\
   A2 own W own2 ((w3.setCell ⟨cb,fs.length*4+3,none⟩ (.slice va (k+push.length) vc)).setCell ⟨cb,fs.length*4+1,none⟩ (J (to:Int))):=by
 have xg:R1.frs.length=fs.length+1:=by rw [hfr];simp
 have xf:f.stk.length - drop=k:=by omega
 have xd:(f.stk.take k++push).length=k+push.length:=by rw [List.length_append,List.length_take];omega
 have xb:∀b,(Value.slice va (k+push.length) vc).ownBlock=some b->w1.heap.size<=b:=fun b hb=>(hown.lt b hb).1
 have xe:S6 own1 g (.slice va (k+push.length) vc):=fun b hb=>by
  have:=xb b hb;refine⟨?_,fun q hq e=>?_,fun e=>?_⟩
  ·cases e:own1 b with
   | none=>rfl
   | some t=>have:=h1.lt b t e;omega
  ·have:=h1.pg.blk_lt hq;omega
  ·have:=h1.lt _ _ h1.me;omega
 have xa:own1 cb=some .called:=h1.called.2 cb (by rw [hcv];rfl);obtain⟨hF,xc⟩:=(h1.same hB3).goOn (f:={ f with loc:=l }) (cc:=cc) (sv:=.slice va (k+push.length) vc) (stk:=f.stk.take k++push) (to:=to) hfr (by rw [hcv,xg]) (by rw [xd,J7];exact eE hown (L4c _)) xe (fun b o e hb=>by
  have:=(h1.dro b o e).1;have:=xb b hb;omega)
 refine⟨own1.upd (Value.slice va (k+push.length) vc).ownBlock (.stk fs.length),by rw [xf];exact hF,hT.trans ⟨hB3.os,hB3.tape,hB3.output,by simpa using hB3.size,fun q hq hn=>?_,fun q hq=>?_⟩⟩
 ·rw [xc q (fun e=>by rw [e,xa] at hn;cases hn)]
  exact hB3.block q hq
 ·unfold Own.upd
  rw[if_neg (fun e=>by have:=xb q e;omega)]
theorem a8k {f:FrR} (h:A9 W own mb g R) (hf:R.frs=fs++[f]) (hfn:f.fn < g.n) (hpc:f.pc < (g.f f.fn).n) (hgn:g.n<=1000) (hcn:(g.f f.fn).n<=1000) (hfs:fs.length<=1000) (hstn:f.stk.length<=1000)
  (h14:(g.f f.fn).op f.pc≠14) (h15:(g.f f.fn).op f.pc≠15) (h27:(g.f f.fn).op f.pc≠27) {P:RfR->Prop} {drop to:Nat} {push:List Val} (hdr:drop<=f.stk.length) (hpu:push.length<=1000)
  (hP:∀R',P R'->(∃l,R'.frs=fs++[{ f with loc:=l }])/\R'.cv=R.cv/\∀b o,R'.da=some ⟨b,o,none⟩->b < W.heap.size)
  (hdo:∀U,L0d W U->Calls prog 139 #[zB mb,.agg #[J ((g.f f.fn).op f.pc),J ((g.f f.fn).ar f.pc)],.agg #[J (f.fn:Int),J (f.pc:Int),f.lv,f.sv]] U fun e w'=>K8 own mb g P (drop:Int) push (to:Int) 0 U e w') :
  Calls prog 100 #[zB mb] W fun e w'=>e=.returned (.tuple #[])/\∃own' R' sv l,P R'/\R'.frs=fs++[{ f with loc:=l }]/\A9 w' own' mb g { R' with frs:=fs++[{ f with loc:=l,pc:=to,sv:=sv,stk:=f.stk.take (f.stk.length - drop)++push }] }/\A2 own W own' w':=by
 obtain⟨xm,hi,hz,yj,yv⟩:=info_parts J2;have HI:=hid hi;have HZ:=hid hz;have yn:=hid yj;have yz:=hid yv;have zk:=h.lt _ _ h.me;obtain⟨cb,cc,yx,m4,zr,yg,za,k0,k1,k2,k3,m0,zj,x2,zb,y0,y1⟩:=h.front hf hfn hpc;obtain⟨sa,sc,xt,zv,zh⟩:=(h.stk fs.length f (by rw [hf];simp)).vals;obtain⟨la,lc,yo,_,_⟩:=(h.loc fs.length f (by rw [hf];simp)).vals;have yd:Hid (∀k,W.heap.size<=k->own k=none):=hid fun k hk=>by
  cases e:own k with
  | none=>rfl
  | some t=>have:=h.lt k t e;omega
 have HH:=hid h;have xr:=hid hdo;have HP:=hid hP;have ym:=hid yx;have HF:=hid hf;have yt:=hid xt;rw[yo] at k2 xr;rw[xt] at k3 xr;generalize hop:(g.f f.fn).op f.pc=op at *
 generalize har:(g.f f.fn).ar f.pc=ar at *
 have ze:(op == 14)=false:=L2c.2 h14;have zt:(op == 15)=false:=L2c.2 h15;have zi:(op == 27)=false:=L2c.2 h27;have zg:(f.fn:Int) < (g.n:Int):=(fun (_:g.n<=1000) (_:(g.f f.fn).n<=1000) (_:fs.length<=1000) (_:f.stk.length<=1000) (_:push.length<=1000) (_:drop<=f.stk.length)=>by omega) hgn hcn hfs hstn hpu hdr;have zs:(f.pc:Int) < ((g.f f.fn).n:Int):=by omega
 have xv:mb < W.heap.size+1:=by omega
 have yb:g.b < W.heap.size+1:=by omega
 have xw:(g.f f.fn).b < W.heap.size+1:=by omega
 obtain⟨k,yr⟩:∃k,f.stk.length=k+drop:=⟨f.stk.length - drop,by omega⟩
 have xx:=hid yr;rw[yr] at k3 xr yt zv;have zn:k<=sc:=by omega
 have yp:(k:Int)<=(sc:Int):=by omega
 clear hi hz yj yv h hdo hP yx hf xt yo zh za hop har;go_enter func100,ntmps100;go_wp2_with fail;go_region
 go_wp2_with fail;refine (xr.out _ P4).mono ?_;rintro e w1 ⟨yf,R1,pa,xz,rfl,xi,ye,xs,yk,yi⟩;have yl:=xs.block W.heap.size Q9 (yd.out _ (L1c _));have b3:w1.cell? ⟨W.heap.size,3,none⟩=some (.slice sa (k+drop) sc):=(L0b (a:=⟨W.heap.size,3,none⟩) yl).trans R3
 obtain⟨⟨l1,xd⟩,hcv1,hda1⟩:=HP.out R1 ye;obtain⟨xo,cc1,e1,n4,xa,yq,xh,j0,j1,j2,j3,_,_,_,_,_,_⟩:=xi.front xd hfn hpc;have e2:Value.slice (zA cb) (fs.length+1) cc=.slice (zA xo) (fs.length+1) cc1:=by rw [<- ym.out,<- hcv1];exact e1
 have e3:xo=cb:=by injection e2 with q _ _;injection q with q;injection q with q;exact q.symm
 have e4:cc1=cc:=by injection e2 with _ _ q;exact q.symm
 subst e3;subst e4;have xy:=(xi.stk fs.length { f with loc:=l1 } (by rw [xd];simp)).vals;obtain⟨xq,sc1,e5,_,yw⟩:=xy;have e6:xq=sa:=by
  have e7:Value.slice sa (k+drop) sc=.slice xq f.stk.length sc1:=by rw [<- yt.out];exact e5
  injection e7 with q _ _
  exact q.symm
 subst e6;have ya:Hid (∀X,L0d w1 X->(0 < k->∃d,xq=some d/\∀j u,(A7 (f.stk.take k))[j]?=some u->X.cell? (d.add j)=some u)):=hid fun X hX h0=>by
  have:=((yw.take k).later hX).src (by rw [List.length_take,xx.out];omega);exact this
 have zx:=hid xi;have zq:=hid ye;have zc:Hid (A2 own W yf w1):=hid ((A2.of_below P4).trans xs);have zu:Hid (w1.ownsRow W.heap.size 92 2 (.slice pa push.length xz) push.length (A7 push)):=hid (eE yk Q2)
 have qa:=hid yi;have xu:=hid hcv1;have zf:=hid hda1;have xn:=hid xd;have xe:=xi.lt _ _ xi.me;have qf:W.heap.size < w1.heap.size:=L0a Q9 xs.size;have yy:=xh (fs.length*4+3);have ys:=xh (fs.length*4+1);have yu:xo < w1.heap.size+1:=by omega
 have zo:mb < w1.heap.size+1:=by omega
 have zz:W.heap.size < w1.heap.size+1:=by omega
 have xg:(A7 (f.stk.take k)).length=k*2:=by rw [D8,List.length_take,xx.out,Nat.min_eq_left R5]
 have zp:=hid xg;clear xi ye xs yk yi yl hcv1 hda1 xd yw e1 e2 e5 xh xg m4 zr yg k0 k1 k2 k3 m0 zj x2 zb y0 y1 zk xv yb xw;go_wp2_with (at_builtin;go_must (refine A8 _ rfl (.tmp 72) (.tmp 81) 84 rfl w1.heap.size 92 xm _ 2 16 underlying84 HI.out HZ.out yn.out yz.out rfl R4 _ 0 [] rfl (World.ownsRow_nil _ _ _ _) xq k sc (A7 (f.stk.take k)) rfl zp.out (ya.out _ P4) (aH _) Q7 R5 R6 ?_))
 intro v2 w2 hown2 hgrow2 hat2;have xb:L0d w1 w2:=Below.grown (L3a (L3b _ _) (L1c _) _) hgrow2 R6 (fun q e=>by cases e);have yc:=hgrow2.block w1.heap.size R6 (fun e=>by cases e);have s1:w2.cell? ⟨w1.heap.size,1,none⟩=some (.slice pa push.length xz):=(L0b (a:=⟨w1.heap.size,1,none⟩) yc).trans R3;have s2:w2.cell? ⟨w1.heap.size,2,none⟩=some (J (to:Int)):=(L0b (a:=⟨w1.heap.size,2,none⟩) yc).trans R3
 have xl:w1.heap.size < w2.heap.size:=L0a R6 hgrow2.size;have xp:∀q,v2.ownBlock=some q->q=w1.heap.size+1:=fun q e=>by
  rcases hat2 q e with e | e
  ·cases e
  ·exact e
 have o4:=keep xb xe n4;have o1:=keep xb xa j1;have o3:=keep xb xa j3;have qc:=E3 xb xa ys;have qe:=E3 xb xa yy;have om:mb < w2.heap.size:=L0a xe xb.size;have oc:xo < w2.heap.size:=L0a xa xb.size;have zw:=hid xb;have xc:=hid hown2;have xj:Hid (∀X,L0d w2 X->(0 < push.length->∃d,pa=some d/\∀j u,(A7 push)[j]?=some u->X.cell? (d.add j)=some u)):=hid fun X hX=>by
  obtain⟨zl,qd,e,_,hv⟩:=lR zu.out;have e':zl=pa:=by injection e with q _ _;exact q.symm
  subst e';exact ((hv.later xb).later (hX.mono xb.size)).src
 have qb:(fs.length:Int) < (fs.length:Int)+1:=by omega
 have zm:(0:Int)<=(fs.length:Int):=by omega
 clear xb yc hown2 hgrow2 hat2 b3;go_wp2_with fail;go_region_law ((refine J0 rfl (.tmp 88) (.tmp 90) 84 rfl w1.heap.size 92 xm _ 2 16 underlying84 HI.out HZ.out yn.out yz.out rfl R4 v2 k (A7 (f.stk.take k)) Q3 (by repeat (first | exact xc.out | exact xc.out.drew | refine World.ownsRow.drew ?_)) pa push.length xz (A7 push) Q3 (D8 _) (xj.out _ (by repeat (first | exact L3b _ _ | refine L3c ?_))) (aH _) Q7 R5 Q4 ?_;intro v3 w3 hown3 hgrow3 hat3;obtain ⟨va,vc,zy,_⟩:=C2 hown3;subst zy;have xf:=jX (L3c zw.out) (L1c _) xc.out.drew hgrow3;have p4:=keep xf xe n4;have r1:=keep xf xa j1;have r3:=keep xf xa j3;have y1:=E3 xf xa ys;have y3:=E3 xf xa yy;have s3:w3.cell? ⟨w1.heap.size,2,none⟩=some (J (to:Int)):=(L0b (a:=⟨w1.heap.size,2,none⟩) (hgrow3.block w1.heap.size (by simpa using xl) (fun e=>by have:=(xp _ e.symm);omega))).trans (by first | exact s2 | (show w2.cell? _=_;exact s2));have u1:mb < w3.heap.size:=L0a xe xf.size;have u2:xo < w3.heap.size:=L0a xa xf.size;have u3:w1.heap.size < w3.heap.size:=L0a (by simpa using xl) hgrow3.size;have zd:=hid xf;have xk:=hid hown3;clear xf hown3 hgrow3 hat3))
 all_goals go_wp2_with fail
 all_goals go_region
 all_goals go_wp2_with fail
 all_goals
  obtain⟨yh,hF,hT⟩:=a6r (to:=to) (drop:=drop) zx.out xn.out (xu.out.trans ym.out) zd.out xx.out xk.out zc.out;go_end0
  exact⟨rfl,yh,R1,_,l1,zq.out,xn.out,hF.same (by repeat (first | refine L3c ?_ | exact L3b _ _)),hT.trans (A2.of_below (by repeat (first | refine L3c ?_ | exact L3b _ _)))⟩
end
section
variable {W:World} {f:FrR} {fs:List FrR} {g:PgR} {mb:Nat} {own:Own}
theorem a3W {R:RfR} (h:A9 W own mb g R) (hf:R.frs=fs++[f]) (hfn:f.fn < g.n) (hpc:f.pc < (g.f f.fn).n) (hgn:g.n<=1000) (hcn:(g.f f.fn).n<=1000) (hfs:fs.length<=1000) (hstn:f.stk.length<=1000)
  (h14:(g.f f.fn).op f.pc≠14) (h15:(g.f f.fn).op f.pc≠15) (h27:(g.f f.fn).op f.pc≠27) {trap:Int} (ht0:trap≠0)
  (hdo:∀U,L0d W U->Calls prog 139 #[zB mb,.agg #[J ((g.f f.fn).op f.pc),J ((g.f f.fn).ar f.pc)],.agg #[J (f.fn:Int),J (f.pc:Int),f.lv,f.sv]] U fun e w'=>K8 own mb g (fun R'=>R'=R) 0 [] 0 trap U e w') :
  Calls prog 100 #[zB mb] W fun e w'=>e=.returned (.tuple #[])/\∃own',A9 w' own' mb g { R with st:=trap }/\A2 own W own' w':=by
 have xw:=h.lt _ _ h.me;obtain⟨cb,cc,xn,m4,xp,xf,xr,k0,k1,k2,k3,m0,xl,x2,xt,y0,y1⟩:=h.front hf hfn hpc;obtain⟨sa,sc,xi,xx,xz⟩:=(h.stk fs.length f (by rw [hf];simp)).vals;obtain⟨la,lc,xh,_,_⟩:=(h.loc fs.length f (by rw [hf];simp)).vals;have yd:Hid (∀k,W.heap.size<=k->own k=none):=hid fun k hk=>by
  cases e:own k with
  | none=>rfl
  | some t=>have:=h.lt k t e;omega
 have HH:=hid h;have xd:=hid hdo;rw[xh] at k2 xd;rw[xi] at k3 xd;generalize hop:(g.f f.fn).op f.pc=op at *
 generalize har:(g.f f.fn).ar f.pc=ar at *
 have xm:(op == 14)=false:=L2c.2 h14;have xs:(op == 15)=false:=L2c.2 h15;have ya:(op == 27)=false:=L2c.2 h27;have ye:(trap == 0)=false:=L2c.2 ht0;have xy:(f.fn:Int) < (g.n:Int):=(fun (_:g.n<=1000) (_:(g.f f.fn).n<=1000) (_:fs.length<=1000) (_:f.stk.length<=1000)=>by omega) hgn hcn hfs hstn;have xq:(f.pc:Int) < ((g.f f.fn).n:Int):=by omega
 have xc:mb < W.heap.size+1:=by omega
 have xe:g.b < W.heap.size+1:=by omega
 have xg:(g.f f.fn).b < W.heap.size+1:=by omega
 clear h hdo xn hf xi xh xz xr hop har xx;go_enter func100,ntmps100;go_wp2_with fail;go_region
 go_wp2_with fail;refine (xd.out _ P4).mono ?_;rintro e w1 ⟨xb,R1,pa,yf,rfl,xa,rfl,xj,xv,xo⟩;have xu:Hid (A2 own W xb w1):=hid ((A2.of_below P4).trans xj)
 have yc:=xa.lt _ _ xa.me;have n2:=xa.c2;have z2:=xa.fz 2;have xk:mb < w1.heap.size+1:=by omega
 have yb:=hid xa;clear xa xj xv xo m4 xp xf k0 k1 k2 k3 m0 xl x2 xt y0 y1 xw xc xe xg;go_wp2_with fail;obtain⟨hF,hT⟩:=yb.out.setSt trap;refine bodyPost_ret (v:=.tuple #[]) (by simp [results,results100,go_sem]) rfl ?_;exact⟨rfl,xb,hF.same (L3a (L3b _ _) (L1c _) _),xu.out.trans (hT.trans (A2.of_below (L3a (L3b _ _) (L1c _) _)))⟩
theorem A9.noFrames {w:World} {R:RfR} (h:A9 w own mb g R):A9 (w.setCell ⟨mb,4,none⟩ zD) own mb g { R with cv:=zD,frs:=[] }/\A2 own w own (w.setCell ⟨mb,4,none⟩ zD):=by
 obtain⟨k1,k2⟩:=h.mach 4 zD;have hs:(w.setCell ⟨mb,4,none⟩ zD).heap.size=w.heap.size:=by simp
 have keep:∀t,t≠.mach->∀k,own k=some t->(w.setCell ⟨mb,4,none⟩ zD).heap[k]?=w.heap[k]?/\own k=some t:=fun t ht k e=>⟨k1 t k e ht,e⟩
 refine⟨h.edit (R':={ R with cv:=zD,frs:=[] }) (by rw [hs];exact L1c _) (fun k t e=>by rw [hs];exact h.lt k t e) h.me (fun k hn _ _=>⟨hn,k2 k hn⟩) (B9 _ R4) ((B9 _ R4).trans h.c1) ((B9 _ R4).trans h.c2) ((B9 _ R4).trans h.c3) (World.cell?_setCell_same _ _ _ h.c4) ((B9 _ R4).trans h.c5) (B9 _ R4) (fun j=>by go_simp;exact h.fz j)
  (h.out.kept (keep _ R6)) ⟨World.ownsRow_nil _ _ _ _,fun b hb=>by cases hb⟩ (h.things.kept (keep _ R6)) (fun i x hx=>by simp at hx) (fun i x hx=>by simp at hx) (fun i x hx=>(h.fld i x hx).kept (keep _ R6)) (fun b o e=>(h.dro b o e).2) rfl rfl rfl,⟨rfl,rfl,rfl,by simp,fun k _ hn=>k2 k hn,fun _ _=>rfl⟩⟩
theorem a3U {R:RfR} (h:A9 W own mb g R) (hf:R.frs=fs++[f]) (hfn:f.fn < g.n) (hpc:f.pc < (g.f f.fn).n) (hgn:g.n<=1000) (hcn:(g.f f.fn).n<=1000) (hfs:fs.length<=1000) (hstn:f.stk.length<=1000) (h27:(g.f f.fn).op f.pc=27) :
  Calls prog 100 #[zB mb] W fun e w'=>e=.returned (.tuple #[])/\A9 w' own mb g { R with st:=1,cv:=zD,frs:=[] }/\A2 own W own w':=by
 have xr:=h.lt _ _ h.me;obtain⟨cb,cc,xc,m4,xp,xi,xd,k0,k1,k2,k3,m0,xo,x2,xq,y0,y1⟩:=h.front hf hfn hpc;obtain⟨sa,sc,xb,xg,xk⟩:=(h.stk fs.length f (by rw [hf];simp)).vals;obtain⟨la,lc,xa,_,_⟩:=(h.loc fs.length f (by rw [hf];simp)).vals;have xn:Hid (∀k,W.heap.size<=k->own k=none):=hid fun k hk=>by
  cases e:own k with
  | none=>rfl
  | some t=>have:=h.lt k t e;omega
 have HH:=hid h;rw[xa] at k2;rw[xb] at k3;rw[h27] at y0;generalize har:(g.f f.fn).ar f.pc=ar at *
 have xj:(f.fn:Int) < (g.n:Int):=(fun (_:g.n<=1000) (_:(g.f f.fn).n<=1000) (_:fs.length<=1000) (_:f.stk.length<=1000)=>by omega) hgn hcn hfs hstn;have xe:(f.pc:Int) < ((g.f f.fn).n:Int):=by omega
 have xf:mb < W.heap.size+1:=by omega
 have xh:g.b < W.heap.size+1:=by omega
 have xl:(g.f f.fn).b < W.heap.size+1:=by omega
 have n2:=h.c2;have z2:=h.fz 2;have z4:=h.fz 4;have xm:mb < W.heap.size+1+1:=by omega
 clear h xc hf xb xa xk xd har xg;go_enter func100,ntmps100;go_wp2_with fail;go_region
 go_wp2_with fail;obtain⟨hF,hT⟩:=HH.out.setSt 1;obtain⟨hG,hU⟩:=hF.noFrames;refine bodyPost_ret (v:=.tuple #[]) (by simp [results,results100,go_sem]) rfl ?_;exact⟨rfl,hG.same P4,hT.trans (hU.trans (A2.of_below P4))⟩
end
section
variable {W:World} {mb:Nat}
theorem a6a (fuel:Int) (h:fuel < 0) :
  Calls prog 61 #[zB mb,J fuel] W fun e w'=>e=.returned (.tuple #[J 0,J 5])/\w'=W:=by
 go_enter func61,ntmps61;go_wp2_with fail;go_ret2;exact⟨rfl,rfl⟩
theorem a3E (fuel:Int) (h:10000 < fuel) :
  Calls prog 61 #[zB mb,J fuel] W fun e w'=>e=.returned (.tuple #[J 0,J 5])/\w'=W:=by
 have h0:¬fuel < 0:=by omega
 go_enter func61,ntmps61;go_wp2_with fail;go_ret2;exact⟨rfl,rfl⟩
theorem a5Y {own:Own} {g:PgR} {R:RfR} (h:A9 W own mb g R) (fuel:Nat) (hfu:fuel<=10000) (S:Nat->RfR->Prop) (h0:S 0 R)
  (hstep:∀i U own' R',i < fuel->S i R'->R'.st=0->A9 U own' mb g R'->Calls prog 100 #[zB mb] U fun e w'=>e=.returned (.tuple #[])/\∃own'' R'',S (i+1) R''/\A9 w' own'' mb g R''/\A2 own' U own'' w') :
  Calls prog 61 #[zB mb,J (fuel:Int)] W fun e w'=>∃n own' R',n<=fuel/\e=.returned (.tuple #[J (n:Int),J 0])/\S n R'/\(n=fuel\/R'.st≠0)/\A9 w' own' mb g R'/\A2 own W own' w':=by
 have HS:=hid hstep;have H0:=hid h0;have HH:=hid h;have xl:¬(fuel:Int) < 0:=by omega
 have xi:¬(10000:Int) < (fuel:Int):=by omega
 clear h hstep h0;go_enter func61,ntmps61;go_wp2_with fail;go_loopw [6] (fun vi wr=>∃(i:Nat) (own':Own) (R':RfR),i<=fuel/\vi=J i/\S i R'/\A9 wr own' mb g R'/\A2 own W own' wr) (fun vi _=>fuel - (intOf vi).toNat)
 case atStart=>exact ⟨0,own,R,L4c _,rfl,H0.out,HH.out,A2.refl _ _⟩
 case round =>
  obtain⟨i,own',R',hi,rfl,xa,hr,ht⟩:=hrel;have xk:=hr.lt _ _ hr.me;have m2:=hr.c2;have HR:=hid hr;have HT:=hid ht;have xd:=hid xa;by_cases hlt:i < fuel
  ·have xb:(i:Int) < (fuel:Int):=by omega
   by_cases hst:R'.st=0
   ·have HC:=hid (HS.out i wr own' R' hlt xa hst hr)
    rw[hst] at m2;clear hr ht xa hst;go_wp2_with (go_at_call 100;refine HC.out.mono ?_;rintro e w1 ⟨rfl,xc,R2,xh,xe,xf⟩)
    go_roundw
    case rel=>exact ⟨i+1,xc,R2,by omega,by go_num,xh,xe,HT.out.trans xf⟩
    case measure=>simp [intOf];omega
   ·have xj:(R'.st == 0)=false:=L2c.2 hst
    have xg:=hid hst;generalize hx:R'.st=st at *
    clear hr ht xa hst;go_wp2_with fail;go_ret2;exact⟨i,own',R',hi,rfl,xd.out,L4b (by rw [hx];exact xg.out),HR.out,HT.out⟩
  ·obtain rfl:i=fuel:=by omega
   have xb:¬(i:Int) < (i:Int):=by omega
   clear hr ht xa;go_wp2_with fail;go_ret2;exact⟨i,hi,rfl,own',R',xd.out,L4a rfl,HR.out,HT.out⟩
end
section
variable {R:RfR} {W:World} {g:PgR} {l:List Int} {mb:Nat} {own:Own}
def bW (l:List Int):List Value:=l.map fun n=>J n
theorem K1.src {a:Option Addr} (h:K1 W a l):0 < l.length->∃d,a=some d/\∀j u,(bW l)[j]?=some u->W.cell? (d.add j)=some u:=fun h0=>by
 obtain⟨b,o,rfl,hb,hc⟩:=h h0;refine⟨_,rfl,fun j u hu=>?_⟩;unfold bW at hu;rw[List.getElem?_map] at hu
 cases e:l[j]? with
 | none=>rw [e] at hu;cases hu
 | some x =>
  rw[e] at hu
  cases hu;have e2:(⟨b,o,none⟩:Addr).add j=⟨b,o+j,none⟩:=by unfold Addr.add;split <;> simp_all
  rw[e2];exact hc j x e
theorem a3e {B:Nat} {v:Value} (h:W.ownsRow B 3 1 v l.length (bW l)):∃a c,v=.slice a l.length c/\l.length<=c/\K1 W a l/\∀b o,a=some ⟨b,o,none⟩->B<=b/\b < W.heap.size:=by
 rcases id h.2 with ⟨rfl,h0⟩ | ⟨g,xa,xb,rfl,hB,hg,h3,h4,h5,h6⟩
 ·exact ⟨none,0,by rw [h0],by omega,fun hp=>by omega,fun b o e=>by cases e⟩
 ·refine ⟨_,xa,rfl,h3,fun _=>⟨g,0,rfl,(L2b.1 hg).1,fun i x hx=>?_⟩,fun b o e=>by cases e;exact ⟨hB,(L2b.1 hg).1⟩⟩
  have hi:=(L1a.1 hx).1;have h7:(bW l)[i]?=some (J x):=by unfold bW;rw [List.getElem?_map,hx];rfl
  rw[<- h6,List.getElem?_take,if_pos R5] at h7;rw[Nat.zero_add];simp only[World.cell?,hg];simpa using h7
theorem a0J (h:A9 W own mb g R) (la:Option Addr) (n c:Nat) (hn:n<=4611686018427387904) (hd:R.dr.length<=1000) (hl:200 < R.dr.length+n) :
  Calls prog 63 #[zB mb,.slice la n c] W fun e w'=>e=.returned (J 6)/\w'=W:=by
 have xa:=h.lt _ _ h.me;have m6:=h.c6;have xb:(200:Int) < (R.dr.length:Int)+(n:Int):=by omega
 generalize R.dr.length=nd at *
 clear h;go_enter func63,ntmps63;go_wp2_with fail;go_ret;exact⟨rfl,rfl⟩
theorem a5P {R:RfR} (h:A9 W own mb g R) (la:Option Addr) (l:List Int) (c:Nat) (hla:K1 W la l) (hl:R.dr.length+l.length<=200) :
  Calls prog 63 #[zB mb,.slice la l.length c] W fun e w'=>e=.returned (J 0)/\∃da dc,A9 w' own mb g { R with da:=da,dc:=dc,dr:=R.dr++l }/\A2 own W own w'/\∀b o,da=some ⟨b,o,none⟩->W.heap.size<=b:=by
 obtain⟨i3,hi,hz,xh,xj⟩:=info_parts iE;have HI:=hid hi;have HZ:=hid hz;have xm:=hid xh;have xk:=hid xj;have xe:=h.lt _ _ h.me;have m6:=h.c6;have z6:=h.fz 6;have M6:=hid m6;have Z6:=hid z6;have xu:¬(200:Int) < (R.dr.length:Int)+(l.length:Int):=by omega
 have xp:=hid h.draws;have xq:=hid hla;have HH:=hid h;clear h hla hi hz xh xj;go_enter func63,ntmps63;go_wp2_with (at_builtin;go_must (refine A8 _ rfl (.tmp 15) (.tmp 19) 24 rfl W.heap.size 3 i3 _ 1 8 underlying24 HI.out HZ.out xm.out xk.out rfl R4 _ 0 [] rfl (World.ownsRow_nil _ _ _ _) R.da R.dr.length R.dc (bW R.dr) rfl (by simp [bW]) xp.out.src (by intro u hu;obtain ⟨q,_,rfl⟩:=List.mem_map.1 hu;rfl) Q7 R5 (L1c _) ?_))
 intro v2 w2 hown2 hgrow2 _;have xf:L0d W w2:=Below.grown (L3b _ _) hgrow2 (L1c _) (fun q e=>by cases e);have xl:=hid xf;have xi:Hid (w2.ownsRow W.heap.size 3 1 v2 R.dr.length (bW R.dr)):=hid (by simpa using hown2);have n6:=keep xf xe M6.out;have y6:=E3 xf xe Z6.out;have xs:mb < w2.heap.size:=L0a xe xf.size;have xr:W.heap.size<=w2.heap.size:=xf.size
 clear hown2 hgrow2 xf;go_wp2_with (at_builtin;go_must (refine A8 _ rfl (.tmp 22) (.tmp 23) 24 rfl W.heap.size 3 i3 _ 1 8 underlying24 HI.out HZ.out xm.out xk.out rfl R4 v2 R.dr.length (bW R.dr) rfl xi.out la l.length c (bW l) rfl (by simp [bW]) (xq.out.later xl.out).src (by intro u hu;obtain ⟨q,_,rfl⟩:=List.mem_map.1 hu;rfl) Q7 R5 xr ?_))
 intro v3 w3 hown3 hgrow3 _;have xb:=M8 xl.out xi.out hgrow3;have xa:w3.ownsRow W.heap.size 3 1 v3 (R.dr++l).length (bW (R.dr++l)):=by
  rw[List.length_append,show bW (R.dr++l)=bW R.dr++bW l by simp [bW]];exact hown3
 obtain⟨da,dc,xt,xo,xc,xd⟩:=a3e xa;subst xt;have hF:=(HH.out.same xb).setDraws da dc (R.dr++l) xo xc (fun b o e=>by
  obtain⟨q1,q2⟩:=xd b o e;refine⟨q2,?_⟩
  cases e2:own b with
  | none=>rfl
  | some t=>have:=HH.out.lt b t e2;omega)
 have xg:=hid fun b o e=>(xd b o e).1
 have HF:=hid hF;have p6:=keep xb xe M6.out;have x6:=E3 xb xe Z6.out;have xn:mb < w3.heap.size:=L0a xe xb.size;have HT:Hid (A2 own W own (w3.setCell ⟨mb,6,none⟩ (.slice da (R.dr++l).length dc))):=hid ⟨xb.os,xb.tape,xb.output,by simpa using xb.size,fun k hk hn=>by
  rw[heap_setCell_other _ _ _ _ (fun e=>by rw [e,HH.out.me] at hn;cases hn)];exact xb.block k hk,fun _ _=>rfl⟩
 clear hown3 hgrow3 xb xa xc xd hF;go_wp2_with fail;go_ret;exact⟨rfl,da,dc,by simpa using HF.out,by simpa using HT.out,xg.out⟩
end
end Go.Proofs.YtbkmgoffiigdbaaGreatDoor
