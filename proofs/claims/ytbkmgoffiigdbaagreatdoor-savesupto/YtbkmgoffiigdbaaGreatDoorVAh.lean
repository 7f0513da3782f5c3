import Derived.Test.YtbkmgoffiigdbaaGreatDoorVBg
namespace Go.Proofs.YtbkmgoffiigdbaaGreatDoor
open Go.RowKit Go.Sort Go.Proofs.Tryz
set_option maxHeartbeats 2000000
set_option maxRecDepth 100000
section
variable {W:World} {la:Option Addr} {lc m mb nl sb sc:Nat}
abbrev a8z : Oper := ⟨some 84,.move (.tmp 2),3,"machine.go:325",#[],none⟩
abbrev a8A : Oper := ⟨some 85,.move (.tmp 9),84,"machine.go:325",#[],none⟩
abbrev a8B : Oper := ⟨some 86,.move (.tmp 10),3,"machine.go:325",#[],none⟩
abbrev a8C : Oper := ⟨some 87,.binOp .sub 3 (.tmp 86) (.const (J 1)) 3,3,"machine.go:325",#[⟨2,.data⟩],none⟩
abbrev a8D : Oper := ⟨some 88,.indexAddr 84 (.tmp 85) (.tmp 87),0,"machine.go:325",#[⟨1,.data⟩,⟨3,.data⟩],none⟩
abbrev a8E : Oper := ⟨some 89,.fieldAddr 92 (.tmp 88) 0,0,"machine.go:325",#[⟨4,.data⟩],none⟩
abbrev a8F : Oper := ⟨some 90,.load 5 (.tmp 89),5,"machine.go:325",#[⟨5,.data⟩],none⟩
abbrev a8G : Oper := ⟨some 91,.move (.tmp 9),84,"machine.go:325",#[],none⟩
abbrev a8H : Oper := ⟨some 92,.move (.tmp 10),3,"machine.go:325",#[],none⟩
abbrev a8I : Oper := ⟨some 93,.binOp .sub 3 (.tmp 92) (.const (J 2)) 3,3,"machine.go:325",#[⟨8,.data⟩],none⟩
abbrev a6E : Oper := ⟨some 94,.indexAddr 84 (.tmp 91) (.tmp 93),0,"machine.go:325",#[⟨7,.data⟩,⟨9,.data⟩],none⟩
abbrev a6F : Oper := ⟨some 95,.fieldAddr 92 (.tmp 94) 0,0,"machine.go:325",#[⟨10,.data⟩],none⟩
abbrev a6G : Oper := ⟨some 96,.load 5 (.tmp 95),5,"machine.go:325",#[⟨11,.data⟩],none⟩
abbrev a6H : Oper := ⟨some 97,.binOp .eql 5 (.tmp 90) (.tmp 96) 5,4,"machine.go:325",#[⟨6,.data⟩,⟨12,.data⟩],none⟩
abbrev a6I : Oper := ⟨some 98,.move (.tmp 97),4,"machine.go:325",#[⟨13,.data⟩],none⟩
abbrev a6J : Oper := ⟨some 99,.move (.tmp 9),84,"machine.go:325",#[⟨14,.guard⟩],some (14,true)⟩
abbrev a6K : Oper := ⟨some 100,.move (.tmp 10),3,"machine.go:325",#[⟨14,.guard⟩],some (14,true)⟩
abbrev a6L : Oper := ⟨some 101,.binOp .sub 3 (.tmp 100) (.const (J 1)) 3,3,"machine.go:325",#[⟨16,.data⟩,⟨14,.guard⟩],some (14,true)⟩
abbrev a6M : Oper := ⟨some 102,.indexAddr 84 (.tmp 99) (.tmp 101),0,"machine.go:325",#[⟨15,.data⟩,⟨17,.data⟩,⟨14,.guard⟩],some (14,true)⟩
abbrev a6N : Oper := ⟨some 103,.fieldAddr 92 (.tmp 102) 1,0,"machine.go:325",#[⟨18,.data⟩,⟨14,.guard⟩],some (14,true)⟩
abbrev a6O : Oper := ⟨some 104,.load 3 (.tmp 103),3,"machine.go:325",#[⟨19,.data⟩,⟨14,.guard⟩],some (14,true)⟩
abbrev a6P : Oper := ⟨some 105,.move (.tmp 9),84,"machine.go:325",#[⟨14,.guard⟩],some (14,true)⟩
abbrev a6Q : Oper := ⟨some 106,.move (.tmp 10),3,"machine.go:325",#[⟨14,.guard⟩],some (14,true)⟩
abbrev a6R : Oper := ⟨some 107,.binOp .sub 3 (.tmp 106) (.const (J 2)) 3,3,"machine.go:325",#[⟨22,.data⟩,⟨14,.guard⟩],some (14,true)⟩
abbrev a6S : Oper := ⟨some 108,.indexAddr 84 (.tmp 105) (.tmp 107),0,"machine.go:325",#[⟨21,.data⟩,⟨23,.data⟩,⟨14,.guard⟩],some (14,true)⟩
abbrev a6T : Oper := ⟨some 109,.fieldAddr 92 (.tmp 108) 1,0,"machine.go:325",#[⟨24,.data⟩,⟨14,.guard⟩],some (14,true)⟩
abbrev a6U : Oper := ⟨some 110,.load 3 (.tmp 109),3,"machine.go:325",#[⟨25,.data⟩,⟨14,.guard⟩],some (14,true)⟩
abbrev a6V : Oper := ⟨some 111,.binOp .eql 3 (.tmp 104) (.tmp 110) 3,4,"machine.go:325",#[⟨20,.data⟩,⟨26,.data⟩,⟨14,.guard⟩],some (14,true)⟩
abbrev a6W : Oper := ⟨some 112,.pick (.tmp 98) (.tmp 111) (.const (.bool false)),4,"machine.go:325",#[⟨14,.data⟩,⟨27,.data⟩],none⟩
abbrev a6X : Oper := ⟨some 113,.call ⟨.value (.func 223),#[.tmp 112],#[4]⟩,92,"machine.go:325",#[⟨28,.data⟩,⟨14,.chain⟩],none⟩
abbrev a6Y : Oper := ⟨some 114,.call ⟨.value (.func 220),#[.tmp 84,.const (J 2),.tmp 113],#[3,3,92]⟩,198,"machine.go:325",#[⟨0,.data⟩,⟨29,.data⟩,⟨29,.chain⟩],none⟩
theorem a0V (fn:Nat) (x y:Val) (a:Int) (pc:Nat) (hpc:pc<=1000) (hsb:sb < W.heap.size) (x0:W.cell? ⟨sb,m*2,none⟩=some (zC x.1)) (x1:W.cell? ⟨sb,m*2+1,none⟩=some (J x.2)) (y0:W.cell? ⟨sb,(m+1)*2,none⟩=some (zC y.1)) (y1:W.cell? ⟨sb,(m+1)*2+1,none⟩=some (J y.2)) (hm:m<=1000) (h1:x.1=y.1) :
  Calls prog 185 #[zB mb,.agg #[J 11,J a],J (pc:Int),.agg #[J (fn:Int),J (pc:Int),.slice la nl lc,.slice (zA sb) (m+2) sc]] W fun e w'=>D2 2 [(1,D6 (y.2 == x.2))] ((pc:Int)+1) 0 W e w':=by
 have xt:=(fun (_:m<=1000)=>hpc) hm;obtain⟨xk,xn⟩:=x;obtain⟨yk,yn⟩:=y;simp only at x0 x1 y0 y1;have xg:sb < W.heap.size+1:=by omega
 have xe:sb < W.heap.size+1+1:=by omega
 have xi:sb < W.heap.size+1+1+1:=by omega
 have xf:sb < W.heap.size+1+1+1+1:=by omega
 have xv:xk=yk:=h1;subst xv;clear h1;have yd:IntKind.i64.wrap ((m:Int)+2 - 1)=(m:Int)+1:=by rw [Go.IntWalk.i64_in _ R5];omega
 have yf:IntKind.i64.wrap ((m:Int)+2 - 2)=(m:Int):=by rw [Go.IntWalk.i64_in _ R5];omega
 have yg:IntKind.i64.wrap (m:Int)=(m:Int):=Go.IntWalk.i64_in _ R5;have ye:((m:Int)+1).toNat=m+1:=by omega
 have xy:(m:Int)+1 < (m:Int)+2:=by omega
 have xz:(0:Int)<=(m:Int)+1:=by omega
 have yc:(m:Int) < (m:Int)+2:=by omega
 go_enter func185,ntmps185;go_wp2_with fail;generalize hqV:(((W.alloc (Obj.cells #[J 11,J a] 165)).alloc (Obj.cells #[J (fn:Int),J (pc:Int),.slice la nl lc,.slice (zA sb) (m+2) sc] 86)).alloc (Obj.cells #[J 0,zD,J 0,J 0] 198))=V at *
 have hB:L0d W V:=by subst hqV;exact P4
 have p0:=keep hB hsb x0;have p1:=keep hB hsb x1;have p2:=keep hB hsb y0;have p3:=keep hB hsb y1;have d0:V.cell? ⟨W.heap.size+1+1,0,none⟩=some (J 0):=by subst hqV;go_simp
 have xm:V.frozen? ⟨W.heap.size+1+1,0,none⟩=false:=by subst hqV;go_simp
 have d1:V.cell? ⟨W.heap.size+1+1,1,none⟩=some zD:=by subst hqV;go_simp
 have xj:V.frozen? ⟨W.heap.size+1+1,1,none⟩=false:=by subst hqV;go_simp
 have d2:V.cell? ⟨W.heap.size+1+1,2,none⟩=some (J 0):=by subst hqV;go_simp
 have xq:V.frozen? ⟨W.heap.size+1+1,2,none⟩=false:=by subst hqV;go_simp
 have d3:V.cell? ⟨W.heap.size+1+1,3,none⟩=some (J 0):=by subst hqV;go_simp
 have xp:V.frozen? ⟨W.heap.size+1+1,3,none⟩=false:=by subst hqV;go_simp
 have xs:V.heap.size=W.heap.size+1+1+1:=by subst hqV;simp
 have HB:=hid hB;clear hB x0 x1 y0 y1 xg xe xi xf;clear hqV;generalize hDD:W.heap.size+1+1=D at *
 have xc:sb < V.heap.size:=by omega
 have xa:D < V.heap.size:=by omega
 have ya:sb≠D:=by omega
 have xw:W.heap.size<=D:=by omega
 have HC:Hid (∀u,L0d V u->u.cell? ⟨sb,m*2,none⟩=some (zC xk)/\u.cell? ⟨sb,m*2+1,none⟩=some (J xn)/\u.cell? ⟨sb,(m+1)*2,none⟩=some (zC xk)/\u.cell? ⟨sb,(m+1)*2+1,none⟩=some (J yn)):=hid fun u hu=>⟨keep hu xc p0,keep hu xc p1,keep hu xc p2,keep hu xc p3⟩
 have HD:Hid (∀u,L0d V u->(u.cell? ⟨D,0,none⟩=some (J 0)/\u.cell? ⟨D,1,none⟩=some zD/\u.cell? ⟨D,2,none⟩=some (J 0)/\u.cell? ⟨D,3,none⟩=some (J 0))/\u.frozen? ⟨D,0,none⟩=false/\u.frozen? ⟨D,1,none⟩=false/\u.frozen? ⟨D,2,none⟩=false/\u.frozen? ⟨D,3,none⟩=false):=hid fun u hu=>⟨⟨keep hu xa d0,keep hu xa d1,keep hu xa d2,keep hu xa d3⟩,E3 hu xa xm,E3 hu xa xj,E3 hu xa xq,E3 hu xa xp⟩
 have HV:Hid (L0d V V.drew):=L3c (L3b _ _);clear p0 p1 p2 p3 d0 d1 d2 d3 xm xj xq xp xs hDD;refine wp_region_held_drew (S:=fun u=>u.cell? ⟨sb,m*2,none⟩=some (zC xk)/\u.cell? ⟨sb,m*2+1,none⟩=some (J xn)/\u.cell? ⟨sb,(m+1)*2,none⟩=some (zC xk)/\u.cell? ⟨sb,(m+1)*2+1,none⟩=some (J yn)) Q8 (HC.out _ HV.out) (fun hHeld=>?_);refine TW 0 a8z ?_
 refine TW 1 a8A ?_;refine TW 2 a8B ?_;refine TW 3 a8C ?_;refine TW 4 a8D ?_;refine TW 5 a8E ?_;refine TW 6 a8F ?_;refine TW 7 a8G ?_;refine TW 8 a8H ?_;refine TW 9 a8I ?_;refine TW 10 a6E ?_;refine TW 11 a6F ?_;refine TW 12 a6G ?_;refine TK 13 a6H (.bool true) ?_ ?_
 ·intro w hSw;(try dsimp only at hSw);go_simp;try with_reducible rfl
 simp only[Act.put,T1,T2,T3];refine TW 14 a6I ?_;refine TW 15 a6J ?_;refine TW 16 a6K ?_;refine TW 17 a6L ?_;refine TW 18 a6M ?_;refine TW 19 a6N ?_;refine TW 20 a6O ?_;refine TW 21 a6P ?_;refine TW 22 a6Q ?_;refine TW 23 a6R ?_;refine TW 24 a6S ?_;refine TW 25 a6T ?_;refine TW 26 a6U ?_;refine TW 27 a6V ?_;refine TW 28 a6W ?_;clear hHeld;refine TO 29 a6X fun K hK=>?_
 go_simp
 go_at_call 223
 refine (jG (yn == xn) _).mono ?_;rintro e w1 ⟨rfl,xl⟩;have xb:Hid (L0d V w1):=hid (HV.out.trans (xl.mono HV.out.size));clear xl
 dsimp only [a1i]
 refine hK.out _ _ (HC.out _ xb.out) (fun hh=>?_);clear hh hK K
 try (simp only [Act.put,T1,T2,T3])
 refine TO 30 a6Y fun K hK=>?_
 go_simp
 go_at_call 220
 refine (pT pc 2 (1,D6 (yn == xn)) _ hpc).mono ?_;rintro e w2 ⟨a2,c2,rfl,xh,xo⟩;have xd:Hid (L0d V w2):=hid (xb.out.trans (xh.mono xb.out.size));have xx:=hid xh;have xu:=hid xo;clear xh xo
 dsimp only
 refine hK.out _ _ (HC.out _ xd.out) (fun hh=>?_);clear hh hK K
 try (simp only [Act.put,T1,T2,T3])
 obtain⟨⟨d0,d1,d2,d3⟩,z0,z1,z2,z3⟩:=HD.out _ xd.out;obtain⟨q0,q1,q2,q3⟩:=HC.out _ xd.out;have yb:D < w2.heap.size:=L0a xa xd.out.size;refine wpAnyH_ready (rs:=[31]) Q8 R6 ?_;refine AllReadyH.cons rfl (fun K hK=>?_) AllReadyH.nil;go_simp
 refine hK.out _ _ (by refine ⟨?_,?_,?_,?_⟩ <;> go_simp) (fun hh=>?_);clear hh hK K;refine wpAnyH_done Q8 ?_ _;have xr:D < w1.heap.size:=L0a xa xb.out.size;generalize hqY:((((w2.setCell ⟨D,0,none⟩ (J 2)).setCell ⟨D,1,none⟩ (.slice a2 1 c2)).setCell ⟨D,2,none⟩ (J ((pc:Int)+1))).setCell ⟨D,3,none⟩ (J 0))=Y at *
 have r0:Y.cell? ⟨D,0,none⟩=some (J 2):=by subst hqY;go_simp
 have r1:Y.cell? ⟨D,1,none⟩=some (.slice a2 1 c2):=by subst hqY;go_simp
 have r2:Y.cell? ⟨D,2,none⟩=some (J ((pc:Int)+1)):=by subst hqY;go_simp
 have r3:Y.cell? ⟨D,3,none⟩=some (J 0):=by subst hqY;go_simp
 have HE:Hid (D2 2 [(1,D6 (yn == xn))] ((pc:Int)+1) 0 W (.returned (.agg #[J 2,.slice a2 1 c2,J ((pc:Int)+1),J 0])) Y):=by subst hqY;exact hid (D2.stored (push:=[(1,D6 (yn == xn))]) (HB.out.trans (xb.out.mono HB.out.size)) xx.out xu.out xw xr _ _ _ _)
 clear d0 d1 d2 d3 z0 z1 z2 z3 q0 q1 q2 q3 HD HC;clear hqY;go_wp2_with fail;exact bodyPost_ret (v:=.agg #[J 2,.slice a2 1 c2,J ((pc:Int)+1),J 0]) (by simp [results,results185,go_sem,r0,r1,r2,r3]) rfl HE.out
theorem a0W (fn:Nat) (x y:Val) (a:Int) (pc:Nat) (hpc:pc<=1000) (hsb:sb < W.heap.size) (x0:W.cell? ⟨sb,m*2,none⟩=some (zC x.1)) (x1:W.cell? ⟨sb,m*2+1,none⟩=some (J x.2)) (y0:W.cell? ⟨sb,(m+1)*2,none⟩=some (zC y.1)) (y1:W.cell? ⟨sb,(m+1)*2+1,none⟩=some (J y.2)) (hm:m<=1000) (h1:¬x.1=y.1) :
  Calls prog 185 #[zB mb,.agg #[J 11,J a],J (pc:Int),.agg #[J (fn:Int),J (pc:Int),.slice la nl lc,.slice (zA sb) (m+2) sc]] W fun e w'=>D2 2 [(1,D6 false)] ((pc:Int)+1) 0 W e w':=by
 have xt:=(fun (_:m<=1000)=>hpc) hm;obtain⟨xk,xn⟩:=x;obtain⟨yk,yn⟩:=y;simp only at x0 x1 y0 y1;have xg:sb < W.heap.size+1:=by omega
 have xe:sb < W.heap.size+1+1:=by omega
 have xi:sb < W.heap.size+1+1+1:=by omega
 have xf:sb < W.heap.size+1+1+1+1:=by omega
 have yc:(yk == xk)=false:=beq_false_of_ne fun e=>h1 e.symm
 have xz:¬yk=xk:=fun e=>h1 e.symm
 clear h1;have ye:IntKind.i64.wrap ((m:Int)+2 - 1)=(m:Int)+1:=by rw [Go.IntWalk.i64_in _ R5];omega
 have yg:IntKind.i64.wrap ((m:Int)+2 - 2)=(m:Int):=by rw [Go.IntWalk.i64_in _ R5];omega
 have yh:IntKind.i64.wrap (m:Int)=(m:Int):=Go.IntWalk.i64_in _ R5;have yf:((m:Int)+1).toNat=m+1:=by omega
 have xx:(m:Int)+1 < (m:Int)+2:=by omega
 have xy:(0:Int)<=(m:Int)+1:=by omega
 have yd:(m:Int) < (m:Int)+2:=by omega
 go_enter func185,ntmps185;go_wp2_with fail;generalize hqV:(((W.alloc (Obj.cells #[J 11,J a] 165)).alloc (Obj.cells #[J (fn:Int),J (pc:Int),.slice la nl lc,.slice (zA sb) (m+2) sc] 86)).alloc (Obj.cells #[J 0,zD,J 0,J 0] 198))=V at *
 have hB:L0d W V:=by subst hqV;exact P4
 have p0:=keep hB hsb x0;have p1:=keep hB hsb x1;have p2:=keep hB hsb y0;have p3:=keep hB hsb y1;have d0:V.cell? ⟨W.heap.size+1+1,0,none⟩=some (J 0):=by subst hqV;go_simp
 have xm:V.frozen? ⟨W.heap.size+1+1,0,none⟩=false:=by subst hqV;go_simp
 have d1:V.cell? ⟨W.heap.size+1+1,1,none⟩=some zD:=by subst hqV;go_simp
 have xj:V.frozen? ⟨W.heap.size+1+1,1,none⟩=false:=by subst hqV;go_simp
 have d2:V.cell? ⟨W.heap.size+1+1,2,none⟩=some (J 0):=by subst hqV;go_simp
 have xq:V.frozen? ⟨W.heap.size+1+1,2,none⟩=false:=by subst hqV;go_simp
 have d3:V.cell? ⟨W.heap.size+1+1,3,none⟩=some (J 0):=by subst hqV;go_simp
 have xp:V.frozen? ⟨W.heap.size+1+1,3,none⟩=false:=by subst hqV;go_simp
 have xs:V.heap.size=W.heap.size+1+1+1:=by subst hqV;simp
 have HB:=hid hB;clear hB x0 x1 y0 y1 xg xe xi xf;clear hqV;generalize hDD:W.heap.size+1+1=D at *
 have xc:sb < V.heap.size:=by omega
 have xa:D < V.heap.size:=by omega
 have ya:sb≠D:=by omega
 have xv:W.heap.size<=D:=by omega
 have HC:Hid (∀u,L0d V u->u.cell? ⟨sb,m*2,none⟩=some (zC xk)/\u.cell? ⟨sb,m*2+1,none⟩=some (J xn)/\u.cell? ⟨sb,(m+1)*2,none⟩=some (zC yk)/\u.cell? ⟨sb,(m+1)*2+1,none⟩=some (J yn)):=hid fun u hu=>⟨keep hu xc p0,keep hu xc p1,keep hu xc p2,keep hu xc p3⟩
 have HD:Hid (∀u,L0d V u->(u.cell? ⟨D,0,none⟩=some (J 0)/\u.cell? ⟨D,1,none⟩=some zD/\u.cell? ⟨D,2,none⟩=some (J 0)/\u.cell? ⟨D,3,none⟩=some (J 0))/\u.frozen? ⟨D,0,none⟩=false/\u.frozen? ⟨D,1,none⟩=false/\u.frozen? ⟨D,2,none⟩=false/\u.frozen? ⟨D,3,none⟩=false):=hid fun u hu=>⟨⟨keep hu xa d0,keep hu xa d1,keep hu xa d2,keep hu xa d3⟩,E3 hu xa xm,E3 hu xa xj,E3 hu xa xq,E3 hu xa xp⟩
 have HV:Hid (L0d V V.drew):=L3c (L3b _ _);clear p0 p1 p2 p3 d0 d1 d2 d3 xm xj xq xp xs hDD;refine wp_region_held_drew (S:=fun u=>u.cell? ⟨sb,m*2,none⟩=some (zC xk)/\u.cell? ⟨sb,m*2+1,none⟩=some (J xn)/\u.cell? ⟨sb,(m+1)*2,none⟩=some (zC yk)/\u.cell? ⟨sb,(m+1)*2+1,none⟩=some (J yn)) Q8 (HC.out _ HV.out) (fun hHeld=>?_);refine TW 0 a8z ?_
 refine TW 1 a8A ?_;refine TW 2 a8B ?_;refine TW 3 a8C ?_;refine TW 4 a8D ?_;refine TW 5 a8E ?_;refine TW 6 a8F ?_;refine TW 7 a8G ?_;refine TW 8 a8H ?_;refine TW 9 a8I ?_;refine TW 10 a6E ?_;refine TW 11 a6F ?_;refine TW 12 a6G ?_;refine TK 13 a6H (.bool false) ?_ ?_
 ·intro w hSw;(try dsimp only at hSw);go_simp;try with_reducible rfl
 simp only[Act.put,T1,T2,T3];refine TW 14 a6I ?_;refine TS 15 a6J ?_;simp only[Act.put,T1,T2,T3];refine TS 16 a6K ?_;simp only[Act.put,T1,T2,T3];refine TS 17 a6L ?_;simp only[Act.put,T1,T2,T3];refine TS 18 a6M ?_;simp only[Act.put,T1,T2,T3];refine TS 19 a6N ?_;simp only[Act.put,T1,T2,T3];refine TS 20 a6O ?_;simp only[Act.put,T1,T2,T3];refine TS 21 a6P ?_;simp only[Act.put,T1,T2,T3]
 refine TS 22 a6Q ?_;simp only[Act.put,T1,T2,T3];refine TS 23 a6R ?_;simp only[Act.put,T1,T2,T3];refine TS 24 a6S ?_;simp only[Act.put,T1,T2,T3];refine TS 25 a6T ?_;simp only[Act.put,T1,T2,T3];refine TS 26 a6U ?_;simp only[Act.put,T1,T2,T3];refine TS 27 a6V ?_;simp only[Act.put,T1,T2,T3];refine TW 28 a6W ?_;clear hHeld;refine TO 29 a6X fun K hK=>?_
 go_simp
 go_at_call 223
 refine (jG false _).mono ?_;rintro e w1 ⟨rfl,xl⟩;have xb:Hid (L0d V w1):=hid (HV.out.trans (xl.mono HV.out.size));clear xl
 dsimp only [a1i]
 refine hK.out _ _ (HC.out _ xb.out) (fun hh=>?_);clear hh hK K
 try (simp only [Act.put,T1,T2,T3])
 refine TO 30 a6Y fun K hK=>?_
 go_simp
 go_at_call 220
 refine (pT pc 2 (1,D6 false) _ hpc).mono ?_;rintro e w2 ⟨a2,c2,rfl,xh,xo⟩;have xd:Hid (L0d V w2):=hid (xb.out.trans (xh.mono xb.out.size));have xw:=hid xh;have xu:=hid xo;clear xh xo
 dsimp only
 refine hK.out _ _ (HC.out _ xd.out) (fun hh=>?_);clear hh hK K
 try (simp only [Act.put,T1,T2,T3])
 obtain⟨⟨d0,d1,d2,d3⟩,z0,z1,z2,z3⟩:=HD.out _ xd.out;obtain⟨q0,q1,q2,q3⟩:=HC.out _ xd.out;have yb:D < w2.heap.size:=L0a xa xd.out.size;refine wpAnyH_ready (rs:=[31]) Q8 R6 ?_;refine AllReadyH.cons rfl (fun K hK=>?_) AllReadyH.nil;go_simp
 refine hK.out _ _ (by refine ⟨?_,?_,?_,?_⟩ <;> go_simp) (fun hh=>?_);clear hh hK K;refine wpAnyH_done Q8 ?_ _;have xr:D < w1.heap.size:=L0a xa xb.out.size;generalize hqY:((((w2.setCell ⟨D,0,none⟩ (J 2)).setCell ⟨D,1,none⟩ (.slice a2 1 c2)).setCell ⟨D,2,none⟩ (J ((pc:Int)+1))).setCell ⟨D,3,none⟩ (J 0))=Y at *
 have r0:Y.cell? ⟨D,0,none⟩=some (J 2):=by subst hqY;go_simp
 have r1:Y.cell? ⟨D,1,none⟩=some (.slice a2 1 c2):=by subst hqY;go_simp
 have r2:Y.cell? ⟨D,2,none⟩=some (J ((pc:Int)+1)):=by subst hqY;go_simp
 have r3:Y.cell? ⟨D,3,none⟩=some (J 0):=by subst hqY;go_simp
 have HE:Hid (D2 2 [(1,D6 false)] ((pc:Int)+1) 0 W (.returned (.agg #[J 2,.slice a2 1 c2,J ((pc:Int)+1),J 0])) Y):=by subst hqY;exact hid (D2.stored (push:=[(1,D6 false)]) (HB.out.trans (xb.out.mono HB.out.size)) xw.out xu.out xv xr _ _ _ _)
 clear d0 d1 d2 d3 z0 z1 z2 z3 q0 q1 q2 q3 HD HC;clear hqY;go_wp2_with fail;exact bodyPost_ret (v:=.agg #[J 2,.slice a2 1 c2,J ((pc:Int)+1),J 0]) (by simp [results,results185,go_sem,r0,r1,r2,r3]) rfl HE.out
theorem a7W (fn:Nat) (x y:Val) (a:Int) (pc:Nat) (hpc:pc<=1000) (hsb:sb < W.heap.size) (x0:W.cell? ⟨sb,m*2,none⟩=some (zC x.1)) (x1:W.cell? ⟨sb,m*2+1,none⟩=some (J x.2)) (y0:W.cell? ⟨sb,(m+1)*2,none⟩=some (zC y.1)) (y1:W.cell? ⟨sb,(m+1)*2+1,none⟩=some (J y.2)) (hm:m<=1000) :
  Calls prog 185 #[zB mb,.agg #[J 11,J a],J (pc:Int),.agg #[J (fn:Int),J (pc:Int),.slice la nl lc,.slice (zA sb) (m+2) sc]] W fun e w'=>D2 2 [(1,D6 (x.1 == y.1 && x.2 == y.2))] ((pc:Int)+1) 0 W e w':=by
 by_cases h1:x.1=y.1
 ·have e:(x.1 == y.1 && x.2 == y.2)=(y.2 == x.2):=by rw [h1];simp [Bool.beq_comm]
  rw[e];exact a0V fn x y a pc hpc hsb x0 x1 y0 y1 hm h1
 ·have e:(x.1 == y.1 && x.2 == y.2)=false:=by simp [h1]
  rw[e];exact a0W fn x y a pc hpc hsb x0 x1 y0 y1 hm h1
end
end Go.Proofs.YtbkmgoffiigdbaaGreatDoor
