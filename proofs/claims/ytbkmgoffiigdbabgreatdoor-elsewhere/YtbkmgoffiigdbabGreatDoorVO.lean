import Derived.Test.YtbkmgoffiigdbabGreatDoorVNk
import Derived.Lib.SliceRun
import Derived.Laws.CopyRow
namespace Go.Proofs.YtbkmgoffiigdbabGreatDoor
open Go.RowKit Go.Sort
set_option maxHeartbeats 4000000
set_option maxRecDepth 1000000
theorem a1y {fs:List FrR} {f:FrR} (pc:Nat) (v:Value) (l:List Val) :
  (fs++[{ f with pc:=pc,sv:=v,stk:=l }]).flatMap FrR.cells=(((fs++[f]).flatMap FrR.cells).set (fs.length*4+3) v).set (fs.length*4+1) (.int .i64 pc):=by
 have:=uL (fs:=fs) (f:=f) pc v v l;rwa [List.set_set] at this
theorem a6i {own:Own} {mb:Nat} {g:PgR} {R:McR} {fs:List FrR} {f:FrR} {w:World} (h:A3 w own mb g R) (hf:R.frs=fs++[f]) (k:Nat) (hk:k≤f.stk.length) (pc:Nat)
  (hn:fs.length≤1000) (hs:f.stk.length≤1000) :
  Calls Tryz.prog 212 #[.pointer (some ⟨mb,3,none⟩),.int .i64 (k:Int),.int .i64 (pc:Int)] w fun e w'=>D0 own mb g R fs f pc (f.stk.take (f.stk.length - k)) (.tuple #[]) w e w':=by
 obtain⟨cb,cc,hv,hocb,hcb,hfz,x0,x1,x2,x3⟩:=h.top hf;have hc:=h.c3;rw[hv] at hc;have hrow:=h.topRow hf hv;have hmb:mb < w.heap.size:=h.lt mb _ h.me;have hmc:mb≠cb:=fun e=>by have:=h.me;rw [e,hocb] at this;cases this
 have hstk:=h.stk fs.length f (by rw [hf];simp);have hsb:∀b,f.sv.ownBlock=some b→b≠cb∧own b=some (.stk fs.length):=fun b hb=>by
  have hb':=hstk.2 b hb;exact⟨fun e=>(by rw [e,hocb] at hb';cases hb'),hb'⟩
 have hfz3:=hfz (fs.length*4+3);have hfz1:=hfz (fs.length*4+1);go_enter Tryz.func212,Tryz.ntmps212;go_wp2_with fail;refine (qR mb cb fs.length cc f.sv f.stk.length k _ w hn hs hk hc x3 hfz3 hstk.1).mono ?_;rintro e w1 ⟨m1,sv1,rfl,hw1,hb1,hown1⟩;have hne1:sv1.ownBlock≠some cb:=fun e=>(hsb cb (hb1▸e)).1 rfl
 have d0:w1.cell? ⟨mb,3,none⟩=some (.slice (some ⟨cb,0,none⟩) (fs.length+1) cc):=by rw [hw1];go_simp
 have d1:w1.cell? ⟨cb,fs.length*4+1,none⟩=some (.int .i64 (f.pc:Int)):=by rw [hw1];go_simp
 have z1:w1.frozen? ⟨cb,fs.length*4+1,none⟩=false:=by rw [hw1];go_simp
 have o1:w1.ownsRow 0 73 2 sv1 (f.stk.length - k) (A5 (f.stk.take (f.stk.length - k))):=by
  rw[hw1,A5,iT E7];exact ownsRow_setCell_other (dF hown1 m1) hne1 _
 have r1:w1.ownsRow 0 83 4 (.slice (some ⟨cb,0,none⟩) (fs.length+1) cc) (fs.length+1) (((fs++[f]).flatMap FrR.cells).set (fs.length*4+3) sv1):=by
  rw[hw1];exact (World.ownsRow.stored (dF hrow m1) _ sv1).1
 have s1:w1.heap.size=w.heap.size:=by rw [hw1];simp
 have k1:∀b,b≠cb→w1.heap[b]?=w.heap[b]?:=fun b hb=>by rw [hw1];exact heap_setCell_other _ _ _ _ hb
 have e1:w1.os=w.os∧w1.tape=w.tape∧w1.output=w.output:=by rw [hw1];exact ⟨rfl,rfl,rfl⟩
 have hlt1:cb < w1.heap.size:=by omega
 have HPOST:Hid (∀q,D0 own mb g R fs f pc (f.stk.take (f.stk.length - k)) (.tuple #[]) w (.returned (.tuple #[])) ((w1.drewN q).setCell ⟨cb,fs.length*4+1,none⟩ (.int .i64 (pc:Int)))):=by
  intro q;have hon:M2 w own sv1 (.stk fs.length):=fun b hb=>Or.inl (hsb b (hb1▸hb)).2
  have hlen:(f.stk.take (f.stk.length - k)).length=f.stk.length - k:=by simp
  have r2:=(World.ownsRow.stored (dF r1 q) (fs.length*4+1) (.int .i64 (pc:Int))).1;rw[← a1y pc sv1 (f.stk.take (f.stk.length - k))] at r2;refine⟨_,sv1,rfl,A3.setTop (f':={ f with pc:=pc,sv:=sv1,stk:=f.stk.take (f.stk.length - k) }) h hf rfl rfl (by simp [s1]) (fun j hj h1 h2=>?_) (by rw [hv];exact r2) (by rw [hlen];exact ownsRow_setCell_other (dF o1 q) hne1 _) hon,?_⟩
  ·have hkc:j≠cb:=fun e=>h1 (by rw [e];exact hocb)
   rw[heap_setCell_other _ _ _ _ hkc];exact k1 j hkc
  ·refine ⟨e1.1,e1.2.1,e1.2.2,by simp [s1],fun j hj hno=>?_,fun j hj=>Own.upd_old hon hj⟩
   have hkc:j≠cb:=fun e=>by rw [e,hocb] at hno;cases hno
   rw[heap_setCell_other _ _ _ _ hkc];exact k1 j hkc
 clear hw1 x0 x1 x2 x3 hc hfz3 hfz1 hfz hrow hstk hown1 h hf hv hsb hb1 hne1 o1 r1 s1 k1 e1 hocb;go_wp2_with (go_at_call 64;refine (N2 mb cb fs.length cc _ hn d0).mono ?_;rintro e w2 ⟨rfl,m2,rfl⟩)
 go_end0
 exact HPOST.out _
theorem C9.goTo {w W:World} {own:Own} {mb:Nat} {g:PgR} {R:McR} {fs:List FrR} {f:FrR} {rest args:List Val} {va:Option Addr} {sb:Nat} (h:C9 w own mb g R fs f rest args va sb) (hB:Below w.heap.size w W) (k:Nat) (hk:args.length=k) (pc:Nat) :
  Calls Tryz.prog 212 #[.pointer (some ⟨mb,3,none⟩),.int .i64 (k:Int),.int .i64 (pc:Int)] W fun e w'=>D0 own mb g R fs f pc rest (.tuple #[]) w e w':=by
 subst hk;have hl:args.length≤f.stk.length:=by rw [h.hst];simp
 refine (a6i (h.m.same hB.size fun k hk=>hB.block k hk) h.hf args.length hl pc h.hn h.hs).mono ?_;rintro e w' ⟨own',sv',rfl,hm',ht⟩;have he:f.stk.take (f.stk.length - args.length)=rest:=by rw [h.hst];simp
 rw[he] at hm';exact⟨own',sv',rfl,hm',(A8.of_below hB).trans ht⟩
theorem qO {own:Own} {mb:Nat} {g:PgR} {R:McR} {fs:List FrR} {f:FrR} {rest args:List Val} {va:Option Addr} {sb:Nat} {w:World} (h:C9 w own mb g R fs f rest args va sb) (pc vc:Nat) :
  Calls Tryz.prog 186 #[.pointer (some ⟨mb,0,none⟩),.int .i64 (pc:Int),.slice va args.length vc] w fun e w'=>D0 own mb g R fs f pc rest (.int .i64 0) w e w':=by
 have HG:=hid (h.goTo (Below.refl _ _) args.length rfl pc);clear h;go_enter Tryz.func186,Tryz.ntmps186;go_wp2_with (go_at_call 212;refine HG.out.mono ?_;rintro e w' ⟨own',sv',rfl,hm,ht⟩)
 go_ret;exact⟨own',sv',rfl,hm,ht⟩
def aC (x:Val):Bool:=x.1 == 2 || x.2 != 0
theorem vX {own:Own} {mb:Nat} {g:PgR} {R:McR} {fs:List FrR} {f:FrR} {rest:List Val} {x:Val} {va:Option Addr} {sb:Nat} {w:World} (h:C9 w own mb g R fs f rest [x] va sb) (hx:aC x=true) (pc vc:Nat) :
  Calls Tryz.prog 187 #[.pointer (some ⟨mb,0,none⟩),.int .i64 (pc:Int),.slice va 1 vc] w fun e w'=>D0 own mb g R fs f (f.pc+1) rest (.int .i64 0) w e w':=by
 obtain⟨o,rfl,hsb,c0,c1⟩:=h.one;obtain⟨x1,x2⟩:=x;simp only at c0 c1;have HH:=hid h;clear h
 cases h1:(x1 == 2)
 ·have h2:(x2 != 0)=true:=by simpa [aC,h1] using hx
  clear hx;go_enter Tryz.func187,Tryz.ntmps187;go_wp2_with (first | (go_at_call 102;refine (L0 _ _ _).mono ?_;rintro e w' ⟨rfl,o3,rfl⟩) | (go_at_call 205;refine (HH.out.answer P2 vc _ [] (aE _ _) Q9 1 rfl).mono ?_;rintro e w' ⟨own',sv',rfl,hm,ht⟩))
  go_ret;exact⟨own',sv',rfl,by rw [List.append_nil] at hm;exact hm,ht⟩
 ·clear hx
  go_enter Tryz.func187,Tryz.ntmps187;go_wp2_with (first | (go_at_call 102;refine (L0 _ _ _).mono ?_;rintro e w' ⟨rfl,o3,rfl⟩) | (go_at_call 205;refine (HH.out.answer P2 vc _ [] (aE _ _) Q9 1 rfl).mono ?_;rintro e w' ⟨own',sv',rfl,hm,ht⟩))
  go_ret;exact⟨own',sv',rfl,by rw [List.append_nil] at hm;exact hm,ht⟩
theorem tF {own:Own} {mb:Nat} {g:PgR} {R:McR} {fs:List FrR} {f:FrR} {rest:List Val} {x:Val} {va:Option Addr} {sb:Nat} {w:World} (h:C9 w own mb g R fs f rest [x] va sb) (hx:aC x=false) (pc vc:Nat) :
  Calls Tryz.prog 187 #[.pointer (some ⟨mb,0,none⟩),.int .i64 (pc:Int),.slice va 1 vc] w fun e w'=>D0 own mb g R fs f pc rest (.int .i64 0) w e w':=by
 obtain⟨o,rfl,hsb,c0,c1⟩:=h.one;obtain⟨x1,x2⟩:=x;simp only at c0 c1;have HJ:Hid (∀W,Below w.heap.size w W→Calls Tryz.prog 186 #[.pointer (some ⟨mb,0,none⟩),.int .i64 (pc:Int),.slice (some ⟨sb,o,none⟩) 1 vc] W fun e w'=>D0 own mb g R fs f pc rest (.int .i64 0) W e w'):=fun W hW=>qO (h.later hW) pc vc
 clear h;have h1:(x1 == 2)=false:=by
  cases e:(x1 == 2)
  ·rfl
  ·simp [aC,e] at hx
 have h2:(x2 != 0)=false:=by
  cases e:(x2 != 0)
  ·rfl
  ·simp [aC,e] at hx
 clear hx;go_enter Tryz.func187,Tryz.ntmps187;go_wp2_with (first | (go_at_call 102;refine (L0 _ _ _).mono ?_;rintro e w' ⟨rfl,o3,rfl⟩) | (go_at_call 186;refine (HJ.out _ ?_).mono ?_;exact P2;rintro e w' ⟨own',sv',rfl,hm,ht⟩;have HT:Hid (A8 own w own' w'):=(A8.of_below P2).trans ht))
 go_ret;exact⟨own',sv',rfl,hm,HT.out⟩
theorem A3.locals {w:World} {own:Own} {mb:Nat} {g:PgR} {R:McR} {fs:List FrR} {f:FrR} {a:Nat} {x:Val} (h:A3 w own mb g R) (hf:R.frs=fs++[f]) (ha:f.loc[a]?=some x) :
  ∃lb lc,f.lv=.slice (some ⟨lb,0,none⟩) f.loc.length lc∧own lb=some (.loc fs.length)∧lb < w.heap.size∧w.cell? ⟨lb,a*2,none⟩=some (.int .u8 x.1)∧w.cell? ⟨lb,a*2+1,none⟩=some (.int .i64 x.2)∧(∀j,w.frozen? ⟨lb,j,none⟩=false) ∧
   w.ownsRow 0 73 2 (.slice (some ⟨lb,0,none⟩) f.loc.length lc) f.loc.length (A5 f.loc):=by
 have hl:=h.loc fs.length f (by rw [hf];simp);have hlt:=(List.getElem?_eq_some_iff.1 ha).1;obtain⟨lb,lc,hv,_,hb⟩:=hl.1.form Q8;rw[hv] at hl;have hcell:∀i,i < 2→w.cell? ⟨lb,a*2+i,none⟩=(N0 x)[i]?:=fun i hi=>by
  rw[hl.1.cellAt _ Q8];exact C3 E7 ha hi
 exact⟨lb,lc,hv,hl.2 lb rfl,hb,hcell 0 Q8,hcell 1 Q8,fun j=>hl.1.frozenAt j,hl.1⟩
theorem a1p {own:Own} {mb:Nat} {g:PgR} {R:McR} {fs:List FrR} {f:FrR} {rest:List Val} {va:Option Addr} {sb:Nat} {w:World} (h:C9 w own mb g R fs f rest [] va sb) (a:Nat) (x:Val) (ha:f.loc[a]?=some x) (vc:Nat) :
  Calls Tryz.prog 175 #[.pointer (some ⟨mb,0,none⟩),.int .i64 (a:Int),.slice va 0 vc] w fun e w'=>D0 own mb g R fs f (f.pc+1) (rest++[x]) (.int .i64 0) w e w':=by
 obtain⟨cb,cc,hv,hocb,hcb,hfz,x0,x1,x2,x3⟩:=h.m.top h.hf;obtain⟨lb,lc,hlv,holb,hlb,l0,l1,_,_⟩:=h.m.locals h.hf ha;have c3:=h.m.c3;rw[hv] at c3;rw[hlv] at x2;have hmb:mb < w.heap.size:=h.m.lt mb _ h.m.me;have hlt:a < f.loc.length:=(List.getElem?_eq_some_iff.1 ha).1;have hn:=h.hn;have HR:Hid (∀W:World,W.cell? ⟨mb,3,none⟩=some (.slice (some ⟨cb,0,none⟩) (fs.length+1) cc)→Calls Tryz.prog 64 #[.pointer (some ⟨mb,3,none⟩)] W fun e w'=>e=.returned (.pointer (some ⟨cb,fs.length*4,none⟩))∧∃m,w'=W.drewN m):=fun W hW=>N2 mb cb fs.length cc W hn hW
 have HH:=hid h;clear h hv hocb hfz x0 x1 x3 hlv holb ha;go_enter Tryz.func175,Tryz.ntmps175;go_wp2_with (go_at_call 64;refine (HR.out _ ?_).mono ?_;exact c3;rintro e w' ⟨rfl,m,rfl⟩)
 refine (HH.out.answer (Below.alloc (Below.drewQ (Below.refl _ _) m) (Nat.le_refl _) _) vc _ [x] (J6 HH.out.m (Nat.le_refl _) (D8 rfl)) Q9 0 rfl).mono ?_;rintro e w' ⟨own',sv',rfl,hm,ht⟩;go_wp2_with fail;go_ret;exact⟨own',sv',rfl,hm,ht⟩
theorem A3.setLoc {w w':World} {own:Own} {mb:Nat} {g:PgR} {R:McR} {fs:List FrR} {f:FrR} {l:List Val} {lb lc:Nat} (h:A3 w own mb g R) (hf:R.frs=fs++[f]) (hlv:f.lv=.slice (some ⟨lb,0,none⟩) f.loc.length lc) (holb:own lb=some (.loc fs.length)) (hsize:w.heap.size=w'.heap.size) (hk:∀k,k≠lb→w'.heap[k]?=w.heap[k]?) (hlen:l.length=f.loc.length)
  (hrow:w'.ownsRow 0 73 2 (.slice (some ⟨lb,0,none⟩) f.loc.length lc) f.loc.length (A5 l)):A3 w' own mb g { R with frs:=fs++[{ f with loc:=l }] }:=by
 have hlt:=h.lt;have keep:∀t,t≠.loc fs.length→∀k,own k=some t→w'.heap[k]?=w.heap[k]?∧own k=some t:=fun t ht k hk'=>⟨hk k (fun e=>by rw [e,holb] at hk';exact ht (Option.some.inj hk').symm),hk'⟩
 have hmb:=(keep .mach Q9 mb h.me).1;have hro:∀k,own k=none→w'.heap[k]?=w.heap[k]?:=fun k hk'=>hk k (fun e=>by rw [e,holb] at hk';cases hk')
 have hfl:(fs++[{ f with loc:=l }]).flatMap FrR.cells=R.frs.flatMap FrR.cells:=by rw [hf];simp [FrR.cells]
 have frz:∀i x,(fs++[{ f with loc:=l }])[i]?=some x→(i=fs.length∧x={ f with loc:=l })∨(i≠fs.length∧R.frs[i]?=some x):=fun i x hx=>by
  by_cases e:i=fs.length
  ·subst e;simp at hx;exact Or.inl ⟨rfl,hx.symm⟩
  ·refine Or.inr ⟨e,?_⟩
   rw[hf];rcases Nat.lt_or_ge i fs.length with hl | hl
   ·rw [List.getElem?_append_left hl] at hx ⊢;exact hx
   ·rw [List.getElem?_append_right hl] at hx
    rw[List.getElem?_eq_none Q5] at hx;cases hx
 refine⟨fun k t hk'=>by rw [← hsize];exact hlt k t hk',h.me,?_,?_,?_,?_,?_,?_,h.out.kept (keep _ Q9),?_,h.slots.kept (keep _ Q9),fun i x hx=>?_,fun i x hx=>?_,fun j o ho=>(h.fld j o ho).kept (keep _ Q9),h.pg.held (Nat.le_of_eq hsize) fun k hb=>hro k (h.ro k hb),h.ro,h.tab.held (Nat.le_of_eq hsize) (hro 0 h.ro0),h.ro0,?_,h.draws.kept (keep _ Q9)⟩
 ·rw [World.cell?_of_block (w:=w) (a:=⟨mb,0,none⟩) hmb];exact h.c0
 ·rw [World.cell?_of_block (w:=w) (a:=⟨mb,1,none⟩) hmb];exact h.c1
 ·rw [World.cell?_of_block (w:=w) (a:=⟨mb,2,none⟩) hmb];exact h.c2
 ·rw [World.cell?_of_block (w:=w) (a:=⟨mb,3,none⟩) hmb];exact h.c3
 ·rw [World.cell?_of_block (w:=w) (a:=⟨mb,4,none⟩) hmb];exact h.c4
 ·intro j;rw [World.frozen?_of_block (w:=w) (a:=⟨mb,j,none⟩) hmb];exact h.fz j
 ·have:=h.called.kept (own':=own) (w':=w') (keep _ Q9)
  have hl2:(fs++[{ f with loc:=l }]).length=R.frs.length:=by rw [hf];simp
  show Row w' own .called 83 4 R.cv (fs++[{ f with loc:=l }]).length ((fs++[{ f with loc:=l }]).flatMap FrR.cells);rw[hfl,hl2];exact this
 ·rcases frz i x hx with ⟨rfl,rfl⟩ | ⟨hne,hx⟩
  ·show Row w' own (.loc fs.length) 73 2 f.lv l.length (A5 l)
   rw[hlv,hlen]
   exact⟨hrow,fun b hb=>by obtain rfl:lb=b:=by simpa [Value.ownBlock] using hb
                           exact holb⟩
  ·exact (h.loc i x hx).kept (keep _ (by simpa using hne))
 ·rcases frz i x hx with ⟨rfl,rfl⟩ | ⟨hne,hx⟩
  ·exact (h.stk fs.length f (by rw [hf];simp)).kept (keep _ Q9)
  ·exact (h.stk i x hx).kept (keep _ Q9)
 ·rw [World.cell?_of_block (w:=w) (a:=⟨mb,5,none⟩) hmb];exact h.c5
theorem nP {l:List Val} {a:Nat} {x y:Val} (ha:l[a]?=some x):A5 (l.set a y)=((A5 l).set (a*2) (.int .u8 y.1)).set (a*2+1) (.int .i64 y.2):=by
 have h1:=L5 (c:=N0) E7 (l:=l) (i:=a) (j:=0) (x:=x) (y:=(y.1,x.2)) (u:=.int .u8 y.1) ha Q8 rfl;have hlt:=(List.getElem?_eq_some_iff.1 ha).1;have h2:=L5 (c:=N0) E7 (l:=l.set a (y.1,x.2)) (i:=a) (j:=1) (x:=(y.1,x.2)) (y:=y) (u:=.int .i64 y.2) (List.getElem?_set_self hlt) Q8 rfl;rw[List.set_set] at h2;unfold A5;rw[h2,h1,Nat.add_zero]
theorem a5g {own:Own} {mb:Nat} {g:PgR} {R:McR} {fs:List FrR} {f:FrR} {rest args:List Val} {va:Option Addr} {sb:Nat} {w W:World} (h:C9 w own mb g R fs f rest args va sb) (hB:Below w.heap.size w W) {a:Nat} {x y:Val} (ha:f.loc[a]?=some x) {lb lc:Nat} (hlv:f.lv=.slice (some ⟨lb,0,none⟩) f.loc.length lc) (holb:own lb=some (.loc fs.length)) :
  C9 ((W.setCell ⟨lb,a*2,none⟩ (.int .u8 y.1)).setCell ⟨lb,a*2+1,none⟩ (.int .i64 y.2)) own mb g { R with frs:=fs++[{ f with loc:=f.loc.set a y }] } fs { f with loc:=f.loc.set a y } rest args va sb ∧
   A8 own w own ((W.setCell ⟨lb,a*2,none⟩ (.int .u8 y.1)).setCell ⟨lb,a*2+1,none⟩ (.int .i64 y.2)):=by
 have hW:=h.later hB;have hl:=hW.m.loc fs.length f (by rw [h.hf];simp);rw[hlv] at hl;have hr:=(World.ownsRow.stored (World.ownsRow.stored hl.1 (a*2) (.int .u8 y.1)).1 (a*2+1) (.int .i64 y.2)).1;rw[← nP ha] at hr;have hblk:∀k,k≠lb→((W.setCell ⟨lb,a*2,none⟩ (.int .u8 y.1)).setCell ⟨lb,a*2+1,none⟩ (.int .i64 y.2)).heap[k]?=W.heap[k]?:=fun k hk=>by
  rw[heap_setCell_other _ _ _ _ hk,heap_setCell_other _ _ _ _ hk]
 refine⟨⟨hW.m.setLoc h.hf hlv holb Q9 hblk Q9 hr,rfl,h.hst,fun h0=>?_,h.hn,h.hs,h.hpc⟩,⟨hB.os,hB.tape,hB.output,by have:=hB.size;simpa using this,fun k hk hno=>?_,fun _ _=>rfl⟩⟩
 ·obtain ⟨q1,q2,q3⟩:=hW.hva h0
  refine⟨q1,q2,fun j z hz=>?_⟩;have hsl:sb≠lb:=fun e=>by rw [e,holb] at q2;cases q2
  rw[World.cell?_of_block (w:=W) (a:=⟨sb,_,none⟩) (hblk sb hsl),World.cell?_of_block (w:=W) (a:=⟨sb,_,none⟩) (hblk sb hsl)];exact q3 j z hz
 ·rw [hblk k (fun e=>by rw [e,holb] at hno;cases hno)]
  exact hB.block k hk
def a8R (R:McR) (fs:List FrR) (f:FrR) (rest:List Val) (a:Nat) (y:Val) (R':McR):Prop:=∃sv',R'={ R with frs:=fs++[{ f with pc:=f.pc+1,sv:=sv',loc:=f.loc.set a y,stk:=rest }] }
theorem zC {own:Own} {mb:Nat} {g:PgR} {R:McR} {fs:List FrR} {f:FrR} {rest:List Val} {y:Val} {va:Option Addr} {sb:Nat} {w:World} (h:C9 w own mb g R fs f rest [y] va sb) (a:Nat) (ha:a < f.loc.length) (vc:Nat) :
  Calls Tryz.prog 176 #[.pointer (some ⟨mb,0,none⟩),.int .i64 (a:Int),.slice va 1 vc] w fun e w'=>aP own mb g (a8R R fs f rest a y) 0 w e w':=by
 obtain⟨x,hx⟩:∃x,f.loc[a]?=some x:=⟨_,List.getElem?_eq_getElem ha⟩
 obtain⟨o,rfl,hsb,s0,s1⟩:=h.one;obtain⟨y1,y2⟩:=y;simp only at s0 s1;obtain⟨cb,cc,hv,hocb,hcb,hfz,x0,x1,x2,x3⟩:=h.m.top h.hf;obtain⟨lb,lc,hlv,holb,hlb,l0,l1,lz,_⟩:=h.m.locals h.hf hx;have c3:=h.m.c3;rw[hv] at c3;have HLV:=hid hlv;rw[hlv] at x2;have hmb:mb < w.heap.size:=h.m.lt mb _ h.m.me;have lz0:=lz (a*2);have lz1:=lz (a*2+1);have hn:=h.hn;have HR:Hid (∀W:World,W.cell? ⟨mb,3,none⟩=some (.slice (some ⟨cb,0,none⟩) (fs.length+1) cc)→Calls Tryz.prog 64 #[.pointer (some ⟨mb,3,none⟩)] W fun e w'=>e=.returned (.pointer (some ⟨cb,fs.length*4,none⟩))∧∃m,w'=W.drewN m):=fun W hW=>N2 mb cb fs.length cc W hn hW
 have HOLB:=hid holb;have HX:=hid hx;have HH:=hid h;clear h hv hocb hfz x0 x1 x3 hlv holb hx lz;go_enter Tryz.func176,Tryz.ntmps176;go_wp2_with fail;go_region_with (first | (go_at_call 64;refine (HR.out _ ?_).mono ?_;exact c3;rintro e w' ⟨rfl,m,rfl⟩))
 all_goals
  obtain⟨hA,hT⟩:=a5g (y:=(y1,y2)) HH.out (Below.drewQ (Below.refl _ _) (1+m)) HX.out HLV.out HOLB.out;have HA:=hid hA;have HT:=hid hT;clear hA hT c3 x2 l0 l1 lz0 lz1 s0 s1;go_wp2_with (go_at_call 205;refine (HA.out.answer (Below.refl _ _) vc _ [] (aE _ _) Q9 1 rfl).mono ?_;rintro e w' ⟨own',sv',rfl,hm,ht⟩)
  go_ret;exact⟨own',_,rfl,hm,⟨sv',by rw [List.append_nil]⟩,HT.out.trans ht⟩
theorem A3.slot {w:World} {own:Own} {mb:Nat} {g:PgR} {R:McR} {j:Nat} {o:ObR} (h:A3 w own mb g R) (hj:R.obs[j]?=some o) :
  ∃hb hc fa fc,R.hv=.slice (some ⟨hb,0,none⟩) R.obs.length hc∧own hb=some .slots∧hb < w.heap.size∧o.fv=.slice fa o.fl.length fc∧w.cell? ⟨hb,j*2,none⟩=some (.int .u8 o.kind)∧w.cell? ⟨hb,j*2+1,none⟩=some (.slice fa o.fl.length fc):=by
 have hlt:=(List.getElem?_eq_some_iff.1 hj).1;obtain⟨hb,hc,e,_,hl⟩:=h.slots.1.form Q8;have hs:=h.slots;rw[e] at hs;obtain⟨fa,fc,hfv⟩:=C6 (h.fld j o hj);have hcell:∀i,i < 2→w.cell? ⟨hb,j*2+i,none⟩=o.cells[i]?:=fun i hi=>by
  rw[hs.1.cellAt _ Q8];exact C3 ObR.cells_len hj hi
 have h1:w.cell? ⟨hb,j*2+1,none⟩=some o.fv:=hcell 1 Q8;rw[hfv] at h1;exact⟨hb,hc,fa,fc,e,hs.2 hb rfl,hl,hfv,hcell 0 Q8,h1⟩
theorem aN {own:Own} {mb:Nat} {g:PgR} {R:McR} {w:World} (h:A3 w own mb g R) {j:Nat} {o:ObR} (hj:R.obs[j]?=some o) :
  Calls Tryz.prog 122 #[.pointer (some ⟨mb,4,none⟩),.agg #[.int .u8 2,.int .i64 (j:Int)]] w fun e w'=>e=.returned (.agg #[.int .u8 o.kind,o.fv])∧Below w.heap.size w w':=by
 obtain⟨hb,hc,fa,fc,e,_,hl,hfv,k0,k1⟩:=h.slot hj;have c4:=h.c4;rw[e] at c4;have hmb:mb < w.heap.size:=h.lt mb _ h.me;have hlt:=(List.getElem?_eq_some_iff.1 hj).1;rw[hfv];clear h e hfv hj;go_enter Tryz.func122,Tryz.ntmps122;go_wp2_with fail;go_region
 all_goals
  go_wp2_with fail;exact bodyPost_ret (v:=.agg #[.int .u8 o.kind,.slice fa o.fl.length fc]) (by simp [results,Tryz.results122,go_sem]) rfl ⟨rfl,P0⟩
def M1 (k kind:Int) (n:Nat) (i1 i2:Int):Int:=if k=kind∧i1=1 then (if 0≤i2∧i2 < n then 0 else 3) else 2
theorem sJ (k:Int) (fa:Option Addr) (n fc:Nat) (i:Nat) (hi:i < n) (hn:n≤1000) (w:World) :
  Calls Tryz.prog 221 #[.agg #[.int .u8 k,.slice fa n fc],.int .u8 k,.agg #[.int .u8 1,.int .i64 (i:Int)]] w fun e w'=>e=.returned (.int .i64 0)∧Below w.heap.size w w':=by
 have hin:B9 (i:Int) 0 ((n:Int) - 1)=true:=F8 Q8 Q8;go_enter Tryz.func221,Tryz.ntmps221;go_wp2_with (first | (go_at_call 140;refine (D4 _ _ _).mono ?_;rintro e w' ⟨rfl,o4,rfl⟩) | (go_at_call 41;refine (C2 _ _ _ _).mono ?_;rintro e w' ⟨rfl,rfl⟩))
 go_ret;exact⟨rfl,P0⟩
theorem C9.first {w:World} {own:Own} {mb:Nat} {g:PgR} {R:McR} {fs:List FrR} {f:FrR} {rest more:List Val} {x:Val} {va:Option Addr} {sb:Nat} (h:C9 w own mb g R fs f rest (x::more) va sb) :
  va=some ⟨sb,rest.length*2,none⟩∧sb < w.heap.size∧own sb=some (.stk fs.length)∧w.cell? ⟨sb,rest.length*2,none⟩=some (.int .u8 x.1)∧w.cell? ⟨sb,rest.length*2+1,none⟩=some (.int .i64 x.2):=by
 obtain⟨h1,h2,h3⟩:=h.hva Q9;obtain⟨h4,h5⟩:=h3 0 x rfl;exact⟨h1,h.m.lt sb _ h2,h2,by simpa using h4,by simpa using h5⟩
theorem gU {own:Own} {mb:Nat} {g:PgR} {R:McR} {fs:List FrR} {f:FrR} {rest more:List Val} {va:Option Addr} {sb:Nat} {w:World} {j i:Nat} {o:ObR} {y:Val} (h:C9 w own mb g R fs f rest ((2,(j:Int))::more) va sb) (hj:R.obs[j]?=some o) (hi:o.fl[i]?=some y) (hfn:o.fl.length≤1000) (k:Nat) (hk:more.length+1=k) (hk3:k≤3) (vc:Nat) :
  Calls Tryz.prog 216 #[.pointer (some ⟨mb,0,none⟩),.slice va k vc,.int .u8 o.kind,.agg #[.int .u8 1,.int .i64 (i:Int)]] w fun e w'=>D0 own mb g R fs f (f.pc+1) (rest++[y]) (.int .i64 0) w e w':=by
 obtain⟨rfl,hsb,_,s0,s1⟩:=h.first
 simp only at s0 s1;have hil:=(List.getElem?_eq_some_iff.1 hi).1;obtain⟨fb,fc,hfv,_,hfb⟩:=(h.m.fld j o hj).1.form Q8;have hrow:=(h.m.fld j o hj).1;rw[hfv] at hrow;have hcell:∀t,t < 2→w.cell? ⟨fb,i*2+t,none⟩=(N0 y)[t]?:=fun t ht=>by
  rw[hrow.cellAt _ Q8];exact C3 E7 hi ht
 have y0:w.cell? ⟨fb,i*2,none⟩=some (.int .u8 y.1):=hcell 0 Q8;have y1:w.cell? ⟨fb,i*2+1,none⟩=some (.int .i64 y.2):=hcell 1 Q8;have hmb:mb < w.heap.size:=h.m.lt mb _ h.m.me;have HREF:Hid (∀W,Below w.heap.size w W→Calls Tryz.prog 122 #[.pointer (some ⟨mb,4,none⟩),.agg #[.int .u8 2,.int .i64 (j:Int)]] W fun e w'=>e=.returned (.agg #[.int .u8 o.kind,.slice (some ⟨fb,0,none⟩) o.fl.length fc])∧Below W.heap.size W w'):=by
  intro W hW;have:=aN (h.m.same hW.size fun k hk=>hW.block k hk) hj;rw[hfv] at this;exact this
 have HH:=hid h;have hne1:fb≠w.heap.size+1:=by omega
 have hne2:sb≠w.heap.size+1:=by omega
 have hf1:fb < w.heap.size+1:=by omega
 have hf2:fb < w.heap.size+1+1:=by omega
 clear h hj hi hfv hrow hcell;go_enter Tryz.func216,Tryz.ntmps216;go_wp2_with fail;go_region_with (first | (go_at_call 122;refine (HREF.out _ ?_).mono ?_;exact P0;rintro e w2 ⟨rfl,hb2⟩;obtain ⟨hcc,hff⟩:=W9 hb2;have hs2:=hb2.size;have hz2:w.heap.size < w2.heap.size:=(by simp at hs2;omega);have hz2b:fb < w2.heap.size:=Q8;have hz2c:sb < w2.heap.size:=Q8;have hz2d:mb < w2.heap.size:=Q8;(try (have hz2e:w.heap.size+1 < w2.heap.size:=(by simp at hs2;omega)));have HB2:Hid (Below w.heap.size w w2):=A1 hb2 P0;clear hb2))
 all_goals
  go_wp2_with (first | (go_at_call 221;refine (sJ _ _ _ _ _ hil hfn _).mono ?_;rintro e w3 ⟨rfl,hb3⟩;obtain ⟨hcc3,hff3⟩:=W9 hb3;have hs3:=hb3.size;have hq3:w2.heap.size≤w3.heap.size:=(by simp at hs3;omega);(try (have hz3a:w2.heap.size < w3.heap.size:=(by simp at hs3;omega)));have hz3:w.heap.size < w3.heap.size:=Q8;have hz3b:fb < w3.heap.size:=Q8;have hz3c:sb < w3.heap.size:=Q8;have hz3d:mb < w3.heap.size:=Q8;(try (have hz3e:w.heap.size+1 < w3.heap.size:=Q8));have HB3:Hid (Below w.heap.size w w3):=A1 hb3 (by have hq:=HB2.out.size;repeat (first | exact HB2.out | refine Below.drew ?_ | refine Below.setCell ?_ P6 _ | refine Below.alloc ?_ P6 _));clear hb3) | (go_at_call 205;refine (HH.out.answer (by have hq:=HB3.out.size;repeat (first | exact HB3.out | refine Below.drew ?_ | refine Below.setCell ?_ P6 _ | refine Below.alloc ?_ P6 _)) vc _ [y] (J6 HH.out.m (by have hq:=HB3.out.size;first | omega | (simp;omega)) (by first | exact D8 Q9 | exact O5 Q9 | exact T2 Q9)) Q9 k hk).mono ?_;rintro e w' ⟨own',sv',rfl,hm,ht⟩))
  go_ret;exact⟨own',sv',rfl,hm,ht⟩
theorem a5X {own:Own} {mb:Nat} {g:PgR} {R:McR} {fs:List FrR} {f:FrR} {rest:List Val} {va:Option Addr} {sb:Nat} {w:World} {j i:Nat} {o:ObR} {y:Val} (h:C9 w own mb g R fs f rest [(2,(j:Int))] va sb) (hj:R.obs[j]?=some o) (hk:o.kind=1) (hi:o.fl[i]?=some y) (hfn:o.fl.length≤1000) (vc:Nat) :
  Calls Tryz.prog 196 #[.pointer (some ⟨mb,0,none⟩),.int .i64 (i:Int),.slice va 1 vc] w fun e w'=>D0 own mb g R fs f (f.pc+1) (rest++[y]) (.int .i64 0) w e w':=by
 have HA:Hid (∀W,Below w.heap.size w W→Calls Tryz.prog 216 #[.pointer (some ⟨mb,0,none⟩),.slice va 1 vc,.int .u8 1,.agg #[.int .u8 1,.int .i64 (i:Int)]] W fun e w'=>D0 own mb g R fs f (f.pc+1) (rest++[y]) (.int .i64 0) W e w'):=by
  intro W hW;have:=gU (h.later hW) hj hi hfn 1 rfl Q8 vc;rw[hk] at this;exact this
 clear h hj hi hk hfn;go_enter Tryz.func196,Tryz.ntmps196;go_wp2_with (first | (go_at_call 152;refine (N4 _ _).mono ?_;rintro e w' ⟨rfl,o,rfl⟩) | (go_at_call 216;refine (HA.out _ ?_).mono ?_;exact P0;rintro e w' ⟨own',sv',rfl,hm,ht⟩;have HT:Hid (A8 own w own' w'):=(A8.of_below P0).trans ht))
 go_ret;exact⟨own',sv',rfl,hm,HT.out⟩
theorem A3.setFld {w w':World} {own:Own} {mb:Nat} {g:PgR} {R:McR} {j:Nat} {o:ObR} {l:List Val} {fb fc:Nat} (h:A3 w own mb g R) (hj:R.obs[j]?=some o) (hfv:o.fv=.slice (some ⟨fb,0,none⟩) o.fl.length fc) (hofb:own fb=some (.fld j)) (hsize:w.heap.size=w'.heap.size) (hk:∀k,k≠fb→w'.heap[k]?=w.heap[k]?) (hlen:l.length=o.fl.length)
  (hrow:w'.ownsRow 0 73 2 (.slice (some ⟨fb,0,none⟩) o.fl.length fc) o.fl.length (A5 l)):A3 w' own mb g { R with obs:=R.obs.set j { o with fl:=l } }:=by
 have hlt:=h.lt;have keep:∀t,t≠.fld j→∀k,own k=some t→w'.heap[k]?=w.heap[k]?∧own k=some t:=fun t ht k hk'=>⟨hk k (fun e=>by rw [e,hofb] at hk';exact ht (Option.some.inj hk').symm),hk'⟩
 have hmb:=(keep .mach Q9 mb h.me).1;have hro:∀k,own k=none→w'.heap[k]?=w.heap[k]?:=fun k hk'=>hk k (fun e=>by rw [e,hofb] at hk';cases hk')
 have hjl:=(List.getElem?_eq_some_iff.1 hj).1;have hfl:(R.obs.set j { o with fl:=l }).flatMap ObR.cells=R.obs.flatMap ObR.cells:=by
  have e:=L5 (c:=ObR.cells) ObR.cells_len (l:=R.obs) (i:=j) (j:=0) (x:=o) (y:={ o with fl:=l }) (u:=.int .u8 o.kind) hj Q8 rfl;rw[e];have hg:(R.obs.flatMap ObR.cells)[j*2+0]?=some (.int .u8 o.kind):=C3 ObR.cells_len hj Q8;obtain⟨hl,hg'⟩:=List.getElem?_eq_some_iff.1 hg;rw[← hg'];exact List.set_getElem_self hl
 refine⟨fun k t hk'=>by rw [← hsize];exact hlt k t hk',h.me,?_,?_,?_,?_,?_,?_,h.out.kept (keep _ Q9),h.called.kept (keep _ Q9),?_,fun i x hx=>(h.loc i x hx).kept (keep _ Q9),fun i x hx=>(h.stk i x hx).kept (keep _ Q9),fun i x hx=>?_,h.pg.held (Nat.le_of_eq hsize) fun k hb=>hro k (h.ro k hb),h.ro,h.tab.held (Nat.le_of_eq hsize) (hro 0 h.ro0),h.ro0,?_,h.draws.kept (keep _ Q9)⟩
 ·rw [World.cell?_of_block (w:=w) (a:=⟨mb,0,none⟩) hmb];exact h.c0
 ·rw [World.cell?_of_block (w:=w) (a:=⟨mb,1,none⟩) hmb];exact h.c1
 ·rw [World.cell?_of_block (w:=w) (a:=⟨mb,2,none⟩) hmb];exact h.c2
 ·rw [World.cell?_of_block (w:=w) (a:=⟨mb,3,none⟩) hmb];exact h.c3
 ·rw [World.cell?_of_block (w:=w) (a:=⟨mb,4,none⟩) hmb];exact h.c4
 ·intro i;rw [World.frozen?_of_block (w:=w) (a:=⟨mb,i,none⟩) hmb];exact h.fz i
 ·have:=h.slots.kept (own':=own) (w':=w') (keep _ Q9)
  show Row w' own .slots 75 2 R.hv (R.obs.set j { o with fl:=l }).length ((R.obs.set j { o with fl:=l }).flatMap ObR.cells);rw[hfl,List.length_set];exact this
 ·by_cases e:i=j
  ·subst e
   obtain rfl:{ o with fl:=l }=x:=by rw [List.getElem?_set_self hjl] at hx;exact Option.some.inj hx
   show Row w' own (.fld i) 73 2 o.fv l.length (A5 l);rw[hfv,hlen]
   exact⟨hrow,fun b hb=>by obtain rfl:fb=b:=by simpa [Value.ownBlock] using hb
                           exact hofb⟩
  ·rw [List.getElem?_set_ne (Ne.symm e)] at hx
   exact (h.fld i x hx).kept (keep _ (by simpa using e))
 ·rw [World.cell?_of_block (w:=w) (a:=⟨mb,5,none⟩) hmb];exact h.c5
theorem a3o {own:Own} {mb:Nat} {g:PgR} {R:McR} {fs:List FrR} {f:FrR} {rest args:List Val} {va:Option Addr} {sb:Nat} {w W:World} (h:C9 w own mb g R fs f rest args va sb) (hB:Below w.heap.size w W) {j i:Nat} {o:ObR} {x y:Val} (hj:R.obs[j]?=some o) (hi:o.fl[i]?=some x) {fb fc:Nat} (hfv:o.fv=.slice (some ⟨fb,0,none⟩) o.fl.length fc) (hofb:own fb=some (.fld j)) :
  C9 ((W.setCell ⟨fb,i*2,none⟩ (.int .u8 y.1)).setCell ⟨fb,i*2+1,none⟩ (.int .i64 y.2)) own mb g { R with obs:=R.obs.set j { o with fl:=o.fl.set i y } } fs f rest args va sb ∧
   A8 own w own ((W.setCell ⟨fb,i*2,none⟩ (.int .u8 y.1)).setCell ⟨fb,i*2+1,none⟩ (.int .i64 y.2)):=by
 have hW:=h.later hB;have hl:=hW.m.fld j o hj;rw[hfv] at hl;have hr:=(World.ownsRow.stored (World.ownsRow.stored hl.1 (i*2) (.int .u8 y.1)).1 (i*2+1) (.int .i64 y.2)).1;rw[← nP hi] at hr;have hblk:∀k,k≠fb→((W.setCell ⟨fb,i*2,none⟩ (.int .u8 y.1)).setCell ⟨fb,i*2+1,none⟩ (.int .i64 y.2)).heap[k]?=W.heap[k]?:=fun k hk=>by
  rw[heap_setCell_other _ _ _ _ hk,heap_setCell_other _ _ _ _ hk]
 refine⟨⟨hW.m.setFld hj hfv hofb Q9 hblk Q9 hr,h.hf,h.hst,fun h0=>?_,h.hn,h.hs,h.hpc⟩,⟨hB.os,hB.tape,hB.output,by have:=hB.size;simpa using this,fun k hk hno=>?_,fun _ _=>rfl⟩⟩
 ·obtain ⟨q1,q2,q3⟩:=hW.hva h0
  refine⟨q1,q2,fun t z hz=>?_⟩;have hsl:sb≠fb:=fun e=>by rw [e,hofb] at q2;cases q2
  rw[World.cell?_of_block (w:=W) (a:=⟨sb,_,none⟩) (hblk sb hsl),World.cell?_of_block (w:=W) (a:=⟨sb,_,none⟩) (hblk sb hsl)];exact q3 t z hz
 ·rw [hblk k (fun e=>by rw [e,hofb] at hno;cases hno)]
  exact hB.block k hk
def pV (R:McR) (fs:List FrR) (f:FrR) (rest:List Val) (j i:Nat) (o:ObR) (y:Val) (R':McR):Prop:=∃sv',R'={ R with obs:=R.obs.set j { o with fl:=o.fl.set i y },frs:=fs++[{ f with pc:=f.pc+1,sv:=sv',stk:=rest }] }
theorem xM {own:Own} {mb:Nat} {g:PgR} {R:McR} {fs:List FrR} {f:FrR} {rest:List Val} {va:Option Addr} {sb:Nat} {w:World} {j i:Nat} {o:ObR} {y:Val} (h:C9 w own mb g R fs f rest [(2,(j:Int)),y] va sb) (hj:R.obs[j]?=some o) (hi:i < o.fl.length) (hfn:o.fl.length≤1000) (vc:Nat) :
  Calls Tryz.prog 217 #[.pointer (some ⟨mb,0,none⟩),.slice va 2 vc,.int .u8 o.kind,.agg #[.int .u8 1,.int .i64 (i:Int)]] w fun e w'=>aP own mb g (pV R fs f rest j i o y) 0 w e w':=by
 obtain⟨so,rfl,hsb,s0,s1,s2,s3⟩:=h.two;obtain⟨y1,y2⟩:=y;simp only at s0 s1 s2 s3;obtain⟨x,hx⟩:∃x,o.fl[i]?=some x:=⟨_,List.getElem?_eq_getElem hi⟩
 obtain⟨fb,fc,hfv,_,hfb⟩:=(h.m.fld j o hj).1.form Q8;have hofb:own fb=some (.fld j):=(h.m.fld j o hj).2 fb (by rw [hfv];rfl);have hrow:=(h.m.fld j o hj).1;rw[hfv] at hrow;have hcell:∀t,t < 2→w.cell? ⟨fb,i*2+t,none⟩=(N0 x)[t]?:=fun t ht=>by
  rw[hrow.cellAt _ Q8];exact C3 E7 hx ht
 have y0:w.cell? ⟨fb,i*2,none⟩=some (.int .u8 x.1):=hcell 0 Q8;have yy:w.cell? ⟨fb,i*2+1,none⟩=some (.int .i64 x.2):=hcell 1 Q8;have z0:=hrow.frozenAt (i*2);have z1:=hrow.frozenAt (i*2+1);have hmb:mb < w.heap.size:=h.m.lt mb _ h.m.me;have HREF:Hid (∀W,Below w.heap.size w W→Calls Tryz.prog 122 #[.pointer (some ⟨mb,4,none⟩),.agg #[.int .u8 2,.int .i64 (j:Int)]] W fun e w'=>e=.returned (.agg #[.int .u8 o.kind,.slice (some ⟨fb,0,none⟩) o.fl.length fc])∧Below W.heap.size W w'):=by
  intro W hW;have:=aN (h.m.same hW.size fun k hk=>hW.block k hk) hj;rw[hfv] at this;exact this
 have hsf:sb≠fb:=fun e=>by
  obtain⟨_,q2,_⟩:=h.hva Q9;rw[e,hofb] at q2;cases q2
 have HH:=hid h;have HJ:=hid hj;have HX:=hid hx;have HFV:=hid hfv;have HOFB:=hid hofb;have hne1:fb≠w.heap.size+1:=by omega
 have hne2:sb≠w.heap.size+1:=by omega
 have hf1:fb < w.heap.size+1:=by omega
 have hf2:fb < w.heap.size+1+1:=by omega
 have hs1:sb < w.heap.size+1:=by omega
 have hs2':sb < w.heap.size+1+1:=by omega
 clear h hj hx hfv hrow hcell hofb;go_enter Tryz.func217,Tryz.ntmps217;go_wp2_with fail;go_region_with (first | (go_at_call 122;refine (HREF.out _ ?_).mono ?_;exact P0;rintro e w2 ⟨rfl,hb2⟩;obtain ⟨hcc,hff⟩:=W9 hb2;have hs2:=hb2.size;have hz2:w.heap.size < w2.heap.size:=(by simp at hs2;omega);have hz2b:fb < w2.heap.size:=Q8;have hz2c:sb < w2.heap.size:=Q8;have hz2d:mb < w2.heap.size:=Q8;(try (have hz2e:w.heap.size+1 < w2.heap.size:=(by simp at hs2;omega)));have HB2:Hid (Below w.heap.size w w2):=A1 hb2 P0;clear hb2))
 all_goals
  go_wp2_with (first | (go_at_call 221;refine (sJ _ _ _ _ _ hi hfn _).mono ?_;rintro e w3 ⟨rfl,hb3⟩;obtain ⟨hcc3,hff3⟩:=W9 hb3;have hs3:=hb3.size;have hq3:w2.heap.size≤w3.heap.size:=(by simp at hs3;omega);(try (have hz3a:w2.heap.size < w3.heap.size:=(by simp at hs3;omega)));have hz3:w.heap.size < w3.heap.size:=Q8;have hz3b:fb < w3.heap.size:=Q8;have hz3c:sb < w3.heap.size:=Q8;have hz3d:mb < w3.heap.size:=Q8;(try (have hz3e:w.heap.size+1 < w3.heap.size:=Q8));have HB3:Hid (Below w.heap.size w w3):=A1 hb3 (by have hq:=HB2.out.size;repeat (first | exact HB2.out | refine Below.drew ?_ | refine Below.setCell ?_ P6 _ | refine Below.alloc ?_ P6 _));clear hb3))
  have g0:=(HB3.out.frozen (p:=⟨fb,i*2,none⟩) hfb).trans z0;have g1:=(HB3.out.frozen (p:=⟨fb,i*2+1,none⟩) hfb).trans z1;clear hff hff3;go_region
  all_goals
   obtain⟨hA,hT⟩:=a3o (y:=(y1,y2)) HH.out (Below.drew HB3.out) HJ.out HX.out HFV.out HOFB.out;have HA:=hid hA;have HT:=hid hT;clear hA hT hcc hcc3 g0 g1;go_wp2_with (go_at_call 205;refine (HA.out.answer (Below.refl _ _) vc _ [] (aE _ _) Q9 2 rfl).mono ?_;rintro e w' ⟨own',sv',rfl,hm,ht⟩)
   go_ret;exact⟨own',_,rfl,hm,⟨sv',by rw [List.append_nil]⟩,HT.out.trans ht⟩
theorem a5Y {own:Own} {mb:Nat} {g:PgR} {R:McR} {fs:List FrR} {f:FrR} {rest:List Val} {va:Option Addr} {sb:Nat} {w:World} {j i:Nat} {o:ObR} {y:Val} (h:C9 w own mb g R fs f rest [(2,(j:Int)),y] va sb) (hj:R.obs[j]?=some o) (hk:o.kind=1) (hi:i < o.fl.length) (hfn:o.fl.length≤1000) (vc:Nat) :
  Calls Tryz.prog 197 #[.pointer (some ⟨mb,0,none⟩),.int .i64 (i:Int),.slice va 2 vc] w fun e w'=>aP own mb g (pV R fs f rest j i o y) 0 w e w':=by
 have HA:Hid (∀W,Below w.heap.size w W→Calls Tryz.prog 217 #[.pointer (some ⟨mb,0,none⟩),.slice va 2 vc,.int .u8 1,.agg #[.int .u8 1,.int .i64 (i:Int)]] W fun e w'=>aP own mb g (pV R fs f rest j i o y) 0 W e w'):=by
  intro W hW;have:=xM (h.later hW) hj hi hfn vc;rw[hk] at this;exact this
 clear h hj hi hk hfn;go_enter Tryz.func197,Tryz.ntmps197;go_wp2_with (first | (go_at_call 152;refine (N4 _ _).mono ?_;rintro e w' ⟨rfl,o,rfl⟩) | (go_at_call 217;refine (HA.out _ ?_).mono ?_;exact P0;rintro e w' ⟨own',R',rfl,hm,hp,ht⟩;have HT:Hid (A8 own w own' w'):=(A8.of_below P0).trans ht))
 go_ret;exact⟨own',R',rfl,hm,hp,HT.out⟩
theorem rC {own:Own} {mb:Nat} {g:PgR} {R:McR} {w:World} (h:A3 w own mb g R) (hpos:0 < R.obs.length) (hn:R.obs.length≤1000) :
  Calls Tryz.prog 220 #[.pointer (some ⟨mb,4,none⟩)] w fun e w'=>e=.returned (.bool (taken R.obs == R.obs.length))∧Below w.heap.size w w':=by
 have hmb:mb < w.heap.size:=h.lt mb _ h.me;obtain⟨hb,hc,e,_,hlt⟩:=h.slots.1.form hpos;have c4:=h.c4;rw[e] at c4;have htl:=mD R.obs;have HTK:Hid (∀W,Below w.heap.size w W→Calls Tryz.prog 36 #[.pointer (some ⟨mb,4,none⟩)] W fun e w'=>e=.returned (.int .i64 (taken R.obs:Int))∧Below W.heap.size W w'):=fun W hW=>jH (h.same hW.size fun k hk=>hW.block k hk) hpos hn
 clear h e;go_enter Tryz.func220,Tryz.ntmps220;go_wp2_with fail;go_region_with (first | (go_at_call 36;refine (HTK.out _ ?_).mono ?_;exact P0;rintro e w2 ⟨rfl,hb2⟩;have HB2:Hid (Below w.heap.size w w2):=A1 hb2 P0;clear hb2;have r4:=(HB2.out.cell (p:=⟨mb,4,none⟩) hmb).trans c4))
 all_goals
  go_wp2_with fail;go_ret;refine⟨congrArg (fun b=>Ending.returned (Value.bool b)) ?_,HB2.out⟩;rw[Bool.eq_iff_iff];simp only [beq_iff_eq];omega
theorem O9 (k:Int) (fa:Option Addr) (n fc:Nat) (w:World):Calls Tryz.prog 121 #[.agg #[.int .u8 k,.slice fa n fc]] w fun e w'=>e=.returned (.bool (k == 0))∧∃o,w'=w.alloc o:=by
 go_enter Tryz.func121,Tryz.ntmps121;go_wp2
 go_ret;exact⟨rfl,_,rfl⟩
def O3 (l:List ObR) (j:Nat):Prop:=(∃o,l[j]?=some o∧o.kind=0)∧∀i o,i < j→l[i]?=some o→o.kind≠0
theorem jP {own:Own} {mb:Nat} {g:PgR} {R:McR} {w:World} (h:A3 w own mb g R) (j:Nat) (hj:O3 R.obs j) (hn:R.obs.length≤1000) (hb hc:Nat) (he:R.hv=.slice (some ⟨hb,0,none⟩) R.obs.length hc) :
  Calls Tryz.prog 144 #[.slice (some ⟨hb,0,none⟩) R.obs.length hc,.func (.func 121) #[] #[]] w fun e w'=>e=.returned (.int .i64 (j:Int))∧Below w.heap.size w w':=by
 have hjl:j < R.obs.length:=by obtain ⟨⟨o,ho,_⟩,_⟩:=hj;exact (List.getElem?_eq_some_iff.1 ho).1
 have hrow:=h.slots.1;rw[he] at hrow;have hlt:=(M6 hrow).2;have HROW:=hid hrow;have HH:=hid h;have HJ:=hid hj;clear h he hrow hj;go_enter Tryz.func144,Tryz.ntmps144;go_wp2_with fail;go_loopw [8] (fun v wr=>∃i:Nat,i≤j∧v=.int .i64 i∧Below w.heap.size w wr) (fun v _=>R.obs.length - (intOf v).toNat)
 case atStart=>exact ⟨0,Nat.zero_le _,rfl,Below.refl _ _⟩
 case round =>
  obtain⟨i,hi,rfl,hbel⟩:=hrel;have hil:i < R.obs.length:=by omega
  obtain⟨o,ho⟩:∃o,R.obs[i]?=some o:=⟨_,List.getElem?_eq_getElem hil⟩
  have hcell:∀t,t < 2→wr.cell? ⟨hb,i*2+t,none⟩=o.cells[t]?:=fun t ht=>by
   rw[hbel.cell (p:=⟨hb,_,none⟩) hlt,HROW.out.cellAt _ Q8];exact C3 ObR.cells_len ho ht
  obtain⟨fa,fc,hfv⟩:=C6 (HH.out.fld i o ho);have k0:wr.cell? ⟨hb,i*2,none⟩=some (.int .u8 o.kind):=hcell 0 Q8;have k1:wr.cell? ⟨hb,i*2+1,none⟩=some o.fv:=hcell 1 Q8;rw[hfv] at k1;have hlw:hb < wr.heap.size:=Nat.lt_of_lt_of_le hlt hbel.size;have HBEL:=hid hbel;by_cases hij:i=j
  ·have hk:(o.kind == 0)=true:=by
    obtain⟨⟨o',ho',hk'⟩,_⟩:=HJ.out;rw[hij,ho'] at ho;obtain rfl:=Option.some.inj ho;exact beq_iff_eq.2 hk'
   have HIJ:=hid hij;clear hcell hfv hbel ho hij;go_wp2_with (go_at_call 121;refine (O9 _ _ _ _ _).mono ?_;rintro e w' ⟨rfl,o4,rfl⟩)
   go_ret;exact⟨by rw [HIJ.out];rfl,Below.alloc HBEL.out HBEL.out.size _⟩
  ·have hk:(o.kind == 0)=false:=beq_eq_false_iff_ne.2 (HJ.out.2 i o Q8 ho)
   clear hcell hfv hbel ho;go_wp2_with (go_at_call 121;refine (O9 _ _ _ _ _).mono ?_;rintro e w' ⟨rfl,o4,rfl⟩)
   go_roundw
   case rel=>exact ⟨i+1,by omega,by go_num,Below.alloc HBEL.out HBEL.out.size _⟩
   case measure=>simp [intOf];omega
theorem a5n (d:Int) {n:Nat} (hn:0 < n):(d.tmod (n:Int)+(n:Int)).tmod (n:Int)=d % (n:Int):=by
 have hn':(0:Int) < (n:Int):=by omega
 have h1:0≤d.tmod (n:Int)+(n:Int):=by have:=Int.lt_tmod_of_pos d hn';omega
 rw[Int.tmod_eq_emod_of_nonneg h1,Int.add_emod_right];have h2:=Int.mul_tdiv_add_tmod d (n:Int);have h3:d.tmod (n:Int)=d - (n:Int)*d.tdiv (n:Int):=by omega
 rw[h3,Int.sub_mul_emod_self_left]
theorem a2G (d:Int) {n:Nat} (hn:0 < n):(d.tmod (n:Int)+(n:Int)) % (n:Int)=d % (n:Int):=by
 have h1:0≤d.tmod (n:Int)+(n:Int):=by have:=Int.lt_tmod_of_pos d (show (0:Int) < (n:Int) by omega);omega
 rw[← Int.tmod_eq_emod_of_nonneg h1];exact a5n d hn
def a2w {α:Type} : List α→Nat→List α→List α
 | xs,_,[]=>xs
 | xs,o,v::vs=>a2w (xs.set o v) (o+1) vs
theorem xN {α:Type} : ∀(vs pre ys:List α),vs.length≤ys.length→a2w (pre++ys) pre.length vs=pre++vs++ys.drop vs.length
 | [],pre,ys,_=>by simp [a2w]
 | v::vs,pre,[],h=>by simp at h
 | v::vs,pre,y::ys,h=>by
  have e:(pre++y::ys).set pre.length v=(pre++[v])++ys:=by simp
  have:=xN vs (pre++[v]) ys (by simpa using h);rw[a2w,e,show pre.length+1=(pre++[v]).length by simp,this];simp
theorem eK {e n b cap:Nat} : ∀(vs xs:List Value) (o:Nat) (w:World),w.ownsRow 0 e 1 (.slice (some ⟨b,0,none⟩) n cap) n xs→(w.setCells b o vs).ownsRow 0 e 1 (.slice (some ⟨b,0,none⟩) n cap) n (a2w xs o vs)
 | [],_,_,_,h=>h
 | v::vs,_,o,_,h=>eK vs _ (o+1) _ (World.ownsRow.stored h o v).1
theorem dJ (b:Nat):∀(vs:List Value) (o:Nat) (w:World),(w.setCells b o vs).heap.size=w.heap.size
 | [],_,_=>rfl
 | v::vs,o,w=>by
  show ((w.setCell ⟨b,o,none⟩ v).setCells b (o+1) vs).heap.size=_;rw[dJ b vs];simp
theorem dB (b:Nat):∀(vs:List Value) (o:Nat) (w:World) (k:Nat),k≠b→(w.setCells b o vs).heap[k]?=w.heap[k]?
 | [],_,_,_,_=>rfl
 | v::vs,o,w,k,h=>by
  show ((w.setCell ⟨b,o,none⟩ v).setCells b (o+1) vs).heap[k]?=_;rw[dB b vs _ _ _ h,heap_setCell_other _ _ _ _ h]
theorem dI (b:Nat):∀(vs:List Value) (o:Nat) (w:World),(w.setCells b o vs).os=w.os∧(w.setCells b o vs).tape=w.tape∧(w.setCells b o vs).output=w.output
 | [],_,_=>⟨rfl,rfl,rfl⟩
 | v::vs,o,w=>by
  show ((w.setCell ⟨b,o,none⟩ v).setCells b (o+1) vs).os=_∧((w.setCell ⟨b,o,none⟩ v).setCells b (o+1) vs).tape=_∧((w.setCell ⟨b,o,none⟩ v).setCells b (o+1) vs).output=_;exact dI b vs (o+1) (w.setCell ⟨b,o,none⟩ v)
theorem a0A (d:Int) (n:Nat) (h1:1≤n) (h2:n≤1000) (w:World) :
  Calls Tryz.prog 142 #[.int .i64 d,.int .i64 (n:Int)] w fun e w'=>e=.returned (.int .i64 (d % (n:Int)))∧∃m,w'=w.drewN m:=by
 have hb1:=Int.lt_tmod_of_pos d (show (0:Int) < (n:Int) by omega);have hb2:=Int.tmod_lt_of_pos d (show (0:Int) < (n:Int) by omega);have hr:=a2G d h1;have hb3:=Int.emod_nonneg d (show (n:Int)≠0 by omega);have hb4:=Int.emod_lt_of_pos d (show (0:Int) < (n:Int) by omega);have HR:=hid hr;clear hr;go_enter Tryz.func142,Tryz.ntmps142;go_wp2
 all_goals go_ret
 all_goals exact ⟨congrArg (fun x=>Ending.returned (Value.int .i64 x)) HR.out,0,rfl⟩
def dO (b cap:Nat) (xs:List Value) (w:World) (e:Ending) (w':World):Prop :=
 e=.returned (.slice (some ⟨b,0,none⟩) xs.length cap)∧w'.ownsRow 0 3 1 (.slice (some ⟨b,0,none⟩) xs.length cap) xs.length xs∧w'.heap.size=w.heap.size∧(∀k,k≠b→w'.heap[k]?=w.heap[k]?)∧w'.os=w.os∧w'.tape=w.tape∧w'.output=w.output
theorem a9E:Tryz.t3.zero=some (.int .i64 0):=by kernel_rfl
theorem a9c:∀w:World,(zeroValue 3).run Tryz.prog w=.ok (.int .i64 0) w:=fun w=>by simp [zeroValue,a9E]
theorem qM (b cap:Nat) (x:Value) (xs:List Value) (w:World) (h:w.ownsRow 0 3 1 (.slice (some ⟨b,0,none⟩) (xs.length+1) cap) (xs.length+1) (x::xs)) (h1:∀u∈xs,u.oneCell'=true) (hn:xs.length≤1000) :
  Calls Tryz.prog 143 #[.slice (some ⟨b,0,none⟩) (xs.length+1) cap,.int .i64 0,.int .i64 1] w fun e w'=>dO b cap xs w e w':=by
 obtain⟨i3,hi,hz,hsz,hby⟩:=info_parts lK;obtain⟨hcap,hlt⟩:=M6 h;have hmax:cap≤maxLen:=by
  rcases h.2 with ⟨h0,_⟩ | ⟨g',cap',cur,hv,_,_,_,h4,_⟩
  ·cases h0
  ·cases hv;exact h4
 have hmax':cap≤9223372036854775807:=by unfold maxLen at hmax;exact hmax
 have hcell:∀j u,(x::xs)[j]?=some u→w.cell? ⟨b,j,none⟩=some u:=fun j u hu=>by
  have hj:=(List.getElem?_eq_some_iff.1 hu).1;rw[h.cellAt j (by simpa using hj)];exact hu
 obtain⟨A,hA,hsrc⟩:∃A:Addr,(if cap=1 then some (⟨b,0,none⟩:Addr) else some ⟨b,1,none⟩)=some A∧Hid (∀t u,xs[t]?=some u→w.drew.cell? (A.add t)=some u):=by
  by_cases hc:cap=1
  ·refine ⟨⟨b,0,none⟩,by simp [hc],fun t u hu=>?_⟩
   have h0:xs.length=0:=by omega
   rw[List.length_eq_zero_iff.1 h0] at hu;simp at hu
  ·refine ⟨⟨b,1,none⟩,by simp [hc],fun t u hu=>?_⟩
   have e:(⟨b,1,none⟩:Addr).add t=⟨b,1+t,none⟩:=by unfold Addr.add;split <;> simp_all
   rw[e];exact hcell (1+t) u (by rw [Nat.add_comm];simpa using hu)
 have s1:Hid (xs.length=xs.length*1):=(Nat.mul_one _).symm;have s2:Hid (∀u∈xs,u.oneCell'=true):=h1;have s3:Hid (∀t,t < xs.length→(w.drew.cell? ⟨b,0+0*1+t,none⟩).isSome=true∧w.drew.frozen? ⟨b,0+0*1+t,none⟩=false):=fun t ht=>by
  rw[show 0+0*1+t=t by omega];refine⟨?_,h.frozenAt t⟩;show (w.cell? _).isSome=true;rw[hcell t _ (List.getElem?_eq_getElem Q5)];rfl
 have o1:(w.drew.setCells b (0+0*1) xs).ownsRow 0 3 1 (.slice (some ⟨b,0,none⟩) (xs.length+1) cap) (xs.length+1) (a2w (x::xs) (0+0*1) xs):=eK xs _ _ _ h.drew;obtain⟨y,hy⟩:∃y,a2w (x::xs) (0+0*1) xs=xs++[y]:=by
  have e:=xN xs [] (x::xs) Q9;rw[show 0+0*1=([]:List Value).length from rfl];rw[List.nil_append] at e;rw[e];obtain⟨y,hy⟩:∃y,(x::xs).drop xs.length=[y]:=List.length_eq_one_iff.1 Q9
  exact⟨y,by rw [hy];simp⟩
 rw[hy] at o1;have hs1:=dJ b xs (0+0*1) w.drew;have hk1:=dB b xs (0+0*1) w.drew;have hr1:=dI b xs (0+0*1) w.drew;obtain⟨W1,hW1⟩:∃W1,W1=w.drew.setCells b (0+0*1) xs:=⟨_,rfl⟩
 rw[← hW1] at o1 hs1 hk1 hr1;have hcl:∀ty,(Builtin.clear_ #[22] ty #[.slice (some ⟨b,xs.length,none⟩) 1 (cap - xs.length)]).run Tryz.prog W1=.ok (.tuple #[]) (W1.setCells b xs.length [.int .i64 0]) :=
  fun ty=>Lib.run_clear_slice W1 22 3 ty _ Tryz.underlying22 a9c rfl rfl b xs.length _ _ Q8 (fun t ht=>by
   obtain rfl:t=0:=by omega
   rw[o1.cellAt _ Q8];simp) (fun t ht=>o1.frozenAt _)
 have hW:Hid (W1=w.drew.setCells b (0+0*1) xs):=hW1;have hPOST:Hid (dO b cap xs w (.returned (.slice (some ⟨b,0,none⟩) xs.length cap)) (W1.setCells b xs.length [.int .i64 0])):=by
  have o2:=eK [.int .i64 0] _ xs.length _ o1;rw[xN [Value.int .i64 0] xs [y] Q9] at o2;have o3:=a0m o2 (m:=xs.length) Q8;refine⟨rfl,?_,?_,fun k hk=>?_,?_⟩
  ·simpa using o3
  ·rw [dJ,hs1];rfl
  ·rw [dB b _ _ _ _ hk];exact hk1 k hk
  ·obtain ⟨r1,r2,r3⟩:=dI b [Value.int .i64 0] xs.length W1
   exact⟨r1.trans hr1.1,r2.trans hr1.2.1,r3.trans hr1.2.2⟩
 have h11:(1:Int)≤(xs.length:Int)+1:=by omega
 clear hW1 hs1 hk1 hr1 o1 h hcell h1 hmax;go_enter Tryz.func143,Tryz.ntmps143;go_wp2_with fail;go_region_law (refine step_append_room rfl (.tmp 22) (.tmp 25) 22 rfl 3 i3 1 Tryz.underlying22 hi hsz b 0 0 cap (by simp [Act.eval,Act.put]) A xs.length (cap - 1) xs (by simp [Act.eval,Act.put]) s1.out hsrc.out s2.out Q8 s3.out ?_;rw [← hW.out])
 all_goals go_wp2
 all_goals go_ret
 all_goals exact hPOST.out
def eN (l:List ObR) (dr:List Int) (j:Nat) (ds:List Int):Prop :=
 match dr with
 | []=>ds=[]∧O3 l j
 | d::r=>ds=r∧∃o,l[(d % (l.length:Int)).toNat]?=some o∧((o.kind=0∧j=(d % (l.length:Int)).toNat)∨(o.kind≠0∧O3 l j))
theorem eN.free {l:List ObR} {dr ds:List Int} {j:Nat} (h:eN l dr j ds):∃o,l[j]?=some o∧o.kind=0:=by
 cases dr with
 | nil=>exact h.2.1
 | cons d r =>
  obtain⟨_,o,ho,⟨hk,rfl⟩ | ⟨_,hf⟩⟩:=h
  ·exact ⟨o,ho,hk⟩
  ·exact hf.1
theorem tW {l:List ObR} {j:Nat} {o:ObR} (ho:l[j]?=some o) (hk:o.kind=0):taken l≠l.length:=by
 intro e;have:=(List.filter_sublist (p:=fun o:ObR=>o.kind != 0) (l:=l)).eq_of_length e;have hm:o∈l.filter fun o=>o.kind != 0:=by rw [this];exact List.mem_of_getElem? ho
 simp[hk] at hm
theorem A3.setDraws {w w':World} {own:Own} {mb:Nat} {g:PgR} {R:McR} {v:Value} {l:List Int} (h:A3 w own mb g R) (hsize:w.heap.size≤w'.heap.size)
  (hk:∀k,k < w.heap.size→k≠mb→own k≠some .draws→w'.heap[k]?=w.heap[k]?)
  (hc:∀j,j≠5→w'.cell? ⟨mb,j,none⟩=w.cell? ⟨mb,j,none⟩) (hc5:w'.cell? ⟨mb,5,none⟩=some v) (hfz:∀j,w'.frozen? ⟨mb,j,none⟩=false)
  (hrow:w'.ownsRow 0 3 1 v l.length (l.map fun n=>.int .i64 n)) (hon:M2 w own v .draws) :
  A3 w' (own.upd v.ownBlock .draws) mb g { R with dv:=v,dr:=l }:=by
 have hlt:=h.lt;have keep:∀t,t≠.mach→t≠.draws→∀k,own k=some t→w'.heap[k]?=w.heap[k]?:=fun t h1 h2 k hk' =>
  hk k (hlt k t hk') (fun e=>by rw [e,h.me] at hk';exact h1 (Option.some.inj hk').symm) (by rw [hk'];exact fun e=>h2 (Option.some.inj e))
 have hro:∀k,k < w.heap.size→own k=none→w'.heap[k]?=w.heap[k]?:=fun k hk1 hk2=>hk k hk1 (fun e=>by rw [e,h.me] at hk2;cases hk2) (by rw [hk2];simp)
 refine⟨Own.upd_lt hlt hsize hrow,?_,?_,?_,?_,?_,?_,hfz,h.out.upd hlt hon (keep _ Q9 Q9),h.called.upd hlt hon (keep _ Q9 Q9),h.slots.upd hlt hon (keep _ Q9 Q9),
  fun i x hx=>(h.loc i x hx).upd hlt hon (keep _ Q9 Q9),fun i x hx=>(h.stk i x hx).upd hlt hon (keep _ Q9 Q9),fun j o ho=>(h.fld j o ho).upd hlt hon (keep _ Q9 Q9),?_,?_,?_,?_,hc5,⟨hrow,fun b hb=>by simp [Own.upd,hb]⟩⟩
 ·rw [Own.upd_old hon (hlt mb _ h.me)];exact h.me
 ·rw [hc 0 Q8];exact h.c0
 ·rw [hc 1 Q8];exact h.c1
 ·rw [hc 2 Q8];exact h.c2
 ·rw [hc 3 Q8];exact h.c3
 ·rw [hc 4 Q8];exact h.c4
 ·exact h.pg.held hsize fun k hb=>hro k (h.pg.blk_lt hb) (h.ro k hb)
 ·intro k hb;rw [Own.upd_old hon (h.pg.blk_lt hb)];exact h.ro k hb
 ·exact h.tab.held hsize (hro 0 h.tab.1 h.ro0)
 ·rw [Own.upd_old hon h.tab.1];exact h.ro0
def jW (own:Own) (mb:Nat) (g:PgR) (R:McR) (j:Nat) (ds:List Int) (w:World) (e:Ending) (w':World):Prop :=
 ∃dv,e=.returned (.int .i64 (j:Int))∧A3 w' own mb g { R with dv:=dv,dr:=ds }∧A8 own w own w'∧∀k,k < w.heap.size→k≠mb→own k≠some .draws→w'.heap[k]?=w.heap[k]?
theorem yQ {own:Own} {mb:Nat} {g:PgR} {R:McR} {w:World} (h:A3 w own mb g R) (hd:R.dr=[]) (j:Nat) (hj:O3 R.obs j) (hn:R.obs.length≤1000) :
  Calls Tryz.prog 120 #[.pointer (some ⟨mb,4,none⟩)] w fun e w'=>e=.returned (.int .i64 (j:Int))∧Below w.heap.size w w':=by
 obtain⟨o,ho,_⟩:=id hj.1;obtain⟨hb,hc,fa,fc,he,hohb,hlt,_,_,_⟩:=h.slot ho;have c4:=h.c4;rw[he] at c4;obtain⟨da,dc,hdv⟩:=C6 h.draws;have c5:=h.c5;rw[hdv,hd,List.length_nil] at c5;have hmb:mb < w.heap.size:=h.lt mb _ h.me;have HIX:Hid (∀U,Below w.heap.size w U→Calls Tryz.prog 144 #[.slice (some ⟨hb,0,none⟩) R.obs.length hc,.func (.func 121) #[] #[]] U fun e w'=>e=.returned (.int .i64 (j:Int))∧Below U.heap.size U w'):=fun U hU=>jP (h.same hU.size fun k hk=>hU.block k hk) j hj hn hb hc he
 clear h hj ho he hohb hdv hd;go_enter Tryz.func120,Tryz.ntmps120;go_wp2_with (go_at_call 144;refine (HIX.out _ ?_).mono ?_;exact P0;rintro e w2 ⟨rfl,hb2⟩;have HB2:Hid (Below w.heap.size w w2):=A1 hb2 P0;clear hb2)
 go_ret;exact⟨rfl,HB2.out⟩
theorem a6a {own:Own} {mb:Nat} {g:PgR} {R:McR} {w U w2:World} (h:A3 w own mb g R) (hU:Below w.heap.size w U) {r:List Int} {db dc:Nat} (hdv:R.dv=.slice (some ⟨db,0,none⟩) (r.length+1) dc) {e:Ending} (hp:dO db dc (r.map fun n=>.int .i64 n) U e w2) :
  (∀k,k < w.heap.size→own k≠some .draws→w2.heap[k]?=w.heap[k]?)∧w.heap.size≤w2.heap.size∧(w2.frozen? ⟨mb,5,none⟩=false∧w2.cell? ⟨mb,5,none⟩=some R.dv) ∧
   A3 (w2.setCell ⟨mb,5,none⟩ (.slice (some ⟨db,0,none⟩) r.length dc)) own mb g { R with dv:=.slice (some ⟨db,0,none⟩) r.length dc,dr:=r } ∧
   A8 own w own (w2.setCell ⟨mb,5,none⟩ (.slice (some ⟨db,0,none⟩) r.length dc)) ∧
   ∀k,k < w.heap.size→k≠mb→own k≠some .draws→(w2.setCell ⟨mb,5,none⟩ (.slice (some ⟨db,0,none⟩) r.length dc)).heap[k]?=w.heap[k]?:=by
 obtain⟨_,hrow,hsz,hblk,hos,htape,hout⟩:=hp;have hodb:own db=some .draws:=h.draws.2 db (by rw [hdv];rfl);have hne:db≠mb:=fun e=>by rw [e,h.me] at hodb;cases hodb
 have hkeep:∀k,k < w.heap.size→own k≠some .draws→w2.heap[k]?=w.heap[k]?:=fun k hk hn =>
  (hblk k (fun e=>hn (by rw [e];exact hodb))).trans (hU.block k hk)
 have hmb:=h.lt mb _ h.me;have hmbk:=hkeep mb hmb (by rw [h.me];simp);have hs2:w.heap.size≤w2.heap.size:=by have:=hU.size;omega
 have hfz:∀j,w2.frozen? ⟨mb,j,none⟩=false:=fun j=>by rw [World.frozen?_of_block (w:=w) (a:=⟨mb,j,none⟩) hmbk];exact h.fz j
 have hc5:w2.cell? ⟨mb,5,none⟩=some R.dv:=by rw [World.cell?_of_block (w:=w) (a:=⟨mb,5,none⟩) hmbk];exact h.c5
 have hmb2:mb < w2.heap.size:=by omega
 have hcells:∀j,j≠5→(w2.setCell ⟨mb,5,none⟩ (.slice (some ⟨db,0,none⟩) r.length dc)).cell? ⟨mb,j,none⟩=w.cell? ⟨mb,j,none⟩:=fun j hj=>by
  rw[← World.cell?_of_block (w:=w) (w':=w2) (a:=⟨mb,j,none⟩) hmbk];go_simp
 have hon:M2 w own (.slice (some ⟨db,0,none⟩) r.length dc) .draws:=fun b hb=>by
  obtain rfl:db=b:=by simpa [Value.ownBlock] using hb
  exact Or.inl hodb
 have hother:∀k,k < w.heap.size→k≠mb→own k≠some .draws→(w2.setCell ⟨mb,5,none⟩ (.slice (some ⟨db,0,none⟩) r.length dc)).heap[k]?=w.heap[k]?:=fun k hk h1 h2=>by
  rw[heap_setCell_other _ _ _ _ h1];exact hkeep k hk h2
 rw[List.length_map] at hrow;have hM:=A3.setDraws (v:=.slice (some ⟨db,0,none⟩) r.length dc) (l:=r) h (w':=w2.setCell ⟨mb,5,none⟩ (.slice (some ⟨db,0,none⟩) r.length dc)) (by simpa using hs2) hother hcells Q6 (fun j=>by have:=hfz j;go_simp) (ownsRow_setCell_other hrow (by simpa [Value.ownBlock] using hne) _) hon;rw[show (Value.slice (some ⟨db,0,none⟩) r.length dc).ownBlock=some db from rfl,Own.upd_same hodb] at hM
 refine⟨hkeep,hs2,⟨hfz 5,hc5⟩,hM,⟨hos.trans hU.os,htape.trans hU.tape,hout.trans hU.output,by simpa using hs2,fun k hk hno=>?_,fun _ _=>rfl⟩,hother⟩;exact hother k hk (fun e=>by rw [e,h.me] at hno;cases hno) (by rw [hno];simp)
theorem yR {own:Own} {mb:Nat} {g:PgR} {R:McR} {w:World} (h:A3 w own mb g R) {d:Int} {r:List Int} (hd:R.dr=d::r) (j:Nat) (hp:eN R.obs R.dr j r) (hn:R.obs.length≤1000) (hdn:R.dr.length≤1000) :
  Calls Tryz.prog 120 #[.pointer (some ⟨mb,4,none⟩)] w fun e w'=>jW own mb g R j r w e w':=by
 obtain⟨o,ho,hcase⟩:∃o,R.obs[(d % (R.obs.length:Int)).toNat]?=some o∧((o.kind=0∧j=(d % (R.obs.length:Int)).toNat)∨(o.kind≠0∧O3 R.obs j)):=by
  rw[hd] at hp;exact hp.2
 have hol:=(List.getElem?_eq_some_iff.1 ho).1;have hpos:0 < R.obs.length:=by omega
 obtain⟨k,hk⟩:=Int.eq_ofNat_of_zero_le (Int.emod_nonneg d (show (R.obs.length:Int)≠0 by omega));rw[hk,Int.toNat_natCast] at ho hcase hol;obtain⟨hb,hc,fa,fc,he,hohb,hlt,_,k0,k1⟩:=h.slot ho;have c4:=h.c4;rw[he] at c4;have hdl:R.dr.length=r.length+1:=by rw [hd];rfl
 obtain⟨db,dc,hdv,_,hdlt⟩:=h.draws.1.form Q8;rw[hdl] at hdv;have hodb:own db=some .draws:=h.draws.2 db (by rw [hdv];rfl);have hdrow:=h.draws.1;rw[hdv,hd,List.length_cons,List.map_cons] at hdrow;have c5:=h.c5;rw[hdv] at c5;have hmb:mb < w.heap.size:=h.lt mb _ h.me;have d0:w.cell? ⟨db,0,none⟩=some (.int .i64 d):=by rw [hdrow.cellAt 0 Q8];rfl
 have HREST:Hid (∀U:World,Calls Tryz.prog 142 #[.int .i64 d,.int .i64 (R.obs.length:Int)] U fun e w'=>e=.returned (.int .i64 (k:Int))∧∃m,w'=U.drewN m):=fun U=>by
  rw[← hk];exact a0A d R.obs.length Q8 hn U
 have HDEL:Hid (∀U:World,Below w.heap.size w U→Calls Tryz.prog 143 #[.slice (some ⟨db,0,none⟩) (r.length+1) dc,.int .i64 0,.int .i64 1] U fun e w'=>dO db dc (r.map fun n=>.int .i64 n) U e w'):=by
  intro U hU;have hrU:U.ownsRow 0 3 1 (.slice (some ⟨db,0,none⟩) (r.length+1) dc) (r.length+1) (.int .i64 d::r.map fun n=>.int .i64 n):=A2 hdrow fun b hb'=>by
   obtain rfl:db=b:=by simpa [Value.ownBlock] using hb'
   exact hU.block _ hdlt
  have:=qM db dc (.int .i64 d) (r.map fun n=>.int .i64 n) U (by simpa using hrU) (by
   intro u hu;obtain⟨n,_,rfl⟩:=List.mem_map.1 hu;rfl) Q5
  simpa using this
 have HEND:Hid (∀U w2 e,Below w.heap.size w U→dO db dc (r.map fun n=>.int .i64 n) U e w2→_):=fun U w2 e hU hp=>a6a h hU hdv hp
 have HIX:Hid (o.kind≠0→∀V U,A3 V own mb g { R with dv:=.slice (some ⟨db,0,none⟩) r.length dc,dr:=r }→Below V.heap.size V U→Calls Tryz.prog 144 #[.slice (some ⟨hb,0,none⟩) R.obs.length hc,.func (.func 121) #[] #[]] U fun e w'=>e=.returned (.int .i64 (j:Int))∧Below U.heap.size U w'):=fun hne V U hV hU=>by
  rcases hcase with ⟨h0,_⟩ | ⟨_,hf⟩
  ·exact absurd h0 hne
  ·exact jP (R:={ R with dv:=.slice (some ⟨db,0,none⟩) r.length dc,dr:=r }) (hV.same hU.size fun k hk=>hU.block k hk) j hf hn hb hc he
 have HJ:Hid ((o.kind == 0)=true→j=k):=fun h0=>by
  rcases hcase with ⟨_,hj⟩ | ⟨hne,_⟩
  ·exact hj
  ·exact absurd (beq_iff_eq.1 h0) hne
 have hohb':own hb≠some .draws:=by rw [hohb];simp
 have homb':own mb≠some .draws:=by rw [h.me];simp
 have hhm:hb≠mb:=fun e=>by rw [e,h.me] at hohb;cases hohb
 have HDV:=hid hdv;clear h hp hd hcase he hdrow hdv hodb ho hk;go_enter Tryz.func120,Tryz.ntmps120;go_wp2_with fail;go_region_with (first | (go_at_call 142;refine (HREST.out _).mono ?_;rintro e w1 ⟨rfl,m1,rfl⟩))
 all_goals
  go_wp2_with (go_at_call 143;refine (HDEL.out _ ?_).mono ?_;exact P0;intro e w2 hdel;obtain ⟨hk2,hs2,⟨z5,q5⟩,hM,hT,hO⟩:=HEND.out _ w2 _ P0 hdel;have he:=hdel.1;rw [List.length_map] at he;subst he;rw [HDV.out] at q5;have hmb2:mb < w2.heap.size:=Nat.lt_of_lt_of_le hmb hs2;have hhb2:hb < w2.heap.size:=Nat.lt_of_lt_of_le hlt hs2;have m4:=(World.cell?_of_block (w:=w) (a:=⟨mb,4,none⟩) (hk2 mb hmb homb')).trans c4;have n0:=(World.cell?_of_block (w:=w) (a:=⟨hb,k*2,none⟩) (hk2 hb hlt hohb')).trans k0;have n1:=(World.cell?_of_block (w:=w) (a:=⟨hb,k*2+1,none⟩) (hk2 hb hlt hohb')).trans k1;have HM:=hid hM;have HT:=hid hT;have HO:=hid hO;clear hdel hk2 hs2 hM hT hO c4 c5 k0 k1 d0 HEND HDEL HREST)
  cases hkk:(o.kind == 0)
  ·go_wp2_with (first | (go_at_call 121;refine (O9 _ _ _ _ _).mono ?_;rintro e w' ⟨rfl,o4,rfl⟩) | (go_at_call 144;refine (HIX.out (fun e=>by rw [e] at hkk;cases hkk) _ _ HM.out ?_).mono ?_;exact P0;rintro e w3 ⟨rfl,hb3⟩;have HB3:Hid (Below _ (w2.setCell ⟨mb,5,none⟩ (.slice (some ⟨db,0,none⟩) r.length dc)) w3):=A1 hb3 P0;clear hb3))
   go_ret;exact⟨_,rfl,HM.out.same HB3.out.size fun k hk=>HB3.out.block k hk,HT.out.trans (A8.of_below HB3.out),fun k hk h1 h2=>(HB3.out.block k (Nat.lt_of_lt_of_le hk HT.out.size)).trans (HO.out k hk h1 h2)⟩
  ·go_wp2_with (first | (go_at_call 121;refine (O9 _ _ _ _ _).mono ?_;rintro e w' ⟨rfl,o4,rfl⟩))
   go_ret;have hB3:Below (w2.setCell ⟨mb,5,none⟩ (.slice (some ⟨db,0,none⟩) r.length dc)).heap.size (w2.setCell ⟨mb,5,none⟩ (.slice (some ⟨db,0,none⟩) r.length dc)) ((w2.setCell ⟨mb,5,none⟩ (.slice (some ⟨db,0,none⟩) r.length dc)).alloc o4):=Below.alloc (Below.refl _ _) (Nat.le_refl _) _;exact⟨_,by rw [HJ.out hkk];rfl,HM.out.same hB3.size fun k hk=>hB3.block k hk,HT.out.trans (A8.of_below hB3),fun k hk h1 h2=>(hB3.block k (Nat.lt_of_lt_of_le hk HT.out.size)).trans (HO.out k hk h1 h2)⟩
theorem a1g {own:Own} {mb:Nat} {g:PgR} {R:McR} {w:World} (h:A3 w own mb g R) (j:Nat) (ds:List Int) (hp:eN R.obs R.dr j ds) (hn:R.obs.length≤1000) (hdn:R.dr.length≤1000) :
  Calls Tryz.prog 120 #[.pointer (some ⟨mb,4,none⟩)] w fun e w'=>jW own mb g R j ds w e w':=by
 cases hd:R.dr with
 | nil =>
  obtain⟨rfl,hf⟩:ds=[]∧O3 R.obs j:=by rw [hd] at hp;exact hp
  refine (yQ h hd j hf hn).mono ?_;rintro e w' ⟨rfl,hb⟩;refine⟨R.dv,rfl,?_,A8.of_below hb,fun k hk _ _=>hb.block k hk⟩;have:=h.same hb.size fun k hk=>hb.block k hk
  rw[← hd];exact this
 | cons d r =>
  obtain rfl:ds=r:=by rw [hd] at hp;exact hp.1
  exact yR h hd j hp hn hdn
theorem a3l {l:List ObR} {j:Nat} {o p:ObR} (h:l[j]?=some o):(l.set j p).flatMap ObR.cells=((l.flatMap ObR.cells).set (j*2) (.int .u8 p.kind)).set (j*2+1) p.fv:=by
 have h1:=L5 (c:=ObR.cells) ObR.cells_len (l:=l) (i:=j) (j:=0) (x:=o) (y:=⟨p.kind,o.fv,o.fl⟩) (u:=.int .u8 p.kind) h Q8 rfl;have hlt:=(List.getElem?_eq_some_iff.1 h).1;have h2:=L5 (c:=ObR.cells) ObR.cells_len (l:=l.set j ⟨p.kind,o.fv,o.fl⟩) (i:=j) (j:=1) (x:=⟨p.kind,o.fv,o.fl⟩) (y:=p) (u:=p.fv) (List.getElem?_set_self hlt) Q8 rfl;rw[List.set_set] at h2;rw[h2,h1,Nat.add_zero]
def jZ (own:Own) (g:PgR) (v:Value):Prop:=∀b,v.ownBlock=some b→own b=none∧(∀k,g.blk k→k≠b)∧b≠0
theorem jZ.upd {own:Own} {g:PgR} {v:Value} {t:Tag} (h:jZ own g v) {k:Nat} {s:Tag} (hk:own k=some s):own.upd v.ownBlock t k=own k:=by
 unfold Own.upd;split
 ·rename_i e;rw [(h k e).1] at hk;cases hk
 ·rfl
theorem A3.layOb {w W:World} {own:Own} {mb:Nat} {g:PgR} {R:McR} {j:Nat} {o p:ObR} {hb hc:Nat} (h:A3 w own mb g R) (hB:Below w.heap.size w W) (hj:R.obs[j]?=some o) (he:R.hv=.slice (some ⟨hb,0,none⟩) R.obs.length hc) (hnb:jZ own g p.fv) (hrow:W.ownsRow 0 73 2 p.fv p.fl.length (A5 p.fl)) :
  A3 ((W.setCell ⟨hb,j*2,none⟩ (.int .u8 p.kind)).setCell ⟨hb,j*2+1,none⟩ p.fv) (own.upd p.fv.ownBlock (.fld j)) mb g { R with obs:=R.obs.set j p } ∧
   ∀k,k < w.heap.size→own k≠some .slots→((W.setCell ⟨hb,j*2,none⟩ (.int .u8 p.kind)).setCell ⟨hb,j*2+1,none⟩ p.fv).heap[k]?=w.heap[k]?:=by
 have hlt:=h.lt;have hohb:own hb=some .slots:=h.slots.2 hb (by rw [he];rfl);have hhb:hb < w.heap.size:=hlt hb _ hohb;have hblk:∀k,k < w.heap.size→k≠hb→((W.setCell ⟨hb,j*2,none⟩ (.int .u8 p.kind)).setCell ⟨hb,j*2+1,none⟩ p.fv).heap[k]?=w.heap[k]?:=fun k hk hn=>by
  rw[heap_setCell_other _ _ _ _ hn,heap_setCell_other _ _ _ _ hn];exact hB.block k hk
 have keep:∀t,t≠.slots→∀k,own k=some t→((W.setCell ⟨hb,j*2,none⟩ (.int .u8 p.kind)).setCell ⟨hb,j*2+1,none⟩ p.fv).heap[k]?=w.heap[k]?∧own.upd p.fv.ownBlock (.fld j) k=some t:=fun t ht k hk=>⟨hblk k (hlt k t hk) (fun e=>by rw [e,hohb] at hk;exact ht (Option.some.inj hk).symm),(hnb.upd hk).trans hk⟩
 have hmb:=(keep .mach Q9 mb h.me).1;have hsz:w.heap.size≤((W.setCell ⟨hb,j*2,none⟩ (.int .u8 p.kind)).setCell ⟨hb,j*2+1,none⟩ p.fv).heap.size:=by have:=hB.size;simpa using this
 have hnhb:p.fv.ownBlock≠some hb:=fun e=>by have:=(hnb hb e).1;rw [hohb] at this;cases this
 have hrow':((W.setCell ⟨hb,j*2,none⟩ (.int .u8 p.kind)).setCell ⟨hb,j*2+1,none⟩ p.fv).ownsRow 0 73 2 p.fv p.fl.length (A5 p.fl):=ownsRow_setCell_other (ownsRow_setCell_other hrow hnhb _) hnhb _;have hslots:((W.setCell ⟨hb,j*2,none⟩ (.int .u8 p.kind)).setCell ⟨hb,j*2+1,none⟩ p.fv).ownsRow 0 75 2 R.hv R.obs.length ((R.obs.set j p).flatMap ObR.cells):=by
  have hs:=h.slots.1;rw[he] at hs ⊢;have hsW:W.ownsRow 0 75 2 (.slice (some ⟨hb,0,none⟩) R.obs.length hc) R.obs.length (R.obs.flatMap ObR.cells):=A2 hs fun b hb'=>by
   obtain rfl:hb=b:=by simpa [Value.ownBlock] using hb'
   exact hB.block _ hhb
  have:=(World.ownsRow.stored (World.ownsRow.stored hsW (j*2) (.int .u8 p.kind)).1 (j*2+1) p.fv).1;rwa [← a3l hj] at this
 have hro:∀k,k < w.heap.size→own k=none→((W.setCell ⟨hb,j*2,none⟩ (.int .u8 p.kind)).setCell ⟨hb,j*2+1,none⟩ p.fv).heap[k]?=w.heap[k]?:=fun k hk hn=>hblk k hk (fun e=>by rw [e,hohb] at hn;cases hn)
 have hjl:=(List.getElem?_eq_some_iff.1 hj).1;refine⟨⟨Own.upd_lt hlt hsz hrow',?_,?_,?_,?_,?_,?_,?_,h.out.kept (keep _ Q9),h.called.kept (keep _ Q9),⟨by simpa using hslots,fun b hb'=>?_⟩,fun i x hx=>(h.loc i x hx).kept (keep _ Q9),fun i x hx=>(h.stk i x hx).kept (keep _ Q9),fun i x hx=>?_,?_,?_,?_,?_,?_,h.draws.kept (keep _ Q9)⟩,fun k hk hn=>hblk k hk (fun e=>hn (by rw [e];exact hohb))⟩
 ·exact (hnb.upd h.me).trans h.me
 ·rw [World.cell?_of_block (w:=w) (a:=⟨mb,0,none⟩) hmb];exact h.c0
 ·rw [World.cell?_of_block (w:=w) (a:=⟨mb,1,none⟩) hmb];exact h.c1
 ·rw [World.cell?_of_block (w:=w) (a:=⟨mb,2,none⟩) hmb];exact h.c2
 ·rw [World.cell?_of_block (w:=w) (a:=⟨mb,3,none⟩) hmb];exact h.c3
 ·rw [World.cell?_of_block (w:=w) (a:=⟨mb,4,none⟩) hmb];exact h.c4
 ·intro i;rw [World.frozen?_of_block (w:=w) (a:=⟨mb,i,none⟩) hmb];exact h.fz i
 ·have:=h.slots.2 b hb'
  exact (hnb.upd this).trans this
 ·by_cases e:i=j
  ·subst e
   obtain rfl:p=x:=by
    have:(R.obs.set i p)[i]?=some x:=hx;rw[List.getElem?_set_self hjl] at this;exact Option.some.inj this
   exact⟨hrow',fun b hb'=>by simp [Own.upd,hb']⟩
  ·have:(R.obs.set j p)[i]?=some x:=hx
   rw[List.getElem?_set_ne (Ne.symm e)] at this;exact (h.fld i x this).kept (keep _ Q9)
 ·exact h.pg.held hsz fun k hb'=>hro k (h.pg.blk_lt hb') (h.ro k hb')
 ·intro k hb'
  unfold Own.upd;rw[if_neg (fun e=>(hnb k e).2.1 k hb' rfl)];exact h.ro k hb'
 ·exact h.tab.held hsz (hro 0 h.tab.1 h.ro0)
 ·unfold Own.upd
  rw[if_neg (fun e=>(hnb 0 e).2.2 rfl)];exact h.ro0
 ·rw [World.cell?_of_block (w:=w) (a:=⟨mb,5,none⟩) hmb];exact h.c5
structure oX (own:Own) (mb:Nat) (w w':World):Prop where
 os:w'.os=w.os
 tape:w'.tape=w.tape
 output:w'.output=w.output
 size:w.heap.size≤w'.heap.size
 block:∀k,k < w.heap.size→k≠mb→own k≠some .draws→own k≠some .slots→w'.heap[k]?=w.heap[k]?
def vL (own:Own) (mb:Nat) (g:PgR) (R:McR) (j:Nat) (ds:List Int) (p:ObR) (w:World) (e:Ending) (w':World):Prop :=
 ∃dv,e=.returned (.int .i64 (j:Int))∧A3 w' (own.upd p.fv.ownBlock (.fld j)) mb g { R with dv:=dv,dr:=ds,obs:=R.obs.set j p }∧oX own mb w w'
theorem a3g {own:Own} {mb:Nat} {g:PgR} {R:McR} {w:World} (h:A3 w own mb g R) (j:Nat) (ds:List Int) (hj:eN R.obs R.dr j ds) (hn:R.obs.length≤1000) (hdn:R.dr.length≤1000) (p:ObR) (nb nc:Nat) (hfv:p.fv=.slice (some ⟨nb,0,none⟩) p.fl.length nc) (hnb:jZ own g p.fv) (hrow:w.ownsRow 0 73 2 p.fv p.fl.length (A5 p.fl)) :
  Calls Tryz.prog 87 #[.pointer (some ⟨mb,4,none⟩),.agg #[.int .u8 p.kind,p.fv]] w fun e w'=>vL own mb g R j ds p w e w':=by
 obtain⟨o,ho,hok⟩:=hj.free;have hjl:=(List.getElem?_eq_some_iff.1 ho).1;obtain⟨hb,hc,_,_,he,hohb,hlt,_,_,_⟩:=h.slot ho;have hmb:mb < w.heap.size:=h.lt mb _ h.me;have HCH:Hid (∀U,Below w.heap.size w U→Calls Tryz.prog 120 #[.pointer (some ⟨mb,4,none⟩)] U fun e w'=>jW own mb g R j ds U e w'):=fun U hU=>a1g (h.same hU.size fun k hk=>hU.block k hk) j ds hj hn hdn
 have HAT:Hid (∀U w2 dv,Below w.heap.size w U→A3 w2 own mb g { R with dv:=dv,dr:=ds }→A8 own U own w2→(∀k,k < U.heap.size→k≠mb→own k≠some .draws→w2.heap[k]?=U.heap[k]?) →
   ((w2.cell? ⟨mb,4,none⟩=some (.slice (some ⟨hb,0,none⟩) R.obs.length hc)∧w2.frozen? ⟨hb,j*2,none⟩=false∧w2.frozen? ⟨hb,j*2+1,none⟩=false∧w2.cell? ⟨hb,j*2,none⟩=some (.int .u8 o.kind)∧(∃v,w2.cell? ⟨hb,j*2+1,none⟩=some v))∧mb < w2.heap.size∧hb < w2.heap.size) ∧
   ∀V,Below w2.heap.size w2 V→vL own mb g R j ds p w (.returned (.int .i64 (j:Int))) ((V.setCell ⟨hb,j*2,none⟩ (.int .u8 p.kind)).setCell ⟨hb,j*2+1,none⟩ p.fv)):=by
  intro U w2 dv hU hm2 ht2 hk2;have c4:=hm2.c4;obtain⟨hb',hc',fa,fc,he',_,hl2,_,k0,k1⟩:=hm2.slot (R:={ R with dv:=dv,dr:=ds }) (j:=j) (o:=o) ho;have he'':R.hv=.slice (some ⟨hb',0,none⟩) R.obs.length hc':=he';rw[he] at he''
  cases he'';have hs2:w2.ownsRow 0 75 2 R.hv R.obs.length (R.obs.flatMap ObR.cells):=hm2.slots.1;rw[he] at hs2;have c4':w2.cell? ⟨mb,4,none⟩=some R.hv:=c4;rw[he] at c4';refine⟨⟨⟨c4',hs2.frozenAt _,hs2.frozenAt _,k0,_,k1⟩,hm2.lt mb _ hm2.me,hl2⟩,fun V hV=>?_⟩;have hrow2:V.ownsRow 0 73 2 p.fv p.fl.length (A5 p.fl):=A2 hrow fun b hb'=>by
   have hbl:=(hrow.lt b hb').2;have h1:=(hnb b hb').1;rw[hV.block b (Nat.lt_of_lt_of_le (Nat.lt_of_lt_of_le hbl hU.size) ht2.size),hk2 b (Nat.lt_of_lt_of_le hbl hU.size) (fun e=>by rw [e,h.me] at h1;cases h1) (by rw [h1];simp),hU.block b hbl]
  obtain⟨hm3,hb3⟩:=hm2.layOb (R:={ R with dv:=dv,dr:=ds }) (p:=p) hV ho he hnb hrow2;refine⟨dv,rfl,hm3,⟨hV.os.trans (ht2.os.trans hU.os),hV.tape.trans (ht2.tape.trans hU.tape),hV.output.trans (ht2.output.trans hU.output),?_,fun k hk h1 h2 h3=>?_⟩⟩
  ·have:=hU.size;have:=ht2.size;have:=hV.size
   simp;omega
  ·rw [hb3 k (Nat.lt_of_lt_of_le (Nat.lt_of_lt_of_le hk hU.size) ht2.size) h3,hk2 k (Nat.lt_of_lt_of_le hk hU.size) h1 h2,hU.block k hk]
 have HFV:=hid hfv;rw[hfv] at HAT ⊢;have hN:own w.heap.size≠some .draws:=by rw [h.new (Nat.le_refl _)];simp
 have hNm:w.heap.size≠mb:=by omega
 clear h hj ho hok he hohb hrow hfv hnb;go_enter Tryz.func87,Tryz.ntmps87;go_wp2_with (go_at_call 120;refine (HCH.out _ ?_).mono ?_;exact P0;rintro e w2 ⟨dv,rfl,hm2,ht2,hk2⟩;obtain ⟨⟨⟨c4,z0,z1,k0,v1,k1⟩,hmb2,hhb2⟩,hfin⟩:=HAT.out _ w2 dv P0 hm2 ht2 hk2;have hbx:=hk2 w.heap.size Q9 hNm hN;have b0:=(World.cell?_of_block (a:=⟨w.heap.size,0,none⟩) hbx).trans (show _=some (Value.int .u8 p.kind) by go_simp);have b1:=(World.cell?_of_block (a:=⟨w.heap.size,1,none⟩) hbx).trans (show _=some (Value.slice (some ⟨nb,0,none⟩) p.fl.length nc) by go_simp);have hsz2:w.heap.size < w2.heap.size:=Nat.lt_of_lt_of_le Q9 ht2.size;have HF:=hid hfin;clear hfin hm2 ht2 hk2 hbx)
 go_region
 all_goals
  have HQ:=hid (HF.out w2.drew (Below.drew (Below.refl _ _)));clear HF HAT HCH;go_wp2_with fail;go_ret;exact HQ.out
theorem bW (n:Int) (w:World):Calls Tryz.prog 131 #[.int .i64 n] w fun e w'=>e=.returned (.agg #[.int .u8 2,.int .i64 n])∧∃o,w'=w.alloc o:=by
 go_enter Tryz.func131,Tryz.ntmps131;go_wp2
 exact bodyPost_ret (v:=.agg #[.int .u8 2,.int .i64 n]) (by simp [results,Tryz.results131,go_sem]) rfl ⟨rfl,_,rfl⟩
def a9u (R:McR) (fs:List FrR) (f:FrR) (rest:List Val) (j:Nat) (ds:List Int) (p:ObR) (R':McR):Prop:=∃sv' dv',R'={ R with dv:=dv',dr:=ds,obs:=R.obs.set j p,frs:=fs++[{ f with pc:=f.pc+1,sv:=sv',stk:=rest++[(2,(j:Int))] }] }
theorem C9.laid {own own':Own} {mb:Nat} {g:PgR} {R R1:McR} {fs:List FrR} {f:FrR} {rest args:List Val} {va:Option Addr} {sb:Nat} {w w':World} (h:C9 w own mb g R fs f rest args va sb) (hm:A3 w' own' mb g R1) (hf:R1.frs=R.frs) (ho:∀k i,own k=some (.stk i)→own' k=own k) (hk:∀k i,own k=some (.stk i)→w'.heap[k]?=w.heap[k]?):C9 w' own' mb g R1 fs f rest args va sb :=
 ⟨hm,hf.trans h.hf,h.hst,fun h0=>by
  obtain⟨q1,q2,q3⟩:=h.hva h0;have e:=hk sb _ q2;refine⟨q1,(ho sb _ q2).trans q2,fun i x hx=>?_⟩;rw[World.cell?_of_block (w:=w) (a:=⟨sb,_,none⟩) e,World.cell?_of_block (w:=w) (a:=⟨sb,_,none⟩) e];exact q3 i x hx,h.hn,h.hs,h.hpc⟩
theorem A3.nobody {own:Own} {mb:Nat} {g:PgR} {R:McR} {w:World} (h:A3 w own mb g R) {v:Value} {nb:Nat} (hv:v.ownBlock=some nb) (hnew:w.heap.size≤nb):jZ own g v:=fun b hb=>by
 rw[hv] at hb
 cases hb;exact⟨h.new hnew,fun k hk=>by have:=h.pg.blk_lt hk;omega,by have:=h.tab.1;omega⟩
theorem C9.lay {own:Own} {mb:Nat} {g:PgR} {R:McR} {fs:List FrR} {f:FrR} {rest args:List Val} {va:Option Addr} {sb:Nat} {w W:World} (h:C9 w own mb g R fs f rest args va sb) (hB:Below w.heap.size w W) {j:Nat} {ds:List Int} {p:ObR} {e:Ending} {w':World} (hnew:∀b,p.fv.ownBlock=some b→w.heap.size≤b) (hl:vL own mb g R j ds p W e w') :
  ∃dv,e=.returned (.int .i64 (j:Int))∧C9 w' (own.upd p.fv.ownBlock (.fld j)) mb g { R with dv:=dv,dr:=ds,obs:=R.obs.set j p } fs f rest args va sb∧A8 own w (own.upd p.fv.ownBlock (.fld j)) w':=by
 obtain⟨dv,he,hm,hb⟩:=hl;have hold:∀k,k < w.heap.size→own.upd p.fv.ownBlock (.fld j) k=own k:=fun k hk=>by
  unfold Own.upd;split
  ·rename_i e;have:=hnew k e;omega
  ·rfl
 have hno:∀k,k < w.heap.size→k≠mb→own k≠some .draws→own k≠some .slots→w'.heap[k]?=w.heap[k]?:=fun k hk h1 h2 h3=>(hb.block k (Nat.lt_of_lt_of_le hk hB.size) h1 h2 h3).trans (hB.block k hk)
 refine⟨dv,he,h.laid hm rfl (fun k i hk=>hold k (h.m.lt k _ hk)) (fun k i hk=>hno k (h.m.lt k _ hk) (fun e=>by rw [e,h.m.me] at hk;cases hk) (by rw [hk];simp) (by rw [hk];simp)),⟨hb.os.trans hB.os,hb.tape.trans hB.tape,hb.output.trans hB.output,Nat.le_trans hB.size hb.size,fun k hk hn=>hno k hk (fun e=>by rw [e,h.m.me] at hn;cases hn) (by rw [hn];simp) (by rw [hn];simp),hold⟩⟩
theorem vP {own:Own} {mb:Nat} {g:PgR} {R:McR} {fs:List FrR} {f:FrR} {rest args:List Val} {va:Option Addr} {sb:Nat} {w W:World} (h:C9 w own mb g R fs f rest args va sb) (hB:Below w.heap.size w W) (j:Nat) (ds:List Int) (hj:eN R.obs R.dr j ds) (hn:R.obs.length≤1000) (hdn:R.dr.length≤1000) (p:ObR) (nb nc:Nat) (hfv:p.fv=.slice (some ⟨nb,0,none⟩) p.fl.length nc) (hnew:w.heap.size≤nb) (hrow:W.ownsRow 0 73 2 p.fv p.fl.length (A5 p.fl)) (k:Nat) (hk:args.length=k) (vc:Nat) :
  Calls Tryz.prog 215 #[.pointer (some ⟨mb,0,none⟩),.slice va k vc,.int .u8 p.kind,.slice (some ⟨nb,0,none⟩) p.fl.length nc] W fun e w'=>aP own mb g (a9u R fs f rest j ds p) 0 w e w':=by
 obtain⟨o,ho,hok⟩:=hj.free;have hpos:0 < R.obs.length:=by have:=(List.getElem?_eq_some_iff.1 ho).1;omega
 have hff:(taken R.obs == R.obs.length)=false:=beq_eq_false_iff_ne.2 (tW ho hok);have HFU:Hid (∀U,Below W.heap.size W U→Calls Tryz.prog 220 #[.pointer (some ⟨mb,4,none⟩)] U fun e w'=>e=.returned (.bool false)∧Below U.heap.size U w'):=by
  intro U hU;have hBU:=A1 hU hB;have:=rC (h.m.same hBU.size fun k hk=>hBU.block k hk) hpos hn;rw[hff] at this;exact this
 have hvb:p.fv.ownBlock=some nb:=by rw [hfv];rfl
 have HLAY:Hid (∀U,Below W.heap.size W U→Calls Tryz.prog 87 #[.pointer (some ⟨mb,4,none⟩),.agg #[.int .u8 p.kind,.slice (some ⟨nb,0,none⟩) p.fl.length nc]] U fun e w'=>∃dv,e=.returned (.int .i64 (j:Int))∧C9 w' (own.upd p.fv.ownBlock (.fld j)) mb g { R with dv:=dv,dr:=ds,obs:=R.obs.set j p } fs f rest args va sb∧A8 own w (own.upd p.fv.ownBlock (.fld j)) w'):=by
  intro U hU;have hBU:=A1 hU hB;have hmU:=h.m.same hBU.size fun k hk=>hBU.block k hk
  have:=a3g hmU j ds hj hn hdn p nb nc hfv (h.m.nobody hvb hnew) (A2 hrow fun b hb=>hU.block b (hrow.lt b hb).2);rw[hfv] at this;rw[hfv] at hvb ⊢;exact this.mono fun e w' hl=>by
   have:=h.lay hBU (fun b hb=>by rw [hfv,hvb] at hb;cases hb;exact hnew) hl;rw[hfv] at this;exact this
 clear h hB hj hfv hrow hff ho hok hvb;go_enter Tryz.func215,Tryz.ntmps215;go_wp2_with (first | (go_at_call 220;refine (HFU.out _ ?_).mono ?_;exact (by repeat (first | exact Below.refl _ _ | exact HB2.out));rintro e w2 ⟨rfl,hb2⟩;have HB2:Hid (Below W.heap.size W w2):=A1 hb2 (by repeat (first | exact Below.refl _ _ | exact HB2.out));clear hb2))
 refine (HLAY.out _ HB2.out).mono ?_;rintro e w3 ⟨dv,rfl,hA3,ht3⟩;have HA3:=hid hA3;have HT3:=hid ht3;clear hA3 ht3;go_wp2_with (first | (go_at_call 131;refine (bW _ _).mono ?_;rintro e w' ⟨rfl,o4,rfl⟩) | (go_at_call 205;refine (HA3.out.answer P0 vc _ [(2,(j:Int))] (J6 HA3.out.m P9 (D8 Q9)) Q9 k hk).mono ?_;rintro e w' ⟨own',sv',rfl,hm,ht⟩))
 go_ret;exact⟨own',_,rfl,hm,⟨sv',dv,rfl⟩,HT3.out.trans ht⟩
structure FrA where
 fn:Nat
 pc:Nat
 loc:List Val
 stk:List Val
structure McA where
 st:Int
 out:List Int
 frs:List FrA
 obs:List (Int × List Val)
 dr:List Int
def FrR.abs (f:FrR):FrA:=⟨f.fn,f.pc,f.loc,f.stk⟩
def ObR.abs (o:ObR):Int × List Val:=(o.kind,o.fl)
def McR.abs (R:McR):McA:=⟨R.st,R.out,R.frs.map FrR.abs,R.obs.map ObR.abs,R.dr⟩
def F1 (R:McR):Prop:=R.out=[]→R.ov=.slice none 0 0
def goA (s:McA) (fs:List FrA) (f:FrA) (pc:Nat) (l:List Val):McA:=⟨0,s.out,fs++[⟨f.fn,pc,f.loc,l⟩],s.obs,s.dr⟩
theorem a7S (R:McR) (fs:List FrR) (f:FrR) (pc:Nat) (l:List Val) (sv:Value) :
  McR.abs { ({ R with frs:=fs++[{ f with pc:=pc,sv:=sv,stk:=l }] } : McR) with st:=0 }=goA R.abs (fs.map FrR.abs) f.abs pc l:=by
 simp[McR.abs,goA,FrR.abs]
def jO:List (Int × List Val)→Nat→Option Nat
 | [],_=>none
 | o::l,n=>if o.1=0 then some n else jO l (n+1)
theorem qZ:∀(l:List ObR) (n j:Nat),jO (l.map ObR.abs) n=some j→n≤j∧O3 l (j - n)
 | [],n,j,h=>by cases h
 | o::l,n,j,h=>by
  simp only[List.map_cons,jO] at h;by_cases h0:o.abs.1=0
  ·rw [if_pos h0] at h
   cases h;refine⟨Nat.le_refl _,⟨o,by simp,h0⟩,fun i x hi _=>by omega⟩
  ·rw [if_neg h0] at h
   obtain⟨h1,⟨x,hx,hk⟩,h3⟩:=qZ l (n+1) j h;have e:j - n=(j - (n+1))+1:=by omega
   rw[e];refine⟨by omega,⟨x,by simpa using hx,hk⟩,fun i y hi hy=>?_⟩
   cases i with
   | zero=>simp at hy;subst hy;exact h0
   | succ i=>exact h3 i y Q8 (by simpa using hy)
def fA (obs:List (Int × List Val)) (dr:List Int):Option (Nat × List Int) :=
 match dr with
 | []=>(jO obs 0).map fun j=>(j,[])
 | d::ds=>match obs[(d % (obs.length:Int)).toNat]? with
  | none=>none
  | some o=>if o.1=0 then some ((d % (obs.length:Int)).toNat,ds) else (jO obs 0).map fun j=>(j,ds)
theorem kM {l:List ObR} {dr ds:List Int} {j:Nat} (h:fA (l.map ObR.abs) dr=some (j,ds)):eN l dr j ds:=by
 have hfree:∀i,jO (l.map ObR.abs) 0=some i→O3 l i:=fun i hi=>by have:=(qZ l 0 i hi).2;simpa using this
 cases dr with
 | nil =>
  obtain⟨i,hi,e⟩:=Option.map_eq_some_iff.1 h
  cases e;exact⟨rfl,hfree _ hi⟩
 | cons d r =>
  simp only[fA,List.length_map,List.getElem?_map] at h
  cases ho:l[(d % (l.length:Int)).toNat]? with
  | none=>rw [ho] at h;cases h
  | some o =>
   rw[ho] at h;simp only[Option.map_some] at h;split at h
   ·rename_i hk
    cases h;exact⟨rfl,o,ho,Or.inl ⟨hk,rfl⟩⟩
   ·rename_i hk
    obtain⟨i,hi,e⟩:=Option.map_eq_some_iff.1 h
    cases e;exact⟨rfl,o,ho,Or.inr ⟨hk,hfree _ hi⟩⟩
theorem tT {P:Program} (w:World) (dT sT ty elem:TypeId) (g o dLen dCap:Nat) (a:Addr) (sLen sCap size:Nat) (cur:Array Value) (t:TypeId) (cs:List Value)
  (hu:P.underlying dT=some (.slice elem)) (hs:(P.info? elem).map (·.size)=some size)
  (hg:w.heap[g]?=some (.cells cur t (0,0))) (hn:cs.length=Nat.min sLen dLen*size)
  (hsrc:∀j v,cs[j]?=some v→w.cell? (a.add j)=some v) (hfit:o+cs.length≤cur.size) (h1:∀v∈cs,v.oneCell'=true) :
  (Builtin.copy_ #[dT,sT] ty #[.slice (some ⟨g,o,none⟩) dLen dCap,.slice (some a) sLen sCap]).run P w =
   .ok (goInt (Nat.min sLen dLen)) (w.setRow g (cur.toList.take o++cs++cur.toList.drop (o+cs.length)).toArray):=by
 have hl:=run_loadCells_list (P:=P) w a cs hsrc;have hst:=run_storeCells_at P g o t cs 0 cur w hg (by simpa using hfit) h1
 cases hq:P.info? elem with
 | none=>simp [hq] at hs
 | some i =>
  have hi:i.size=size:=by simpa [hq] using hs
  simp[Builtin.copy_,run_underlying hu,Builtin.lenOf,Builtin.firstCells,sizeOf,typeInfo,hq,hi,← hn,hl,hst]
end Go.Proofs.YtbkmgoffiigdbabGreatDoor
