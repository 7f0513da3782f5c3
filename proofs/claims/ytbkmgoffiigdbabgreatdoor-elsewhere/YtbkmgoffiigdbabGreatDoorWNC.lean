import Derived.Test.YtbkmgoffiigdbabGreatDoorWNB
import Derived.Laws.AppendOwnNone
import Derived.OneCell
namespace Go.Proofs.YtbkmgoffiigdbabGreatDoor
open Go.RowKit
set_option maxHeartbeats 1000000
def a5z (cb n:Nat) (sv:Value) (s k:Nat) (xs:List Value) (w:World) (e:Ending) (w':World):Prop :=
 ∃m sv1,e=.returned (.tuple #[])∧w'=(w.drewN m).setCell ⟨cb,n*4+3,none⟩ sv1∧sv1.ownBlock=sv.ownBlock∧w.ownsRow 0 73 2 sv1 (s - k) (xs.take ((s - k)*2))
theorem a0m {w:World} {e size g n cap:Nat} {xs:List Value} (h:w.ownsRow 0 e size (.slice (some ⟨g,0,none⟩) n cap) n xs) {m:Nat} (hm:m≤n):w.ownsRow 0 e size (.slice (some ⟨g,0,none⟩) m cap) m (xs.take (m*size)) :=
 (Row.cut (own:=fun _=>some .mach) (t:=.mach) ⟨h,fun _ _=>rfl⟩ hm).1
theorem M6 {w:World} {base e size g n cap:Nat} {xs:List Value} (h:w.ownsRow base e size (.slice (some ⟨g,0,none⟩) n cap) n xs):n≤cap∧g < w.heap.size:=by
 rcases h.2 with ⟨h0,_⟩ | ⟨g',cap',cur,hv,_,hg,h3,_⟩
 ·cases h0
 ·cases hv
  exact⟨h3,(Array.getElem?_eq_some_iff.1 hg).1⟩
theorem dF {w:World} {B e size n:Nat} {v:Value} {xs:List Value} (h:w.ownsRow B e size v n xs) (q:Nat):(w.drewN q).ownsRow B e size v n xs:=h
theorem qR (mb cb n cc:Nat) (sv:Value) (s k:Nat) (xs:List Value) (w:World) (hn:n≤1000) (hs:s≤1000) (hk:k≤s) (hc:w.cell? ⟨mb,3,none⟩=some (.slice (some ⟨cb,0,none⟩) (n+1) cc))
  (hst:w.cell? ⟨cb,n*4+3,none⟩=some sv) (hfz:w.frozen? ⟨cb,n*4+3,none⟩=false) (hown:w.ownsRow 0 73 2 sv s xs) :
  Calls Tryz.prog 213 #[.pointer (some ⟨mb,3,none⟩),.int .i64 (k:Int)] w fun e w'=>a5z cb n sv s k xs w e w':=by
 rcases id hown.2 with ⟨rfl,rfl⟩ | ⟨sb,sc,cur,rfl,_,hg,hsc,_⟩
 ·obtain rfl:k=0:=by omega
  refine (a6b mb cb n cc w hn hc hst hfz).mono ?_;rintro e w' ⟨rfl,m,rfl⟩;have:xs=[]:=List.length_eq_zero_iff.1 (by simpa using hown.1);subst this;exact⟨m,_,rfl,rfl,rfl,World.ownsRow_nil _ _ _ _⟩
 ·refine (a6c mb cb n cc sb s sc k w hn hs hsc hk hc hst hfz).mono ?_
  rintro e w' ⟨rfl,m,rfl⟩;exact⟨m,_,rfl,rfl,rfl,a0m hown Q8⟩
theorem Z7:(Tryz.prog.info? 73).map (fun i=>(i.zero,i.size,i.bytes))=some (some (.agg #[.int .u8 0,.int .i64 0]),2,16):=by kernel_rfl
theorem bQ (l:List Val):∀u∈A5 l,u.oneCell'=true:=by
 intro u hu;simp only[A5,N0,List.mem_flatMap,List.mem_cons,List.not_mem_nil,or_false] at hu;obtain⟨v,_,rfl | rfl⟩:=hu <;> rfl
theorem V5 (a b:List Val):A5 (a++b)=A5 a++A5 b:=List.flatMap_append
theorem K1 (l:List Val):(A5 l).length=l.length*2:=dA E7 l
def gR (w:World) (own:Own) (pv:Value) (ps:List Val):Prop :=
 (pv=.slice none 0 0∧ps=[])∨(0 < ps.length∧∃pb c,pv=.slice (some ⟨pb,0,none⟩) ps.length c∧own pb=none∧pb < w.heap.size∧∀j u,(A5 ps)[j]?=some u→w.cell? ⟨pb,j,none⟩=some u)
def D0 (own:Own) (mb:Nat) (g:PgR) (R:McR) (fs:List FrR) (f:FrR) (pc:Nat) (l:List Val) (r:Value) (w:World) (e:Ending) (w':World):Prop :=
 ∃own' sv',e=.returned r∧A3 w' own' mb g { R with frs:=fs++[{ f with pc:=pc,sv:=sv',stk:=l }] }∧A8 own w own' w'
theorem uL {fs:List FrR} {f:FrR} (pc:Nat) (v v1:Value) (l:List Val) :
  (fs++[{ f with pc:=pc,sv:=v,stk:=l }]).flatMap FrR.cells=((((fs++[f]).flatMap FrR.cells).set (fs.length*4+3) v1).set (fs.length*4+3) v).set (fs.length*4+1) (.int .i64 pc):=by
 rw[List.set_set];have h1:((fs++[f]).flatMap FrR.cells).set (fs.length*4+3) v=((fs++[f]).set fs.length { f with sv:=v }).flatMap FrR.cells:=(L5 FrR.cells_len (x:=f) Q9 Q8 rfl).symm;rw[h1];rw[← L5 FrR.cells_len (x:={ f with sv:=v }) (y:={ f with pc:=pc,sv:=v,stk:=l }) Q9 Q8 rfl];simp
theorem A3.topRow {w:World} {own:Own} {mb:Nat} {g:PgR} {R:McR} {fs:List FrR} {f:FrR} {cb cc:Nat} (h:A3 w own mb g R) (hf:R.frs=fs++[f]) (hv:R.cv=.slice (some ⟨cb,0,none⟩) (fs.length+1) cc) :
  w.ownsRow 0 83 4 (.slice (some ⟨cb,0,none⟩) (fs.length+1) cc) (fs.length+1) ((fs++[f]).flatMap FrR.cells):=by
 have:=h.called.1;rw[hf,hv] at this;simpa using this
theorem X1 (b j:Nat):(⟨b,0,none⟩:Addr).add j=⟨b,j,none⟩:=by unfold Addr.add;split <;> simp_all
theorem zL {own:Own} {mb:Nat} {g:PgR} {R:McR} {fs:List FrR} {f:FrR} {w w1 w5:World} {cb cc:Nat} {v' sv1:Value} {n':Nat} {l:List Val} {pc:Nat} (h:A3 w own mb g R) (hf:R.frs=fs++[f]) (hv:R.cv=.slice (some ⟨cb,0,none⟩) (fs.length+1) cc)
  (hocb:own cb=some .called) (hsb:∀b,f.sv.ownBlock=some b→b≠cb∧b≠mb∧own b=some (.stk fs.length)) (hb1:sv1.ownBlock=f.sv.ownBlock) (hs1:w1.heap.size=w.heap.size) (hk1:∀b,b≠cb→w1.heap[b]?=w.heap[b]?)
  (he1:w1.os=w.os∧w1.tape=w.tape∧w1.output=w.output) (hr1:w1.ownsRow 0 83 4 (.slice (some ⟨cb,0,none⟩) (fs.length+1) cc) (fs.length+1) (((fs++[f]).flatMap FrR.cells).set (fs.length*4+3) sv1))
  (hgrow:w1.grownBy w5 sv1.ownBlock) (hown:w5.ownsRow 0 73 2 v' n' (A5 l)) (hl:l.length=n') (hat:∀b,v'.ownBlock=some b→sv1.ownBlock=some b∨w1.heap.size≤b) (r:Value) :
  D0 own mb g R fs f pc l r w (.returned r) ((w5.setCell ⟨cb,fs.length*4+3,none⟩ v').setCell ⟨cb,fs.length*4+1,none⟩ (.int .i64 (pc:Int))):=by
 subst hl;have hcb:cb < w.heap.size:=h.lt cb _ hocb;have hne1:sv1.ownBlock≠some cb:=fun e=>(hsb cb (hb1▸e)).1 rfl
 have hon:M2 w own v' (.stk fs.length):=fun b hb=>by
  rcases hat b hb with hb' | hb'
  ·exact Or.inl (hsb b (hb1▸hb')).2.2
  ·exact Or.inr Q8
 have hvcb:v'.ownBlock≠some cb:=fun e=>by
  rcases hat cb e with hb' | hb'
  ·exact hne1 hb'
  ·omega
 have hk5:∀k,k < w.heap.size→own k≠some .called→own k≠some (.stk fs.length)→w5.heap[k]?=w.heap[k]?:=fun k hk h1 h2=>by
  have hkc:k≠cb:=fun e=>h1 (by rw [e];exact hocb)
  rw[hgrow.block k Q8 (fun e=>h2 (hsb k (by rw [← hb1];exact e.symm)).2.2),hk1 k hkc]
 have hsz:w.heap.size≤w5.heap.size:=by have:=hgrow.size;omega
 have hr5:w5.ownsRow 0 83 4 (.slice (some ⟨cb,0,none⟩) (fs.length+1) cc) (fs.length+1) (((fs++[f]).flatMap FrR.cells).set (fs.length*4+3) sv1):=hr1.kept hgrow (Or.inr (by simpa [Value.ownBlock] using Ne.symm hne1));have hr6:=(World.ownsRow.stored hr5 (fs.length*4+3) v').1;have hr7:=(World.ownsRow.stored hr6 (fs.length*4+1) (.int .i64 (pc:Int))).1;rw[← uL pc v' sv1 l] at hr7;refine⟨_,v',rfl,A3.setTop (f':={ f with pc:=pc,sv:=v',stk:=l }) h hf rfl rfl (by simpa using hsz) (fun k hk h1 h2=>?_) (by rw [hv];exact hr7) (ownsRow_setCell_other (ownsRow_setCell_other hown hvcb _) hvcb _) hon,?_⟩
 ·have hkc:k≠cb:=fun e=>h1 (by rw [e];exact hocb)
  rw[heap_setCell_other _ _ _ _ hkc,heap_setCell_other _ _ _ _ hkc];exact hk5 k hk h1 h2
 ·refine ⟨hgrow.os.trans he1.1,hgrow.tape.trans he1.2.1,hgrow.output.trans he1.2.2,by simpa using hsz,fun k hk hno=>?_,fun k hk=>Own.upd_old hon hk⟩
  have hkc:k≠cb:=fun e=>by rw [e,hocb] at hno;cases hno
  rw[heap_setCell_other _ _ _ _ hkc,heap_setCell_other _ _ _ _ hkc];exact hk5 k hk (by rw [hno];simp) (by rw [hno];simp)
theorem zK {own:Own} {mb:Nat} {g:PgR} {R:McR} {fs:List FrR} {f:FrR} {w:World} (h:A3 w own mb g R) (hf:R.frs=fs++[f]) (k:Nat) (hk:k≤f.stk.length) (pv:Value) (ps:List Val) (hp:gR w own pv ps)
  (hn:fs.length≤1000) (hs:f.stk.length≤1000) (hpl:ps.length≤100) (hpc:f.pc≤1000) :
  Calls Tryz.prog 219 #[.pointer (some ⟨mb,3,none⟩),.int .i64 (k:Int),pv] w fun e w'=>D0 own mb g R fs f (f.pc+1) (f.stk.take (f.stk.length - k)++ps) (.tuple #[]) w e w':=by
 obtain⟨cb,cc,hv,hocb,hcb,hfz,x0,x1,x2,x3⟩:=h.top hf;have hc:=h.c3;rw[hv] at hc;have hrow:=h.topRow hf hv;have hmb:mb < w.heap.size:=h.lt mb _ h.me;have hmc:mb≠cb:=fun e=>by have:=h.me;rw [e,hocb] at this;cases this
 have hstk:=h.stk fs.length f (by rw [hf];simp);have hsb:∀b,f.sv.ownBlock=some b→b≠cb∧b≠mb∧own b=some (.stk fs.length):=fun b hb=>by
  have hb':=hstk.2 b hb;exact⟨fun e=>(by rw [e,hocb] at hb';cases hb'),fun e=>(by rw [e,h.me] at hb';cases hb'),hb'⟩
 obtain⟨i101,hi,hz,hsz,hby⟩:=info_parts Z7;have hfz3:=hfz (fs.length*4+3);have hfz1:=hfz (fs.length*4+1);go_enter Tryz.func219,Tryz.ntmps219;go_wp2_with fail;refine (qR mb cb fs.length cc f.sv f.stk.length k _ w hn hs hk hc x3 hfz3 hstk.1).mono ?_;rintro e w1 ⟨m1,sv1,rfl,hw1,hb1,hown1⟩;have hne1:sv1.ownBlock≠some cb:=fun e=>(hsb cb (hb1▸e)).1 rfl
 have d0:w1.cell? ⟨mb,3,none⟩=some (.slice (some ⟨cb,0,none⟩) (fs.length+1) cc):=by rw [hw1];go_simp
 have d1:w1.cell? ⟨cb,fs.length*4+1,none⟩=some (.int .i64 (f.pc:Int)):=by rw [hw1];go_simp
 have d3:w1.cell? ⟨cb,fs.length*4+3,none⟩=some sv1:=by rw [hw1];go_simp
 have z1:∀j,w1.frozen? ⟨cb,j,none⟩=false:=fun j=>by have:=hfz j;rw [hw1];go_simp
 have o1:w1.ownsRow 0 73 2 sv1 (f.stk.length - k) (A5 (f.stk.take (f.stk.length - k))):=by
  rw[hw1,A5,iT E7];exact ownsRow_setCell_other (dF hown1 m1) hne1 _
 have r1:w1.ownsRow 0 83 4 (.slice (some ⟨cb,0,none⟩) (fs.length+1) cc) (fs.length+1) (((fs++[f]).flatMap FrR.cells).set (fs.length*4+3) sv1):=by
  rw[hw1];exact (World.ownsRow.stored (dF hrow m1) _ sv1).1
 have s1:w1.heap.size=w.heap.size:=by rw [hw1];simp
 have k1:∀b,b≠cb→w1.heap[b]?=w.heap[b]?:=fun b hb=>by rw [hw1];exact heap_setCell_other _ _ _ _ hb
 have e1:w1.os=w.os∧w1.tape=w.tape∧w1.output=w.output:=by rw [hw1];exact ⟨rfl,rfl,rfl⟩
 have hp1:gR w1 own pv ps:=by
  rcases hp with hp | ⟨h0,pb,c,h1,h2,h3,h4⟩
  ·exact Or.inl hp
  ·refine Or.inr ⟨h0,pb,c,h1,h2,by omega,fun j u hj=>?_⟩
   rw[World.cell?_of_block (w:=w) (a:=⟨pb,j,none⟩) (k1 pb (fun e=>by rw [e,hocb] at h2;cases h2))];exact h4 j u hj
 have z3:=z1 (fs.length*4+3);have z4:=z1 (fs.length*4+1);have hlt1:cb < w1.heap.size:=by omega
 have hlt2:mb < w1.heap.size:=by omega
 have H:=(show Hid _ from h);clear h;have HF:=(show Hid _ from hf);clear hf;have HV:=(show Hid _ from hv);clear hv;have HSB:=(show Hid _ from hsb);clear hsb;have HB1:=(show Hid _ from hb1);clear hb1;have HNE:=(show Hid _ from hne1);clear hne1;have HP:=(show Hid _ from hp1);clear hp1 hp;have HS1:=(show Hid _ from s1);clear s1;have HK1:=(show Hid _ from k1);clear k1;have HE1:=(show Hid _ from e1);clear e1
 have HO1:=(show Hid _ from o1);clear o1;have HR1:=(show Hid _ from r1);clear r1;have HOCB:=(show Hid _ from hocb);clear hocb;clear hw1 x0 x1 x2 x3 hc hfz3 hfz1 hfz z1 hrow hstk hown1;rcases HP.out with ⟨rfl,rfl⟩ | ⟨hp0,pb,c,rfl,hpo,hplt,hnews⟩
 ·clear HP
  have hform:sv1=.slice none 0 0∨∃gb cap,sv1=.slice (some ⟨gb,0,none⟩) (f.stk.length - k) cap:=by
   rcases HO1.out.2 with ⟨e,_⟩ | ⟨gb,cap,_,e,_⟩
   ·exact Or.inl e
   ·exact Or.inr ⟨gb,cap,e⟩
  rcases hform with e | ⟨gb,cap,e⟩
  all_goals
   rw[e] at d3;go_wp2_with (first | (go_at_call 64;refine (N2 mb cb fs.length cc _ hn d0).mono ?_;rintro e w2 ⟨rfl,m2,rfl⟩) | (at_builtin;go_must (refine wpList_append_own_none rfl (.tmp 16) (.tmp 17) 45 rfl 0 73 i101 2 Tryz.underlying45 hi _ (f.stk.length - k) (A5 (f.stk.take (f.stk.length - k))) rfl (e▸dF HO1.out _) rfl ?_)))
   go_end0
   have:=zL (pc:=f.pc+1) (w5:=w1.drewN m2) (l:=f.stk.take (f.stk.length - k)) (v':=sv1) H.out HF.out HV.out HOCB.out HSB.out HB1.out HS1.out HK1.out HE1.out HR1.out ⟨rfl,rfl,rfl,Nat.le_refl _,fun _ _ _=>rfl⟩ (dF HO1.out m2) Q9 (fun b hb=>Or.inl hb) (.tuple #[]);rw[e] at this;simpa using this
 ·have HPO:=(show Hid _ from hpo);clear hpo
  have HNEWS:=(show Hid _ from hnews);clear hnews;go_wp2_with (first | (go_at_call 64;refine (N2 mb cb fs.length cc _ hn d0).mono ?_;rintro e w2 ⟨rfl,m2,rfl⟩) | (at_builtin;go_must (refine wpList_append_lies _ rfl (.tmp 16) (.tmp 17) 45 rfl 0 73 i101 _ 2 16 Tryz.underlying45 hi hz hsz hby rfl Q7 sv1 (f.stk.length - k) (A5 (f.stk.take (f.stk.length - k))) rfl (dF HO1.out _) ⟨pb,0,none⟩ ps.length c (A5 ps) rfl (K1 ps) (fun j u hj=>by rw [X1];exact HNEWS.out j u hj) (bQ ps) hp0 Q0 Q8 (Nat.zero_le _) _ rfl ?_)))
  intro gb cap w5 hown5 hgrow5 hat5 hlt5;have q1:w5.cell? ⟨cb,fs.length*4+1,none⟩=some (.int .i64 (f.pc:Int)):=hgrow5.cell d1 (Ne.symm HNE.out);have q3:w5.cell? ⟨cb,fs.length*4+3,none⟩=some sv1:=hgrow5.cell d3 (Ne.symm HNE.out);have y1:w5.frozen? ⟨cb,fs.length*4+1,none⟩=false:=by rw [hgrow5.frozen_far _ hlt1 (Ne.symm HNE.out)];exact z4
  have y3:w5.frozen? ⟨cb,fs.length*4+3,none⟩=false:=by rw [hgrow5.frozen_far _ hlt1 (Ne.symm HNE.out)];exact z3
  have HG5:=(show Hid _ from hgrow5);clear hgrow5;have HO5:=(show Hid _ from hown5);clear hown5;have HA5:=(show Hid _ from hat5);clear hat5;go_wp2_with fail;go_end0
  have:=zL (pc:=f.pc+1) (w5:=w5) (l:=f.stk.take (f.stk.length - k)++ps) H.out HF.out HV.out HOCB.out HSB.out HB1.out HS1.out HK1.out HE1.out HR1.out ⟨HG5.out.os,HG5.out.tape,HG5.out.output,HG5.out.size,HG5.out.block⟩ (by rw [V5];exact HO5.out) Q9 (fun b hb=>by
   obtain rfl:gb=b:=by simpa [Value.ownBlock] using hb
   rcases HA5.out with e | e
   ·exact Or.inl e
   ·exact Or.inr (by rw [e];exact Nat.le_refl _)) (.tuple #[])
  simpa using this
end Go.Proofs.YtbkmgoffiigdbabGreatDoor
