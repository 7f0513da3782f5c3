import Derived.Test.YtbkmgoffiigdbabGreatDoorVA
import Derived.Deep.AppendLies
namespace Go.Proofs.YtbkmgoffiigdbabGreatDoor
open Go.RowKit
theorem dA {α:Type} {c:α→List Value} {s:Nat} (hc:∀x,(c x).length=s) (l:List α):(l.flatMap c).length=l.length*s:=by
 induction l with
 | nil=>simp
 | cons a l ih=>simp [List.flatMap_cons,hc,ih,Nat.add_mul];omega
theorem C3 {α:Type} {c:α→List Value} {s:Nat} (hc:∀x,(c x).length=s) {l:List α} {i j:Nat} {x:α} (hi:l[i]?=some x) (hj:j < s):(l.flatMap c)[i*s+j]?=(c x)[j]?:=by
 induction l generalizing i with
 | nil=>simp at hi
 | cons a l ih =>
  cases i with
  | zero =>
   simp at hi;subst hi;rw[List.flatMap_cons,List.getElem?_append_left (by rw [hc];omega)];simp
  | succ i =>
   simp at hi;rw[List.flatMap_cons,List.getElem?_append_right (by rw [hc,Nat.succ_mul];omega),hc,show (i+1)*s+j - s=i*s+j by rw [Nat.succ_mul];omega];exact ih hi
theorem iT {α:Type} {c:α→List Value} {s:Nat} (hc:∀x,(c x).length=s) (l:List α) (k:Nat):(l.take k).flatMap c=(l.flatMap c).take (k*s):=by
 induction l generalizing k with
 | nil=>simp
 | cons a l ih =>
  cases k with
  | zero=>simp
  | succ k =>
   have e:List.take ((k+1)*s) (c a)=c a:=List.take_of_length_le (by rw [hc,Nat.succ_mul];omega);rw[List.take_succ_cons,List.flatMap_cons,List.flatMap_cons,List.take_append,ih,hc,show (k+1)*s - s=k*s by rw [Nat.succ_mul];omega,e]
theorem L5 {α:Type} {c:α→List Value} {s:Nat} (hc:∀x,(c x).length=s) {l:List α} {i j:Nat} {x y:α} {u:Value} (hi:l[i]?=some x) (hj:j < s) (hy:c y=(c x).set j u) :
  (l.set i y).flatMap c=(l.flatMap c).set (i*s+j) u:=by
 induction l generalizing i with
 | nil=>simp at hi
 | cons a l ih =>
  cases i with
  | zero =>
   simp at hi;subst hi;rw[List.set_cons_zero,List.flatMap_cons,List.flatMap_cons,List.set_append_left _ _ (by rw [hc];omega),hy];simp
  | succ i =>
   simp at hi;rw[List.set_cons_succ,List.flatMap_cons,List.flatMap_cons,List.set_append_right _ _ (by rw [hc,Nat.succ_mul];omega),hc,show (i+1)*s+j - s=i*s+j by rw [Nat.succ_mul];omega,ih hi]
abbrev Val:=Int × Int
def N0 (v:Val):List Value:=[.int .u8 v.1,.int .i64 v.2]
def A5 (l:List Val):List Value:=l.flatMap N0
theorem E7 (v:Val):(N0 v).length=2:=rfl
structure FrR where
 fn:Nat
 pc:Nat
 lv:Value
 sv:Value
 loc:List Val
 stk:List Val
def FrR.cells (f:FrR):List Value:=[.int .i64 f.fn,.int .i64 f.pc,f.lv,f.sv]
theorem FrR.cells_len (f:FrR):f.cells.length=4:=rfl
structure ObR where
 kind:Int
 fv:Value
 fl:List Val
def ObR.cells (o:ObR):List Value:=[.int .u8 o.kind,o.fv]
theorem ObR.cells_len (o:ObR):o.cells.length=2:=rfl
structure McR where
 st:Int
 ov:Value
 out:List Int
 cv:Value
 frs:List FrR
 hv:Value
 obs:List ObR
 dv:Value
 dr:List Int
inductive Tag where
 | mach | out | called | slots | draws
 | loc (i:Nat) | stk (i:Nat) | fld (j:Nat)
abbrev Own:=Nat→Option Tag
def Row (w:World) (own:Own) (t:Tag) (e size:Nat) (v:Value) (n:Nat) (xs:List Value):Prop :=
 w.ownsRow 0 e size v n xs∧∀b,v.ownBlock=some b→own b=some t
def PgR.blk (g:PgR) (k:Nat):Prop:=(0 < g.n∧k=g.b)∨∃i,i < g.n∧0 < (g.f i).n∧k=(g.f i).b
structure A3 (w:World) (own:Own) (mb:Nat) (g:PgR) (R:McR):Prop where
 lt:∀k t,own k=some t→k < w.heap.size
 me:own mb=some .mach
 c0:w.cell? ⟨mb,0,none⟩=some (.slice g.a g.n g.c)
 c1:w.cell? ⟨mb,1,none⟩=some (.int .i64 R.st)
 c2:w.cell? ⟨mb,2,none⟩=some R.ov
 c3:w.cell? ⟨mb,3,none⟩=some R.cv
 c4:w.cell? ⟨mb,4,none⟩=some R.hv
 fz:∀j,w.frozen? ⟨mb,j,none⟩=false
 out:Row w own .out 3 1 R.ov R.out.length (R.out.map fun n=>.int .i64 n)
 called:Row w own .called 83 4 R.cv R.frs.length (R.frs.flatMap FrR.cells)
 slots:Row w own .slots 75 2 R.hv R.obs.length (R.obs.flatMap ObR.cells)
 loc:∀i f,R.frs[i]?=some f→Row w own (.loc i) 73 2 f.lv f.loc.length (A5 f.loc)
 stk:∀i f,R.frs[i]?=some f→Row w own (.stk i) 73 2 f.sv f.stk.length (A5 f.stk)
 fld:∀j o,R.obs[j]?=some o→Row w own (.fld j) 73 2 o.fv o.fl.length (A5 o.fl)
 pg:M3 w.heap.size w g
 ro:∀k,g.blk k→own k=none
 tab:Tab w
 ro0:own 0=none
 c5:w.cell? ⟨mb,5,none⟩=some R.dv
 draws:Row w own .draws 3 1 R.dv R.dr.length (R.dr.map fun n=>.int .i64 n)
theorem A2 {w w':World} {base e size:Nat} {v:Value} {n:Nat} {xs:List Value} (h:w.ownsRow base e size v n xs) (hb:∀b,v.ownBlock=some b→w'.heap[b]?=w.heap[b]?):w'.ownsRow base e size v n xs:=by
 refine⟨h.1,h.2.imp id ?_⟩;rintro⟨g,cap,cur,rfl,h1,h2,h3⟩;exact⟨g,cap,cur,rfl,h1,(hb g rfl).trans h2,h3⟩
theorem Row.kept {w w':World} {own own':Own} {t:Tag} {e size:Nat} {v:Value} {n:Nat} {xs:List Value} (h:Row w own t e size v n xs) (hk:∀k,own k=some t→w'.heap[k]?=w.heap[k]?∧own' k=some t):Row w' own' t e size v n xs :=
 ⟨A2 h.1 fun b hb=>(hk b (h.2 b hb)).1,fun b hb=>(hk b (h.2 b hb)).2⟩
theorem Row.cut {w:World} {own:Own} {t:Tag} {e size:Nat} {g n cap:Nat} {xs:List Value} (h:Row w own t e size (.slice (some ⟨g,0,none⟩) n cap) n xs) {m:Nat} (hm:m≤n):Row w own t e size (.slice (some ⟨g,0,none⟩) m cap) m (xs.take (m*size)):=by
 refine⟨⟨?_,?_⟩,fun b hb=>h.2 b hb⟩
 ·rw [List.length_take,h.1.1];exact Nat.min_eq_left (Nat.mul_le_mul_right _ hm)
 ·rcases h.1.2 with ⟨h0,_⟩ | ⟨g',cap',cur,hv,h1,h2,h3,h4,h5,h6⟩
  ·cases h0
  ·cases hv
   refine Or.inr ⟨g,cap,cur,rfl,h1,h2,by omega,h4,h5,?_⟩;rw[← h6,List.take_take,Nat.min_eq_left (Nat.mul_le_mul_right _ hm)]
theorem M3.held {w w':World} {g:PgR} (h:M3 w.heap.size w g) (hs:w.heap.size≤w'.heap.size) (hk:∀k,g.blk k→w'.heap[k]?=w.heap[k]?):M3 w'.heap.size w' g:=by
 refine⟨h.1,fun hn=>?_,fun i hi=>⟨(h.2.2 i hi).1,fun hn=>?_⟩⟩
 ·obtain ⟨h1,h2,h3⟩:=h.2.1 hn
  refine⟨h1,by omega,fun i hi=>?_⟩;have e:=hk g.b (Or.inl ⟨hn,rfl⟩);rw[World.cell?_of_block (w:=w) (a:=⟨g.b,g.o+i*3,none⟩) e,World.cell?_of_block (w:=w) (a:=⟨g.b,g.o+i*3+1,none⟩) e,World.cell?_of_block (w:=w) (a:=⟨g.b,g.o+i*3+2,none⟩) e];exact h3 i hi
 ·obtain ⟨h1,h2,h3⟩:=(h.2.2 i hi).2 hn
  refine⟨h1,by omega,fun j hj=>?_⟩;have e:=hk (g.f i).b (Or.inr ⟨i,hi,hn,rfl⟩);rw[World.cell?_of_block (w:=w) (a:=⟨(g.f i).b,(g.f i).o+j*2,none⟩) e,World.cell?_of_block (w:=w) (a:=⟨(g.f i).b,(g.f i).o+j*2+1,none⟩) e];exact h3 j hj
theorem M3.blk_lt {w:World} {g:PgR} (h:M3 w.heap.size w g) {k:Nat} (hk:g.blk k):k < w.heap.size:=by
 rcases hk with ⟨hn,rfl⟩ | ⟨i,hi,hn,rfl⟩
 ·exact (h.2.1 hn).2.1
 ·exact ((h.2.2 i hi).2 hn).2.1
theorem Tab.held {w w':World} (h:Tab w) (hs:w.heap.size≤w'.heap.size) (hk:w'.heap[0]?=w.heap[0]?):Tab w' :=
 ⟨Nat.lt_of_lt_of_le h.1 hs,fun k hk'=>by
  rw[World.cell?_of_block (w:=w) (a:=⟨0,k*5,none⟩) hk,World.cell?_of_block (w:=w) (a:=⟨0,k*5+1,none⟩) hk,World.cell?_of_block (w:=w) (a:=⟨0,k*5+2,none⟩) hk,
   World.cell?_of_block (w:=w) (a:=⟨0,k*5+3,none⟩) hk,World.cell?_of_block (w:=w) (a:=⟨0,k*5+4,none⟩) hk]
  exact h.2 k hk'⟩
structure A8 (own:Own) (w:World) (own':Own) (w':World):Prop where
 os:w'.os=w.os
 tape:w'.tape=w.tape
 output:w'.output=w.output
 size:w.heap.size≤w'.heap.size
 block:∀k,k < w.heap.size→own k=none→w'.heap[k]?=w.heap[k]?
 old:∀k,k < w.heap.size→own' k=own k
theorem A8.refl (own:Own) (w:World):A8 own w own w:=⟨rfl,rfl,rfl,Nat.le_refl _,fun _ _ _=>rfl,fun _ _=>rfl⟩
theorem A8.trans {own own' own'':Own} {w w' w'':World} (h:A8 own w own' w') (k:A8 own' w' own'' w''):A8 own w own'' w'' :=
 ⟨k.os.trans h.os,k.tape.trans h.tape,k.output.trans h.output,Nat.le_trans h.size k.size,
  fun i hi hn=>(k.block i (Nat.lt_of_lt_of_le hi h.size) (by rw [h.old i hi];exact hn)).trans (h.block i hi hn),
  fun i hi=>(k.old i (Nat.lt_of_lt_of_le hi h.size)).trans (h.old i hi)⟩
end Go.Proofs.YtbkmgoffiigdbabGreatDoor
