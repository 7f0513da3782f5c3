import Derived.Test.YtbkmgoffiigdbabGreatDoorVXe
import Derived.Laws.EntriesVeiled
namespace Go.Proofs.YtbkmgoffiigdbabGreatDoor
open Go.RowKit Go.Sort
set_option maxHeartbeats 4000000
set_option maxRecDepth 100000
theorem a3B {W:World} {rb c:Nat} {a:Option Addr} {bs:List Int} {s:Rs} (h:F7 W rb a c bs s) :
  Calls Tryz.prog 84 #[.pointer (some ⟨rb,0,none⟩)] W fun e w'=>e=.returned (.bool (s.p == bs.length))∧Below W.heap.size W w':=by
 have c0:=h.c0;have c1:=h.c1;have hlt:=h.lt;clear h;go_enter Tryz.func84,Tryz.ntmps84;go_wp2_with fail;go_region
 all_goals
  go_wp2_with fail;go_ret;refine⟨congrArg (fun b=>Ending.returned (Value.bool b)) ?_,Below.drew (Below.refl _ _)⟩;rw[Bool.eq_iff_iff];simp only[beq_iff_eq];omega
structure gN (w:World) (M:Nat) (g:PgR) (st:Int) (ov cv hv:Value):Prop where
 c0:w.cell? ⟨M,0,none⟩=some (.slice g.a g.n g.c)
 c1:w.cell? ⟨M,1,none⟩=some (.int .i64 st)
 c2:w.cell? ⟨M,2,none⟩=some ov
 c3:w.cell? ⟨M,3,none⟩=some cv
 c4:w.cell? ⟨M,4,none⟩=some hv
 c5:w.cell? ⟨M,5,none⟩=some (.slice none 0 0)
 z:∀j,w.frozen? ⟨M,j,none⟩=false
 lt:M < w.heap.size
theorem gN.kept {w w':World} {M:Nat} {g:PgR} {st:Int} {ov cv hv:Value} (h:gN w M g st ov cv hv) (hs:w.heap.size≤w'.heap.size) (hb:w'.heap[M]?=w.heap[M]?):gN w' M g st ov cv hv:=by
 have hc:∀j,w'.cell? ⟨M,j,none⟩=w.cell? ⟨M,j,none⟩:=fun j=>World.cell?_of_block (w:=w) (a:=⟨M,j,none⟩) hb
 exact⟨(hc 0).trans h.c0,(hc 1).trans h.c1,(hc 2).trans h.c2,(hc 3).trans h.c3,(hc 4).trans h.c4,(hc 5).trans h.c5,fun j=>(World.frozen?_of_block (w:=w) (a:=⟨M,j,none⟩) hb).trans (h.z j),Nat.lt_of_lt_of_le h.lt hs⟩
theorem I0 {w:World} {M i j:Nat} (u:Value) (h:i≠j):(w.setCell ⟨M,i,none⟩ u).cell? ⟨M,j,none⟩=w.cell? ⟨M,j,none⟩:=World.cell?_setCell_other _ _ _ _ (fun e=>h (by injection e))
theorem gN.set1 {w:World} {M:Nat} {g:PgR} {st:Int} {ov cv hv:Value} (h:gN w M g st ov cv hv) (st':Int):gN (w.setCell ⟨M,1,none⟩ (.int .i64 st')) M g st' ov cv hv :=
 ⟨(I0 _ Q7).trans h.c0,World.cell?_setCell_same _ _ _ h.c1,(I0 _ Q7).trans h.c2,(I0 _ Q7).trans h.c3,(I0 _ Q7).trans h.c4,(I0 _ Q7).trans h.c5,fun j=>(World.frozen?_setCell _ _ _ _).trans (h.z j),by simpa using h.lt⟩
theorem gN.set2 {w:World} {M:Nat} {g:PgR} {st:Int} {ov cv hv:Value} (h:gN w M g st ov cv hv) (v:Value):gN (w.setCell ⟨M,2,none⟩ v) M g st v cv hv :=
 ⟨(I0 _ Q7).trans h.c0,(I0 _ Q7).trans h.c1,World.cell?_setCell_same _ _ _ h.c2,(I0 _ Q7).trans h.c3,(I0 _ Q7).trans h.c4,(I0 _ Q7).trans h.c5,fun j=>(World.frozen?_setCell _ _ _ _).trans (h.z j),by simpa using h.lt⟩
theorem gN.set3 {w:World} {M:Nat} {g:PgR} {st:Int} {ov cv hv:Value} (h:gN w M g st ov cv hv) (v:Value):gN (w.setCell ⟨M,3,none⟩ v) M g st ov v hv :=
 ⟨(I0 _ Q7).trans h.c0,(I0 _ Q7).trans h.c1,(I0 _ Q7).trans h.c2,World.cell?_setCell_same _ _ _ h.c3,(I0 _ Q7).trans h.c4,(I0 _ Q7).trans h.c5,fun j=>(World.frozen?_setCell _ _ _ _).trans (h.z j),by simpa using h.lt⟩
theorem gN.set4 {w:World} {M:Nat} {g:PgR} {st:Int} {ov cv hv:Value} (h:gN w M g st ov cv hv) (v:Value):gN (w.setCell ⟨M,4,none⟩ v) M g st ov cv v :=
 ⟨(I0 _ Q7).trans h.c0,(I0 _ Q7).trans h.c1,(I0 _ Q7).trans h.c2,(I0 _ Q7).trans h.c3,World.cell?_setCell_same _ _ _ h.c4,(I0 _ Q7).trans h.c5,fun j=>(World.frozen?_setCell _ _ _ _).trans (h.z j),by simpa using h.lt⟩
structure sV (W w:World) (M rb:Nat) (a:Option Addr) (c:Nat) (bs:List Int) (g:PgR) (st:Int) (ov cv hv:Value) (s:Rs):Prop where
 mm:gN w M g st ov cv hv
 rd:F7 w rb a c bs s
 wr:A6 rb rb W w
 pg:M3 w.heap.size w g
 tab:Tab w
 M0:W.heap.size≤M
 gM:∀k,g.blk k→W.heap.size≤k∧k≠M
theorem sV.next {W w w':World} {M rb:Nat} {a:Option Addr} {c:Nat} {bs:List Int} {g:PgR} {st:Int} {ov cv hv:Value} {s s':Rs} (h:sV W w M rb a c bs g st ov cv hv s) (hl:rb < W.heap.size) (h0:rb≠0) (hr:F7 w' rb a c bs s') (hw:A6 rb rb w w'):sV W w' M rb a c bs g st ov cv hv s':=by
 have:=h.M0;exact⟨h.mm.kept hw.size (hw.block M h.mm.lt Q8 Q8),hr,h.wr.trans hw,h.pg.wrote (fun k hk=>by have:=h.gM k hk;omega) hw,h.tab.wrote h0 hw,h.M0,h.gM⟩
theorem sV.below {W w w':World} {M rb:Nat} {a:Option Addr} {c:Nat} {bs:List Int} {g:PgR} {st:Int} {ov cv hv:Value} {s:Rs} (h:sV W w M rb a c bs g st ov cv hv s) (hl:rb < W.heap.size) (h0:rb≠0) (hw:Below w.heap.size w w'):sV W w' M rb a c bs g st ov cv hv s :=
 h.next hl h0 (h.rd.later hw) (A6.of_below hw)
theorem sV.put {W w:World} {M rb:Nat} {a:Option Addr} {c:Nat} {bs:List Int} {g:PgR} {st st':Int} {ov cv hv ov' cv' hv':Value} {s s0:Rs} (hW:F7 W rb a c bs s0) (h:sV W w M rb a c bs g st ov cv hv s) (j:Nat) (v:Value) (hm:gN (w.setCell ⟨M,j,none⟩ v) M g st' ov' cv' hv'):sV W (w.setCell ⟨M,j,none⟩ v) M rb a c bs g st' ov' cv' hv' s:=by
 have hM0:=h.M0;have hz:=h.tab.1;have hWz:=hW.lt;refine⟨hm,hW.setNew h.rd hM0 j v,h.wr.setNew hM0 j v,h.pg.held Q9 fun k hk=>?_,h.tab.held Q9 ?_,hM0,h.gM⟩
 ·exact heap_setCell_other _ _ _ _ (show k≠M from (h.gM k hk).2)
 ·exact heap_setCell_other _ _ _ _ (show 0≠M by omega)
theorem sG {α:Type} (rd:Rs→α × Rs) (n:Int):∀(F:Nat) (acc:List α) (s:Rs),(acc.length:Int)≤n∨acc=[]→((D9 rd F n acc s).1.length:Int)≤n∨(D9 rd F n acc s).1=[]
 | 0,acc,s,h=>h
 | F+1,acc,s,h=>by
  by_cases hg:(acc.length:Int) < n∧s.f=false
  ·rw [aT hg]
   exact sG rd n F _ _ (Or.inl (by rw [List.length_append];simp;omega))
  ·rw [Y7 hg]
   exact h
theorem lY {α:Type} (rd:Rs→α × Rs) {n:Int} {m:Nat} (hn:n≤m) (F:Nat) (s:Rs):(D9 rd F n [] s).1.length≤m:=by
 rcases sG rd n F [] s (Or.inr rfl) with h | h
 ·omega
 ·rw [h];exact Nat.zero_le _
theorem a2k {bs:List Int} (hr:∀x,x∈bs→0≤x∧x < 256) (s:Rs) (h:(K4 bs s).1.1=2):0≤(K4 bs s).1.2:=by
 unfold K4 at h ⊢;split at h
 ·simp at h
 ·rename_i h0
  rw[if_neg h0];split at h
  ·simp at h
  ·rename_i h1
   rw[if_neg h1];split at h
   ·rename_i h2
    rw[if_pos h2];exact (T6 hr (most:=9223372036854775807) Q7 _).1
   ·simp at h
theorem nI {bs:List Int} (hr:∀x,x∈bs→0≤x∧x < 256) (n:Int) (s:Rs):∀x,x∈(N9 bs n s).1→x.1=2→0≤x.2:=fun x hx h2=>by
 rcases jC (K4 bs) _ _ _ _ x hx with h | ⟨s',rfl⟩
 ·cases h
 ·exact a2k hr s' h2
theorem a8x {bs:List Int} (hr:∀x,x∈bs→0≤x∧x < 256) (s:Rs):(bA bs s).1.2.length≤12∧∀x,x∈(bA bs s).1.2→x.1=2→0≤x.2 :=
 ⟨lY _ (a0v hr _ _) _ _,nI hr _ _⟩
theorem a6V {bs:List Int} (hr:∀x,x∈bs→0≤x∧x < 256) (s:Rs):(lX bs s).1.length≤40∧∀o,o∈(lX bs s).1→o.2.length≤12∧∀x,x∈o.2→x.1=2→0≤x.2:=by
 refine⟨lY _ (T6 hr (most:=40) Q7 s).2 _ _,fun o ho=>?_⟩;rcases jC (bA bs) _ _ _ _ o ho with h | ⟨s',rfl⟩
 ·cases h
 ·exact a8x hr s'
theorem sD {bs:List Int} (hr:∀x,x∈bs→0≤x∧x < 256) {l h pc:Int} (hl:l≤1000) (hh:h≤1000) (s:Rs):(Z8 bs l h pc s).1.2.1.length≤1000∧(Z8 bs l h pc s).1.2.2.length≤1000∧(∀x,x∈(Z8 bs l h pc s).1.2.1→x.1=2→0≤x.2)∧∀x,x∈(Z8 bs l h pc s).1.2.2→x.1=2→0≤x.2 :=
 ⟨lY _ Q8 _ _,lY _ Q8 _ _,nI hr _ _,nI hr _ _⟩
theorem a4P {M B2 E2 B4 E4 B8 E8:Nat} {R:McR} (hM:M < B2) (h22:B2≤E2) (h24:E2≤B4) (h44:B4≤E4) (h48:E4≤B8)
  (ho:∀b,R.ov.ownBlock=some b→B2≤b∧b < E2) (hc:∀b,R.cv.ownBlock=some b→B4≤b∧b < E4)
  (hf:∀(i:Nat) f t b,R.frs[i]?=some f→(f.val t).ownBlock=some b→(B4≤b∧b < E4)∧R.cv.ownBlock≠some b)
  (hfd:∀(k k':Nat) (t t':Bool) (f f':FrR) (b:Nat),(k < k'∨(k=k'∧t≠t'))→R.frs[k]?=some f→R.frs[k']?=some f'→(f.val t).ownBlock=some b→(f'.val t').ownBlock=some b→False)
  (hh:∀b,R.hv.ownBlock=some b→B8≤b∧b < E8) (hob:∀(j:Nat) o b,R.obs[j]?=some o→o.fv.ownBlock=some b→(B8≤b∧b < E8)∧R.hv.ownBlock≠some b)
  (hod:∀(i j:Nat) (o o':ObR) (b:Nat),i < j→R.obs[i]?=some o→R.obs[j]?=some o'→o.fv.ownBlock=some b→o'.fv.ownBlock=some b→False)
  (hd:R.dv.ownBlock=none):(∀b t t',J5 M R b t→J5 M R b t'→t=t')∧∀b t,J5 M R b t→M≤b∧(b=M∨b < E2∨(B4≤b∧b < E4)∨(B8≤b∧b < E8)):=by
 have iv:∀b t,J5 M R b t→(t=.mach∧b=M)∨(t=.out∧B2≤b∧b < E2)∨(((t=.called∧R.cv.ownBlock=some b)∨∃(i:Nat) (f:FrR) (u:Bool),R.frs[i]?=some f∧(f.val u).ownBlock=some b∧t=(if u=true then Tag.stk i else Tag.loc i))∧B4≤b∧b < E4)∨(((t=.slots∧R.hv.ownBlock=some b)∨∃(j:Nat) (o:ObR),R.obs[j]?=some o∧o.fv.ownBlock=some b∧t=.fld j)∧B8≤b∧b < E8):=by
  intro b t h
  cases t with
  | mach=>exact Or.inl ⟨rfl,h⟩
  | out=>exact Or.inr (Or.inl ⟨rfl,ho b h⟩)
  | called=>exact Or.inr (Or.inr (Or.inl ⟨Or.inl ⟨rfl,h⟩,hc b h⟩))
  | slots=>exact Or.inr (Or.inr (Or.inr ⟨Or.inl ⟨rfl,h⟩,hh b h⟩))
  | draws=>exact absurd (hd.symm.trans h) Q9
  | loc i =>
   obtain⟨f,hfi,hb⟩:=h;exact Or.inr (Or.inr (Or.inl ⟨Or.inr ⟨i,f,false,hfi,hb,rfl⟩,(hf i f false b hfi hb).1⟩))
  | stk i =>
   obtain⟨f,hfi,hb⟩:=h;exact Or.inr (Or.inr (Or.inl ⟨Or.inr ⟨i,f,true,hfi,hb,rfl⟩,(hf i f true b hfi hb).1⟩))
  | fld j =>
   obtain⟨o,hoj,hb⟩:=h;exact Or.inr (Or.inr (Or.inr ⟨Or.inr ⟨j,o,hoj,hb,rfl⟩,(hob j o b hoj hb).1⟩))
 constructor
 ·intro b t t' h h'
  rcases iv b t h with ⟨rfl,e⟩ | ⟨rfl,e⟩ | ⟨k,e⟩ | ⟨k,e⟩ <;> rcases iv b t' h' with ⟨rfl,e'⟩ | ⟨rfl,e'⟩ | ⟨k',e'⟩ | ⟨k',e'⟩ <;> try (first | rfl | (exfalso;omega))
  ·rcases k with ⟨rfl,k⟩ | ⟨i,f,u,k1,k2,rfl⟩ <;> rcases k' with ⟨rfl,k'⟩ | ⟨i',f',u',k1',k2',rfl⟩
   ·rfl
   ·exact absurd k (hf i' f' u' b k1' k2').2
   ·exact absurd k' (hf i f u b k1 k2).2
   ·rcases Nat.lt_trichotomy i i' with hl | rfl | hl
    ·exact (hfd i i' u u' f f' b (Or.inl hl) k1 k1' k2 k2').elim
    ·by_cases hu:u=u'
     ·rw [hu]
     ·exact (hfd i i u u' f f' b (Or.inr ⟨rfl,hu⟩) k1 k1' k2 k2').elim
    ·exact (hfd i' i u' u f' f b (Or.inl hl) k1' k1 k2' k2).elim
  ·rcases k with ⟨rfl,k⟩ | ⟨j,o,k1,k2,rfl⟩ <;> rcases k' with ⟨rfl,k'⟩ | ⟨j',o',k1',k2',rfl⟩
   ·rfl
   ·exact absurd k (hob j' o' b k1' k2').2
   ·exact absurd k' (hob j o b k1 k2).2
   ·rcases Nat.lt_trichotomy j j' with hl | rfl | hl
    ·exact (hod j j' o o' b hl k1 k1' k2 k2').elim
    ·rfl
    ·exact (hod j' j o' o b hl k1' k1 k2' k2).elim
 ·intro b t h
  rcases iv b t h with ⟨_,e⟩ | ⟨_,e⟩ | ⟨_,e⟩ | ⟨_,e⟩ <;> omega
def FrB (f:FrA):Prop:=f.loc.length≤1000∧f.stk.length≤1000∧(∀x,x∈f.loc→x.1=2→0≤x.2)∧∀x,x∈f.stk→x.1=2→0≤x.2
theorem a0p {g:PgR} (hok:F2 g) {fn pc:Nat} (hfn:fn < g.n) (hpc:pc < (g.f fn).n):0≤G1 ((g.f fn).op pc) (g.f ((g.f fn).ar pc).toNat).p∧G1 ((g.f fn).op pc) (g.f ((g.f fn).ar pc).toNat).p≤8 :=
 pF _ _ fun e=>by
  have h1:=L9 (hok.legal fn hfn pc hpc) e;have h2:=hok.sized.bd (i:=((g.f fn).ar pc).toNat) Q8;omega
theorem zO {g:PgR} (hok:F2 g) {fn:Nat} (hfn:fn < g.n) (pc:Nat):N7 (A7 g (g.f fn)) pc≤18:=by
 by_cases h:∃b,(A7 g (g.f fn)).Reach pc b
 ·obtain ⟨b,hb⟩:=h
  have hf:=hok.fits fn hfn;rw[bT hf hb];obtain⟨h0,_,h1⟩:=hf.1 pc b hb;have h2:0≤(A7 g (g.f fn)).push pc:=(M7 _).1;have h3:(A7 g (g.f fn)).pop pc≤8:=(a0p hok hfn h0).2;unfold E6.behind at h1;omega
 ·rw [lI h]
  omega
theorem a4S {bs:List Int} (hr:∀x,x∈bs→0≤x∧x < 256) {g:PgR} (hok:F2 g) {fn:Nat} (hfn:fn < g.n) (calls:Bool) (s:Rs) {pc:Int} {loc stk:List Val} {s2:Rs} (he:F9 bs g fn calls s=((pc,loc,stk),s2)):FrB ⟨fn,pc.toNat,loc,stk⟩:=by
 have hn1:=(hok.sized.bd hfn).1;have hl:=(hok.sized.bd hfn).2.2.2.1;have hp:=nH hr hn1 calls s;have e1:(F9 bs g fn calls s).1.1=(F3 bs g fn s).1:=by
  unfold F9;split <;> rfl
 rw[e1] at hp;have hh:=zO hok hfn (F3 bs g fn s).1.toNat;have hpp:=a0p hok hfn (pc:=(F3 bs g fn s).1.toNat) Q8;have key:(F9 bs g fn calls s).1.2.1.length≤1000∧(F9 bs g fn calls s).1.2.2.length≤1000∧(∀x,x∈(F9 bs g fn calls s).1.2.1→x.1=2→0≤x.2)∧∀x,x∈(F9 bs g fn calls s).1.2.2→x.1=2→0≤x.2:=by
  unfold F9;split
  ·exact sD hr Q8 Q8 _
  ·exact sD hr Q8 Q8 _
 rw[he] at key;exact key
theorem a8v {bs:List Int} (hr:∀x,x∈bs→0≤x∧x < 256) {g:PgR} (hok:F2 g):∀(n:Nat) (fn:Int) (acc:List FrA) (s:Rs),(s.f=true∨n=0∨(0≤fn∧fn < g.n))→acc.length+n≤12→(∀f,f∈acc→FrB f)→(dH bs g n fn acc s).1.length≤12∧∀f,f∈(dH bs g n fn acc s).1→FrB f:=by
 intro n
 induction n with
 | zero =>
  intro fn acc s _ hl ha;exact⟨by simpa [dH] using hl,ha⟩
 | succ m ih =>
  intro fn acc s hv hl ha
  cases hf:s.f
  ·obtain ⟨k,rfl⟩:∃k:Nat,fn=k:=Int.eq_ofNat_of_zero_le (by rcases hv with e | e | e;(rw [hf] at e;cases e);omega;exact e.1)
   have hk:k < g.n:=by rcases hv with e | e | e;(rw [hf] at e;cases e);omega;omega
   obtain⟨⟨⟨pc,loc,stk⟩,s2⟩,hr2⟩:∃r,F9 bs g k (decide ((1:Int) < ((m+1:Nat):Int))) s=r:=⟨_,rfl⟩
   rw[pG Q8 k acc hf hr2];have hp:=nH hr (hok.sized.bd hk).1 (decide ((1:Int) < ((m+1:Nat):Int))) s;rw[hr2] at hp;simp only at hp;refine ih _ _ _ ?_ (by rw [List.length_append];simp;omega) fun f hf'=>?_
   ·cases e2:s2.f
    ·by_cases hm:m=0
     ·exact Or.inr (Or.inl Q8)
     ·have hd:decide ((1:Int) < ((m+1:Nat):Int))=true:=decide_eq_true Q8
      rw[hd] at hr2;have:=oD (bs:=bs) (g:=g) (fn:=k) (s:=s) (by rw [hr2];exact e2);rw[hr2] at this;exact Or.inr (Or.inr (L9 (hok.legal k hk pc.toNat Q8) this))
    ·exact Or.inl rfl
   ·rcases List.mem_append.1 hf' with h | h
    ·exact ha f h
    ·rw [List.mem_singleton] at h
     rw[h];exact a4S hr hok hk _ s hr2
  ·rw [dH,if_pos hf]
   exact⟨by show acc.length≤12;omega,ha⟩
theorem a2j {bs:List Int} (hr:∀x,x∈bs→0≤x∧x < 256) {g:PgR} (hok:F2 g) (s:Rs):(bV bs g s).1.length≤12∧∀f,f∈(bV bs g s).1→FrB f:=by
 have h:=T6 hr (most:=12) Q7 s;have hg:=hok.sized.1;exact a8v hr hok _ _ _ _ (Or.inr (Or.inr ⟨Int.le_refl 0,by omega⟩)) Q5 (fun f hf=>by cases hf)
def rM1 (bs:List Int) (s:Rs):Int × Rs:=D7 bs 7 (cO bs s).2
def rM2 (bs:List Int) (s:Rs):List Int × Rs:=tO bs (rM1 bs s).2
noncomputable def rM3 (bs:List Int) (g:PgR) (s:Rs):List FrA × Rs:=bV bs g (rM2 bs s).2
noncomputable def rM4 (bs:List Int) (g:PgR) (s:Rs):Rs:=E9 (rM3 bs g s).2 (((rM1 bs s).1 == 1) == ((rM3 bs g s).1.length == 0))
noncomputable def rM5 (bs:List Int) (g:PgR) (s:Rs):List ObL × Rs:=lX bs (rM4 bs g s)
noncomputable def rM6 (bs:List Int) (g:PgR) (s:Rs):Rs:=E9 (rM5 bs g s).2 ((rM5 bs g s).2.p == bs.length)
def T9 (B M:Nat) (w w':World):Prop:=w.heap.size≤w'.heap.size∧∀b,B≤b→b≠M→b < w.heap.size→w'.heap[b]?=w.heap[b]?
theorem T9.trans {B M:Nat} {u v w:World} (h:T9 B M u v) (k:T9 B M v w):T9 B M u w:=⟨Nat.le_trans h.1 k.1,fun b h1 h2 h3=>(k.2 b h1 h2 (Nat.lt_of_lt_of_le h3 h.1)).trans (h.2 b h1 h2 h3)⟩
theorem T9.wrote {B M rb:Nat} {u v:World} (hr:rb < B) (h:A6 rb rb u v):T9 B M u v:=⟨h.size,fun b h1 _ h3=>h.block b h3 Q8 Q8⟩
theorem T9.set {B M:Nat} (u:World) (j:Nat) (v:Value):T9 B M u (u.setCell ⟨M,j,none⟩ v):=⟨by simp,fun b _ h2 _=>heap_setCell_other _ _ _ _ h2⟩
theorem vO {R:McR} (h:pO R):(A0 R.abs).length≤R.obs.length:=by
 have hw:kD (R.obs.map ObR.abs):=fun o ho v hv h2=>by
  obtain⟨o',ho',rfl⟩:=List.mem_map.1 ho;rw[List.length_map];exact ((h.refs o' ho').1 v hv h2).2
 have hr:Z6 (R.obs.map ObR.abs) (I5 R.frs) (E3 (R.obs.map ObR.abs) (I5 R.frs)):=dX hw fun v hv h2=>by
  rw[List.length_map];exact (h.roots v hv h2).2
 have e:A0 R.abs=E3 (R.obs.map ObR.abs) (I5 R.frs):=by
  unfold A0;rw[← eA];rfl
 rw[e];have:=K5 hr.nodup hr.lt;rwa [List.length_map] at this
theorem a8s {R:McR} (h1:R.obs.length≤40) (h2:R.frs.length≤12) (h3:∀o,o∈R.obs→o.fl.length≤12∧∀x,x∈o.fl→x.1=2→0≤x.2) (h4:∀f,f∈R.frs→FrB f.abs):a5F R:=by
 refine⟨by omega,by omega,fun q v l t hv=>?_,fun q v l t hv=>?_⟩ <;> rcases hv with ⟨i,f,hf,_,rfl,rfl,_⟩ | ⟨i,f,hf,_,rfl,rfl,_⟩ | ⟨j,o,ho,_,rfl,rfl,_⟩
 ·exact (h4 f (List.mem_of_getElem? hf)).1
 ·exact (h4 f (List.mem_of_getElem? hf)).2.1
 ·have:=(h3 o (List.mem_of_getElem? ho)).1
  omega
 ·exact (h4 f (List.mem_of_getElem? hf)).2.2.1
 ·exact (h4 f (List.mem_of_getElem? hf)).2.2.2
 ·exact (h3 o (List.mem_of_getElem? ho)).2
theorem tR {W:World} {rb c:Nat} {a:Option Addr} {bs:List Int} {s:Rs} (h:F7 W rb a c bs s) (ht:Tab W) (h0:rb≠0) (hchk:∀g,a0X g (cO bs s).1→N6 g 0 0) :
  Calls Tryz.prog 51 #[.pointer (some ⟨rb,0,none⟩)] W fun e w'=>∃own mb g R b,J1 rb a c bs (E9 (rM6 bs g s) b) (.pointer (some ⟨mb,0,none⟩)) W e w'∧A3 w' own mb g R∧a0X g (cO bs s).1∧R.abs=⟨(rM1 bs s).1,(rM2 bs s).1,(rM3 bs g s).1,(rM5 bs g s).1,[]⟩∧(b=true↔cB R)∧F1 R∧(∀k,g.blk k→W.heap.size≤k)∧∀b t,own b=some t→W.heap.size≤b:=by
 have hlt:=h.lt;have HW:=hid h;have HRNG:=hid h.rng;have HP:=hid (xJ h ht h0);have HT:=hid ht;have HCK:=hid hchk;have H1:Hid (rM1 bs s=D7 bs 7 (cO bs s).2):=hid rfl;have HQ2:Hid (rM2 bs s=tO bs (rM1 bs s).2):=hid rfl;have HQ3:Hid (∀g,rM3 bs g s=bV bs g (rM2 bs s).2):=hid fun _=>rfl
 have HQ4:Hid (∀g,rM4 bs g s=E9 (rM3 bs g s).2 (((rM1 bs s).1 == 1) == ((rM3 bs g s).1.length == 0))):=hid fun _=>rfl
 clear h ht hchk;go_enter Tryz.func51,Tryz.ntmps51;go_wp2_with fail;refine HP.out.mono ?_;rintro e w1 ⟨g,x,y,⟨rfl,h1,h2⟩,hpi,hbl,his,hck⟩;obtain⟨rfl,rfl⟩:=hck.unique (HCK.out g his);have hok:F2 g:=xB hck;have e0:E9 (cO bs s).2 ((0:Int) == 0)=(cO bs s).2:=rfl;rw[e0] at h1;have hB1:Below w1.heap.size w1 (w1.alloc (.cells #[.slice g.a g.n g.c,.int .i64 0,.slice none 0 0,.slice none 0 0,.slice none 0 0,.slice none 0 0] 81)):=Below.alloc (Below.refl _ _) (Nat.le_refl _) _
 have hW1:=(h2.trans (A6.of_below hB1):A6 rb rb W _);have hs1:W.heap.size≤w1.heap.size:=h2.size;have S1:Hid (sV W (w1.alloc (.cells #[.slice g.a g.n g.c,.int .i64 0,.slice none 0 0,.slice none 0 0,.slice none 0 0,.slice none 0 0] 81)) w1.heap.size rb a c bs g 0 (.slice none 0 0) (.slice none 0 0) (.slice none 0 0) (cO bs s).2) :=
  hid ⟨⟨by go_simp,by go_simp,by go_simp,by go_simp,by go_simp,by go_simp,fun j=>by go_simp,by simp⟩,h1.later hB1,hW1,hpi.held hB1.size (fun k hk=>hB1.block k (hpi.blk_lt hk)),HT.out.wrote h0 hW1,hs1,fun k hk=>⟨hbl k hk,by have:=hpi.blk_lt hk;omega⟩⟩
 have HGB2:Hid (∀k,g.blk k→W.heap.size≤k):=hid hbl;have HGB:Hid (∀k,g.blk k→k < w1.heap.size):=hid fun k hk=>hpi.blk_lt hk
 have HU:=hid (aY S1.out.rd 7 Q7);simp only[show ((7:Nat):Int)=7 from rfl] at HU;have HIS:=hid his;have HOK:=hid hok;rw[← H1.out] at HU;generalize hq1:rM1 bs s=q1 at *
 have HE1:=hid hq1;clear hq1;clear h1 h2 hpi hbl his hck hok e0 hB1 hW1 HP HCK H1;go_wp2_with fail;refine HU.out.mono ?_;rintro e w2 ⟨rfl,h3,h4⟩;have S2:=hid (S1.out.next hlt h0 h3 h4);clear h3 h4 HU S1;have hM0:=S2.out.M0;have hMr:w1.heap.size≠rb:=by omega
 have y1:=S2.out.mm.c1;have z1:=S2.out.mm.z 1;have l2:=S2.out.mm.lt;have c5:=S2.out.rd.c5;have lr:=S2.out.rd.lt;have S3:=hid (S2.out.put HW.out 1 (.int .i64 q1.1) (S2.out.mm.set1 q1.1));have HO:=hid (a7e S3.out.rd);have H2:Hid (rM2 bs s=tO bs q1.2):=HQ2;rw[← H2.out] at HO;generalize hq2:rM2 bs s=q2 at *
 have HE2:=hid hq2;clear hq2;go_wp2_with fail;refine HO.out.mono ?_;rintro e w4 ⟨ov,⟨rfl,h5,h6⟩,hov,hnil⟩;obtain⟨oa,oc,rfl⟩:=B0 hov;have HNIL:Hid (q2.1=[]→Value.slice oa q2.1.length oc=.slice none 0 0):=hid hnil;clear hnil;have S4:=hid (S3.out.next hlt h0 h5 h6);have HS24:=hid h6.size;have HOV:=hid hov;have HL2:=hid S3.out.mm.lt;clear h5 h6 hov HO y1 z1 l2 c5 lr S3 S2;have y2:=S4.out.mm.c2;have z2:=S4.out.mm.z 2
 have l4:=S4.out.mm.lt;have y0:=S4.out.mm.c0;have lr:=S4.out.rd.lt;have S5:=hid (S4.out.put HW.out 2 (.slice oa q2.1.length oc) (S4.out.mm.set2 _));have HF:=hid (a0B S5.out.rd S5.out.pg HOK.out S5.out.tab h0 (fun k hk=>by have:=S5.out.gM k hk;omega));rw[← HQ3.out g] at HF;generalize hq3:rM3 bs g s=q3 at *
 go_wp2_with fail;refine HF.out.mono ?_;rintro e w6 ⟨cv,fl,⟨rfl,h7,h8⟩,hfr,hfl⟩;obtain⟨ca,cc,rfl⟩:=B0 hfr.row;have S6:=hid (S5.out.next hlt h0 h7 h8);have HFR:=hid hfr;have HFL:=hid hfl;have HL4:=hid S5.out.mm.lt;have K46:Hid (T9 W.heap.size w1.heap.size w4 w6):=hid ((T9.set _ _ _).trans (T9.wrote hlt h8));clear h7 h8 hfr hfl HF y2 z2 l4 y0 lr S5 S4;have y3:=S6.out.mm.c3;have z3:=S6.out.mm.z 3
 have l6:=S6.out.mm.lt;have y1:=S6.out.mm.c1;have lr:=S6.out.rd.lt;have S7:=hid (S6.out.put HW.out 3 (.slice ca fl.length cc) (S6.out.mm.set3 _));go_wp2_with fail;have K67:Hid (T9 W.heap.size w1.heap.size w6 (w6.setCell ⟨w1.heap.size,3,none⟩ (.slice ca fl.length cc))):=hid (T9.set _ _ _);generalize w6.setCell ⟨w1.heap.size,3,none⟩ (.slice ca fl.length cc)=w7 at *
 clear y3 z3 l6 y1 lr S6;have y1:=S7.out.mm.c1;have y3:=S7.out.mm.c3;have l7:=S7.out.mm.lt;have E4:Hid (rM4 bs g s=E9 q3.2 ((q1.1 == 1) == ((fl.length:Int) == 0))):=by
  refine hid ?_;rw[HQ4.out g,hq3];congr 2
  rw[← HFL.out,List.length_map];rw[Bool.eq_iff_iff];simp only[beq_iff_eq];omega
 have HRE:Hid (∀V,Below w7.heap.size w7 V→F7 V rb a c bs q3.2):=hid fun V hV=>S7.out.rd.later hV
 go_region_held3 (fun u=>u.cell? ⟨w1.heap.size,1,none⟩=some (.int .i64 q1.1)∧u.cell? ⟨w1.heap.size,3,none⟩=some (.slice ca fl.length cc)) (first | go_keep | exact ⟨y1,y3⟩ | exact ⟨s1,s3⟩) (first | (go_at_call 82;refine (M5 (HRE.out _ P5) _).mono ?_;rintro e w8 ⟨rfl,h9,h10⟩;have S8:=hid ((S7.out.below hlt h0 P5).next hlt h0 h9 h10);have K78:Hid (T9 W.heap.size w1.heap.size w7 w8):=hid ((T9.wrote hlt (A6.of_below P5)).trans (T9.wrote hlt h10));have s1:=S8.out.mm.c1;have s3:=S8.out.mm.c3;clear h9 h10))
 rename_i hHeld
 clear hHeld s1 s3 y1 y3 l7 S7 HRE;rw[← E4.out] at S8;have H5:Hid (rM5 bs g s=lX bs (rM4 bs g s)):=hid rfl;have H6:Hid (rM6 bs g s=E9 (rM5 bs g s).2 ((rM5 bs g s).2.p == bs.length)):=hid rfl;have HO:=hid (xI S8.out.rd);rw[← H5.out] at HO;have HBD:=hid (a6V HRNG.out (rM4 bs g s));rw[← H5.out] at HBD;generalize hq5:rM5 bs g s=q5 at *
 clear E4 H5;go_wp2_with fail;refine HO.out.mono ?_;rintro e w9 ⟨hv,ol,⟨rfl,h11,h12⟩,hor,hol⟩;obtain⟨ha,hc,rfl⟩:=B0 hor.row;have S9:=hid (S8.out.next hlt h0 h11 h12);have K89:Hid (T9 W.heap.size w1.heap.size w8 w9):=hid (T9.wrote hlt h12);have HOR:=hid hor;have HOL:=hid hol;have HL8:=hid S8.out.mm.lt;clear h11 h12 hor hol HO S8;have y4:=S9.out.mm.c4;have z4:=S9.out.mm.z 4;have l9:=S9.out.mm.lt
 have lr:=S9.out.rd.lt;have S10:=hid (S9.out.put HW.out 4 (.slice ha ol.length hc) (S9.out.mm.set4 _));have K910:Hid (T9 W.heap.size w1.heap.size w9 (w9.setCell ⟨w1.heap.size,4,none⟩ (.slice ha ol.length hc))):=hid (T9.set _ _ _);go_wp2_with fail;generalize w9.setCell ⟨w1.heap.size,4,none⟩ (.slice ha ol.length hc)=w10 at *
 clear y4 z4 l9 lr S9;have HAE:Hid (∀V,Below w10.heap.size w10 V→Calls Tryz.prog 84 #[.pointer (some ⟨rb,0,none⟩)] V fun e w'=>e=.returned (.bool (q5.2.p == bs.length))∧Below V.heap.size V w'):=hid fun V hV=>a3B (S10.out.rd.later hV)
 go_region_with (first | (go_at_call 84;refine (HAE.out _ P5).mono ?_;rintro e w11 ⟨rfl,hb11⟩;have HB11:Hid (Below w10.heap.size w10 w11):=A1 hb11 P5;clear hb11) | (go_at_call 82;refine (M5 (S10.out.rd.later HB11.out) _).mono ?_;rintro e w12 ⟨rfl,h13,h14⟩;have S12:=hid ((S10.out.below hlt h0 HB11.out).next hlt h0 h13 h14);have K1012:Hid (T9 W.heap.size w1.heap.size w10 w12):=hid ((T9.wrote hlt (A6.of_below HB11.out)).trans (T9.wrote hlt h14));clear h13 h14))
 have K412:Hid (T9 W.heap.size w1.heap.size w4 w12):=hid (K46.out.trans (K67.out.trans (K78.out.trans (K89.out.trans (K910.out.trans K1012.out)))));have K612:Hid (T9 W.heap.size w1.heap.size w6 w12):=hid (K67.out.trans (K78.out.trans (K89.out.trans (K910.out.trans K1012.out))));have K912:Hid (T9 W.heap.size w1.heap.size w9 w12):=hid (K910.out.trans K1012.out);have HMA:Hid (∃own,A3 w12 own w1.heap.size g ⟨q1.1,.slice oa q2.1.length oc,q2.1,.slice ca fl.length cc,fl,.slice ha ol.length hc,ol,.slice none 0 0,[]⟩∧∀b t,own b=some t→w1.heap.size≤b):=by
  refine hid ?_;have l2:=HL2.out;have l4:=HL4.out;have l8:=HL8.out;have s46:=K46.out.1;have s412:=K412.out.1;have s612:=K612.out.1;have s912:=K912.out.1;have s68:w6.heap.size≤w8.heap.size:=Nat.le_trans K67.out.1 K78.out.1;have s24:=HS24.out;have s89:=K89.out.1;have e2:(w4.setCell ⟨w1.heap.size,2,none⟩ (.slice oa q2.1.length oc)).heap.size=w4.heap.size:=by simp
  have hfr:=HFR.out;rw[e2] at hfr l4;have hor:=HOR.out;generalize hB2:(w2.setCell ⟨w1.heap.size,1,none⟩ (.int .i64 q1.1)).heap.size=B2 at *
  have hov:=HOV.out;obtain⟨hfun,hiv⟩:=a4P (M:=w1.heap.size) (B2:=B2) (E2:=w4.heap.size) (B4:=w4.heap.size) (E4:=w6.heap.size) (B8:=w8.heap.size) (E8:=w9.heap.size) (R:=⟨q1.1,.slice oa q2.1.length oc,q2.1,.slice ca fl.length cc,fl,.slice ha ol.length hc,ol,.slice none 0 0,[]⟩) l2 s24 (Nat.le_refl _) s46 s68
   (fun b hb=>hov.lt b hb) (fun b hb=>hfr.row.lt b hb) (fun i f t b hi hb=>⟨(hfr.val f (List.mem_of_getElem? hi) t).1.lt b hb,fun e=>(hfr.val f (List.mem_of_getElem? hi) t).2 b e hb⟩) hfr.dis
   (fun b hb=>hor.row.lt b hb) (fun j o b hj hb=>⟨(hor.code o (List.mem_of_getElem? hj)).1.lt b hb,fun e=>(hor.code o (List.mem_of_getElem? hj)).2 b e hb⟩) hor.dis rfl
  have up4:∀{B e size n:Nat} {v:Value} {xs:List Value},w4.ownsRow B e size v n xs→w1.heap.size < B→w12.ownsRow 0 e size v n xs:=fun hr hB=>C5 (A2 hr fun b hb=>K412.out.2 b (by have:=hr.lt b hb;omega) (by have:=hr.lt b hb;omega) (hr.lt b hb).2) (Nat.zero_le _)
  have up6:∀{B e size n:Nat} {v:Value} {xs:List Value},w6.ownsRow B e size v n xs→w1.heap.size < B→w12.ownsRow 0 e size v n xs:=fun hr hB=>C5 (A2 hr fun b hb=>K612.out.2 b (by have:=hr.lt b hb;omega) (by have:=hr.lt b hb;omega) (hr.lt b hb).2) (Nat.zero_le _)
  have up9:∀{B e size n:Nat} {v:Value} {xs:List Value},w9.ownsRow B e size v n xs→w1.heap.size < B→w12.ownsRow 0 e size v n xs:=fun hr hB=>C5 (A2 hr fun b hb=>K912.out.2 b (by have:=hr.lt b hb;omega) (by have:=hr.lt b hb;omega) (hr.lt b hb).2) (Nat.zero_le _)
  have mm:=S12.out.mm;have lM:=mm.lt;obtain⟨own,hm,ho⟩:=fO (w:=w12) (mb:=w1.heap.size) (g:=g) hfun (fun b t hb=>by have:=hiv b t hb;omega) mm.c0 mm.c1 mm.c2 mm.c3 mm.c4 mm.c5 mm.z
   (up4 hov l2) (up6 hfr.row l4) (up9 hor.row l8) (World.ownsRow_nil _ _ _ _) (fun i f hf=>up6 (hfr.val f (List.mem_of_getElem? hf) false).1 l4) (fun i f hf=>up6 (hfr.val f (List.mem_of_getElem? hf) true).1 l4) (fun j o hj=>up9 (hor.code o (List.mem_of_getElem? hj)).1 l8)
   S12.out.pg (fun k hk t hp=>by have:=HGB.out k hk;have:=hiv k t hp;omega) S12.out.tab (fun t hp=>by have:=hiv 0 t hp;omega)
  exact⟨own,hm,fun b t hb=>(hiv b t ((ho b t).1 hb)).1⟩
 obtain⟨own,hmach,hown⟩:=HMA.out;have hfb:=a2j HRNG.out HOK.out q2.2;rw[← HQ3.out g,hq3] at hfb;have hpk:a5F ⟨q1.1,.slice oa q2.1.length oc,q2.1,.slice ca fl.length cc,fl,.slice ha ol.length hc,ol,.slice none 0 0,[]⟩:=by
  refine a8s ?_ ?_ (fun o ho=>?_) (fun f hf=>?_)
  ·have:=HBD.out.1
   rw[← HOL.out,List.length_map] at this;exact this
  ·have:=hfb.1
   rw[← HFL.out,List.length_map] at this;exact this
  ·have:=HBD.out.2 o.l (by rw [← HOL.out];exact List.mem_map_of_mem ho)
   exact this
  ·exact hfb.2 f.abs (by rw [← HFL.out];exact List.mem_map_of_mem hf)
 have HABS:Hid (McR.abs ⟨q1.1,.slice oa q2.1.length oc,q2.1,.slice ca fl.length cc,fl,.slice ha ol.length hc,ol,.slice none 0 0,[]⟩=⟨q1.1,q2.1,q3.1,q5.1,[]⟩):=by
  refine hid ?_;show McA.mk q1.1 q2.1 (fl.map FrR.abs) (ol.map ObR.abs) []=_;rw[HFL.out,show ol.map ObR.abs=ol.map ObR.l from rfl,HOL.out]
 have HNO:Hid (F1 ⟨q1.1,.slice oa q2.1.length oc,q2.1,.slice ca fl.length cc,fl,.slice ha ol.length hc,ol,.slice none 0 0,[]⟩):=hid HNIL.out;generalize (McR.mk q1.1 (.slice oa q2.1.length oc) q2.1 (.slice ca fl.length cc) fl (.slice ha ol.length hc) ol (.slice none 0 0) [])=R at *
 have HIP:Hid (∀V,Below w12.heap.size w12 V→Calls Tryz.prog 85 #[.pointer (some ⟨w1.heap.size,0,none⟩)] V fun e w'=>∃b,e=.returned (.bool b)∧Below V.heap.size V w'∧(b=true↔cB R)):=hid fun V hV=>wP (hmach.same hV.size fun k hk=>hV.block k hk) hpk (fun ha=>by have:=vO (hpk.free ha);have:=hpk.n;omega)
 have HMACH:=hid hmach;have HOWN:=hid hown;clear hmach hown hpk hfb HMA K46 K67 K78 K89 K910 K1012 K412 K612 K912 HOV HFR HOR HFL HOL HBD S10 HB11 HAE;go_wp2_with fail;go_region_with (first | (go_at_call 85;refine (HIP.out _ P5).mono ?_;rintro e w13 ⟨b,rfl,hb13,hbi⟩;have HB13:Hid (Below w12.heap.size w12 w13):=A1 hb13 P5;have HBI:=hid hbi;clear hb13 hbi) | (go_at_call 82;refine (M5 (S12.out.rd.later HB13.out) _).mono ?_;rintro e w14 ⟨rfl,h15,h16⟩;have H15:=hid h15;have H16:=hid h16;clear h15 h16))
 all_goals
  go_wp2_with fail;go_ret;refine⟨own,w1.heap.size,g,R,b,⟨rfl,?_,?_⟩,?_,HIS.out,?_,HBI.out,HNO.out,HGB2.out,fun k t hk=>Nat.le_trans hs1 (HOWN.out k t hk)⟩
  ·rw [H6.out]
   exact H15.out
  ·exact (S12.out.wr.trans (A6.of_below HB13.out)).trans H16.out
  ·refine (HMACH.out.same HB13.out.size fun k hk=>HB13.out.block k hk).beside H16.out.size fun k hk hs=>?_
   have hkr:k≠rb:=by
    rcases hs with hs | hs | hs
    ·cases e:own k with
     | none=>exact absurd e hs
     | some t=>have:=HOWN.out k t e;omega
    ·have:=S12.out.gM k hs;omega
    ·omega
   exact H16.out.block k hk hkr hkr
  ·rw [HE1.out,HE2.out,hq3,hq5]
   exact HABS.out
theorem a6y {W:World} {lb b k:Nat} {c n x:Nat} (h0:W.cell? ⟨lb,0,none⟩=some (.slice (some ⟨b,0,none⟩) n c)) (hk:k < n) (h1:W.cell? ⟨b,k,none⟩=some (.int .i64 (x:Int))) :
  Calls Tryz.prog 88 #[.int .i64 (k:Int),.pointer (some ⟨lb,0,none⟩)] W fun e w'=>e=.returned (.int .i64 (x:Int))∧w'=W:=by
 go_enter Tryz.func88,Tryz.ntmps88;go_wp2_with fail;go_ret;exact⟨rfl,rfl⟩
end Go.Proofs.YtbkmgoffiigdbabGreatDoor
