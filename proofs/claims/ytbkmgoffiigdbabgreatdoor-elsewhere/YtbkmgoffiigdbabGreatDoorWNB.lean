import Derived.Test.YtbkmgoffiigdbabGreatDoorWNA
namespace Go.Proofs.YtbkmgoffiigdbabGreatDoor
open Go.RowKit
set_option maxHeartbeats 400000
def Own.upd (own:Own) (b:Option Nat) (t:Tag):Own:=fun k=>if b=some k then some t else own k
theorem Own.upd_none (own:Own) (t:Tag):own.upd none t=own:=by funext k;simp [Own.upd]
theorem Own.upd_same {own:Own} {b:Nat} {t:Tag} (h:own b=some t):own.upd (some b) t=own:=by
 funext k;unfold Own.upd;split
 ·rename_i e;cases e;exact h.symm
 ·rfl
def M2 (w:World) (own:Own) (v:Value) (t:Tag):Prop:=∀b,v.ownBlock=some b→own b=some t∨w.heap.size≤b
theorem Own.upd_old {w:World} {own:Own} {v:Value} {t:Tag} (h:M2 w own v t) {k:Nat} (hk:k < w.heap.size):own.upd v.ownBlock t k=own k:=by
 unfold Own.upd;split
 ·rename_i e
  rcases h k e with h1 | h1
  ·exact h1.symm
  ·omega
 ·rfl
theorem Own.upd_lt {w w':World} {own:Own} {v:Value} {t:Tag} {base e size n:Nat} {xs:List Value} (hlt:∀k t,own k=some t→k < w.heap.size) (hs:w.heap.size≤w'.heap.size) (hv:w'.ownsRow base e size v n xs) :
  ∀k u,own.upd v.ownBlock t k=some u→k < w'.heap.size:=by
 intro k u h;unfold Own.upd at h;split at h
 ·rename_i e;exact (hv.lt k e).2
 ·exact Nat.lt_of_lt_of_le (hlt k u h) hs
theorem Row.upd {w w':World} {own:Own} {v:Value} {t s:Tag} {e size n:Nat} {xs:List Value} {v':Value} (hlt:∀k t,own k=some t→k < w.heap.size) (hon:M2 w own v' t) (h:Row w own s e size v n xs) (hk:∀k,own k=some s→w'.heap[k]?=w.heap[k]?) :
  Row w' (own.upd v'.ownBlock t) s e size v n xs :=
 h.kept fun k hs=>⟨hk k hs,by rw [Own.upd_old hon (hlt k s hs)];exact hs⟩
theorem A3.top {w:World} {own:Own} {mb:Nat} {g:PgR} {R:McR} {fs:List FrR} {f:FrR} (h:A3 w own mb g R) (hf:R.frs=fs++[f]) :
  ∃cb cc,R.cv=.slice (some ⟨cb,0,none⟩) (fs.length+1) cc∧own cb=some .called∧cb < w.heap.size∧(∀j,w.frozen? ⟨cb,j,none⟩=false) ∧
   w.cell? ⟨cb,fs.length*4,none⟩=some (.int .i64 f.fn)∧w.cell? ⟨cb,fs.length*4+1,none⟩=some (.int .i64 f.pc)∧w.cell? ⟨cb,fs.length*4+2,none⟩=some f.lv∧w.cell? ⟨cb,fs.length*4+3,none⟩=some f.sv:=by
 have hc:=h.called;rw[hf] at hc;obtain⟨cb,cc,hv,_,hlt⟩:=hc.1.form Q9;have hl:(fs++[f]).length=fs.length+1:=by simp
 rw[hl] at hc hv;rw[hv] at hc;have hg:(fs++[f])[fs.length]?=some f:=by simp
 have hcell:∀j,j < 4→w.cell? ⟨cb,fs.length*4+j,none⟩=f.cells[j]?:=fun j hj=>by
  rw[hc.1.cellAt _ Q8];exact C3 FrR.cells_len hg hj
 exact⟨cb,cc,hv,hc.2 cb rfl,hlt,fun j=>hc.1.frozenAt j,hcell 0 Q8,hcell 1 Q8,hcell 2 Q8,hcell 3 Q8⟩
theorem A3.setTop {w w':World} {own:Own} {mb:Nat} {g:PgR} {R:McR} {fs:List FrR} {f f':FrR} (h:A3 w own mb g R) (hf:R.frs=fs++[f]) (hlv:f'.lv=f.lv) (hloc:f'.loc=f.loc) (hsize:w.heap.size≤w'.heap.size)
  (hk:∀k,k < w.heap.size→own k≠some .called→own k≠some (.stk fs.length)→w'.heap[k]?=w.heap[k]?)
  (hcalled:w'.ownsRow 0 83 4 R.cv (fs.length+1) ((fs++[f']).flatMap FrR.cells)) (hst:w'.ownsRow 0 73 2 f'.sv f'.stk.length (A5 f'.stk)) (hon:M2 w own f'.sv (.stk fs.length)) :
  A3 w' (own.upd f'.sv.ownBlock (.stk fs.length)) mb g { R with frs:=fs++[f'] }:=by
 have hlt:=h.lt;have keep:∀t,t≠.called→t≠.stk fs.length→∀k,own k=some t→w'.heap[k]?=w.heap[k]?:=fun t h1 h2 k hk' =>
  hk k (hlt k t hk') (by rw [hk'];exact fun e=>h1 (Option.some.inj e)) (by rw [hk'];exact fun e=>h2 (Option.some.inj e))
 have hmb:=keep .mach Q9 Q9 mb h.me;have frz:∀i x,(fs++[f'])[i]?=some x→(i=fs.length∧x=f')∨(i≠fs.length∧R.frs[i]?=some x):=fun i x hx=>by
  by_cases e:i=fs.length
  ·subst e;simp at hx;exact Or.inl ⟨rfl,hx.symm⟩
  ·refine Or.inr ⟨e,?_⟩
   rw[hf];rcases Nat.lt_or_ge i fs.length with hl | hl
   ·rw [List.getElem?_append_left hl] at hx ⊢;exact hx
   ·rw [List.getElem?_append_right hl] at hx
    rw[List.getElem?_eq_none Q5] at hx;cases hx
 refine⟨Own.upd_lt hlt hsize hst,?_,?_,?_,?_,?_,?_,?_,?_,?_,?_,?_,?_,?_,?_,?_,?_,?_,?_,?_⟩
 ·rw [Own.upd_old hon (hlt mb _ h.me)];exact h.me
 ·rw [World.cell?_of_block (w:=w) (a:=⟨mb,0,none⟩) hmb];exact h.c0
 ·rw [World.cell?_of_block (w:=w) (a:=⟨mb,1,none⟩) hmb];exact h.c1
 ·rw [World.cell?_of_block (w:=w) (a:=⟨mb,2,none⟩) hmb];exact h.c2
 ·rw [World.cell?_of_block (w:=w) (a:=⟨mb,3,none⟩) hmb];exact h.c3
 ·rw [World.cell?_of_block (w:=w) (a:=⟨mb,4,none⟩) hmb];exact h.c4
 ·intro j;rw [World.frozen?_of_block (w:=w) (a:=⟨mb,j,none⟩) hmb];exact h.fz j
 ·exact h.out.upd hlt hon (keep _ Q9 Q9)
 ·refine ⟨by simpa using hcalled,fun b hb=>?_⟩
  have:=h.called.2 b hb;rw[Own.upd_old hon (hlt b _ this)];exact this
 ·exact h.slots.upd hlt hon (keep _ Q9 Q9)
 ·intro i x hx
  rcases frz i x hx with ⟨rfl,rfl⟩ | ⟨_,hx⟩
  ·rw [hlv,hloc]
   exact (h.loc fs.length f (by rw [hf];simp)).upd hlt hon (keep _ Q9 Q9)
  ·exact (h.loc i x hx).upd hlt hon (keep _ Q9 Q9)
 ·intro i x hx
  rcases frz i x hx with ⟨rfl,rfl⟩ | ⟨hne,hx⟩
  ·refine ⟨hst,fun b hb=>?_⟩
   simp[Own.upd,hb]
  ·exact (h.stk i x hx).upd hlt hon (keep _ Q9 (by simpa using hne))
 ·intro j o ho
  exact (h.fld j o ho).upd hlt hon (keep _ Q9 Q9)
 ·exact h.pg.held hsize fun k hb=>hk k (h.pg.blk_lt hb) (by rw [h.ro k hb];simp) (by rw [h.ro k hb];simp)
 ·intro k hb;rw [Own.upd_old hon (h.pg.blk_lt hb)];exact h.ro k hb
 ·exact h.tab.held hsize (hk 0 h.tab.1 (by rw [h.ro0];simp) (by rw [h.ro0];simp))
 ·rw [Own.upd_old hon h.tab.1];exact h.ro0
 ·rw [World.cell?_of_block (w:=w) (a:=⟨mb,5,none⟩) hmb];exact h.c5
 ·exact h.draws.upd hlt hon (keep _ Q9 Q9)
theorem N2 (mb cb n cc:Nat) (w:World) (hn:n≤1000) (hc:w.cell? ⟨mb,3,none⟩=some (.slice (some ⟨cb,0,none⟩) (n+1) cc)) :
  Calls Tryz.prog 64 #[.pointer (some ⟨mb,3,none⟩)] w fun e w'=>e=.returned (.pointer (some ⟨cb,n*4,none⟩))∧∃m,w'=w.drewN m:=by
 go_enter Tryz.func64,Tryz.ntmps64;go_wp2
 go_quiet (fail)
 go_wp2
 go_ret;exact⟨rfl,_,rfl⟩
def a2Y (sb s k:Nat) (w:World) (e:Ending) (w':World):Prop:=∃va vc,e=.returned (.slice va k vc)∧(0 < k→va=some ⟨sb,(s - k)*2,none⟩)∧∃m,w'=w.drewN m
theorem a3s {sb s k:Nat} {w:World} {e:Ending} {w':World} {va:Option Addr} {n vc m:Nat} (hs:k≤s) (hn:n=s - (s - k)) (he:e=.returned (.slice va n vc)) (h:0 < k→va=some ⟨sb,(s - k)*2,none⟩) (hw:w'=w.drewN m):a2Y sb s k w e w' :=
 ⟨va,vc,by rw [he,hn,show s - (s - k)=k by omega],h,m,hw⟩
theorem a8G (mb cb n cc sb s sc k:Nat) (w:World) (hn:n≤1000) (hs:s≤1000) (hsc:s≤sc) (hk:k≤s) (hc:w.cell? ⟨mb,3,none⟩=some (.slice (some ⟨cb,0,none⟩) (n+1) cc))
  (hst:w.cell? ⟨cb,n*4+3,none⟩=some (.slice (some ⟨sb,0,none⟩) s sc)) :
  Calls Tryz.prog 65 #[.pointer (some ⟨mb,3,none⟩),.int .i64 (k:Int)] w fun e w'=>a2Y sb s k w e w':=by
 go_enter Tryz.func65,Tryz.ntmps65;go_wp2_with (go_at_call 64;refine (N2 mb cb n cc _ hn hc).mono ?_;rintro e w' ⟨rfl,m,rfl⟩)
 all_goals go_ret
 ·exact a3s hk rfl rfl (fun h=>by omega) rfl
 ·exact a3s hk rfl rfl (fun _=>rfl) rfl
theorem a8F (mb cb n cc:Nat) (w:World) (hn:n≤1000) (hc:w.cell? ⟨mb,3,none⟩=some (.slice (some ⟨cb,0,none⟩) (n+1) cc))
  (hst:w.cell? ⟨cb,n*4+3,none⟩=some (.slice none 0 0)) :
  Calls Tryz.prog 65 #[.pointer (some ⟨mb,3,none⟩),.int .i64 0] w fun e w'=>e=.returned (.slice none 0 0)∧∃m,w'=w.drewN m:=by
 go_enter Tryz.func65,Tryz.ntmps65;go_wp2_with (go_at_call 64;refine (N2 mb cb n cc _ hn hc).mono ?_;rintro e w' ⟨rfl,m,rfl⟩)
 all_goals go_ret
 exact⟨rfl,_,rfl⟩
theorem a6c (mb cb n cc sb s sc k:Nat) (w:World) (hn:n≤1000) (hs:s≤1000) (hsc:s≤sc) (hk:k≤s) (hc:w.cell? ⟨mb,3,none⟩=some (.slice (some ⟨cb,0,none⟩) (n+1) cc))
  (hst:w.cell? ⟨cb,n*4+3,none⟩=some (.slice (some ⟨sb,0,none⟩) s sc)) (hfz:w.frozen? ⟨cb,n*4+3,none⟩=false) :
  Calls Tryz.prog 213 #[.pointer (some ⟨mb,3,none⟩),.int .i64 (k:Int)] w fun e w'=>e=.returned (.tuple #[])∧∃m,w'=(w.drewN m).setCell ⟨cb,n*4+3,none⟩ (.slice (some ⟨sb,0,none⟩) (s - k) sc):=by
 go_enter Tryz.func213,Tryz.ntmps213;go_wp2_with (go_at_call 64;refine (N2 mb cb n cc _ hn hc).mono ?_;rintro e w' ⟨rfl,m,rfl⟩)
 go_region
 all_goals go_wp2
 all_goals go_end0
 all_goals exact ⟨rfl,_,rfl⟩
theorem a6b (mb cb n cc:Nat) (w:World) (hn:n≤1000) (hc:w.cell? ⟨mb,3,none⟩=some (.slice (some ⟨cb,0,none⟩) (n+1) cc))
  (hst:w.cell? ⟨cb,n*4+3,none⟩=some (.slice none 0 0)) (hfz:w.frozen? ⟨cb,n*4+3,none⟩=false) :
  Calls Tryz.prog 213 #[.pointer (some ⟨mb,3,none⟩),.int .i64 0] w fun e w'=>e=.returned (.tuple #[])∧∃m,w'=(w.drewN m).setCell ⟨cb,n*4+3,none⟩ (.slice none 0 0):=by
 go_enter Tryz.func213,Tryz.ntmps213;go_wp2_with (go_at_call 64;refine (N2 mb cb n cc _ hn hc).mono ?_;rintro e w' ⟨rfl,m,rfl⟩)
 go_region
 all_goals go_wp2
 all_goals go_end0
 all_goals exact ⟨rfl,_,rfl⟩
end Go.Proofs.YtbkmgoffiigdbabGreatDoor
