import Derived.Test.YtbkmgoffiigdbaaGreatDoorWBh
namespace Go.Proofs.YtbkmgoffiigdbaaGreatDoor
open Go.RowKit Go.Sort
section
variable {cb cc mb:Nat} {f:FrR} {fs:List FrR} {g:PgR} {own:Own} {w:World}
theorem A8.setSt {R:RfR} (h:A8 w own mb g R) (st:Int) :
  A8 (w.setCell ⟨mb,2,none⟩ (.int .i64 st)) own mb g { R with st:=st }/\A2 own w own (w.setCell ⟨mb,2,none⟩ (.int .i64 st)):=by
 obtain⟨k1,k2⟩:=h.mach 2 (.int .i64 st);have hs:(w.setCell ⟨mb,2,none⟩ (.int .i64 st)).heap.size=w.heap.size:=by simp
 have keep:∀t,t≠.mach->∀k,own k=some t->(w.setCell ⟨mb,2,none⟩ (.int .i64 st)).heap[k]?=w.heap[k]?/\own k=some t:=fun t ht k e=>⟨k1 t k e ht,e⟩
 refine⟨h.edit (R':={ R with st:=st }) (by rw [hs];exact L1c _) (fun k t e=>by rw [hs];exact h.lt k t e) h.me (fun k hn _ _=>⟨hn,k2 k hn⟩) (B7 _ R3) ((B7 _ R3).trans h.c1) (World.cell?_setCell_same _ _ _ h.c2) ((B7 _ R3).trans h.c3) ((B7 _ R3).trans h.c4) ((B7 _ R3).trans h.c5) (B7 _ R3) (fun j=>by go_simp;exact h.fz j)
  (h.out.kept (keep _ R5)) (h.called.kept (keep _ R5)) (h.things.kept (keep _ R5)) (fun i x hx=>(h.loc i x hx).kept (keep _ R5)) (fun i x hx=>(h.stk i x hx).kept (keep _ R5)) (fun i x hx=>(h.fld i x hx).kept (keep _ R5)) (fun b o e=>(h.dro b o e).2) rfl rfl rfl,⟨rfl,rfl,rfl,by simp,fun k _ hn=>k2 k hn,fun _ _=>rfl⟩⟩
theorem A8.setTop {w':World} {R:RfR} {f':FrR} (h:A8 w own mb g R) (hf:R.frs=fs++[f]) (hcv:R.cv=.slice (some ⟨cb,0,none⟩) R.frs.length cc) (hlv:f'.lv=f.lv) (hloc:f'.loc=f.loc) (hsize:w.heap.size=w'.heap.size) (hk:∀k,k≠cb->w'.heap[k]?=w.heap[k]?)
  (hrow:w'.ownsRow 0 86 4 (.slice (some ⟨cb,0,none⟩) R.frs.length cc) R.frs.length ((fs++[f']).flatMap FrR.cells)) (hst:w.ownsRow 0 92 2 f'.sv f'.stk.length (A5 f'.stk)) (hnb:N4 own g f'.sv) (hnd:∀b o,R.da=some ⟨b,o,none⟩->f'.sv.ownBlock≠some b) :
  A8 w' (own.upd f'.sv.ownBlock (.stk fs.length)) mb g { R with frs:=fs++[f'] }:=by
 have xg:=h.lt;have xa:own cb=some .called:=h.called.2 cb (by rw [hcv];rfl);have xc:∀k t,own k=some t->(own.upd f'.sv.ownBlock (.stk fs.length)) k=some t:=fun k t e=>(hnb.upd e).trans e
 have keep:∀t,t≠.called->∀k,own k=some t->w'.heap[k]?=w.heap[k]?/\(own.upd f'.sv.ownBlock (.stk fs.length)) k=some t:=fun t ht k hk'=>⟨hk k (fun e=>by rw [e,xa] at hk';exact ht (L5b hk').symm),xc k t hk'⟩
 have xe:=(keep .mach R5 mb h.me).1;have kc:∀i,w'.cell? ⟨mb,i,none⟩=w.cell? ⟨mb,i,none⟩:=fun i=>L0b (w:=w) (a:=⟨mb,i,none⟩) xe
 have xf:(fs++[f']).length=R.frs.length:=by rw [hf];simp
 have xh:R.frs[fs.length]?=some f:=by rw [hf];simp
 have xb:∀i x,(fs++[f'])[i]?=some x->(i=fs.length/\x=f')\/(i < fs.length/\R.frs[i]?=some x):=fun i x hx=>by
  rcases Nat.lt_or_ge i fs.length with hl | hl
  ·rw [List.getElem?_append_left hl] at hx
   exact L4b ⟨hl,by rw [hf,List.getElem?_append_left hl];exact hx⟩
  ·rw [List.getElem?_append_right hl] at hx
   have:i - fs.length=0:=by
    have:=(L1a.1 hx).1;simp at this;omega
   rw[this] at hx;exact L4a ⟨by omega,by simpa using hx.symm⟩
 have xd:∀k,own k=none->f'.sv.ownBlock≠some k->(own.upd f'.sv.ownBlock (.stk fs.length)) k=none:=fun k hn hne=>by
  unfold Own.upd;rw [if_neg hne];exact hn
 refine h.edit (R':={ R with frs:=fs++[f'] }) (Nat.le_of_eq hsize) (fun k t hk'=>?_) (xc _ _ h.me) (fun k hn hks hor=>⟨xd k hn ?_,hk k fun e=>by rw [e,xa] at hn;cases hn⟩) (kc 0) ((kc 1).trans h.c1) ((kc 2).trans h.c2) ((kc 3).trans h.c3) ((kc 4).trans h.c4) ((kc 5).trans h.c5) (kc 6) (fun j=>by rw [L0c (w:=w) (a:=⟨mb,j,none⟩) xe];exact h.fz j)
  (h.out.kept (keep _ R5)) ⟨?_,fun b hb=>?_⟩ (h.things.kept (keep _ R5)) (fun i x hx=>?_) (fun i x hx=>?_) (fun i x hx=>(h.fld i x hx).kept (keep _ R5)) (fun b o e=>xd b (h.dro b o e).2 (hnd b o e)) rfl rfl rfl
 ·unfold Own.upd at hk'
  split at hk'
  ·rename_i e;rw [<- hsize];exact (hst.lt k e).2
  ·rw [<- hsize];exact xg k t hk'
 ·rcases hor with hb | rfl | ⟨o,e⟩
  ·exact fun e=>(hnb k e).2.1 k hb rfl
  ·exact fun e=>(hnb 0 e).2.2 rfl
  ·exact hnd k o e
 ·rw [show ({ R with frs:=fs++[f'] } : RfR).frs.length=R.frs.length from xf]
  show w'.ownsRow 0 86 4 R.cv R.frs.length _;rw[hcv];exact hrow
 ·exact xc b _ (h.called.2 b hb)
 ·rcases xb i x hx with ⟨rfl,rfl⟩ | ⟨hi,hx⟩
  ·rw [hlv,hloc]
   exact (h.loc _ f xh).kept (keep _ R5)
  ·exact (h.loc i x hx).kept (keep _ R5)
 ·rcases xb i x hx with ⟨rfl,rfl⟩ | ⟨hi,hx⟩
  ·refine ⟨A6 hst fun b hb=>hk b fun e=>?_,fun b hb=>by simp [Own.upd,hb]⟩
   have:=(hnb b hb).1;rw[e,xa] at this
   cases this
  ·exact (h.stk i x hx).kept (keep _ R5)
theorem A8.goOn {R:RfR} {f:FrR} {sv:Value} {stk:List Val} {to:Nat} (h:A8 w own mb g R) (hf:R.frs=fs++[f]) (hcv:R.cv=.slice (some ⟨cb,0,none⟩) R.frs.length cc) (hst:w.ownsRow 0 92 2 sv stk.length (A5 stk)) (hnb:N4 own g sv) (hnd:∀b o,R.da=some ⟨b,o,none⟩->sv.ownBlock≠some b) :
  A8 ((w.setCell ⟨cb,fs.length*4+3,none⟩ sv).setCell ⟨cb,fs.length*4+1,none⟩ (.int .i64 (to:Int))) (own.upd sv.ownBlock (.stk fs.length)) mb g { R with frs:=fs++[{ f with pc:=to,sv:=sv,stk:=stk }] } /\
   ∀k,k≠cb->((w.setCell ⟨cb,fs.length*4+3,none⟩ sv).setCell ⟨cb,fs.length*4+1,none⟩ (.int .i64 (to:Int))).heap[k]?=w.heap[k]?:=by
 have hl:=h.called.1;rw[hcv] at hl;have xc:R.frs[fs.length]?=some f:=by rw [hf];simp
 have hr:=(World.ownsRow.stored (World.ownsRow.stored hl (fs.length*4+3) sv).1 (fs.length*4+1) (.int .i64 (to:Int))).1;rw[<- G2 (c:=FrR.cells) FrR.cells_len (l:=R.frs) (i:=fs.length) (j:=3) (x:=f) (y:={ f with sv:=sv,stk:=stk }) (u:=sv) xc R4 rfl,
  <- G2 (c:=FrR.cells) FrR.cells_len (l:=R.frs.set fs.length { f with sv:=sv,stk:=stk }) (i:=fs.length) (j:=1) (x:={ f with sv:=sv,stk:=stk }) (y:={ f with pc:=to,sv:=sv,stk:=stk }) (u:=.int .i64 (to:Int)) (by rw [List.getElem?_set_self (by rw [hf];simp)]) R4 rfl,List.set_set] at hr
 have xb:R.frs.set fs.length { f with pc:=to,sv:=sv,stk:=stk }=fs++[{ f with pc:=to,sv:=sv,stk:=stk }]:=by rw [hf];simp
 rw[xb] at hr;have xa:∀k,k≠cb->((w.setCell ⟨cb,fs.length*4+3,none⟩ sv).setCell ⟨cb,fs.length*4+1,none⟩ (.int .i64 (to:Int))).heap[k]?=w.heap[k]?:=fun k hk=>by
  rw[heap_setCell_other _ _ _ _ hk,heap_setCell_other _ _ _ _ hk]
 exact⟨h.setTop (f':={ f with pc:=to,sv:=sv,stk:=stk }) hf hcv rfl rfl R5 xa hr hst hnb hnd,xa⟩
end
end Go.Proofs.YtbkmgoffiigdbaaGreatDoor
