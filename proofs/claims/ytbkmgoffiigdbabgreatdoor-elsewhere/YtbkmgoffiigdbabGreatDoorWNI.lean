import Derived.Test.YtbkmgoffiigdbabGreatDoorWNH
namespace Go.Proofs.YtbkmgoffiigdbabGreatDoor
open Go.RowKit
set_option maxHeartbeats 400000
theorem A3.setCell {w:World} {own:Own} {mb:Nat} {g:PgR} {R R':McR} (h:A3 w own mb g R) (i:Nat) (v:Value) (h1:i=1∧v=.int .i64 R'.st∧R'={ R with st:=R'.st }∨i=3∧v=.slice none 0 0∧R'={ R with cv:=.slice none 0 0,frs:=[] }) :
  A3 (w.setCell ⟨mb,i,none⟩ v) own mb g R':=by
 have hlt:=h.lt;have hmb:mb < w.heap.size:=hlt mb _ h.me;have hblk:∀k,k≠mb→(w.setCell ⟨mb,i,none⟩ v).heap[k]?=w.heap[k]?:=fun k hk=>heap_setCell_other _ _ _ _ hk
 have keep:∀t,t≠.mach→∀k,own k=some t→(w.setCell ⟨mb,i,none⟩ v).heap[k]?=w.heap[k]?∧own k=some t:=fun t ht k hk=>⟨hblk k (fun e=>by rw [e,h.me] at hk;exact ht (Option.some.inj hk).symm),hk⟩
 have hcell:∀j,j≠i→(w.setCell ⟨mb,i,none⟩ v).cell? ⟨mb,j,none⟩=w.cell? ⟨mb,j,none⟩:=fun j hj=>by go_simp
 have hsame:w.cell? ⟨mb,i,none⟩≠none→(w.setCell ⟨mb,i,none⟩ v).cell? ⟨mb,i,none⟩=some v:=fun hn=>by
  cases e:w.cell? ⟨mb,i,none⟩ with
  | none=>exact absurd e hn
  | some u=>go_simp
 have hfz:∀j,(w.setCell ⟨mb,i,none⟩ v).frozen? ⟨mb,j,none⟩=false:=fun j=>by have:=h.fz j;go_simp
 have hro:∀k,own k=none→(w.setCell ⟨mb,i,none⟩ v).heap[k]?=w.heap[k]?:=fun k hk=>hblk k (fun e=>by rw [e,h.me] at hk;cases hk)
 have hsz:w.heap.size≤(w.setCell ⟨mb,i,none⟩ v).heap.size:=by simp
 rcases h1 with ⟨rfl,rfl,he⟩ | ⟨rfl,rfl,he⟩
 ·rw [he]
  refine⟨fun k t hk=>Nat.lt_of_lt_of_le (hlt k t hk) hsz,h.me,?_,hsame (by rw [h.c1];simp),?_,?_,?_,hfz,h.out.kept (keep _ Q9),h.called.kept (keep _ Q9),h.slots.kept (keep _ Q9),fun i f hf=>(h.loc i f hf).kept (keep _ Q9),fun i f hf=>(h.stk i f hf).kept (keep _ Q9),
   fun j o ho=>(h.fld j o ho).kept (keep _ Q9),h.pg.held hsz fun k hk=>hro k (h.ro k hk),h.ro,h.tab.held hsz (hro 0 h.ro0),h.ro0,?_,h.draws.kept (keep _ Q9)⟩
  ·rw [hcell 0 Q8];exact h.c0
  ·rw [hcell 2 Q8];exact h.c2
  ·rw [hcell 3 Q8];exact h.c3
  ·rw [hcell 4 Q8];exact h.c4
  ·rw [hcell 5 Q8];exact h.c5
 ·rw [he]
  refine⟨fun k t hk=>Nat.lt_of_lt_of_le (hlt k t hk) hsz,h.me,?_,?_,?_,hsame (by rw [h.c3];simp),?_,hfz,h.out.kept (keep _ Q9),⟨World.ownsRow_nil _ _ _ _,fun b hb=>by cases hb⟩,h.slots.kept (keep _ Q9),fun i f hf=>by simp at hf,fun i f hf=>by simp at hf,
   fun j o ho=>(h.fld j o ho).kept (keep _ Q9),h.pg.held hsz fun k hk=>hro k (h.ro k hk),h.ro,h.tab.held hsz (hro 0 h.ro0),h.ro0,?_,h.draws.kept (keep _ Q9)⟩
  ·rw [hcell 0 Q8];exact h.c0
  ·rw [hcell 1 Q8];exact h.c1
  ·rw [hcell 2 Q8];exact h.c2
  ·rw [hcell 4 Q8];exact h.c4
  ·rw [hcell 5 Q8];exact h.c5
theorem A8.setMb {w:World} {own:Own} {mb:Nat} (hme:own mb=some .mach) (i:Nat) (v:Value):A8 own w own (w.setCell ⟨mb,i,none⟩ v) :=
 ⟨rfl,rfl,rfl,by simp,fun k _ hk=>heap_setCell_other _ _ _ _ (fun e=>by rw [e,hme] at hk;cases hk),fun _ _=>rfl⟩
theorem wV {own:Own} {mb:Nat} {g:PgR} {R:McR} {w:World} (h:A3 w own mb g R) :
  Calls Tryz.prog 168 #[.pointer (some ⟨mb,3,none⟩)] w fun e w'=>e=.returned (.tuple #[])∧w'=w.setCell ⟨mb,3,none⟩ (.slice none 0 0):=by
 have c3:=h.c3;have fz:=h.fz 3;have hmb:mb < w.heap.size:=h.lt mb _ h.me;clear h;go_enter Tryz.func168,Tryz.ntmps168;go_wp2
 go_end0
 exact⟨rfl,rfl⟩
theorem qN {own:Own} {mb:Nat} {g:PgR} {R:McR} {w:World} (h:A3 w own mb g R) (a:Int) (v:Value) :
  Calls Tryz.prog 204 #[.pointer (some ⟨mb,0,none⟩),.int .i64 a,v] w fun e w'=>aP own mb g (fun R'=>R'={ R with cv:=.slice none 0 0,frs:=[] }) 1 w e w':=by
 have HL:=hid (wV h);have HH:=hid h;clear h;go_enter Tryz.func204,Tryz.ntmps204;go_wp2_with (go_at_call 168;refine HL.out.mono ?_;rintro e w' ⟨rfl,rfl⟩)
 go_ret;exact⟨own,_,rfl,HH.out.setCell 3 _ (Or.inr ⟨rfl,rfl,rfl⟩),rfl,A8.setMb HH.out.me _ _⟩
end Go.Proofs.YtbkmgoffiigdbabGreatDoor
