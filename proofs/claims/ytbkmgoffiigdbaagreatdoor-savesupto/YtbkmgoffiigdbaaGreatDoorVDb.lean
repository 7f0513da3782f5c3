import Derived.Test.YtbkmgoffiigdbaaGreatDoorVDg
import Derived.Test.YtbkmgoffiigdbaaGreatDoorVEe
namespace Go.Proofs.YtbkmgoffiigdbaaGreatDoor
open Go.RowKit Go.Sort Go.Proofs.Tryz
set_option maxHeartbeats 2000000
set_option maxRecDepth 100000
theorem a5i:(prog.info? 90).map (fun i=>(i.zero,i.size,i.bytes))=some (some (.agg #[zC 0,zD]),2,32):=by kernel_rfl
def V2:ObR:=⟨0,zD,[]⟩
def a4m (n:Nat) (w:World) (e:Ending) (w':World):Prop :=
 ∃b,e=.returned (.agg #[.slice (zA b) n n,zD])/\w'.ownsRow w.heap.size 90 2 (.slice (zA b) n n) n ((List.replicate n V2).flatMap ObR.cells)/\L0d w w'
theorem a5r (n:Nat):(madeCells #[zC 0,zD] (n*2)).toList=(List.replicate n V2).flatMap ObR.cells:=by
 rw[a8x];induction n with
 | zero=>rfl
 | succ n ih=>rw [List.replicate_succ,List.replicate_succ,List.flatten_cons,ih];rfl
theorem wT (n:Nat) (w:World) (hn:n<=40):Calls prog 117 #[J (n:Int)] w fun e w'=>a4m n w e w':=by
 obtain⟨xd,hi,hz,xb,xa⟩:=info_parts a5i;have xc:Hid (∀W:World,(Instr.makeSlice 74 (J (n:Int)) (J (n:Int))).run prog W=.ok (.slice (zA W.heap.size) n n) (W.alloc (.cells (madeCells #[zC 0,zD] (n*2)) 90))):=by
  intro W;have hr:=run_make (P:=prog) W 74 90 xd _ underlying74 hi hz .i64 .i64 n n R5 (Int.le_refl _) (by rw [xa];omega) R5;simpa [xb,Value.cells] using hr
 have xe:=xc.out;clear hi hz xb xa xc;go_enter func117,ntmps117;go_wp2_with fail;refine bodyPost_ret (v:=.agg #[.slice (some ⟨w.heap.size+1,0,none⟩) n n,zD]) (by simp [results,results117,go_sem]) rfl ⟨_,rfl,?_,P8⟩;have:=World.ownsRow_lit (base:=w.heap.size) (e:=90) (size:=2) (w.alloc (Obj.cells #[.slice (some ⟨w.heap.size+1,0,none⟩) n n,zD] 105)) (madeCells #[zC 0,zD] (n*2)) n R6 Q7 (by rw [size_madeCells])
 rw[a5r] at this;simpa using this
def X6 (g g':PgR):Prop:=g'.n=g.n/\∀j,j < g.n->(g'.f j).p=(g.f j).p/\(g'.f j).l=(g.f j).l/\(g'.f j).n=(g.f j).n/\(g'.f j).op=(g.f j).op/\(g'.f j).ar=(g.f j).ar
structure uP (g:PgR) (cap:Nat) (R:McR):Prop where
 st:R.st=0
 out:R.out=[]
 frs:∃lv,R.frs=[⟨0,0,lv,zD,List.replicate (g.f 0).l.toNat (0,0),[]⟩]
 obs:R.obs=List.replicate cap V2
 ov:R.ov=.slice none 0 0
 dr:R.dr=[]
def V8 (mb hb:Nat):Own:=fun k=>if k=mb then some .mach else if k=hb then some .slots else none
theorem tE {w4:World} {g':PgR} {hb cap base:Nat} (hpg:I9 w4.heap.size w4 g') (ht:Tab w4) (hrow:w4.ownsRow base 90 2 (.slice (zA hb) cap cap) cap ((List.replicate cap V2).flatMap ObR.cells)) (hne:∀k,g'.blk k->k≠hb) (h0:hb≠0) :
  A4 (w4.alloc (Obj.cells #[.slice g'.a g'.n g'.c,J 0,zD,zD,.slice (zA hb) cap cap,zD] 107)) (V8 w4.heap.size hb) w4.heap.size g'
   ⟨0,zD,[],zD,[],.slice (zA hb) cap cap,List.replicate cap V2,zD,[]⟩:=by
 have xc:hb < w4.heap.size:=(W3 hrow).2;have xb:(w4.alloc (Obj.cells #[.slice g'.a g'.n g'.c,J 0,zD,zD,.slice (zA hb) cap cap,zD] 107)).heap.size=w4.heap.size+1:=by simp
 have xa:∀k,k < w4.heap.size->(w4.alloc (Obj.cells #[.slice g'.a g'.n g'.c,J 0,zD,zD,.slice (zA hb) cap cap,zD] 107)).heap[k]?=w4.heap[k]?:=fun k hk=>Below.heap_alloc _ _ _ hk
 refine⟨fun k t hk=>?_,by simp [V8],by go_simp,by go_simp,by go_simp,by go_simp,by go_simp,fun j=>by go_simp,⟨World.ownsRow_nil _ _ _ _,fun b hb=>by cases hb⟩,⟨World.ownsRow_nil _ _ _ _,fun b hb=>by cases hb⟩,⟨?_,fun b hb'=>?_⟩,fun i f hf=>by simp at hf,fun i f hf=>by simp at hf,fun j o ho=>?_,
  hpg.held R5 fun k hk=>xa k (hpg.blk_lt hk),fun k hk=>?_,ht.held R5 (xa 0 ht.1),?_,by go_simp,⟨World.ownsRow_nil _ _ _ _,fun b hb=>by cases hb⟩⟩
 ·unfold V8 at hk
  split at hk
  ·omega
  ·split at hk
   ·omega
   ·cases hk
 ·have:=E1 (hrow.alloc (Obj.cells #[.slice g'.a g'.n g'.c,J 0,zD,zD,.slice (zA hb) cap cap,zD] 107)) (L4c _)
  simpa using this
 ·obtain rfl:hb=b:=by simpa [Value.ownBlock] using hb'
  unfold V8;rw[if_neg R5,if_pos rfl]
 ·have:o=V2:=by
   have:=L2a ho;simp at this;exact this.2
  subst this;exact⟨World.ownsRow_nil _ _ _ _,fun b hb=>by cases hb⟩
 ·have h1:=hpg.blk_lt hk
  have h2:=hne k hk;unfold V8;rw[if_neg R5,if_neg h2]
 ·have:=ht.1
  unfold V8;rw[if_neg R5,if_neg (Ne.symm h0)]
theorem A2.below {own own':Own} {w w':World} (h:A2 own w own' w') {B:Nat} (hB:B<=w.heap.size) (hno:∀k,k < B->own k=none):Below B w w' :=
 ⟨h.os,h.tape,h.output,h.size,fun k hk=>h.block k (L0a hk hB) (hno k hk)⟩
section
variable {g:PgR} {mb n:Nat} {own:Own} {w:World}
theorem a7c {P:McR->Prop} {fuel:Int} (h:Calls prog 99 #[zB mb,J fuel] w fun e w'=>nD own mb g P n w e w') :
  Calls prog 60 #[zB mb,J fuel] w fun e w'=>nD own mb g P n w e w':=by
 have H:=hid h;clear h;go_enter func60,ntmps60;go_wp2_with (go_at_call 99;refine H.out.mono ?_;rintro e w2 ⟨xa,R',rfl,hm,hp,ht⟩)
 go_ret2;exact⟨xa,R',rfl,hm,hp,ht⟩
def taken (l:List ObR):Nat:=(l.filter fun o=>o.kind != 0).length
theorem a1g {l:List ObR} {i:Nat} {o:ObR} (h:l[i]?=some o):taken (l.take (i+1))=taken (l.take i)+if o.kind != 0 then 1 else 0:=by
 have hi:=(L1a.1 h).1;have e:l.take (i+1)=l.take i++[o]:=by rw [List.take_add_one,h];rfl
 unfold taken;rw[e,List.filter_append,List.length_append];congr 1
 by_cases hk:o.kind != 0 <;> simp [List.filter,hk]
theorem kY (l:List ObR):taken l<=l.length:=List.length_filter_le _ _
theorem E0 {t:Tag} {e size:Nat} {v:Value} {xs:List Value} (h:Row w own t e size v n xs):∃a c,v=.slice a n c:=by
 rcases h.1.2 with ⟨e,e0⟩ | ⟨gb,xa,_,e,_⟩
 ·exact ⟨none,0,by rw [e,e0]⟩
 ·exact ⟨_,_,e⟩
theorem lY {R:McR} (h:A4 w own mb g R) (hpos:0 < R.obs.length) (hn:R.obs.length<=1000) :
  Calls prog 45 #[.pointer (some ⟨mb,4,none⟩)] w fun e w'=>e=.returned (J (taken R.obs:Int))/\L0d w w':=by
 have c4:=h.c4;have xl:mb < w.heap.size:=h.lt mb _ h.me;have HH:=hid h;obtain⟨hb,hc,e,_,xj⟩:=h.slots.1.form hpos;have xd:=h.slots.1;rw[e] at c4 xd;have xe:=hid xd;clear h e xd;go_enter func45,ntmps45;go_wp2_with fail;go_loopw [3,11] (fun vn vi wr=>∃i:Nat,i<=R.obs.length/\vi=J i/\vn=J (taken (R.obs.take i):Int)/\L0d w wr) (fun _ vi _=>R.obs.length - (intOf vi).toNat)
 case atStart=>exact ⟨0,L4c _,rfl,rfl,L3b _ _⟩
 case round =>
  obtain⟨i,hi,rfl,rfl,xc⟩:=hrel;by_cases hlti:i < R.obs.length
  ·obtain ⟨o,ho⟩:∃o,R.obs[i]?=some o:=⟨_,L1b hlti⟩
   have xb:∀j,j < 2->wr.cell? ⟨hb,i*2+j,none⟩=o.cells[j]?:=fun j hj=>by
    rw[xc.cell (p:=⟨hb,_,none⟩) xj,xe.out.cellAt _ R5];exact D3 ObR.cells_len ho hj
   obtain⟨fa,fc,xi⟩:=E0 (HH.out.fld i o ho);have k0:wr.cell? ⟨hb,i*2,none⟩=some (zC o.kind):=xb 0 R5;have k1:wr.cell? ⟨hb,i*2+1,none⟩=some o.fv:=xb 1 R5;rw[xi] at k1;have xh:=a1g ho;have xg:=kY (R.obs.take i);have xm:hb < wr.heap.size:=L0a xj xc.size;have xk:taken (R.obs.take i)<=1000:=by rw [List.length_take] at xg;omega
   have xf:=hid xh;have xa:=hid xc;clear xb xi xh xg xc ho
   cases hk:(o.kind != 0)
   ·go_wp2_with fail
    go_roundw
    case rel=>exact ⟨i+1,by omega,by go_num,by rw [xf.out,hk];rfl,by repeat (first | exact xa.out | refine Below.setCell ?_ (by have:=xa.out.size;first | omega | (simp;omega)) _ | refine L3a ?_ (by have:=xa.out.size;first | omega | (simp;omega)) _)⟩
    case measure=>simp [intOf];omega
   ·go_wp2_with fail
    go_roundw
    case rel=>exact ⟨i+1,by omega,by go_num,by rw [xf.out,hk];go_num,by repeat (first | exact xa.out | refine Below.setCell ?_ (by have:=xa.out.size;first | omega | (simp;omega)) _ | refine L3a ?_ (by have:=xa.out.size;first | omega | (simp;omega)) _)⟩
    case measure=>simp [intOf];omega
  ·obtain rfl:i=R.obs.length:=by omega
   go_wp2_with fail;go_ret;refine⟨?_,xc⟩;rw[List.take_length];rfl
end
end Go.Proofs.YtbkmgoffiigdbaaGreatDoor
