import Derived.Test.YtbkmgoffiigdbaaGreatDoorVCc
namespace Go.Proofs.YtbkmgoffiigdbaaGreatDoor
open Go.RowKit Go.Sort Go.Proofs.Tryz
set_option maxHeartbeats 2000000
set_option maxRecDepth 100000
section
variable {R:McR} {g:PgR} {mb n:Nat} {own:Own} {w:World}
theorem a4r {P:McR->Prop} {fuel:Int} (h:Calls prog 99 #[.pointer (some ⟨mb,0,none⟩),.int .i64 fuel] w fun e w'=>kQ own mb g P n w e w') :
  Calls prog 60 #[.pointer (some ⟨mb,0,none⟩),.int .i64 fuel] w fun e w'=>kQ own mb g P n w e w':=by
 have H:=hid h;clear h;go_enter func60,ntmps60;go_wp2_with (go_at_call 99;refine H.out.mono ?_;rintro e w2 ⟨xa,R',rfl,hm,hp,ht⟩)
 go_ret2;exact⟨xa,R',rfl,hm,hp,ht⟩
def taken (l:List ObR):Nat:=(l.filter fun o=>o.kind != 0).length
theorem yH {l:List ObR} {i:Nat} {o:ObR} (h:l[i]?=some o):taken (l.take (i+1))=taken (l.take i)+if o.kind != 0 then 1 else 0:=by
 have hi:=(L1a.1 h).1;have e:l.take (i+1)=l.take i++[o]:=by rw [List.take_add_one,h];rfl
 unfold taken;rw[e,List.filter_append,List.length_append];congr 1
 by_cases hk:o.kind != 0 <;> simp [List.filter,hk]
theorem iZ (l:List ObR):taken l<=l.length:=List.length_filter_le _ _
theorem G8 {t:Tag} {e size:Nat} {v:Value} {xs:List Value} (h:Row w own t e size v n xs):∃a c,v=.slice a n c:=by
 rcases h.1.2 with ⟨e,e0⟩ | ⟨gb,xa,_,e,_⟩
 ·exact ⟨none,0,by rw [e,e0]⟩
 ·exact ⟨_,_,e⟩
theorem fE (h:A4 w own mb g R) (hpos:0 < R.obs.length) (hn:R.obs.length<=1000) :
  Calls prog 45 #[.pointer (some ⟨mb,4,none⟩)] w fun e w'=>e=.returned (.int .i64 (taken R.obs:Int))/\Below w.heap.size w w':=by
 have c4:=h.c4;have xk:mb < w.heap.size:=h.lt mb _ h.me;have HH:=hid h;obtain⟨hb,hc,e,_,xj⟩:=h.slots.1.form hpos;have xd:=h.slots.1;rw[e] at c4 xd;have xe:=hid xd;clear h e xd;go_enter func45,ntmps45;go_wp2_with fail;go_loopw [3,11] (fun vn vi wr=>∃i:Nat,i<=R.obs.length/\vi=.int .i64 i/\vn=.int .i64 (taken (R.obs.take i):Int)/\Below w.heap.size w wr) (fun _ vi _=>R.obs.length - (intOf vi).toNat)
 case atStart=>exact ⟨0,Nat.zero_le _,rfl,rfl,Below.refl _ _⟩
 case round =>
  obtain⟨i,hi,rfl,rfl,xb⟩:=hrel;by_cases hlti:i < R.obs.length
  ·obtain ⟨o,ho⟩:∃o,R.obs[i]?=some o:=⟨_,L1b hlti⟩
   have xc:∀j,j < 2->wr.cell? ⟨hb,i*2+j,none⟩=o.cells[j]?:=fun j hj=>by
    rw[xb.cell (p:=⟨hb,_,none⟩) xj,xe.out.cellAt _ R4];exact D6 ObR.cells_len ho hj
   obtain⟨fa,fc,xf⟩:=G8 (HH.out.fld i o ho);have k0:wr.cell? ⟨hb,i*2,none⟩=some (.int .u8 o.kind):=xc 0 R4;have k1:wr.cell? ⟨hb,i*2+1,none⟩=some o.fv:=xc 1 R4;rw[xf] at k1;have xg:=yH ho;have xi:=iZ (R.obs.take i);have xl:hb < wr.heap.size:=L0a xj xb.size;have xm:taken (R.obs.take i)<=1000:=by rw [List.length_take] at xi;omega
   have xh:=hid xg;have xa:=hid xb;clear xc xf xg xi xb ho
   cases hk:(o.kind != 0)
   ·go_wp2_with fail
    go_roundw
    case rel=>exact ⟨i+1,by omega,by go_num,by rw [xh.out,hk];rfl,by repeat (first | exact xa.out | refine Below.setCell ?_ (by have:=xa.out.size;first | omega | (simp;omega)) _ | refine Below.alloc ?_ (by have:=xa.out.size;first | omega | (simp;omega)) _)⟩
    case measure=>simp [intOf];omega
   ·go_wp2_with fail
    go_roundw
    case rel=>exact ⟨i+1,by omega,by go_num,by rw [xh.out,hk];go_num,by repeat (first | exact xa.out | refine Below.setCell ?_ (by have:=xa.out.size;first | omega | (simp;omega)) _ | refine Below.alloc ?_ (by have:=xa.out.size;first | omega | (simp;omega)) _)⟩
    case measure=>simp [intOf];omega
  ·obtain rfl:i=R.obs.length:=by omega
   go_wp2_with fail;go_ret;refine⟨?_,xb⟩;rw[List.take_length];rfl
theorem uR (h:A4 w own mb g R) (hpos:0 < R.obs.length) (hn:R.obs.length<=1000) :
  Calls prog 20 #[.pointer (some ⟨mb,0,none⟩)] w fun e w'=>e=.returned (.agg #[.int .i64 R.st,.int .i64 (taken R.obs:Int),.int .i64 (R.dr.length:Int)])/\Below w.heap.size w w':=by
 have c1:=h.c1;have c5:=h.c5;obtain⟨da,dc,xb⟩:=G8 h.draws;rw[xb] at c5;have xh:mb < w.heap.size:=h.lt mb _ h.me;have xc:Hid (∀W,Below w.heap.size w W->Calls prog 45 #[.pointer (some ⟨mb,4,none⟩)] W fun e w'=>e=.returned (.int .i64 (taken R.obs:Int))/\Below W.heap.size W w'):=by
  intro W hW;exact fE (h.same hW.size fun k hk=>hW.block k hk) hpos hn
 clear h xb;go_enter func20,ntmps20;go_wp2_with fail;go_region_with (first | (go_at_call 45;refine (xc.out _ ?_).mono ?_;exact P7;rintro e w2 ⟨rfl,xa⟩;obtain ⟨xd,xg⟩:=X9 xa;have xe:=xa.size;have xf:=hid xa;clear xa))
 all_goals
  generalize hqW3:(((w2.setCell ⟨w.heap.size,0,none⟩ (.int .i64 R.st)).setCell ⟨w.heap.size,1,none⟩ (.int .i64 (taken R.obs:Int))).setCell ⟨w.heap.size,2,none⟩ (.int .i64 (R.dr.length:Int)))=W3 at *
  have r0:W3.cell? ⟨w.heap.size,0,none⟩=some (.int .i64 R.st):=by subst hqW3;go_simp
  have r1:W3.cell? ⟨w.heap.size,1,none⟩=some (.int .i64 (taken R.obs:Int)):=by subst hqW3;go_simp
  have r2:W3.cell? ⟨w.heap.size,2,none⟩=some (.int .i64 (R.dr.length:Int)):=by subst hqW3;go_simp
  have hB:Below w.heap.size w W3:=by
   subst hqW3;refine Below.setCell (Below.setCell (Below.setCell (A6 xf.out ?_) ?_ _) ?_ _) ?_ _
   ·repeat (first | exact Below.refl _ _ | refine Below.drew ?_ | refine Below.alloc ?_ Q2 _)
   ·exact L1c _
   ·exact L1c _
   ·exact L1c _
  clear xd xg xe;clear hqW3;go_wp2_with fail;exact bodyPost_ret (v:=.agg #[.int .i64 R.st,.int .i64 (taken R.obs:Int),.int .i64 (R.dr.length:Int)]) (by simp [results,results20,go_sem,r0,r1,r2]) rfl ⟨rfl,hB⟩
def a4p (l:List Int) (w:World) (e:Ending) (w':World):Prop :=
 Below w.heap.size w w'/\((l=[]/\e=.returned (.slice none 0 0))\/(0 < l.length/\Y0 3 1 l.length (l.map fun n=>.int .i64 n) w e w'))
theorem nH (w:World):Calls prog 46 #[.slice none 0 0] w fun e w'=>e=.returned (.slice none 0 0)/\w'=w:=by
 have xa:∀W:World,(binOp .eql 24 (.slice none 0 0) (.slice none 0 0)).run prog W=.ok (.bool true) W:=fun W=>Go.Lib.run_eql_slice_nil W 24 3 none 0 0 0 0 underlying24
 go_enter func46,ntmps46;go_wp2_with fail;go_ret;exact⟨rfl,rfl⟩
theorem uQ (h:A4 w own mb g R) (hn:R.out.length<=1000) (hq:R.out=[]->R.ov=.slice none 0 0) :
  Calls prog 22 #[.pointer (some ⟨mb,0,none⟩)] w fun e w'=>a4p R.out w e w':=by
 have c2:=h.c2;have xh:mb < w.heap.size:=h.lt mb _ h.me;by_cases h0:R.out.length=0
 ·have xc:=List.length_eq_zero_iff.1 h0
  rw[hq xc] at c2;have H0:=hid xc;clear h h0 xc hq;go_enter func22,ntmps22;go_wp2_with (go_at_call 46;refine (nH _).mono ?_;rintro e w' ⟨rfl,hw⟩;rw [hw];clear hw w')
  go_ret;exact⟨Below.refl _ _,Or.inl ⟨H0.out,rfl⟩⟩
 ·obtain ⟨ob,oc,e,_,xf⟩:=h.out.1.form R4
  have xa:=h.out.1;rw[e] at c2 xa;have HC:Hid (∀W,Below w.heap.size w W->Calls prog 46 #[.slice (some ⟨ob,0,none⟩) R.out.length oc] W fun e w'=>Y0 3 1 R.out.length (R.out.map fun n=>.int .i64 n) W e w'):=by
   intro W hW;refine a0e ob 0 _ oc _ W R4 R4 R5 (fun j u hj=>?_) (fun u hu=>?_) (L0a xf hW.size)
   ·rw [Nat.zero_add,hW.cell (p:=⟨ob,_,none⟩) xf,xa.cellAt j (by have:=(L1a.1 hj).1;simp at this;omega)]
    exact hj
   ·simp only [List.mem_map] at hu
    obtain⟨n,_,rfl⟩:=hu;rfl
  have xd:0 < R.out.length:=by omega
  clear h e xa hq h0;go_enter func22,ntmps22;go_wp2_with (go_at_call 46;refine (HC.out _ ?_).mono ?_;exact Below.refl _ _;rintro e w2 ⟨gb,xg,rfl,xe,xb⟩)
  go_ret;exact⟨xb,Or.inr ⟨xd,gb,xg,rfl,xe,xb⟩⟩
end
end Go.Proofs.YtbkmgoffiigdbaaGreatDoor
