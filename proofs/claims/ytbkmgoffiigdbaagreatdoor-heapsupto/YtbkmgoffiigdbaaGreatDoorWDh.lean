import Derived.Test.YtbkmgoffiigdbaaGreatDoorWCd
namespace Go.Proofs.YtbkmgoffiigdbaaGreatDoor
open Go.RowKit Go.Sort Go.Proofs.Tryz
set_option maxHeartbeats 2000000
set_option maxRecDepth 100000
section
variable {R:McR} {g:PgR} {mb n:Nat} {own:Own} {w:World}
theorem a4u {P:McR->Prop} {fuel:Int} (h:Calls prog 99 #[.pointer (some ⟨mb,0,none⟩),.int .i64 fuel] w fun e w'=>kL own mb g P n w e w') :
  Calls prog 60 #[.pointer (some ⟨mb,0,none⟩),.int .i64 fuel] w fun e w'=>kL own mb g P n w e w':=by
 have H:=hid h;clear h;go_enter func60,ntmps60;go_wp2_with (go_at_call 99;refine H.out.mono ?_;rintro e w2 ⟨xa,R',rfl,hm,hp,ht⟩)
 go_ret2;exact⟨xa,R',rfl,hm,hp,ht⟩
def taken (l:List ObR):Nat:=(l.filter fun o=>o.kind != 0).length
theorem yF {l:List ObR} {i:Nat} {o:ObR} (h:l[i]?=some o):taken (l.take (i+1))=taken (l.take i)+if o.kind != 0 then 1 else 0:=by
 have hi:=(L1a.1 h).1;have e:l.take (i+1)=l.take i++[o]:=by rw [List.take_add_one,h];rfl
 unfold taken;rw[e,List.filter_append,List.length_append];congr 1
 by_cases hk:o.kind != 0 <;> simp [List.filter,hk]
theorem iX (l:List ObR):taken l<=l.length:=List.length_filter_le _ _
theorem G3 {t:Tag} {e size:Nat} {v:Value} {xs:List Value} (h:Row w own t e size v n xs):∃a c,v=.slice a n c:=by
 rcases h.1.2 with ⟨e,e0⟩ | ⟨gb,xa,_,e,_⟩
 ·exact ⟨none,0,by rw [e,e0]⟩
 ·exact ⟨_,_,e⟩
theorem eY (h:A4 w own mb g R) (hpos:0 < R.obs.length) (hn:R.obs.length<=1000) :
  Calls prog 45 #[.pointer (some ⟨mb,4,none⟩)] w fun e w'=>e=.returned (.int .i64 (taken R.obs:Int))/\L0d w w':=by
 have c4:=h.c4;have xk:mb < w.heap.size:=h.lt mb _ h.me;have HH:=hid h;obtain⟨hb,hc,e,_,xg⟩:=h.slots.1.form hpos;have xd:=h.slots.1;rw[e] at c4 xd;have xe:=hid xd;clear h e xd;go_enter func45,ntmps45;go_wp2_with fail;go_loopw [3,11] (fun vn vi wr=>∃i:Nat,i<=R.obs.length/\vi=.int .i64 i/\vn=.int .i64 (taken (R.obs.take i):Int)/\L0d w wr) (fun _ vi _=>R.obs.length - (intOf vi).toNat)
 case atStart=>exact ⟨0,L4c _,rfl,rfl,L3b _ _⟩
 case round =>
  obtain⟨i,hi,rfl,rfl,xc⟩:=hrel;by_cases hlti:i < R.obs.length
  ·obtain ⟨o,ho⟩:∃o,R.obs[i]?=some o:=⟨_,L1b hlti⟩
   have xb:∀j,j < 2->wr.cell? ⟨hb,i*2+j,none⟩=o.cells[j]?:=fun j hj=>by
    rw[xc.cell (p:=⟨hb,_,none⟩) xg,xe.out.cellAt _ R4];exact E0 ObR.cells_len ho hj
   obtain⟨fa,fc,xh⟩:=G3 (HH.out.fld i o ho);have k0:wr.cell? ⟨hb,i*2,none⟩=some (.int .u8 o.kind):=xb 0 R4;have k1:wr.cell? ⟨hb,i*2+1,none⟩=some o.fv:=xb 1 R4;rw[xh] at k1;have xf:=yF ho;have xj:=iX (R.obs.take i);have xl:hb < wr.heap.size:=L0a xg xc.size;have xm:taken (R.obs.take i)<=1000:=by rw [List.length_take] at xj;omega
   have xi:=hid xf;have xa:=hid xc;clear xb xh xf xj xc ho
   cases hk:(o.kind != 0)
   ·go_wp2_with fail
    go_roundw
    case rel=>exact ⟨i+1,by omega,by go_num,by rw [xi.out,hk];rfl,by repeat (first | exact xa.out | refine Below.setCell ?_ (by have:=xa.out.size;first | omega | (simp;omega)) _ | refine L3a ?_ (by have:=xa.out.size;first | omega | (simp;omega)) _)⟩
    case measure=>simp [intOf];omega
   ·go_wp2_with fail
    go_roundw
    case rel=>exact ⟨i+1,by omega,by go_num,by rw [xi.out,hk];go_num,by repeat (first | exact xa.out | refine Below.setCell ?_ (by have:=xa.out.size;first | omega | (simp;omega)) _ | refine L3a ?_ (by have:=xa.out.size;first | omega | (simp;omega)) _)⟩
    case measure=>simp [intOf];omega
  ·obtain rfl:i=R.obs.length:=by omega
   go_wp2_with fail;go_ret;refine⟨?_,xc⟩;rw[List.take_length];rfl
theorem uO (h:A4 w own mb g R) (hpos:0 < R.obs.length) (hn:R.obs.length<=1000) :
  Calls prog 20 #[.pointer (some ⟨mb,0,none⟩)] w fun e w'=>e=.returned (.agg #[.int .i64 R.st,.int .i64 (taken R.obs:Int),.int .i64 (R.dr.length:Int)])/\L0d w w':=by
 have c1:=h.c1;have c5:=h.c5;obtain⟨da,dc,xb⟩:=G3 h.draws;rw[xb] at c5;have xh:mb < w.heap.size:=h.lt mb _ h.me;have xc:Hid (∀W,L0d w W->Calls prog 45 #[.pointer (some ⟨mb,4,none⟩)] W fun e w'=>e=.returned (.int .i64 (taken R.obs:Int))/\L0d W w'):=by
  intro W hW;exact eY (h.same hW.size fun k hk=>hW.block k hk) hpos hn
 clear h xb;go_enter func20,ntmps20;go_wp2_with fail;go_region_with (first | (go_at_call 45;refine (xc.out _ ?_).mono ?_;exact P7;rintro e w2 ⟨rfl,xa⟩;obtain ⟨xf,xe⟩:=X4 xa;have xd:=xa.size;have xg:=hid xa;clear xa))
 all_goals
  generalize hqW3:(((w2.setCell ⟨w.heap.size,0,none⟩ (.int .i64 R.st)).setCell ⟨w.heap.size,1,none⟩ (.int .i64 (taken R.obs:Int))).setCell ⟨w.heap.size,2,none⟩ (.int .i64 (R.dr.length:Int)))=W3 at *
  have r0:W3.cell? ⟨w.heap.size,0,none⟩=some (.int .i64 R.st):=by subst hqW3;go_simp
  have r1:W3.cell? ⟨w.heap.size,1,none⟩=some (.int .i64 (taken R.obs:Int)):=by subst hqW3;go_simp
  have r2:W3.cell? ⟨w.heap.size,2,none⟩=some (.int .i64 (R.dr.length:Int)):=by subst hqW3;go_simp
  have hB:L0d w W3:=by
   subst hqW3;refine Below.setCell (Below.setCell (Below.setCell (A7 xg.out ?_) ?_ _) ?_ _) ?_ _
   ·repeat (first | exact L3b _ _ | refine L3c ?_ | refine L3a ?_ Q2 _)
   ·exact L1c _
   ·exact L1c _
   ·exact L1c _
  clear xf xe xd;clear hqW3;go_wp2_with fail;exact bodyPost_ret (v:=.agg #[.int .i64 R.st,.int .i64 (taken R.obs:Int),.int .i64 (R.dr.length:Int)]) (by simp [results,results20,go_sem,r0,r1,r2]) rfl ⟨rfl,hB⟩
def a4s (l:List Int) (w:World) (e:Ending) (w':World):Prop :=
 L0d w w'/\((l=[]/\e=.returned (.slice none 0 0))\/(0 < l.length/\X5 3 1 l.length (l.map fun n=>.int .i64 n) w e w'))
theorem nD (w:World):Calls prog 46 #[.slice none 0 0] w fun e w'=>e=.returned (.slice none 0 0)/\w'=w:=by
 have xa:∀W:World,(binOp .eql 24 (.slice none 0 0) (.slice none 0 0)).run prog W=.ok (.bool true) W:=fun W=>Go.Lib.run_eql_slice_nil W 24 3 none 0 0 0 0 underlying24
 go_enter func46,ntmps46;go_wp2_with fail;go_ret;exact⟨rfl,rfl⟩
theorem uN (h:A4 w own mb g R) (hn:R.out.length<=1000) (hq:R.out=[]->R.ov=.slice none 0 0) :
  Calls prog 22 #[.pointer (some ⟨mb,0,none⟩)] w fun e w'=>a4s R.out w e w':=by
 have c2:=h.c2;have xh:mb < w.heap.size:=h.lt mb _ h.me;by_cases h0:R.out.length=0
 ·have xe:=List.length_eq_zero_iff.1 h0
  rw[hq xe] at c2;have H0:=hid xe;clear h h0 xe hq;go_enter func22,ntmps22;go_wp2_with (go_at_call 46;refine (nD _).mono ?_;rintro e w' ⟨rfl,hw⟩;rw [hw];clear hw w')
  go_ret;exact⟨L3b _ _,L4a ⟨H0.out,rfl⟩⟩
 ·obtain ⟨ob,oc,e,_,xf⟩:=h.out.1.form R4
  have xa:=h.out.1;rw[e] at c2 xa;have HC:Hid (∀W,L0d w W->Calls prog 46 #[.slice (some ⟨ob,0,none⟩) R.out.length oc] W fun e w'=>X5 3 1 R.out.length (R.out.map fun n=>.int .i64 n) W e w'):=by
   intro W hW;refine a0c ob 0 _ oc _ W R4 R4 R5 (fun j u hj=>?_) (fun u hu=>?_) (L0a xf hW.size)
   ·rw [Nat.zero_add,hW.cell (p:=⟨ob,_,none⟩) xf,xa.cellAt j (by have:=(L1a.1 hj).1;simp at this;omega)]
    exact hj
   ·simp only [List.mem_map] at hu
    obtain⟨n,_,rfl⟩:=hu;rfl
  have xd:0 < R.out.length:=by omega
  clear h e xa hq h0;go_enter func22,ntmps22;go_wp2_with (go_at_call 46;refine (HC.out _ ?_).mono ?_;exact L3b _ _;rintro e w2 ⟨gb,xg,rfl,xc,xb⟩)
  go_ret;exact⟨xb,L4b ⟨xd,gb,xg,rfl,xc,xb⟩⟩
end
end Go.Proofs.YtbkmgoffiigdbaaGreatDoor
