import Derived.Test.YtbkmgoffiigdbabGreatDoorVPd
namespace Go.Proofs.YtbkmgoffiigdbabGreatDoor
open Go.RowKit Go.Sort
set_option maxHeartbeats 8000000
set_option maxRecDepth 100000
def N3 (l:List Int):List Value:=l.map fun b=>.int .u8 b
theorem X4 (l:List Int):(N3 l).length=l.length:=by simp [N3]
structure T1 (W:World) (wb ab:Nat) (bs:List Int):Prop where
 c0:W.cell? ⟨wb,0,none⟩=some (.slice (some ⟨ab,0,none⟩) 20000 20000)
 c1:W.cell? ⟨wb,1,none⟩=some (.int .i64 (bs.length:Int))
 c2:W.cell? ⟨wb,2,none⟩=some (.bool false)
 z1:W.frozen? ⟨wb,1,none⟩=false
 row:∃rest,W.ownsRow 0 5 1 (.slice (some ⟨ab,0,none⟩) 20000 20000) 20000 (N3 bs++rest)
 wlt:wb < W.heap.size
 ne:wb≠ab
theorem T1.alt {W:World} {wb ab:Nat} {bs:List Int} (h:T1 W wb ab bs):ab < W.heap.size:=by
 obtain⟨_,hr⟩:=h.row;exact (hr.lt ab rfl).2
structure A6 (wb ab:Nat) (W W':World):Prop where
 os:W'.os=W.os
 tape:W'.tape=W.tape
 output:W'.output=W.output
 size:W.heap.size≤W'.heap.size
 block:∀k,k < W.heap.size→k≠wb→k≠ab→W'.heap[k]?=W.heap[k]?
theorem A6.refl (wb ab:Nat) (W:World):A6 wb ab W W:=⟨rfl,rfl,rfl,Nat.le_refl _,fun _ _ _ _=>rfl⟩
theorem A6.trans {wb ab:Nat} {W V U:World} (h:A6 wb ab W V) (k:A6 wb ab V U):A6 wb ab W U :=
 ⟨k.os.trans h.os,k.tape.trans h.tape,k.output.trans h.output,Nat.le_trans h.size k.size,fun j hj h1 h2=>(k.block j (Nat.lt_of_lt_of_le hj h.size) h1 h2).trans (h.block j hj h1 h2)⟩
theorem A6.of_below {wb ab:Nat} {W V:World} (h:Below W.heap.size W V):A6 wb ab W V:=⟨h.os,h.tape,h.output,h.size,fun k hk _ _=>h.block k hk⟩
theorem A6.cell {wb ab:Nat} {W V:World} (h:A6 wb ab W V) {b i:Nat} {v:Value} (hb:b < W.heap.size) (h1:b≠wb) (h2:b≠ab) (hc:W.cell? ⟨b,i,none⟩=some v):V.cell? ⟨b,i,none⟩=some v:=by
 rw[World.cell?_of_block (w:=W) (a:=⟨b,i,none⟩) (h.block b hb h1 h2)];exact hc
theorem A6.setW {wb ab i:Nat} {W:World} (v:Value):A6 wb ab W (W.setCell ⟨wb,i,none⟩ v):=⟨rfl,rfl,rfl,by simp,fun k _ h1 _=>heap_setCell_other _ _ _ _ h1⟩
theorem A6.setA {wb ab i:Nat} {W:World} (v:Value):A6 wb ab W (W.setCell ⟨ab,i,none⟩ v):=⟨rfl,rfl,rfl,by simp,fun k _ _ h2=>heap_setCell_other _ _ _ _ h2⟩
theorem T1.later {W V:World} {wb ab:Nat} {bs:List Int} (h:T1 W wb ab bs) (hB:Below W.heap.size W V):T1 V wb ab bs:=by
 obtain⟨rest,hr⟩:=h.row;refine⟨(hB.cell (p:=⟨wb,0,none⟩) h.wlt).trans h.c0,(hB.cell (p:=⟨wb,1,none⟩) h.wlt).trans h.c1,(hB.cell (p:=⟨wb,2,none⟩) h.wlt).trans h.c2,(hB.frozen (p:=⟨wb,1,none⟩) h.wlt).trans h.z1,⟨rest,A2 hr fun b hb=>?_⟩,Nat.lt_of_lt_of_le h.wlt hB.size,h.ne⟩;obtain rfl:ab=b:=by simpa [Value.ownBlock] using hb
 exact hB.block _ h.alt
structure pP (V V':World):Prop where
 heap:V'.heap=V.heap
 os:V'.os=V.os
 tape:V'.tape=V.tape
 output:V'.output=V.output
theorem pP.refl (V:World):pP V V:=⟨rfl,rfl,rfl,rfl⟩
theorem pP.drew {V V':World} (h:pP V V'):pP V V'.drew:=⟨h.heap,h.os,h.tape,h.output⟩
theorem pP.below {V V':World} (h:pP V V'):Below V.heap.size V V':=⟨h.os,h.tape,h.output,by rw [h.heap];exact Nat.le_refl _,fun k _=>by rw [h.heap]⟩
theorem aM (p:Value) (w:World):Calls Tryz.prog 82 #[p,.bool true] w fun e w'=>e=.returned (.tuple #[])∧w'=w:=by
 go_enter Tryz.func82,Tryz.ntmps82;go_wp2_with fail;go_end0
 exact⟨rfl,rfl⟩
theorem a3F {W:World} {wb ab:Nat} {bs:List Int} (h:T1 W wb ab bs) (hn:bs.length < 20000) :
  Calls Tryz.prog 67 #[.pointer (some ⟨wb,0,none⟩)] W fun e w'=>e=.returned (.pointer (some ⟨ab,bs.length,none⟩))∧pP (W.setCell ⟨wb,1,none⟩ (.int .i64 ((bs.length:Int)+1))) w':=by
 have c0:=h.c0;have c1:=h.c1;have c2:=h.c2;have z1:=h.z1;have hw:=h.wlt;have HH:=hid h;generalize bs.length=n at *
 have hn':(n:Int) < 20000:=by omega
 clear h;go_enter Tryz.func67,Tryz.ntmps67;go_wp2_with fail;have hd:decide ((n:Int) < 20000)=true:=decide_eq_true hn';have he1:(n:Int)+1 - 1=(n:Int):=by omega
 have he2:IntKind.i64.wrap ((n:Int)+1 - 1)=(n:Int):=by rw [he1];exact Go.IntWalk.i64_in _ Q8
 have he3:(0:Int)≤(n:Int):=by omega
 go_region_with (go_at_call 82;refine (aM _ _).mono ?_;rintro e w' ⟨rfl,hw⟩;rw [hw];clear hw w')
 all_goals go_wp2_with fail
 all_goals go_region
 all_goals go_wp2_with fail
 all_goals go_ret
 all_goals exact ⟨rfl,⟨rfl,rfl,rfl,rfl⟩⟩
theorem T1.put {W V:World} {wb ab:Nat} {bs:List Int} (h:T1 W wb ab bs) (hn:bs.length < 20000) (b:Int) (hl:pP (W.setCell ⟨wb,1,none⟩ (.int .i64 ((bs.length:Int)+1))) V) :
  (∃old,V.cell? ⟨ab,bs.length,none⟩=some old)∧V.frozen? ⟨ab,bs.length,none⟩=false∧T1 (V.setCell ⟨ab,bs.length,none⟩ (.int .u8 b)) wb ab (bs++[b])∧A6 wb ab W (V.setCell ⟨ab,bs.length,none⟩ (.int .u8 b)):=by
 obtain⟨rest,hr⟩:=h.row;have hB:=hl.below;have hw1:A6 wb ab W (W.setCell ⟨wb,1,none⟩ (.int .i64 ((bs.length:Int)+1))):=A6.setW _;have hr1:(W.setCell ⟨wb,1,none⟩ (.int .i64 ((bs.length:Int)+1))).ownsRow 0 5 1 (.slice (some ⟨ab,0,none⟩) 20000 20000) 20000 (N3 bs++rest):=ownsRow_setCell_other hr (a:=⟨wb,1,none⟩) (by show some ab≠some wb;exact fun e=>h.ne (Option.some.inj e).symm) _;have hsz:(W.setCell ⟨wb,1,none⟩ (.int .i64 ((bs.length:Int)+1))).heap.size=W.heap.size:=by simp
 have hr2:V.ownsRow 0 5 1 (.slice (some ⟨ab,0,none⟩) 20000 20000) 20000 (N3 bs++rest):=A2 hr1 fun k hk=>by
  obtain rfl:ab=k:=by simpa [Value.ownBlock] using hk
  exact hB.block _ (by rw [hsz];exact h.alt)
 have hlen:rest.length=20000 - bs.length:=by
  have:=hr.1;rw[List.length_append,X4] at this;omega
 obtain⟨x,rest',rfl⟩:∃x rest',rest=x::rest':=by
  cases rest with
  | nil=>simp at hlen;omega
  | cons x l=>exact ⟨x,l,rfl⟩
 have hcell:V.cell? ⟨ab,bs.length,none⟩=some x:=by
  rw[hr2.cellAt bs.length Q8,List.getElem?_append_right (by rw [X4];exact Nat.le_refl _),X4];simp
 have hvw:wb < V.heap.size:=by rw [hl.heap,hsz];exact h.wlt
 have hva:ab < V.heap.size:=by rw [hl.heap,hsz];exact h.alt
 have hst:=(World.ownsRow.stored hr2 bs.length (.int .u8 b)).1;have hset:(N3 bs++x::rest').set bs.length (.int .u8 b)=N3 (bs++[b])++rest':=by
  rw[List.set_append_right _ _ (by rw [X4];exact Nat.le_refl _),X4];simp[N3]
 rw[hset] at hst;have far:∀i,(V.setCell ⟨ab,bs.length,none⟩ (.int .u8 b)).cell? ⟨wb,i,none⟩=V.cell? ⟨wb,i,none⟩:=fun i=>World.cell?_setCell_far _ ⟨ab,bs.length,none⟩ ⟨wb,i,none⟩ _ (Ne.symm h.ne)
 have vc:∀i,V.cell? ⟨wb,i,none⟩=(W.setCell ⟨wb,1,none⟩ (.int .i64 ((bs.length:Int)+1))).cell? ⟨wb,i,none⟩:=fun i=>hB.cell (p:=⟨wb,i,none⟩) (by rw [hsz];exact h.wlt)
 have c0:=h.c0;have c1:=h.c1;have c2:=h.c2;have z1:=h.z1;have hwl:=h.wlt;refine⟨⟨x,hcell⟩,hr2.frozenAt _,⟨?_,?_,?_,?_,⟨rest',hst⟩,by simpa using hvw,h.ne⟩,hw1.trans ((A6.of_below hB).trans (A6.setA _))⟩
 ·rw [far,vc];go_simp
 ·rw [far,vc,List.length_append];go_simp
 ·rw [far,vc];go_simp
 ·rw [World.frozen?_of_block (w:=V) (a:=⟨wb,1,none⟩) (heap_setCell_other _ _ _ _ h.ne),World.frozen?_of_block (w:=W.setCell ⟨wb,1,none⟩ (.int .i64 ((bs.length:Int)+1))) (a:=⟨wb,1,none⟩) (hB.block _ (by rw [hsz];exact h.wlt))]
  go_simp
def a2S (W:World) (wb ab:Nat) (a:Option Addr) (l:List Int):Prop:=0 < l.length→∃b o,a=some ⟨b,o,none⟩∧b < W.heap.size∧b≠wb∧b≠ab∧∀(i:Nat) (x:Int),l[i]?=some x→W.cell? ⟨b,o+i,none⟩=some (.int .u8 x)
def I2 (wb ab:Nat) (bs:List Int) (W:World) (e:Ending) (w':World):Prop:=e=.returned (.tuple #[])∧T1 w' wb ab bs∧A6 wb ab W w'
theorem a3n {W:World} {wb ab:Nat} {bs:List Int} (h:T1 W wb ab bs) (a:Option Addr) (c:Nat) (l:List Int) (hl:a2S W wb ab a l) (hn:bs.length+l.length < 20000) :
  Calls Tryz.prog 44 #[.pointer (some ⟨wb,0,none⟩),.slice a l.length c] W fun e w'=>I2 wb ab (bs++l) W e w':=by
 have HH:=hid h;have HL:=hid hl;clear h hl;go_enter Tryz.func44,Tryz.ntmps44;go_wp2_with fail;go_loopw [8] (fun vi wr=>∃i:Nat,i≤l.length∧vi=.int .i64 i∧T1 wr wb ab (bs++l.take i)∧A6 wb ab W wr) (fun vi _=>l.length - (intOf vi).toNat)
 case atStart=>exact ⟨0,Nat.zero_le _,rfl,by simpa using HH.out,A6.refl _ _ _⟩
 case round =>
  obtain⟨i,hi,rfl,hwr,hwt⟩:=hrel;by_cases hlt:i < l.length
  ·obtain ⟨x,hx⟩:∃x,l[i]?=some x:=⟨_,List.getElem?_eq_getElem hlt⟩
   obtain⟨b,o,rfl,hb,hb1,hb2,hcs⟩:=HL.out Q8;have x0:=hwt.cell hb hb1 hb2 (hcs i x hx);have hbw:b < wr.heap.size:=Nat.lt_of_lt_of_le hb hwt.size;have hwl:=hwr.wlt;have hlen:(bs++l.take i).length < 20000:=by rw [List.length_append,List.length_take];omega
   have HTK:Hid (bs++l.take (i+1)=bs++l.take i++[x]):=by
    refine hid ?_;rw[List.take_add_one,hx,List.append_assoc];rfl
   have HWR:=hid hwr;have HWT:=hid hwt;clear hwr hwt hcs hx;generalize bs++l.take i=cs at *
   go_wp2_with fail;refine (a3F HWR.out hlen).mono ?_;rintro e w1 ⟨rfl,hk⟩;obtain⟨⟨old,p0⟩,p1,p2,p3⟩:=HWR.out.put hlen x hk;have HP2:=hid p2;have HP3:=hid p3;have hal:ab < w1.heap.size:=by have:=p2.alt;simpa using this
   clear p2 p3 hk;go_wp2_with fail;go_roundw
   case rel=>exact ⟨i+1,by omega,by go_num,by rw [HTK.out];exact HP2.out,HWT.out.trans HP3.out⟩
   case measure=>simp [intOf];omega
  ·obtain rfl:i=l.length:=by omega
   rw[List.take_length] at hwr;have HWR:=hid hwr;have HWT:=hid hwt;clear hwr hwt;go_wp2_with fail;go_end0
   exact⟨rfl,HWR.out,HWT.out⟩
def D6 (n:Nat):List Int:=if n < 128 then [(n:Int)] else ((n % 128+128:Nat):Int)::D6 (n / 128)
termination_by n
decreasing_by omega
theorem a0f:∀(k n:Nat),n < 128 ^ (k+1)→(D6 n).length≤k+1
 | 0,n,h=>by rw [D6,if_pos (by simpa using h)];simp
 | k+1,n,h=>by
  rw[D6];split
  ·simp
  ·have:n / 128 < 128 ^ (k+1):=Nat.div_lt_of_lt_mul (by rw [Nat.pow_succ,Nat.mul_comm] at h;exact h)
   have:=a0f k (n / 128) this;simp only[List.length_cons];omega
theorem E1 {n:Nat} (h:n < 18446744073709551616):(D6 n).length≤10:=a0f 9 n (by
 have:(18446744073709551616:Nat)≤128 ^ (9+1):=by decide
 omega)
theorem a6H {W:World} {wb ab:Nat} {bs:List Int} (h:T1 W wb ab bs) (b:Int):T1 (W.alloc (.cells #[.int .u8 b] 5)) wb ab bs∧a2S (W.alloc (.cells #[.int .u8 b] 5)) wb ab (some ⟨W.heap.size,0,none⟩) [b]∧A6 wb ab W (W.alloc (.cells #[.int .u8 b] 5)):=by
 have hB:Below W.heap.size W (W.alloc (.cells #[.int .u8 b] 5)):=Below.alloc (Below.refl _ _) (Nat.le_refl _) _;refine⟨h.later hB,fun _=>⟨W.heap.size,0,rfl,by simp,?_,?_,fun i x hx=>?_⟩,A6.of_below hB⟩
 ·have:=h.wlt;omega
 ·have:=h.alt;omega
 ·cases i with
  | zero=>cases hx;go_simp
  | succ i=>simp at hx
theorem a2i {W:World} {wb ab:Nat} {bs:List Int} (h:T1 W wb ab bs) (b:Int) (hn:bs.length+1 < 20000) :
  Calls Tryz.prog 44 #[.pointer (some ⟨wb,0,none⟩),.slice (some ⟨W.heap.size,0,none⟩) 1 1] (W.alloc (.cells #[.int .u8 b] 5)) fun e w'=>I2 wb ab (bs++[b]) W e w':=by
 obtain⟨h1,h2,h3⟩:=a6H h b;refine (a3n h1 _ 1 [b] h2 (by simpa using hn)).mono ?_;rintro e w' ⟨rfl,h4,h5⟩;exact⟨rfl,h4,h3.trans h5⟩
theorem a8U (k:Nat):bits BinOp.or IntKind.u8 ((k:Int) % 256) 128=((k % 128+128:Nat):Int):=by
 have h:k % 256 < 256:=Nat.mod_lt _ Q7;have e:k % 128=(k % 256) % 128:=by omega
 have e2:(k:Int) % 256=((k % 256:Nat):Int):=by omega
 rw[e,e2];generalize k % 256=m at h;have:∀m,m < 256→bits BinOp.or IntKind.u8 ((m:Nat):Int) 128=((m % 128+128:Nat):Int):=by decide
 exact this m h
theorem oL {W:World} {wb ab:Nat} {bs:List Int} (h:T1 W wb ab bs) (n:Nat) (h64:n < 18446744073709551616) (hn:bs.length+10 < 20000) :
  Calls Tryz.prog 99 #[.pointer (some ⟨wb,0,none⟩),.int .u64 (n:Int)] W fun e w'=>I2 wb ab (bs++D6 n) W e w':=by
 have hten:=E1 h64;have HH:=hid h;clear h;go_enter Tryz.func99,Tryz.ntmps99;go_wp2_with fail;go_loopw [1] (fun vn wr=>∃(k:Nat) (cs:List Int),vn=.int .u64 (k:Int)∧k≤n∧T1 wr wb ab (bs++cs)∧cs++D6 k=D6 n∧A6 wb ab W wr) (fun vn _=>(intOf vn).toNat)
 case atStart=>exact ⟨n,[],rfl,Nat.le_refl _,by simpa using HH.out,rfl,A6.refl _ _ _⟩
 case round =>
  obtain⟨k,cs,rfl,hkn,hwr,hcs,hwt⟩:=hrel;have hlen:(bs++cs).length+1 < 20000:=by
   have:(cs++D6 k).length≤10:=by rw [hcs];exact hten
   rw[List.length_append] at this;have h1:1≤(D6 k).length:=by rw [D6];split <;> simp
   rw[List.length_append];omega
  have HWR:=hid hwr;have HWT:=hid hwt;have HCS:=hid hcs;have hwl:=hwr.wlt;clear hwr hwt hcs;by_cases hk:k < 128
  ·have HCK:Hid (D6 k=[(k:Int)]):=by refine hid ?_;rw [D6,if_pos hk]
   have hk256:(k:Int) % 256=(k:Int):=by omega
   have hkk:¬(128:Int)≤(k:Int):=by omega
   go_wp2_with fail;refine (a2i HWR.out _ hlen).mono ?_;rintro e w1 ⟨rfl,h1,h2⟩;have HP:Hid (I2 wb ab (bs++D6 n) W (.returned (.tuple #[])) w1):=⟨rfl,by rw [← HCS.out,HCK.out,← List.append_assoc];exact h1,HWT.out.trans h2⟩;clear h1 h2;go_wp2_with fail;go_end0
   exact HP.out
  ·have HCK:Hid (D6 k=((k % 128+128:Nat):Int)::D6 (k / 128)):=by refine hid ?_;rw [D6,if_neg hk]
   have hkk:(128:Int)≤(k:Int):=by omega
   go_wp2_with fail;refine (a2i HWR.out _ hlen).mono ?_;rintro e w1 ⟨rfl,h1,h2⟩;rw[a8U] at h1;have H1:=hid h1;have H2:=hid (HWT.out.trans h2);clear h1 h2;go_wp2_with fail;go_roundw
   case rel=>exact ⟨k / 128,cs++[((k % 128+128:Nat):Int)],by first | rfl | (congr 1;omega) | skip,by omega,by rw [← List.append_assoc];exact H1.out,by rw [← HCS.out,HCK.out,List.append_assoc];rfl,H2.out⟩
   case measure=>simp [intOf];omega
def oS (z:Int):Nat:=if z < 0 then (2*(-1 - z)+1).toNat else (2*z).toNat
def jI (z:Int):List Int:=D6 (oS z)
def fD (v:Val):List Int:=v.1::(if v.1=1 then jI v.2 else if v.1=2 then D6 v.2.toNat else [])
def Y9 (l:List Val):List Int:=l.flatMap fD
theorem pD {z:Int} (h1 : -9223372036854775808≤z) (h2:z≤9223372036854775807):oS z < 18446744073709551616:=by unfold oS;split <;> omega
def I64 (z:Int):Prop := -9223372036854775808≤z∧z≤9223372036854775807
def sY (v:Val):Prop:=I64 v.2∧(v.1=2→0≤v.2)
theorem a7p {v:Val} (h:sY v):(fD v).length≤11:=by
 unfold fD;rw[List.length_cons];split
 ·have:=E1 (pD h.1.1 h.1.2)
  unfold jI;omega
 ·split
  ·rename_i h2
   have:=E1 (n:=v.2.toNat) (by have:=h.1.2;have:=h.2 h2;omega);omega
  ·simp
theorem fE {l:List Val} (h:∀v,v∈l→sY v):(Y9 l).length≤l.length*11:=by
 induction l with
 | nil=>simp [Y9]
 | cons v l ih =>
  have h1:=ih fun x hx=>h x (by simp [hx])
  have h2:=a7p (h v Q9);unfold Y9 at h1 ⊢;rw[List.flatMap_cons,List.length_append,List.length_cons,Nat.add_mul];omega
theorem L7 {W:World} {wb ab:Nat} {bs:List Int} (h:T1 W wb ab bs) (n:Nat) (h63:n < 9223372036854775808) (hn:bs.length+10 < 20000) :
  Calls Tryz.prog 69 #[.pointer (some ⟨wb,0,none⟩),.int .i64 (n:Int)] W fun e w'=>I2 wb ab (bs++D6 n) W e w':=by
 have HN:=hid (oL h n Q8 hn);clear h;go_enter Tryz.func69,Tryz.ntmps69;go_wp2_with fail;refine HN.out.mono ?_;rintro e w1 ⟨rfl,h1,h2⟩;have HP:Hid (I2 wb ab (bs++D6 n) W (.returned (.tuple #[])) w1):=⟨rfl,h1,h2⟩;clear h1 h2;go_wp2_with fail;go_end0
 exact HP.out
theorem kP {W:World} {wb ab:Nat} {bs:List Int} (h:T1 W wb ab bs) (z:Int) (hz:I64 z) (hn:bs.length+10 < 20000) :
  Calls Tryz.prog 98 #[.pointer (some ⟨wb,0,none⟩),.int .i64 z] W fun e w'=>I2 wb ab (bs++jI z) W e w':=by
 have HN:=hid (oL h (oS z) (pD hz.1 hz.2) hn);obtain⟨hz1,hz2⟩:=hz;clear h;by_cases hneg:z < 0
 ·obtain ⟨m,hm⟩:∃m:Nat, -1 - z=(m:Int):=⟨(-1 - z).toNat,by omega⟩
  have hm63:m < 9223372036854775808:=by omega
  have e1:(oS z:Int)=2*(m:Int)+1:=by unfold oS;rw [if_pos hneg,hm];omega
  have HN2:Hid (Calls Tryz.prog 99 #[.pointer (some ⟨wb,0,none⟩),.int .u64 (2*(m:Int)+1)] W fun e w'=>I2 wb ab (bs++jI z) W e w'):=by rw [← e1];exact HN
  clear HN e1;go_enter Tryz.func98,Tryz.ntmps98;go_wp2_with fail;refine HN2.out.mono ?_;rintro e w1 ⟨rfl,h1,h2⟩;have HP:Hid (I2 wb ab (bs++jI z) W (.returned (.tuple #[])) w1):=⟨rfl,h1,h2⟩;clear h1 h2;go_wp2_with fail;go_end0
  exact HP.out
 ·obtain ⟨m,hm⟩:∃m:Nat,z=(m:Int):=⟨z.toNat,by omega⟩
  subst hm;have hm63:m < 9223372036854775808:=by omega
  have e1:(oS (m:Int):Int)=2*(m:Int):=by unfold oS;rw [if_neg hneg];omega
  have HN2:Hid (Calls Tryz.prog 99 #[.pointer (some ⟨wb,0,none⟩),.int .u64 (2*(m:Int))] W fun e w'=>I2 wb ab (bs++jI (m:Int)) W e w'):=by rw [← e1];exact HN
  clear HN e1;go_enter Tryz.func98,Tryz.ntmps98;go_wp2_with fail;refine HN2.out.mono ?_;rintro e w1 ⟨rfl,h1,h2⟩;have HP:Hid (I2 wb ab (bs++jI (m:Int)) W (.returned (.tuple #[])) w1):=⟨rfl,h1,h2⟩;clear h1 h2;go_wp2_with fail;go_end0
  exact HP.out
theorem a8u {W:World} {wb ab k:Nat} {bs:List Int} (h:T1 W wb ab bs) (hk:W.heap.size=k) (b:Int) (hn:bs.length+1 < 20000) :
  Calls Tryz.prog 44 #[.pointer (some ⟨wb,0,none⟩),.slice (some ⟨k,0,none⟩) 1 1] (W.alloc (.cells #[.int .u8 b] 5)) fun e w'=>I2 wb ab (bs++[b]) W e w':=by subst hk;exact a2i h b hn
theorem a5q {W:World} {wb ab:Nat} {bs:List Int} (h:T1 W wb ab bs) (v:Val) (hv:sY v) (hn:bs.length+12 < 20000) :
  Calls Tryz.prog 129 #[.pointer (some ⟨wb,0,none⟩),.agg #[.int .u8 v.1,.int .i64 v.2]] W fun e w'=>I2 wb ab (bs++fD v) W e w':=by
 have HH:=hid h;have HV:=hid hv;have hwl:=h.wlt;have hal:=h.alt;have hb0:Below W.heap.size W (W.alloc (.cells #[.int .u8 v.1,.int .i64 v.2] 73)):=Below.alloc (Below.refl _ _) (Nat.le_refl _) _;have HB0:=hid hb0;clear h hv hb0;go_enter Tryz.func129,Tryz.ntmps129;go_wp2_with fail;refine (a8u (k:=W.heap.size+1) (HH.out.later HB0.out) Q9 v.1 Q8).mono ?_;rintro e w1 ⟨rfl,h1,h2⟩;have x0:w1.cell? ⟨W.heap.size,0,none⟩=some (.int .u8 v.1):=h2.cell Q9 Q8 Q8 Q6
 have x1:w1.cell? ⟨W.heap.size,1,none⟩=some (.int .i64 v.2):=h2.cell Q9 Q8 Q8 Q6;have hl1:W.heap.size < w1.heap.size:=by have:=h2.size;simp at this;omega
 have H1:=hid h1;have H2:=hid ((A6.of_below HB0.out).trans h2);clear h1 h2;by_cases k1:v.1=1
 ·rw [k1] at x0
  have HS:=hid (kP H1.out v.2 HV.out.1 (by rw [List.length_append];simp;omega));have HE:Hid (bs++[v.1]++jI v.2=bs++fD v):=by refine hid ?_;unfold fD;rw [if_pos k1,List.append_assoc];rfl
  go_wp2_with fail;refine HS.out.mono ?_;rintro e w2 ⟨rfl,h3,h4⟩;have HP:Hid (I2 wb ab (bs++fD v) W (.returned (.tuple #[])) w2):=⟨rfl,by rw [← HE.out];exact h3,H2.out.trans h4⟩;clear h3 h4;go_wp2_with fail;go_end0
  exact HP.out
 ·by_cases k2:v.1=2
  ·rw [k2] at x0
   obtain⟨m,hm⟩:=Int.eq_ofNat_of_zero_le (HV.out.2 k2);have hm2:v.2.toNat=m:=by rw [hm];rfl
   have hm63:m < 9223372036854775808:=by have:=HV.out.1.2;omega
   rw[hm] at x1;have HS:=hid (L7 H1.out m hm63 (by rw [List.length_append];simp;omega));have HE:Hid (bs++[v.1]++D6 m=bs++fD v):=by refine hid ?_;unfold fD;rw [if_neg k1,if_pos k2,hm2,List.append_assoc];rfl
   go_wp2_with fail;refine HS.out.mono ?_;rintro e w2 ⟨rfl,h3,h4⟩;have HP:Hid (I2 wb ab (bs++fD v) W (.returned (.tuple #[])) w2):=⟨rfl,by rw [← HE.out];exact h3,H2.out.trans h4⟩;clear h3 h4;go_wp2_with fail;go_end0
   exact HP.out
  ·have HE:Hid (bs++[v.1]=bs++fD v):=by refine hid ?_;unfold fD;rw [if_neg k1,if_neg k2]
   have HP:Hid (I2 wb ab (bs++fD v) W (.returned (.tuple #[])) w1):=⟨rfl,by rw [← HE.out];exact H1.out,H2.out⟩;have b1:(v.1 == 1)=false:=by simpa using k1
   have b2:(v.1 == 2)=false:=by simpa using k2
   go_wp2_with fail;go_end0
   exact HP.out
def VIn (W:World) (wb ab:Nat) (a:Option Addr) (l:List Val):Prop:=0 < l.length→∃b,a=some ⟨b,0,none⟩∧b < W.heap.size∧b≠wb∧b≠ab∧∀(i:Nat) (x:Val),l[i]?=some x→W.cell? ⟨b,i*2,none⟩=some (.int .u8 x.1)∧W.cell? ⟨b,i*2+1,none⟩=some (.int .i64 x.2)
theorem VIn.later {W V:World} {wb ab:Nat} {a:Option Addr} {l:List Val} (h:VIn W wb ab a l) (hw:A6 wb ab W V):VIn V wb ab a l:=fun h0=>by
 obtain⟨b,e,hb,h1,h2,hc⟩:=h h0;exact⟨b,e,Nat.lt_of_lt_of_le hb hw.size,h1,h2,fun i x hx=>⟨hw.cell hb h1 h2 (hc i x hx).1,hw.cell hb h1 h2 (hc i x hx).2⟩⟩
theorem eC {W:World} {wb ab:Nat} {bs:List Int} (h:T1 W wb ab bs) (a:Option Addr) (c:Nat) (l:List Val) (hl:VIn W wb ab a l) (hv:∀v,v∈l→sY v) (hn:bs.length+l.length*11+12 < 20000) :
  Calls Tryz.prog 100 #[.pointer (some ⟨wb,0,none⟩),.slice a l.length c] W fun e w'=>I2 wb ab (bs++Y9 l) W e w':=by
 have HH:=hid h;have HL:=hid hl;have HV:=hid hv;clear h hl hv;go_enter Tryz.func100,Tryz.ntmps100;go_wp2_with fail;go_loopw [8] (fun vi wr=>∃i:Nat,i≤l.length∧vi=.int .i64 i∧T1 wr wb ab (bs++Y9 (l.take i))∧A6 wb ab W wr) (fun vi _=>l.length - (intOf vi).toNat)
 case atStart=>exact ⟨0,Nat.zero_le _,rfl,by simpa [Y9] using HH.out,A6.refl _ _ _⟩
 case round =>
  obtain⟨i,hi,rfl,hwr,hwt⟩:=hrel;by_cases hlt:i < l.length
  ·obtain ⟨x,hx⟩:∃x,l[i]?=some x:=⟨_,List.getElem?_eq_getElem hlt⟩
   obtain⟨b,rfl,hb,hb1,hb2,hcs⟩:=(HL.out.later hwt) Q8;obtain⟨x0,x1⟩:=hcs i x hx;have hlen:(bs++Y9 (l.take i)).length+12 < 20000:=by
    have:=fE (l:=l.take i) fun v hv=>HV.out v (List.mem_of_mem_take hv)
    rw[List.length_take] at this;rw[List.length_append];have:min i l.length*11≤l.length*11:=Nat.mul_le_mul_right _ Q8;omega
   have HTK:Hid (bs++Y9 (l.take (i+1))=bs++Y9 (l.take i)++fD x):=by
    refine hid ?_;rw[List.take_add_one,hx,List.append_assoc];simp[Y9]
   have HX:=hid (HV.out x (List.mem_of_getElem? hx));have hwl:=hwr.wlt;have HWR:=hid (hwr.later (Below.alloc (Below.refl _ _) (Nat.le_refl _) (.cells #[.int .u8 x.1,.int .i64 x.2] 73)));have HWT:=hid (hwt.trans (A6.of_below (Below.alloc (Below.refl _ _) (Nat.le_refl _) (.cells #[.int .u8 x.1,.int .i64 x.2] 73))));clear hwr hwt hcs hx;generalize bs++Y9 (l.take i)=cs at *
   go_wp2_with fail;refine (a5q HWR.out x HX.out hlen).mono ?_;rintro e w1 ⟨rfl,h1,h2⟩;have H1:=hid h1;have H2:=hid (HWT.out.trans h2);clear h1 h2;go_wp2_with fail;go_roundw
   case rel=>exact ⟨i+1,by omega,by go_num,by rw [HTK.out];exact H1.out,H2.out⟩
   case measure=>simp [intOf];omega
  ·obtain rfl:i=l.length:=by omega
   rw[List.take_length] at hwr;have HWR:=hid hwr;have HWT:=hid hwt;clear hwr hwt;go_wp2_with fail;go_end0
   exact⟨rfl,HWR.out,HWT.out⟩
def eT (l:List Int):List Int:=l.flatMap jI
def jJ (l:List Int):List Int:=D6 l.length++eT l
theorem zR {z:Int} (h:I64 z):(jI z).length≤10:=E1 (pD h.1 h.2)
theorem uN {l:List Int} (h:∀z,z∈l→I64 z):(eT l).length≤l.length*10:=by
 induction l with
 | nil=>simp [eT]
 | cons v l ih =>
  have h1:=ih fun x hx=>h x (by simp [hx])
  have h2:=zR (h v Q9);unfold eT at h1 ⊢;rw[List.flatMap_cons,List.length_append,List.length_cons,Nat.add_mul];omega
def NIn (W:World) (wb ab:Nat) (a:Option Addr) (l:List Int):Prop:=0 < l.length→∃b,a=some ⟨b,0,none⟩∧b < W.heap.size∧b≠wb∧b≠ab∧∀(i:Nat) (x:Int),l[i]?=some x→W.cell? ⟨b,i,none⟩=some (.int .i64 x)
theorem NIn.later {W V:World} {wb ab:Nat} {a:Option Addr} {l:List Int} (h:NIn W wb ab a l) (hw:A6 wb ab W V):NIn V wb ab a l:=fun h0=>by
 obtain⟨b,e,hb,h1,h2,hc⟩:=h h0;exact⟨b,e,Nat.lt_of_lt_of_le hb hw.size,h1,h2,fun i x hx=>hw.cell hb h1 h2 (hc i x hx)⟩
theorem a0R {W:World} {wb ab:Nat} {bs:List Int} (h:T1 W wb ab bs) (a:Option Addr) (c:Nat) (l:List Int) (hl:NIn W wb ab a l) (hv:∀z,z∈l→I64 z) (hn:bs.length+l.length*10+30 < 20000) :
  Calls Tryz.prog 70 #[.pointer (some ⟨wb,0,none⟩),.slice a l.length c] W fun e w'=>I2 wb ab (bs++jJ l) W e w':=by
 have HC:=hid (L7 h l.length Q8 Q8);have HL:=hid hl;have HV:=hid hv;have hnl:=E1 (n:=l.length) Q8;clear h hl hv;go_enter Tryz.func70,Tryz.ntmps70;go_wp2_with fail;refine HC.out.mono ?_;rintro e w0 ⟨rfl,h1,h2⟩;have HH:=hid h1;have HW0:=hid h2;have HL0:=hid (HL.out.later h2);clear h1 h2;generalize hds:bs++D6 l.length=ds at *
 have hdl:ds.length≤bs.length+10:=by rw [← hds,List.length_append];omega
 have HDS:=hid hds;clear hds;go_wp2_with fail;go_loopw [12] (fun vi wr=>∃i:Nat,i≤l.length∧vi=.int .i64 i∧T1 wr wb ab (ds++eT (l.take i))∧A6 wb ab w0 wr) (fun vi _=>l.length - (intOf vi).toNat)
 case atStart=>exact ⟨0,Nat.zero_le _,rfl,by simpa [eT] using HH.out,A6.refl _ _ _⟩
 case round =>
  obtain⟨i,hi,rfl,hwr,hwt⟩:=hrel;by_cases hlt:i < l.length
  ·obtain ⟨x,hx⟩:∃x,l[i]?=some x:=⟨_,List.getElem?_eq_getElem hlt⟩
   obtain⟨b,rfl,hb,hb1,hb2,hcs⟩:=(HL0.out.later hwt) Q8;have x0:=hcs i x hx;have hlen:(ds++eT (l.take i)).length+10 < 20000:=by
    have:=uN (l:=l.take i) fun v hv=>HV.out v (List.mem_of_mem_take hv)
    rw[List.length_take] at this;rw[List.length_append];have:min i l.length*10≤l.length*10:=Nat.mul_le_mul_right _ Q8;omega
   have HTK:Hid (ds++eT (l.take (i+1))=ds++eT (l.take i)++jI x):=by
    refine hid ?_;rw[List.take_add_one,hx,List.append_assoc];simp[eT]
   have HX:=hid (HV.out x (List.mem_of_getElem? hx));have hwl:=hwr.wlt;have HWR:=hid hwr;have HWT:=hid hwt;clear hwr hwt hcs hx;generalize ds++eT (l.take i)=cs at *
   go_wp2_with fail;refine (kP HWR.out x HX.out hlen).mono ?_;rintro e w1 ⟨rfl,h1,h2⟩;have H1:=hid h1;have H2:=hid (HWT.out.trans h2);clear h1 h2;go_wp2_with fail;go_roundw
   case rel=>exact ⟨i+1,by omega,by go_num,by rw [HTK.out];exact H1.out,H2.out⟩
   case measure=>simp [intOf];omega
  ·obtain rfl:i=l.length:=by omega
   rw[List.take_length] at hwr;have HP:Hid (I2 wb ab (bs++jJ l) W (.returned (.tuple #[])) wr):=⟨rfl,by unfold jJ;rw [← List.append_assoc,HDS.out];exact hwr,HW0.out.trans hwt⟩;clear hwr hwt;go_wp2_with fail;go_end0
   exact HP.out
def frB (f:FrA):List Int:=D6 f.fn++D6 f.pc++Y9 f.loc++Y9 f.stk
def gK (l:List FrA):List Int:=l.flatMap frB
def V2 (l:List FrA):List Int:=D6 l.length++gK l
structure oW (f:FrA):Prop where
 fn:f.fn < 1000
 pc:f.pc < 1000
 len:f.loc.length+f.stk.length≤18
 loc:∀v,v∈f.loc→sY v
 stk:∀v,v∈f.stk→sY v
theorem a7Q {f:FrA} (h:oW f):(frB f).length≤218:=by
 have h1:=E1 (n:=f.fn) (by have:=h.fn;omega);have h2:=E1 (n:=f.pc) (by have:=h.pc;omega);have h3:=fE h.loc;have h4:=fE h.stk;have h5:=h.len;unfold frB;simp only[List.length_append];omega
theorem zH {l:List FrA} (h:∀f,f∈l→oW f):(gK l).length≤l.length*218:=by
 induction l with
 | nil=>simp [gK]
 | cons v l ih =>
  have h1:=ih fun x hx=>h x (by simp [hx])
  have h2:=a7Q (h v Q9);unfold gK at h1 ⊢;rw[List.flatMap_cons,List.length_append,List.length_cons,Nat.add_mul];omega
def FIn (W:World) (wb ab:Nat) (a:Option Addr) (l:List FrA):Prop:=0 < l.length→∃b,a=some ⟨b,0,none⟩∧b < W.heap.size∧b≠wb∧b≠ab∧∀(i:Nat) (f:FrA),l[i]?=some f →
 ∃la lc sa sc,W.cell? ⟨b,i*4,none⟩=some (.int .i64 (f.fn:Int))∧W.cell? ⟨b,i*4+1,none⟩=some (.int .i64 (f.pc:Int))∧W.cell? ⟨b,i*4+2,none⟩=some (.slice la f.loc.length lc)∧W.cell? ⟨b,i*4+3,none⟩=some (.slice sa f.stk.length sc)∧VIn W wb ab la f.loc∧VIn W wb ab sa f.stk
theorem FIn.later {W V:World} {wb ab:Nat} {a:Option Addr} {l:List FrA} (h:FIn W wb ab a l) (hw:A6 wb ab W V):FIn V wb ab a l:=fun h0=>by
 obtain⟨b,e,hb,h1,h2,hc⟩:=h h0;refine⟨b,e,Nat.lt_of_lt_of_le hb hw.size,h1,h2,fun i f hf=>?_⟩;obtain⟨la,lc,sa,sc,k0,k1,k2,k3,v1,v2⟩:=hc i f hf;exact⟨la,lc,sa,sc,hw.cell hb h1 h2 k0,hw.cell hb h1 h2 k1,hw.cell hb h1 h2 k2,hw.cell hb h1 h2 k3,v1.later hw,v2.later hw⟩
theorem a0Q {W:World} {wb ab:Nat} {bs:List Int} (h:T1 W wb ab bs) (a:Option Addr) (c:Nat) (l:List FrA) (hl:FIn W wb ab a l) (hv:∀f,f∈l→oW f) (hn:bs.length+l.length*218+300 < 20000) :
  Calls Tryz.prog 71 #[.pointer (some ⟨wb,0,none⟩),.slice a l.length c] W fun e w'=>I2 wb ab (bs++V2 l) W e w':=by
 have HC:=hid (L7 h l.length Q8 Q8);have HL:=hid hl;have HV:=hid hv;have hnl:=E1 (n:=l.length) Q8;clear h hl hv;go_enter Tryz.func71,Tryz.ntmps71;go_wp2_with fail;refine HC.out.mono ?_;rintro e w0 ⟨rfl,h1,h2⟩;have HH:=hid h1;have HW0:=hid h2;have HL0:=hid (HL.out.later h2);clear h1 h2;generalize hds:bs++D6 l.length=ds at *
 have hdl:ds.length≤bs.length+10:=by rw [← hds,List.length_append];omega
 have HDS:=hid hds;clear hds;go_wp2_with fail;go_loopw [12] (fun vi wr=>∃i:Nat,i≤l.length∧vi=.int .i64 i∧T1 wr wb ab (ds++gK (l.take i))∧A6 wb ab w0 wr) (fun vi _=>l.length - (intOf vi).toNat)
 case atStart=>exact ⟨0,Nat.zero_le _,rfl,by simpa [gK] using HH.out,A6.refl _ _ _⟩
 case round =>
  obtain⟨i,hi,rfl,hwr,hwt⟩:=hrel;by_cases hlt:i < l.length
  ·obtain ⟨f,hx⟩:∃f,l[i]?=some f:=⟨_,List.getElem?_eq_getElem hlt⟩
   obtain⟨b,rfl,hb,hb1,hb2,hcs⟩:=(HL0.out.later hwt) Q8;obtain⟨la,lc,sa,sc,k0,k1,k2,k3,v1,v2⟩:=hcs i f hx;have hlen:(ds++gK (l.take i)).length+260 < 20000:=by
    have:=zH (l:=l.take i) fun v hv=>HV.out v (List.mem_of_mem_take hv)
    rw[List.length_take] at this;rw[List.length_append];have:min i l.length*218≤l.length*218:=Nat.mul_le_mul_right _ Q8;omega
   have HTK:Hid (ds++gK (l.take (i+1))=ds++gK (l.take i)++D6 f.fn++D6 f.pc++Y9 f.loc++Y9 f.stk):=by
    refine hid ?_;rw[List.take_add_one,hx];simp[gK,frB,List.append_assoc]
   have hfs:=HV.out f (List.mem_of_getElem? hx);have HFS:=hid hfs;have n1:=E1 (n:=f.fn) (by have:=hfs.fn;omega);have n2:=E1 (n:=f.pc) (by have:=hfs.pc;omega);have n3:=fE hfs.loc;have n5:=hfs.len;have f1:=hfs.fn;have f2:=hfs.pc;have hwl:=hwr.wlt;have hal:=hwr.alt;have hB0:Below wr.heap.size wr (wr.alloc (.cells #[.int .i64 (f.fn:Int),.int .i64 (f.pc:Int),.slice la f.loc.length lc,.slice sa f.stk.length sc] 83)):=Below.alloc (Below.refl _ _) (Nat.le_refl _) _
   have HWR:=hid (hwr.later hB0);have HWT:=hid (hwt.trans (A6.of_below hB0));have HV1:=hid (v1.later (A6.of_below hB0));have HV2:=hid (v2.later (A6.of_below hB0));clear hwr hwt hcs hx hfs v1 v2 hB0;generalize ds++gK (l.take i)=cs at *
   go_wp2_with fail;refine (L7 HWR.out f.fn Q8 Q8).mono ?_;rintro e w1 ⟨rfl,h1,h2⟩;have y1:w1.cell? ⟨wr.heap.size,1,none⟩=some (.int .i64 (f.pc:Int)):=h2.cell Q9 Q8 Q8 Q6;have y2:w1.cell? ⟨wr.heap.size,2,none⟩=some (.slice la f.loc.length lc):=h2.cell Q9 Q8 Q8 Q6;have y3:w1.cell? ⟨wr.heap.size,3,none⟩=some (.slice sa f.stk.length sc):=h2.cell Q9 Q8 Q8 Q6
   have l1:wr.heap.size < w1.heap.size:=by have:=h2.size;simp at this;omega
   have H1:=hid h1;have H2:=hid (HWT.out.trans h2);have HV1:=hid (HV1.out.later h2);have HV2:=hid (HV2.out.later h2);clear h1 h2 k0 k1 k2 k3 HWR HWT;go_wp2_with fail;refine (L7 H1.out f.pc Q8 (by rw [List.length_append];omega)).mono ?_;rintro e w2 ⟨rfl,h1,h2⟩;have z2:=h2.cell l1 Q8 Q8 y2;have z3:=h2.cell l1 Q8 Q8 y3;have l2:wr.heap.size < w2.heap.size:=Nat.lt_of_lt_of_le l1 h2.size
   have H3:=hid h1;have H4:=hid (H2.out.trans h2);have HV1:=hid (HV1.out.later h2);have HV2:=hid (HV2.out.later h2);clear h1 h2 y1 y2 y3 H1 H2;go_wp2_with fail;refine (eC H3.out la lc f.loc HV1.out HFS.out.loc (by rw [List.length_append,List.length_append];omega)).mono ?_;rintro e w3 ⟨rfl,h1,h2⟩;have t3:=h2.cell l2 Q8 Q8 z3;have l3:wr.heap.size < w3.heap.size:=Nat.lt_of_lt_of_le l2 h2.size
   have H5:=hid h1;have H6:=hid (H4.out.trans h2);have HV2:=hid (HV2.out.later h2);clear h1 h2 z2 z3 H3 H4 HV1;go_wp2_with fail;refine (eC H5.out sa sc f.stk HV2.out HFS.out.stk (by rw [List.length_append,List.length_append,List.length_append];omega)).mono ?_;rintro e w4 ⟨rfl,h1,h2⟩;have H7:=hid h1;have H8:=hid (H6.out.trans h2);clear h1 h2 t3 H5 H6 HV2;go_wp2_with fail;go_roundw
   case rel=>exact ⟨i+1,by omega,by go_num,by rw [HTK.out];exact H7.out,H8.out⟩
   case measure=>simp [intOf];omega
  ·obtain rfl:i=l.length:=by omega
   rw[List.take_length] at hwr;have HP:Hid (I2 wb ab (bs++V2 l) W (.returned (.tuple #[])) wr):=⟨rfl,by unfold V2;rw [← List.append_assoc,HDS.out];exact hwr,HW0.out.trans hwt⟩;clear hwr hwt;go_wp2_with fail;go_end0
   exact HP.out
def obB (o:Ob):List Int:=D6 o.1.toNat++(if o.1=3 then [] else D6 o.2.length)++Y9 o.2
def oT (l:List Ob):List Int:=l.flatMap obB
def V9 (l:List Ob):List Int:=D6 l.length++oT l
structure oZ (o:Ob):Prop where
 kind:0≤o.1∧o.1 < 256
 len:o.2.length≤12
 vals:∀v,v∈o.2→sY v
theorem a8e {o:Ob} (h:oZ o):(obB o).length≤152:=by
 have h1:=E1 (n:=o.1.toNat) (by have:=h.kind;omega);have h2:=E1 (n:=o.2.length) (by have:=h.len;omega);have h3:=fE h.vals;have h5:=h.len;unfold obB;simp only[List.length_append];split
 ·simp;omega
 ·omega
theorem a0h {l:List Ob} (h:∀f,f∈l→oZ f):(oT l).length≤l.length*152:=by
 induction l with
 | nil=>simp [oT]
 | cons v l ih =>
  have h1:=ih fun x hx=>h x (by simp [hx])
  have h2:=a8e (h v Q9);unfold oT at h1 ⊢;rw[List.flatMap_cons,List.length_append,List.length_cons,Nat.add_mul];omega
def OIn (W:World) (wb ab:Nat) (a:Option Addr) (l:List Ob):Prop:=0 < l.length→∃b,a=some ⟨b,0,none⟩∧b < W.heap.size∧b≠wb∧b≠ab∧∀(i:Nat) (o:Ob),l[i]?=some o →
 ∃fa fc,W.cell? ⟨b,i*2,none⟩=some (.int .u8 o.1)∧W.cell? ⟨b,i*2+1,none⟩=some (.slice fa o.2.length fc)∧VIn W wb ab fa o.2
theorem OIn.later {W V:World} {wb ab:Nat} {a:Option Addr} {l:List Ob} (h:OIn W wb ab a l) (hw:A6 wb ab W V):OIn V wb ab a l:=fun h0=>by
 obtain⟨b,e,hb,h1,h2,hc⟩:=h h0;refine⟨b,e,Nat.lt_of_lt_of_le hb hw.size,h1,h2,fun i f hf=>?_⟩;obtain⟨fa,fc,k0,k1,v1⟩:=hc i f hf;exact⟨fa,fc,hw.cell hb h1 h2 k0,hw.cell hb h1 h2 k1,v1.later hw⟩
theorem xX {W:World} {wb ab:Nat} {bs:List Int} (h:T1 W wb ab bs) (a:Option Addr) (c:Nat) (l:List Ob) (hl:OIn W wb ab a l) (hv:∀f,f∈l→oZ f) (hn:bs.length+l.length*152+300 < 20000) :
  Calls Tryz.prog 72 #[.pointer (some ⟨wb,0,none⟩),.slice a l.length c] W fun e w'=>I2 wb ab (bs++V9 l) W e w':=by
 have HC:=hid (L7 h l.length Q8 Q8);have HL:=hid hl;have HV:=hid hv;have hnl:=E1 (n:=l.length) Q8;clear h hl hv;go_enter Tryz.func72,Tryz.ntmps72;go_wp2_with fail;refine HC.out.mono ?_;rintro e w0 ⟨rfl,h1,h2⟩;have HH:=hid h1;have HW0:=hid h2;have HL0:=hid (HL.out.later h2);clear h1 h2;generalize hds:bs++D6 l.length=ds at *
 have hdl:ds.length≤bs.length+10:=by rw [← hds,List.length_append];omega
 have HDS:=hid hds;clear hds;go_wp2_with fail;go_loopw [12] (fun vi wr=>∃i:Nat,i≤l.length∧vi=.int .i64 i∧T1 wr wb ab (ds++oT (l.take i))∧A6 wb ab w0 wr) (fun vi _=>l.length - (intOf vi).toNat)
 case atStart=>exact ⟨0,Nat.zero_le _,rfl,by simpa [oT] using HH.out,A6.refl _ _ _⟩
 case round =>
  obtain⟨i,hi,rfl,hwr,hwt⟩:=hrel;by_cases hlt:i < l.length
  ·obtain ⟨o,hx⟩:∃o,l[i]?=some o:=⟨_,List.getElem?_eq_getElem hlt⟩
   obtain⟨b,rfl,hb,hb1,hb2,hcs⟩:=(HL0.out.later hwt) Q8;obtain⟨fa,fc,k0,k1,v1⟩:=hcs i o hx;have hlen:(ds++oT (l.take i)).length+200 < 20000:=by
    have:=a0h (l:=l.take i) fun v hv=>HV.out v (List.mem_of_mem_take hv)
    rw[List.length_take] at this;rw[List.length_append];have:min i l.length*152≤l.length*152:=Nat.mul_le_mul_right _ Q8;omega
   have hos:=HV.out o (List.mem_of_getElem? hx);have HOS:=hid hos;obtain⟨kd,hkd⟩:=Int.eq_ofNat_of_zero_le hos.kind.1;have hk2:kd < 256:=by have:=hos.kind.2;omega
   have hkt:o.1.toNat=kd:=by rw [hkd];rfl
   have n1:=E1 (n:=kd) Q8;have n2:=E1 (n:=o.2.length) (by have:=hos.len;omega);have n5:=hos.len;have hwl:=hwr.wlt;have hal:=hwr.alt;have hB0:Below wr.heap.size wr (wr.alloc (.cells #[.int .u8 (kd:Int),.slice fa o.2.length fc] 75)):=Below.alloc (Below.refl _ _) (Nat.le_refl _) _;have HWR:=hid (hwr.later hB0);have HWT:=hid (hwt.trans (A6.of_below hB0));have HV1:=hid (v1.later (A6.of_below hB0))
   rw[hkd] at k0;have HTK:Hid (ds++oT (l.take (i+1))=ds++oT (l.take i)++obB o):=by
    refine hid ?_;rw[List.take_add_one,hx,List.append_assoc];simp[oT]
   have HKD:=hid (And.intro hkd hkt);clear hwr hwt hcs hx hos v1 hB0 hkd hkt;generalize ds++oT (l.take i)=cs at *
   go_wp2_with fail;refine (L7 HWR.out kd Q8 Q8).mono ?_;rintro e w1 ⟨rfl,h1,h2⟩;have y0:w1.cell? ⟨wr.heap.size,0,none⟩=some (.int .u8 (kd:Int)):=h2.cell Q9 Q8 Q8 Q6;have y1:w1.cell? ⟨wr.heap.size,1,none⟩=some (.slice fa o.2.length fc):=h2.cell Q9 Q8 Q8 Q6;have l1:wr.heap.size < w1.heap.size:=by have:=h2.size;simp at this;omega
   have H1:=hid h1;have H2:=hid (HWT.out.trans h2);have HVb:=hid (HV1.out.later h2);clear h1 h2 k0 k1 HWR HWT HV1;by_cases h3:kd=3
   ·have HE:Hid (cs++D6 kd++Y9 o.2=cs++obB o):=by
     refine hid ?_;unfold obB;rw[if_pos (by rw [HKD.out.1,h3];rfl),HKD.out.2,List.append_nil,List.append_assoc]
    subst h3;go_wp2_with fail;refine (eC H1.out fa fc o.2 HVb.out HOS.out.vals (by rw [List.length_append];omega)).mono ?_;rintro e w4 ⟨rfl,h1,h2⟩;have H7:=hid h1;have H8:=hid (H2.out.trans h2);clear h1 h2 y0 y1 H1 H2;go_wp2_with fail;go_roundw
    case rel=>exact ⟨i+1,by omega,by go_num,by rw [HTK.out,← HE.out];exact H7.out,H8.out⟩
    case measure=>simp [intOf];omega
   ·have HE:Hid (cs++D6 kd++D6 o.2.length++Y9 o.2=cs++obB o):=by
     refine hid ?_;unfold obB;rw[if_neg (by rw [HKD.out.1];omega),HKD.out.2];simp[List.append_assoc]
    have hb3:((kd:Int) == 3)=false:=by simp;omega
    have hk3:¬(kd:Int)=3:=by omega
    go_wp2_with fail;refine (L7 H1.out o.2.length Q8 (by rw [List.length_append];omega)).mono ?_;rintro e w2 ⟨rfl,h1,h2⟩;have z1:=h2.cell l1 Q8 Q8 y1;have l2:wr.heap.size < w2.heap.size:=Nat.lt_of_lt_of_le l1 h2.size;have H3:=hid h1;have H4:=hid (H2.out.trans h2);have HVc:=hid (HVb.out.later h2);clear h1 h2 y0 y1 H1 H2;go_wp2_with fail;refine (eC H3.out fa fc o.2 HVc.out HOS.out.vals (by rw [List.length_append,List.length_append];omega)).mono ?_
    rintro e w4 ⟨rfl,h1,h2⟩;have H7:=hid h1;have H8:=hid (H4.out.trans h2);clear h1 h2 z1 H3 H4;go_wp2_with fail;go_roundw
    case rel=>exact ⟨i+1,by omega,by go_num,by rw [HTK.out,← HE.out];exact H7.out,H8.out⟩
    case measure=>simp [intOf];omega
  ·obtain rfl:i=l.length:=by omega
   rw[List.take_length] at hwr;have HP:Hid (I2 wb ab (bs++V9 l) W (.returned (.tuple #[])) wr):=⟨rfl,by unfold V9;rw [← List.append_assoc,HDS.out];exact hwr,HW0.out.trans hwt⟩;clear hwr hwt;go_wp2_with fail;go_end0
   exact HP.out
def inB (f:FnR) (j:Nat):List Int:=D6 (f.op j).toNat++jI (f.ar j)
def bE (f:FnR) (k:Nat):List Int:=(List.range k).flatMap (inB f)
def fnB (f:FnR):List Int:=D6 f.p.toNat++D6 f.l.toNat++D6 f.n++bE f f.n
def dM (g:PgR) (k:Nat):List Int:=(List.range k).flatMap fun i=>fnB (g.f i)
def progB (g:PgR):List Int:=D6 g.n++dM g g.n
structure oV (f:FnR):Prop where
 p:0≤f.p∧f.p≤8
 l:0≤f.l∧f.l≤8
 n:f.n≤60
 op:∀j,j < f.n→0≤f.op j∧f.op j < 28
 ar:∀j,j < f.n→I64 (f.ar j)
structure bS (g:PgR):Prop where
 n:g.n≤8
 f:∀i,i < g.n→oV (g.f i)
theorem qH (f:FnR) (k:Nat):bE f (k+1)=bE f k++inB f k:=by unfold bE;rw [List.range_succ,List.flatMap_append];simp
theorem eR (g:PgR) (k:Nat):dM g (k+1)=dM g k++fnB (g.f k):=by unfold dM;rw [List.range_succ,List.flatMap_append];simp
theorem mV {f:FnR} (h:oV f):∀k,k≤f.n→(bE f k).length≤k*20
 | 0,_=>by simp [bE]
 | k+1,hk=>by
  have h1:=mV h k Q8;have h2:=E1 (n:=(f.op k).toNat) (by have:=h.op k Q8;omega);have h3:=zR (h.ar k Q8);rw[qH,List.length_append];unfold inB;rw[List.length_append];omega
theorem a7O {f:FnR} (h:oV f):(fnB f).length≤1230:=by
 have h1:=E1 (n:=f.p.toNat) (by have:=h.p;omega);have h2:=E1 (n:=f.l.toNat) (by have:=h.l;omega);have h3:=E1 (n:=f.n) (by have:=h.n;omega);have h4:=mV h f.n (Nat.le_refl _);have h5:=h.n;unfold fnB;simp only[List.length_append];omega
theorem qU {g:PgR} (h:bS g):∀k,k≤g.n→(dM g k).length≤k*1230
 | 0,_=>by simp [dM]
 | k+1,hk=>by
  have h1:=qU h k Q8;have h2:=a7O (h.f k Q8);rw[eR,List.length_append];omega
structure PIn (W:World) (wb ab:Nat) (g:PgR):Prop where
 pg:M3 W.heap.size W g
 ne:∀k,g.blk k→k≠wb∧k≠ab
theorem PIn.later {W V:World} {wb ab:Nat} {g:PgR} (h:PIn W wb ab g) (hw:A6 wb ab W V):PIn V wb ab g :=
 ⟨h.pg.held hw.size fun k hk=>hw.block k (h.pg.blk_lt hk) (h.ne k hk).1 (h.ne k hk).2,h.ne⟩
theorem xY {W:World} {wb ab:Nat} {bs:List Int} (h:T1 W wb ab bs) (g:PgR) (hg:PIn W wb ab g) (hs:bS g) (hn:bs.length+9850+100 < 20000) :
  Calls Tryz.prog 68 #[.pointer (some ⟨wb,0,none⟩),.agg #[.slice g.a g.n g.c]] W fun e w'=>I2 wb ab (bs++progB g) W e w':=by
 have hgn:=hs.n;have hB0:Below W.heap.size W (W.alloc (.cells #[.slice g.a g.n g.c] 27)):=Below.alloc (Below.refl _ _) (Nat.le_refl _) _;have hwl0:=h.wlt;have hal0:=h.alt;have HC:=hid (L7 (h.later hB0) g.n Q8 Q8);have HG0:=hid (hg.later (A6.of_below hB0));have HW00:=hid (A6.of_below (wb:=wb) (ab:=ab) hB0);have HS:=hid hs;have hnl:=E1 (n:=g.n) Q8;clear h hg hs hB0
 go_enter Tryz.func68,Tryz.ntmps68;go_wp2_with fail;refine HC.out.mono ?_;rintro e w0 ⟨rfl,h1,h2⟩;have y0:w0.cell? ⟨W.heap.size,0,none⟩=some (.slice g.a g.n g.c):=h2.cell Q9 Q8 Q8 Q6;have l0:W.heap.size < w0.heap.size:=by have:=h2.size;simp at this;omega
 have HH:=hid h1;have HW0:=hid (HW00.out.trans h2);have HG:=hid (HG0.out.later h2);clear h1 h2 HG0 HW00;generalize hds:bs++D6 g.n=ds at *
 have hdl:ds.length≤bs.length+10:=by rw [← hds,List.length_append];omega
 have HDS:=hid hds;clear hds;go_wp2_with fail;go_loopw [16] (fun vi wr=>∃i:Nat,i≤g.n∧vi=.int .i64 i∧T1 wr wb ab (ds++dM g i)∧A6 wb ab w0 wr) (fun vi _=>g.n - (intOf vi).toNat)
 case atStart=>exact ⟨0,Nat.zero_le _,rfl,by simpa [dM] using HH.out,A6.refl _ _ _⟩
 case round =>
  obtain⟨i,hi,rfl,hwr,hwt⟩:=hrel;by_cases hlt:i < g.n
  ·obtain ⟨hga,hgb,hcs⟩:=(HG.out.later hwt).pg.2.1 Q8
   obtain⟨k0,k1,k2⟩:=hcs i hlt;have hfs:=HS.out.f i hlt;have HFS:=hid hfs;have hlen:(ds++dM g i).length+1260 < 20000:=by
    have:=qU HS.out i Q8;rw[List.length_append];have:i*1230+1230≤8*1230:=by
     have:(i+1)*1230≤8*1230:=Nat.mul_le_mul_right _ Q8;omega
    omega
   have HTK:=hid (eR g i);obtain⟨p,hp⟩:=Int.eq_ofNat_of_zero_le hfs.p.1;obtain⟨lo,hlo⟩:=Int.eq_ofNat_of_zero_le hfs.l.1;have hp8:p≤8:=by have:=hfs.p.2;omega
   have hl8:lo≤8:=by have:=hfs.l.2;omega
   have hn60:=hfs.n;have n1:=E1 (n:=p) Q8;have n2:=E1 (n:=lo) Q8;have n3:=E1 (n:=(g.f i).n) Q8;rw[hp] at k0;rw[hlo] at k1;have HE:Hid (∀cs:List Int,cs++D6 p++D6 lo++D6 (g.f i).n++bE (g.f i) (g.f i).n=cs++fnB (g.f i)):=fun cs=>by
    unfold fnB;rw[hp,hlo];simp[List.append_assoc]
   have hwl:=hwr.wlt;have hal:=hwr.alt;have hB0:Below wr.heap.size wr (wr.alloc (.cells #[.int .i64 (p:Int),.int .i64 (lo:Int),.slice (g.f i).a (g.f i).n (g.f i).c] 68)):=Below.alloc (Below.refl _ _) (Nat.le_refl _) _;have HWR:=hid (hwr.later hB0);have HWT:=hid (hwt.trans (A6.of_below hB0));have hgbw:=hgb;rw[hga];clear hwr hwt hcs hfs hB0 hp hlo hga;generalize hcs:ds++dM g i=cs at *
   have HCS:=hid hcs;clear hcs;go_wp2_with fail;refine (L7 HWR.out p Q8 Q8).mono ?_;rintro e w1 ⟨rfl,h1,h2⟩;have y1:w1.cell? ⟨wr.heap.size,1,none⟩=some (.int .i64 (lo:Int)):=h2.cell Q9 Q8 Q8 Q6;have y2:w1.cell? ⟨wr.heap.size,2,none⟩=some (.slice (g.f i).a (g.f i).n (g.f i).c):=h2.cell Q9 Q8 Q8 Q6;have l1:wr.heap.size < w1.heap.size:=by have:=h2.size;simp at this;omega
   have H1:=hid h1;have H2:=hid (HWT.out.trans h2);clear h1 h2 k0 k1 k2 HWR HWT;go_wp2_with fail;refine (L7 H1.out lo Q8 (by rw [List.length_append];omega)).mono ?_;rintro e w2 ⟨rfl,h1,h2⟩;have z2:=h2.cell l1 Q8 Q8 y2;have l2:wr.heap.size < w2.heap.size:=Nat.lt_of_lt_of_le l1 h2.size;have H3:=hid h1;have H4:=hid (H2.out.trans h2);clear h1 h2 y1 y2 H1 H2;go_wp2_with fail
   refine (L7 H3.out (g.f i).n Q8 (by rw [List.length_append,List.length_append];omega)).mono ?_;rintro e w3 ⟨rfl,h1,h2⟩;have t2:=h2.cell l2 Q8 Q8 z2;have l3:wr.heap.size < w3.heap.size:=Nat.lt_of_lt_of_le l2 h2.size;have H5:=hid h1;have H6:=hid (H4.out.trans h2);clear h1 h2 z2 H3 H4;generalize hes:cs++D6 p++D6 lo++D6 (g.f i).n=es at *
   have hel:es.length≤cs.length+30:=by rw [← hes];simp only [List.length_append];omega
   have HES:=hid hes;clear hes;go_wp2_with fail;go_loopw [36] (fun vj wx=>∃j:Nat,j≤(g.f i).n∧vj=.int .i64 j∧T1 wx wb ab (es++bE (g.f i) j)∧A6 wb ab w0 wx) (fun vj _=>(g.f i).n - (intOf vj).toNat)
   case atStart=>exact ⟨0,Nat.zero_le _,rfl,by simpa [bE] using H5.out,H6.out⟩
   case round =>
    clear hwl hal;obtain⟨j,hj,rfl,hwx,hwtx⟩:=hrel;by_cases hlj:j < (g.f i).n
    ·obtain ⟨hca,hcb,hcc⟩:=((HG.out.later hwtx).pg.2.2 i hlt).2 Q8
     obtain⟨o0,o1⟩:=hcc j hlj;obtain⟨q0,q1⟩:=HFS.out.op j hlj;have HAR:=hid (HFS.out.ar j hlj);obtain⟨op,hop⟩:=Int.eq_ofNat_of_zero_le q0;have hop28:op < 28:=by omega
     have n6:=E1 (n:=op) Q8;rw[hop] at o0;have hlen2:(es++bE (g.f i) j).length+30 < 20000:=by
      have:=mV HFS.out j Q8;rw[List.length_append];have:j*20≤60*20:=Nat.mul_le_mul_right _ Q8;omega
     have HTJ:Hid (es++bE (g.f i) (j+1)=es++bE (g.f i) j++D6 op++jI ((g.f i).ar j)):=by
      refine hid ?_;rw[qH];unfold inB;rw[hop];simp[List.append_assoc]
     have hwl:=hwx.wlt;have hal:=hwx.alt;have hB1:Below wr.heap.size wr (wr.alloc (.cells #[.int .i64 (op:Int),.int .i64 ((g.f i).ar j)] 62)):=Below.alloc (Below.refl _ _) (Nat.le_refl _) _;have HWX:=hid (hwx.later hB1);have HWTX:=hid (hwtx.trans (A6.of_below hB1));rw[hca];clear hwx hwtx hcc hB1 hop hca q0 q1;generalize es++bE (g.f i) j=us at *
     go_wp2_with fail;refine (L7 HWX.out op Q8 Q8).mono ?_;rintro e w4 ⟨rfl,h1,h2⟩;have x1:w4.cell? ⟨wr.heap.size,1,none⟩=some (.int .i64 ((g.f i).ar j)):=h2.cell Q9 Q8 Q8 Q6;have l4:wr.heap.size < w4.heap.size:=by have:=h2.size;simp at this;omega
     have H7:=hid h1;have H8:=hid (HWTX.out.trans h2);clear h1 h2 o0 o1 HWX HWTX;go_wp2_with fail;refine (kP H7.out _ HAR.out (by rw [List.length_append];omega)).mono ?_;rintro e w5 ⟨rfl,h1,h2⟩;have H9:=hid h1;have HA:=hid (H8.out.trans h2);clear h1 h2 x1 H7 H8;go_wp2_with fail;go_roundw
     case rel=>exact ⟨j+1,by omega,by go_num,by rw [HTJ.out];exact H9.out,HA.out⟩
     case measure=>simp [intOf];omega
    ·obtain rfl:j=(g.f i).n:=by omega
     have HX:Hid (T1 wr wb ab (ds++dM g (i+1))):=by
      rw[HTK.out,← List.append_assoc,HCS.out,← HE.out cs,HES.out];exact hid hwx
     have HY:=hid hwtx;clear hwx hwtx;go_wp2_with fail;go_roundw
     case rel=>exact ⟨i+1,by omega,by go_num,HX.out,HY.out⟩
     case measure=>simp [intOf];omega
  ·obtain rfl:i=g.n:=by omega
   have HP:Hid (I2 wb ab (bs++progB g) W (.returned (.tuple #[])) wr):=⟨rfl,by unfold progB;rw [← List.append_assoc,HDS.out];exact hwr,HW0.out.trans hwt⟩;clear hwr hwt;go_wp2_with fail;go_end0
   exact HP.out
def machB (g:PgR) (s:McA):List Int:=progB g++D6 s.st.toNat++jJ s.out++V2 s.frs++V9 s.obs
structure fI (s:McA):Prop where
 st:0≤s.st∧s.st≤7
 out:s.out.length≤40∧∀z,z∈s.out→I64 z
 frs:s.frs.length≤12∧∀f,f∈s.frs→oW f
 obs:s.obs.length≤40∧∀o,o∈s.obs→oZ o
structure a8P (W:World) (wb ab pb:Nat) (g:PgR) (s:McA):Prop where
 parts:∃oa oc fa fc ba bc,W.cell? ⟨pb,0,none⟩=some (.slice g.a g.n g.c)∧W.cell? ⟨pb,1,none⟩=some (.int .i64 s.st)∧W.cell? ⟨pb,2,none⟩=some (.slice oa s.out.length oc)∧W.cell? ⟨pb,3,none⟩=some (.slice fa s.frs.length fc)∧W.cell? ⟨pb,4,none⟩=some (.slice ba s.obs.length bc) ∧
  NIn W wb ab oa s.out∧FIn W wb ab fa s.frs∧OIn W wb ab ba s.obs
 pg:PIn W wb ab g
 lt:pb < W.heap.size
 ne:pb≠wb∧pb≠ab
theorem nZ {s:McA} (h:fI s):(V2 s.frs).length≤2626:=by
 have h1:=zH h.frs.2;have h2:=E1 (n:=s.frs.length) (by have:=h.frs.1;omega);have h3:=h.frs.1;unfold V2;rw[List.length_append];have:s.frs.length*218≤12*218:=Nat.mul_le_mul_right _ h3;omega
theorem a0l {s:McA} (h:fI s):(jJ s.out).length≤410:=by
 have h1:=uN h.out.2;have h2:=E1 (n:=s.out.length) (by have:=h.out.1;omega);have h3:=h.out.1;unfold jJ;rw[List.length_append];have:s.out.length*10≤40*10:=Nat.mul_le_mul_right _ h3;omega
theorem uV {g:PgR} (h:bS g):(progB g).length≤9850:=by
 have h1:=qU h g.n (Nat.le_refl _);have h2:=E1 (n:=g.n) (by have:=h.n;omega);have h3:=h.n;unfold progB;rw[List.length_append];have:g.n*1230≤8*1230:=Nat.mul_le_mul_right _ h3;omega
theorem xW {W:World} {wb ab pb:Nat} {bs:List Int} (h:T1 W wb ab bs) (g:PgR) (s:McA) (hk:a8P W wb ab pb g s) (hg:bS g) (hs:fI s) (hn:bs.length≤20) :
  Calls Tryz.prog 45 #[.pointer (some ⟨wb,0,none⟩),.pointer (some ⟨pb,0,none⟩)] W fun e w'=>I2 wb ab (bs++machB g s) W e w':=by
 obtain⟨oa,oc,fa,fc,ba,bc,c0,c1,c2,c3,c4,ho,hf,hb⟩:=hk.parts;have hpl:=hk.lt;obtain⟨hne1,hne2⟩:=hk.ne;obtain⟨st,hst⟩:=Int.eq_ofNat_of_zero_le hs.st.1;have hst7:st≤7:=by have:=hs.st.2;omega
 rw[hst] at c1;have HST:Hid (s.st.toNat=st):=by refine hid ?_;rw [hst];rfl
 have HS:=hid hs;have n0:=uV hg;have n1:=E1 (n:=st) Q8;have n2:=a0l hs;have n3:=nZ hs;have m1:=hs.out.1;have m2:=hs.frs.1;have m3:=hs.obs.1;have HP:=hid (xY h g hk.pg hg Q8);have HO:=hid ho;have HF:=hid hf;have HB:=hid hb;clear h hk ho hf hb hs hst;go_enter Tryz.func45,Tryz.ntmps45;go_wp2_with fail;refine HP.out.mono ?_;rintro e w1 ⟨rfl,h1,h2⟩;have d1:=h2.cell hpl hne1 hne2 c1
 have d2:=h2.cell hpl hne1 hne2 c2;have d3:=h2.cell hpl hne1 hne2 c3;have d4:=h2.cell hpl hne1 hne2 c4;have l1:=Nat.lt_of_lt_of_le hpl h2.size;have H1:=hid h1;have HT1:=hid h2;clear h1 h2 c0 c1 c2 c3 c4;go_wp2_with fail;refine (L7 H1.out st Q8 (by rw [List.length_append];omega)).mono ?_;rintro e w2 ⟨rfl,h1,h2⟩;have e2:=h2.cell l1 hne1 hne2 d2;have e3:=h2.cell l1 hne1 hne2 d3;have e4:=h2.cell l1 hne1 hne2 d4
 have l2:=Nat.lt_of_lt_of_le l1 h2.size;have H2:=hid h1;have HT2:=hid (HT1.out.trans h2);clear h1 h2 d1 d2 d3 d4 H1 HT1;go_wp2_with fail;refine (a0R H2.out oa oc s.out (HO.out.later HT2.out) HS.out.out.2 (by rw [List.length_append,List.length_append];omega)).mono ?_;rintro e w3 ⟨rfl,h1,h2⟩;have f3:=h2.cell l2 hne1 hne2 e3;have f4:=h2.cell l2 hne1 hne2 e4;have l3:=Nat.lt_of_lt_of_le l2 h2.size
 have H3:=hid h1;have HT3:=hid (HT2.out.trans h2);clear h1 h2 e2 e3 e4 H2 HT2;go_wp2_with fail;refine (a0Q H3.out fa fc s.frs (HF.out.later HT3.out) HS.out.frs.2 (by rw [List.length_append,List.length_append,List.length_append];omega)).mono ?_;rintro e w4 ⟨rfl,h1,h2⟩;have g4:=h2.cell l3 hne1 hne2 f4;have l4:=Nat.lt_of_lt_of_le l3 h2.size;have H4:=hid h1;have HT4:=hid (HT3.out.trans h2);clear h1 h2 f3 f4 H3 HT3
 go_wp2_with fail;refine (xX H4.out ba bc s.obs (HB.out.later HT4.out) HS.out.obs.2 (by rw [List.length_append,List.length_append,List.length_append,List.length_append];omega)).mono ?_;rintro e w5 ⟨rfl,h1,h2⟩;have HPP:Hid (I2 wb ab (bs++machB g s) W (.returned (.tuple #[])) w5):=⟨rfl,by
  have e:bs++machB g s=bs++progB g++D6 st++jJ s.out++V2 s.frs++V9 s.obs:=by
   unfold machB;rw[HST.out];simp[List.append_assoc]
  rw[e];exact h1,HT4.out.trans h2⟩
 clear h1 h2 g4 H4 HT4;go_wp2_with fail;go_end0
 exact HPP.out
end Go.Proofs.YtbkmgoffiigdbabGreatDoor
