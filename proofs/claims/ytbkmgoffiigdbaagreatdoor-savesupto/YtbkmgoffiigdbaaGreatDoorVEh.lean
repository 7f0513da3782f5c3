import Derived.Test.YtbkmgoffiigdbaaGreatDoorVEd
namespace Go.Proofs.YtbkmgoffiigdbaaGreatDoor
open Go.RowKit Go.Sort Go.Proofs.Tryz
set_option maxHeartbeats 4000000
set_option maxRecDepth 100000
section
variable {V W:World} {ab i wb:Nat} {bs:List Int}
def B7 (l:List Int):List Value:=l.map fun b=>zC b
theorem V9 (l:List Int):(B7 l).length=l.length:=by simp [B7]
structure O3 (W:World) (wb ab:Nat) (bs:List Int):Prop where
 c0:W.cell? ⟨wb,0,none⟩=some (.slice (zA ab) 20000 20000)
 c1:W.cell? ⟨wb,1,none⟩=some (J (bs.length:Int))
 c2:W.cell? ⟨wb,2,none⟩=some (.bool false)
 z1:W.frozen? ⟨wb,1,none⟩=false
 row:∃rest,W.ownsRow 0 5 1 (.slice (zA ab) 20000 20000) 20000 (B7 bs++rest)
 wlt:wb < W.heap.size
 ne:wb≠ab
theorem O3.alt (h:O3 W wb ab bs):ab < W.heap.size:=by
 obtain⟨_,hr⟩:=h.row;exact (hr.lt ab rfl).2
structure E2 (wb ab:Nat) (W W':World):Prop where
 os:W'.os=W.os
 tape:W'.tape=W.tape
 output:W'.output=W.output
 size:W.heap.size<=W'.heap.size
 block:∀k,k < W.heap.size->k≠wb->k≠ab->W'.heap[k]?=W.heap[k]?
theorem E2.refl (wb ab:Nat) (W:World):E2 wb ab W W:=⟨rfl,rfl,rfl,L1c _,fun _ _ _ _=>rfl⟩
theorem E2.trans {U:World} (h:E2 wb ab W V) (k:E2 wb ab V U):E2 wb ab W U :=
 ⟨k.os.trans h.os,k.tape.trans h.tape,k.output.trans h.output,L5a h.size k.size,fun j hj h1 h2=>(k.block j (L0a hj h.size) h1 h2).trans (h.block j hj h1 h2)⟩
theorem E2.of_below (h:L0d W V):E2 wb ab W V:=⟨h.os,h.tape,h.output,h.size,fun k hk _ _=>h.block k hk⟩
theorem E2.cell (h:E2 wb ab W V) {b i:Nat} {v:Value} (hb:b < W.heap.size) (h1:b≠wb) (h2:b≠ab) (hc:W.cell? ⟨b,i,none⟩=some v):V.cell? ⟨b,i,none⟩=some v:=by
 rw[L0b (w:=W) (a:=⟨b,i,none⟩) (h.block b hb h1 h2)];exact hc
theorem E2.setW (v:Value):E2 wb ab W (W.setCell ⟨wb,i,none⟩ v):=⟨rfl,rfl,rfl,by simp,fun k _ h1 _=>heap_setCell_other _ _ _ _ h1⟩
theorem E2.setA (v:Value):E2 wb ab W (W.setCell ⟨ab,i,none⟩ v):=⟨rfl,rfl,rfl,by simp,fun k _ _ h2=>heap_setCell_other _ _ _ _ h2⟩
theorem O3.later (h:O3 W wb ab bs) (hB:L0d W V):O3 V wb ab bs:=by
 obtain⟨xa,hr⟩:=h.row;refine⟨(hB.cell (p:=⟨wb,0,none⟩) h.wlt).trans h.c0,(hB.cell (p:=⟨wb,1,none⟩) h.wlt).trans h.c1,(hB.cell (p:=⟨wb,2,none⟩) h.wlt).trans h.c2,(hB.frozen (p:=⟨wb,1,none⟩) h.wlt).trans h.z1,⟨xa,A6 hr fun b hb=>?_⟩,L0a h.wlt hB.size,h.ne⟩;obtain rfl:ab=b:=by simpa [Value.ownBlock] using hb
 exact hB.block _ h.alt
structure a4r (V V':World):Prop where
 heap:V'.heap=V.heap
 os:V'.os=V.os
 tape:V'.tape=V.tape
 output:V'.output=V.output
theorem a4r.below {V':World} (h:a4r V V'):L0d V V':=⟨h.os,h.tape,h.output,by rw [h.heap];exact L1c _,fun k _=>by rw [h.heap]⟩
theorem a2S (p:Value) (w:World):Calls prog 112 #[p,.bool true] w fun e w'=>e=.returned (.tuple #[])/\w'=w:=by
 go_enter func112,ntmps112;go_wp2_with fail;go_end0
 exact⟨rfl,rfl⟩
theorem a2h (h:O3 W wb ab bs) (hn:bs.length < 20000) :
  Calls prog 190 #[zB wb] W fun e w'=>e=.returned (.pointer (some ⟨ab,bs.length,none⟩))/\a4r (W.setCell ⟨wb,1,none⟩ (J ((bs.length:Int)+1))) w':=by
 have c0:=h.c0;have c1:=h.c1;have c2:=h.c2;have z1:=h.z1;have hw:=h.wlt;have HH:=hid h;generalize bs.length=n at *
 have xa:(n:Int) < 20000:=by omega
 clear h;go_enter func190,ntmps190;go_wp2_with fail;have hd:decide ((n:Int) < 20000)=true:=decide_eq_true xa;have xb:(n:Int)+1 - 1=(n:Int):=by omega
 have xc:IntKind.i64.wrap ((n:Int)+1 - 1)=(n:Int):=by rw [xb];exact Go.IntWalk.i64_in _ R5
 have xd:(0:Int)<=(n:Int):=by omega
 go_region_with (go_at_call 112;refine (a2S _ _).mono ?_;rintro e w' ⟨rfl,hw⟩;rw [hw];clear hw w')
 all_goals go_wp2_with fail
 all_goals go_region
 all_goals go_wp2_with fail
 all_goals go_ret
 all_goals exact ⟨rfl,⟨rfl,rfl,rfl,rfl⟩⟩
theorem O3.put (h:O3 W wb ab bs) (hn:bs.length < 20000) (b:Int) (hl:a4r (W.setCell ⟨wb,1,none⟩ (J ((bs.length:Int)+1))) V) :
  (∃old,V.cell? ⟨ab,bs.length,none⟩=some old)/\V.frozen? ⟨ab,bs.length,none⟩=false/\O3 (V.setCell ⟨ab,bs.length,none⟩ (zC b)) wb ab (bs++[b])/\E2 wb ab W (V.setCell ⟨ab,bs.length,none⟩ (zC b)):=by
 obtain⟨xa,hr⟩:=h.row;have hB:=hl.below;have xk:E2 wb ab W (W.setCell ⟨wb,1,none⟩ (J ((bs.length:Int)+1))):=E2.setW _;have xi:(W.setCell ⟨wb,1,none⟩ (J ((bs.length:Int)+1))).ownsRow 0 5 1 (.slice (zA ab) 20000 20000) 20000 (B7 bs++xa):=ownsRow_setCell_other hr (a:=⟨wb,1,none⟩) (by show some ab≠some wb;exact fun e=>h.ne (L5b e).symm) _;have xc:(W.setCell ⟨wb,1,none⟩ (J ((bs.length:Int)+1))).heap.size=W.heap.size:=by simp
 have xd:V.ownsRow 0 5 1 (.slice (zA ab) 20000 20000) 20000 (B7 bs++xa):=A6 xi fun k hk=>by
  obtain rfl:ab=k:=by simpa [Value.ownBlock] using hk
  exact hB.block _ (by rw [xc];exact h.alt)
 have xe:xa.length=20000 - bs.length:=by
  have:=hr.1;rw[List.length_append,V9] at this;omega
 obtain⟨x,rest',rfl⟩:∃x rest',xa=x::rest':=by
  cases xa with
  | nil=>simp at xe;omega
  | cons x l=>exact ⟨x,l,rfl⟩
 have xb:V.cell? ⟨ab,bs.length,none⟩=some x:=by
  rw[xd.cellAt bs.length R5,List.getElem?_append_right (by rw [V9];exact L1c _),V9];simp
 have xj:wb < V.heap.size:=by rw [hl.heap,xc];exact h.wlt
 have xm:ab < V.heap.size:=by rw [hl.heap,xc];exact h.alt
 have xh:=(World.ownsRow.stored xd bs.length (zC b)).1;have xf:(B7 bs++x::rest').set bs.length (zC b)=B7 (bs++[b])++rest':=by
  rw[List.set_append_right _ _ (by rw [V9];exact L1c _),V9];simp[B7]
 rw[xf] at xh;have xg:∀i,(V.setCell ⟨ab,bs.length,none⟩ (zC b)).cell? ⟨wb,i,none⟩=V.cell? ⟨wb,i,none⟩:=fun i=>World.cell?_setCell_far _ ⟨ab,bs.length,none⟩ ⟨wb,i,none⟩ _ (Ne.symm h.ne)
 have vc:∀i,V.cell? ⟨wb,i,none⟩=(W.setCell ⟨wb,1,none⟩ (J ((bs.length:Int)+1))).cell? ⟨wb,i,none⟩:=fun i=>hB.cell (p:=⟨wb,i,none⟩) (by rw [xc];exact h.wlt)
 have c0:=h.c0;have c1:=h.c1;have c2:=h.c2;have z1:=h.z1;have xl:=h.wlt;refine⟨⟨x,xb⟩,xd.frozenAt _,⟨?_,?_,?_,?_,⟨rest',xh⟩,by simpa using xj,h.ne⟩,xk.trans ((E2.of_below hB).trans (E2.setA _))⟩
 ·rw [xg,vc];go_simp
 ·rw [xg,vc,List.length_append];go_simp
 ·rw [xg,vc];go_simp
 ·rw [L0c (w:=V) (a:=⟨wb,1,none⟩) (heap_setCell_other _ _ _ _ h.ne),L0c (w:=W.setCell ⟨wb,1,none⟩ (J ((bs.length:Int)+1))) (a:=⟨wb,1,none⟩) (hB.block _ (by rw [xc];exact h.wlt))]
  go_simp
def a1s (W:World) (wb ab:Nat) (a:Option Addr) (l:List Int):Prop:=0 < l.length->∃b o,a=some ⟨b,o,none⟩/\b < W.heap.size/\b≠wb/\b≠ab/\∀(i:Nat) (x:Int),l[i]?=some x->W.cell? ⟨b,o+i,none⟩=some (zC x)
def G1 (wb ab:Nat) (bs:List Int) (W:World) (e:Ending) (w':World):Prop:=e=.returned (.tuple #[])/\O3 w' wb ab bs/\E2 wb ab W w'
theorem a1O (h:O3 W wb ab bs) (a:Option Addr) (c:Nat) (l:List Int) (hl:a1s W wb ab a l) (hn:bs.length+l.length < 20000) :
  Calls prog 143 #[zB wb,.slice a l.length c] W fun e w'=>G1 wb ab (bs++l) W e w':=by
 have HH:=hid h;have HL:=hid hl;clear h hl;go_enter func143,ntmps143;go_wp2_with fail;go_loopw [8] (fun vi wr=>∃i:Nat,i<=l.length/\vi=J i/\O3 wr wb ab (bs++l.take i)/\E2 wb ab W wr) (fun vi _=>l.length - (intOf vi).toNat)
 case atStart=>exact ⟨0,L4c _,rfl,by simpa using HH.out,E2.refl _ _ _⟩
 case round =>
  obtain⟨i,hi,rfl,xa,xb⟩:=hrel;by_cases hlt:i < l.length
  ·obtain ⟨x,hx⟩:∃x,l[i]?=some x:=⟨_,L1b hlt⟩
   obtain⟨b,o,rfl,hb,xh,xk,xf⟩:=HL.out R5;have x0:=xb.cell hb xh xk (xf i x hx);have xm:b < wr.heap.size:=L0a hb xb.size;have xl:=xa.wlt;have xc:(bs++l.take i).length < 20000:=by rw [List.length_append,List.length_take];omega
   have xg:Hid (bs++l.take (i+1)=bs++l.take i++[x]):=by
    refine hid ?_;rw[List.take_add_one,hx,List.append_assoc];rfl
   have xd:=hid xa;have xe:=hid xb;clear xa xb xf hx;generalize bs++l.take i=cs at *
   go_wp2_with fail;refine (a2h xd.out xc).mono ?_;rintro e w1 ⟨rfl,hk⟩;obtain⟨⟨xn,p0⟩,p1,p2,p3⟩:=xd.out.put xc x hk;have xj:=hid p2;have xi:=hid p3;have xo:ab < w1.heap.size:=by have:=p2.alt;simpa using this
   clear p2 p3 hk;go_wp2_with fail;go_roundw
   case rel=>exact ⟨i+1,by omega,by go_num,by rw [xg.out];exact xj.out,xe.out.trans xi.out⟩
   case measure=>simp [intOf];omega
  ·obtain rfl:i=l.length:=by omega
   rw[List.take_length] at xa;have xd:=hid xa;have xe:=hid xb;clear xa xb;go_wp2_with fail;go_end0
   exact⟨rfl,xd.out,xe.out⟩
end
section
variable {W:World} {ab wb:Nat} {bs:List Int}
def B5 (n:Nat):List Int:=if n < 128 then [(n:Int)] else ((n % 128+128:Nat):Int)::B5 (n / 128)
termination_by n
decreasing_by omega
theorem wV:∀(k n:Nat),n < 128 ^ (k+1)->(B5 n).length<=k+1
 | 0,n,h=>by rw [B5,if_pos (by simpa using h)];simp
 | k+1,n,h=>by
  rw[B5];split
  ·simp
  ·have:n / 128 < 128 ^ (k+1):=Nat.div_lt_of_lt_mul (by rw [Nat.pow_succ,Nat.mul_comm] at h;exact h)
   have:=wV k (n / 128) this;simp only[List.length_cons];omega
theorem B1 {n:Nat} (h:n < 18446744073709551616):(B5 n).length<=10:=wV 9 n (by
 have:(18446744073709551616:Nat)<=128 ^ (9+1):=by decide
 omega)
theorem a5x (h:O3 W wb ab bs) (b:Int):O3 (W.alloc (.cells #[zC b] 5)) wb ab bs/\a1s (W.alloc (.cells #[zC b] 5)) wb ab (zA W.heap.size) [b]/\E2 wb ab W (W.alloc (.cells #[zC b] 5)):=by
 have hB:L0d W (W.alloc (.cells #[zC b] 5)):=L3a (L3b _ _) (L1c _) _;refine⟨h.later hB,fun _=>⟨W.heap.size,0,rfl,by simp,?_,?_,fun i x hx=>?_⟩,E2.of_below hB⟩
 ·have:=h.wlt;omega
 ·have:=h.alt;omega
 ·cases i with
  | zero=>cases hx;go_simp
  | succ i=>simp at hx
theorem a0C (h:O3 W wb ab bs) (b:Int) (hn:bs.length+1 < 20000) :
  Calls prog 143 #[zB wb,.slice (zA W.heap.size) 1 1] (W.alloc (.cells #[zC b] 5)) fun e w'=>G1 wb ab (bs++[b]) W e w':=by
 obtain⟨h1,h2,h3⟩:=a5x h b;refine (a1O h1 _ 1 [b] h2 (by simpa using hn)).mono ?_;rintro e w' ⟨rfl,h4,h5⟩;exact⟨rfl,h4,h3.trans h5⟩
theorem a8N (k:Nat):bits BinOp.or IntKind.u8 ((k:Int) % 256) 128=((k % 128+128:Nat):Int):=by
 have h:k % 256 < 256:=Nat.mod_lt _ R4;have e:k % 128=(k % 256) % 128:=by omega
 have e2:(k:Int) % 256=((k % 256:Nat):Int):=by omega
 rw[e,e2];generalize k % 256=m at h;have:∀m,m < 256->bits BinOp.or IntKind.u8 ((m:Nat):Int) 128=((m % 128+128:Nat):Int):=by decide
 exact this m h
theorem mR (h:O3 W wb ab bs) (n:Nat) (h64:n < 18446744073709551616) (hn:bs.length+10 < 20000) :
  Calls prog 229 #[zB wb,.int .u64 (n:Int)] W fun e w'=>G1 wb ab (bs++B5 n) W e w':=by
 have xe:=B1 h64;have HH:=hid h;clear h;go_enter func229,ntmps229;go_wp2_with fail;go_loopw [1] (fun vn wr=>∃(k:Nat) (cs:List Int),vn=.int .u64 (k:Int)/\k<=n/\O3 wr wb ab (bs++cs)/\cs++B5 k=B5 n/\E2 wb ab W wr) (fun vn _=>(intOf vn).toNat)
 case atStart=>exact ⟨n,[],rfl,L1c _,by simpa using HH.out,rfl,E2.refl _ _ _⟩
 case round =>
  obtain⟨k,cs,rfl,xm,xc,xd,xi⟩:=hrel;have xa:(bs++cs).length+1 < 20000:=by
   have:(cs++B5 k).length<=10:=by rw [xd];exact xe
   rw[List.length_append] at this;have h1:1<=(B5 k).length:=by rw [B5];split <;> simp
   rw[List.length_append];omega
  have xf:=hid xc;have xh:=hid xi;have xj:=hid xd;have xl:=xc.wlt;clear xc xi xd;by_cases hk:k < 128
  ·have xb:Hid (B5 k=[(k:Int)]):=by refine hid ?_;rw [B5,if_pos hk]
   have xg:(k:Int) % 256=(k:Int):=by omega
   have xk:¬(128:Int)<=(k:Int):=by omega
   go_wp2_with fail;refine (a0C xf.out _ xa).mono ?_;rintro e w1 ⟨rfl,h1,h2⟩;have HP:Hid (G1 wb ab (bs++B5 n) W (.returned (.tuple #[])) w1):=⟨rfl,by rw [<- xj.out,xb.out,<- List.append_assoc];exact h1,xh.out.trans h2⟩;clear h1 h2;go_wp2_with fail;go_end0
   exact HP.out
  ·have xb:Hid (B5 k=((k % 128+128:Nat):Int)::B5 (k / 128)):=by refine hid ?_;rw [B5,if_neg hk]
   have xk:(128:Int)<=(k:Int):=by omega
   go_wp2_with fail;refine (a0C xf.out _ xa).mono ?_;rintro e w1 ⟨rfl,h1,h2⟩;rw[a8N] at h1;have H1:=hid h1;have H2:=hid (xh.out.trans h2);clear h1 h2;go_wp2_with fail;go_roundw
   case rel=>exact ⟨k / 128,cs++[((k % 128+128:Nat):Int)],by first | rfl | (congr 1;omega) | skip,by omega,by rw [<- List.append_assoc];exact H1.out,by rw [<- xj.out,xb.out,List.append_assoc];rfl,H2.out⟩
   case measure=>simp [intOf];omega
end
section
variable {W:World} {ab wb:Nat} {bs:List Int}
def lO (z:Int):Nat:=if z < 0 then (2*(-1 - z)+1).toNat else (2*z).toNat
def Y0 (z:Int):List Int:=B5 (lO z)
def iB (v:Val):List Int:=v.1::(if v.1=1 then Y0 v.2 else if v.1=2 then B5 v.2.toNat else [])
def X3 (l:List Val):List Int:=l.flatMap iB
theorem kH {z:Int} (h1 : -9223372036854775808<=z) (h2:z<=9223372036854775807):lO z < 18446744073709551616:=by unfold lO;split <;> omega
def I64 (z:Int):Prop := -9223372036854775808<=z/\z<=9223372036854775807
def sJ (v:Val):Prop:=I64 v.2/\(v.1=2->0<=v.2)
theorem a6A {v:Val} (h:sJ v):(iB v).length<=11:=by
 unfold iB;rw[List.length_cons];split
 ·have:=B1 (kH h.1.1 h.1.2)
  unfold Y0;omega
 ·split
  ·rename_i h2
   have:=B1 (n:=v.2.toNat) (by have:=h.1.2;have:=h.2 h2;omega);omega
  ·simp
theorem eK {l:List Val} (h:∀v,v∈l->sJ v):(X3 l).length<=l.length*11:=by
 induction l with
 | nil=>simp [X3]
 | cons v l ih =>
  have h1:=ih fun x hx=>h x (by simp [hx])
  have h2:=a6A (h v R6);unfold X3 at h1 ⊢;rw[List.flatMap_cons,List.length_append,List.length_cons,Nat.add_mul];omega
theorem K0 (h:O3 W wb ab bs) (n:Nat) (h63:n < 9223372036854775808) (hn:bs.length+10 < 20000) :
  Calls prog 192 #[zB wb,J (n:Int)] W fun e w'=>G1 wb ab (bs++B5 n) W e w':=by
 have HN:=hid (mR h n R5 hn);clear h;go_enter func192,ntmps192;go_wp2_with fail;refine HN.out.mono ?_;rintro e w1 ⟨rfl,h1,h2⟩;have HP:Hid (G1 wb ab (bs++B5 n) W (.returned (.tuple #[])) w1):=⟨rfl,h1,h2⟩;clear h1 h2;go_wp2_with fail;go_end0
 exact HP.out
theorem jI (h:O3 W wb ab bs) (z:Int) (hz:I64 z) (hn:bs.length+10 < 20000) :
  Calls prog 228 #[zB wb,J z] W fun e w'=>G1 wb ab (bs++Y0 z) W e w':=by
 have HN:=hid (mR h (lO z) (kH hz.1 hz.2) hn);obtain⟨xc,xd⟩:=hz;clear h;by_cases hneg:z < 0
 ·obtain ⟨m,hm⟩:∃m:Nat, -1 - z=(m:Int):=⟨(-1 - z).toNat,by omega⟩
  have xa:m < 9223372036854775808:=by omega
  have e1:(lO z:Int)=2*(m:Int)+1:=by unfold lO;rw [if_pos hneg,hm];omega
  have xb:Hid (Calls prog 229 #[zB wb,.int .u64 (2*(m:Int)+1)] W fun e w'=>G1 wb ab (bs++Y0 z) W e w'):=by rw [<- e1];exact HN
  clear HN e1;go_enter func228,ntmps228;go_wp2_with fail;refine xb.out.mono ?_;rintro e w1 ⟨rfl,h1,h2⟩;have HP:Hid (G1 wb ab (bs++Y0 z) W (.returned (.tuple #[])) w1):=⟨rfl,h1,h2⟩;clear h1 h2;go_wp2_with fail;go_end0
  exact HP.out
 ·obtain ⟨m,hm⟩:∃m:Nat,z=(m:Int):=⟨z.toNat,by omega⟩
  subst hm;have xa:m < 9223372036854775808:=by omega
  have e1:(lO (m:Int):Int)=2*(m:Int):=by unfold lO;rw [if_neg hneg];omega
  have xb:Hid (Calls prog 229 #[zB wb,.int .u64 (2*(m:Int))] W fun e w'=>G1 wb ab (bs++Y0 (m:Int)) W e w'):=by rw [<- e1];exact HN
  clear HN e1;go_enter func228,ntmps228;go_wp2_with fail;refine xb.out.mono ?_;rintro e w1 ⟨rfl,h1,h2⟩;have HP:Hid (G1 wb ab (bs++Y0 (m:Int)) W (.returned (.tuple #[])) w1):=⟨rfl,h1,h2⟩;clear h1 h2;go_wp2_with fail;go_end0
  exact HP.out
end
section
variable {W:World} {ab wb:Nat} {bs:List Int}
theorem a7N {k:Nat} (h:O3 W wb ab bs) (hk:W.heap.size=k) (b:Int) (hn:bs.length+1 < 20000) :
  Calls prog 143 #[zB wb,.slice (zA k) 1 1] (W.alloc (.cells #[zC b] 5)) fun e w'=>G1 wb ab (bs++[b]) W e w':=by subst hk;exact a0C h b hn
theorem a4f (h:O3 W wb ab bs) (v:Val) (hv:sJ v) (hn:bs.length+12 < 20000) :
  Calls prog 236 #[zB wb,.agg #[zC v.1,J v.2]] W fun e w'=>G1 wb ab (bs++iB v) W e w':=by
 have HH:=hid h;have HV:=hid hv;have xe:=h.wlt;have xg:=h.alt;have xc:L0d W (W.alloc (.cells #[zC v.1,J v.2] 92)):=L3a (L3b _ _) (L1c _) _;have xb:=hid xc;clear h hv xc;go_enter func236,ntmps236;go_wp2_with fail;refine (a7N (k:=W.heap.size+1) (HH.out.later xb.out) R6 v.1 R5).mono ?_;rintro e w1 ⟨rfl,h1,h2⟩;have x0:w1.cell? ⟨W.heap.size,0,none⟩=some (zC v.1):=h2.cell R6 R5 R5 R3
 have x1:w1.cell? ⟨W.heap.size,1,none⟩=some (J v.2):=h2.cell R6 R5 R5 R3;have xf:W.heap.size < w1.heap.size:=by have:=h2.size;simp at this;omega
 have H1:=hid h1;have H2:=hid ((E2.of_below xb.out).trans h2);clear h1 h2;by_cases k1:v.1=1
 ·rw [k1] at x0
  have HS:=hid (jI H1.out v.2 HV.out.1 (by rw [List.length_append];simp;omega));have HE:Hid (bs++[v.1]++Y0 v.2=bs++iB v):=by refine hid ?_;unfold iB;rw [if_pos k1,List.append_assoc];rfl
  go_wp2_with fail;refine HS.out.mono ?_;rintro e w2 ⟨rfl,h3,h4⟩;have HP:Hid (G1 wb ab (bs++iB v) W (.returned (.tuple #[])) w2):=⟨rfl,by rw [<- HE.out];exact h3,H2.out.trans h4⟩;clear h3 h4;go_wp2_with fail;go_end0
  exact HP.out
 ·by_cases k2:v.1=2
  ·rw [k2] at x0
   obtain⟨m,hm⟩:=L5c (HV.out.2 k2);have xd:v.2.toNat=m:=by rw [hm];rfl
   have xa:m < 9223372036854775808:=by have:=HV.out.1.2;omega
   rw[hm] at x1;have HS:=hid (K0 H1.out m xa (by rw [List.length_append];simp;omega));have HE:Hid (bs++[v.1]++B5 m=bs++iB v):=by refine hid ?_;unfold iB;rw [if_neg k1,if_pos k2,xd,List.append_assoc];rfl
   go_wp2_with fail;refine HS.out.mono ?_;rintro e w2 ⟨rfl,h3,h4⟩;have HP:Hid (G1 wb ab (bs++iB v) W (.returned (.tuple #[])) w2):=⟨rfl,by rw [<- HE.out];exact h3,H2.out.trans h4⟩;clear h3 h4;go_wp2_with fail;go_end0
   exact HP.out
  ·have HE:Hid (bs++[v.1]=bs++iB v):=by refine hid ?_;unfold iB;rw [if_neg k1,if_neg k2]
   have HP:Hid (G1 wb ab (bs++iB v) W (.returned (.tuple #[])) w1):=⟨rfl,by rw [<- HE.out];exact H1.out,H2.out⟩;have b1:(v.1 == 1)=false:=by simpa using k1
   have b2:(v.1 == 2)=false:=by simpa using k2
   go_wp2_with fail;go_end0
   exact HP.out
def VIn (W:World) (wb ab:Nat) (a:Option Addr) (l:List Val):Prop:=0 < l.length->∃b,a=some ⟨b,0,none⟩/\b < W.heap.size/\b≠wb/\b≠ab/\∀(i:Nat) (x:Val),l[i]?=some x->W.cell? ⟨b,i*2,none⟩=some (zC x.1)/\W.cell? ⟨b,i*2+1,none⟩=some (J x.2)
theorem VIn.later {V:World} {a:Option Addr} {l:List Val} (h:VIn W wb ab a l) (hw:E2 wb ab W V):VIn V wb ab a l:=fun h0=>by
 obtain⟨b,e,hb,h1,h2,hc⟩:=h h0;exact⟨b,e,L0a hb hw.size,h1,h2,fun i x hx=>⟨hw.cell hb h1 h2 (hc i x hx).1,hw.cell hb h1 h2 (hc i x hx).2⟩⟩
theorem dG (h:O3 W wb ab bs) (a:Option Addr) (c:Nat) (l:List Val) (hl:VIn W wb ab a l) (hv:∀v,v∈l->sJ v) (hn:bs.length+l.length*11+12 < 20000) :
  Calls prog 230 #[zB wb,.slice a l.length c] W fun e w'=>G1 wb ab (bs++X3 l) W e w':=by
 have HH:=hid h;have HL:=hid hl;have HV:=hid hv;clear h hl hv;go_enter func230,ntmps230;go_wp2_with fail;go_loopw [8] (fun vi wr=>∃i:Nat,i<=l.length/\vi=J i/\O3 wr wb ab (bs++X3 (l.take i))/\E2 wb ab W wr) (fun vi _=>l.length - (intOf vi).toNat)
 case atStart=>exact ⟨0,L4c _,rfl,by simpa [X3] using HH.out,E2.refl _ _ _⟩
 case round =>
  obtain⟨i,hi,rfl,xa,xb⟩:=hrel;by_cases hlt:i < l.length
  ·obtain ⟨x,hx⟩:∃x,l[i]?=some x:=⟨_,L1b hlt⟩
   obtain⟨b,rfl,hb,xi,xj,xf⟩:=(HL.out.later xb) R5;obtain⟨x0,x1⟩:=xf i x hx;have xc:(bs++X3 (l.take i)).length+12 < 20000:=by
    have:=eK (l:=l.take i) fun v hv=>HV.out v (List.mem_of_mem_take hv)
    rw[List.length_take] at this;rw[List.length_append];have:min i l.length*11<=l.length*11:=Nat.mul_le_mul_right _ R5;omega
   have xg:Hid (bs++X3 (l.take (i+1))=bs++X3 (l.take i)++iB x):=by
    refine hid ?_;rw[List.take_add_one,hx,List.append_assoc];simp[X3]
   have HX:=hid (HV.out x (L2a hx));have xh:=xa.wlt;have xd:=hid (xa.later (L3a (L3b _ _) (L1c _) (.cells #[zC x.1,J x.2] 92)));have xe:=hid (xb.trans (E2.of_below (L3a (L3b _ _) (L1c _) (.cells #[zC x.1,J x.2] 92))));clear xa xb xf hx;generalize bs++X3 (l.take i)=cs at *
   go_wp2_with fail;refine (a4f xd.out x HX.out xc).mono ?_;rintro e w1 ⟨rfl,h1,h2⟩;have H1:=hid h1;have H2:=hid (xe.out.trans h2);clear h1 h2;go_wp2_with fail;go_roundw
   case rel=>exact ⟨i+1,by omega,by go_num,by rw [xg.out];exact H1.out,H2.out⟩
   case measure=>simp [intOf];omega
  ·obtain rfl:i=l.length:=by omega
   rw[List.take_length] at xa;have xd:=hid xa;have xe:=hid xb;clear xa xb;go_wp2_with fail;go_end0
   exact⟨rfl,xd.out,xe.out⟩
end
section
variable {W:World} {ab wb:Nat} {l:List Int}
def eD (l:List Int):List Int:=l.flatMap Y0
def wY (l:List Int):List Int:=B5 l.length++eD l
theorem oP {z:Int} (h:I64 z):(Y0 z).length<=10:=B1 (kH h.1 h.2)
theorem rM (h:∀z,z∈l->I64 z):(eD l).length<=l.length*10:=by
 induction l with
 | nil=>simp [eD]
 | cons v l ih =>
  have h1:=ih fun x hx=>h x (by simp [hx])
  have h2:=oP (h v R6);unfold eD at h1 ⊢;rw[List.flatMap_cons,List.length_append,List.length_cons,Nat.add_mul];omega
def NIn (W:World) (wb ab:Nat) (a:Option Addr) (l:List Int):Prop:=0 < l.length->∃b,a=some ⟨b,0,none⟩/\b < W.heap.size/\b≠wb/\b≠ab/\∀(i:Nat) (x:Int),l[i]?=some x->W.cell? ⟨b,i,none⟩=some (J x)
theorem NIn.later {V:World} {a:Option Addr} (h:NIn W wb ab a l) (hw:E2 wb ab W V):NIn V wb ab a l:=fun h0=>by
 obtain⟨b,e,hb,h1,h2,hc⟩:=h h0;exact⟨b,e,L0a hb hw.size,h1,h2,fun i x hx=>hw.cell hb h1 h2 (hc i x hx)⟩
theorem yA {bs:List Int} (h:O3 W wb ab bs) (a:Option Addr) (c:Nat) (l:List Int) (hl:NIn W wb ab a l) (hv:∀z,z∈l->I64 z) (hn:bs.length+l.length*10+30 < 20000) :
  Calls prog 193 #[zB wb,.slice a l.length c] W fun e w'=>G1 wb ab (bs++wY l) W e w':=by
 have HC:=hid (K0 h l.length R5 R5);have HL:=hid hl;have HV:=hid hv;have xn:=B1 (n:=l.length) R5;clear h hl hv;go_enter func193,ntmps193;go_wp2_with fail;refine HC.out.mono ?_;rintro e w0 ⟨rfl,h1,h2⟩;have HH:=hid h1;have xj:=hid h2;have xh:=hid (HL.out.later h2);clear h1 h2;generalize hds:bs++B5 l.length=ds at *
 have xk:ds.length<=bs.length+10:=by rw [<- hds,List.length_append];omega
 have xg:=hid hds;clear hds;go_wp2_with fail;go_loopw [12] (fun vi wr=>∃i:Nat,i<=l.length/\vi=J i/\O3 wr wb ab (ds++eD (l.take i))/\E2 wb ab w0 wr) (fun vi _=>l.length - (intOf vi).toNat)
 case atStart=>exact ⟨0,L4c _,rfl,by simpa [eD] using HH.out,E2.refl _ _ _⟩
 case round =>
  obtain⟨i,hi,rfl,xa,xb⟩:=hrel;by_cases hlt:i < l.length
  ·obtain ⟨x,hx⟩:∃x,l[i]?=some x:=⟨_,L1b hlt⟩
   obtain⟨b,rfl,hb,xm,xo,xd⟩:=(xh.out.later xb) R5;have x0:=xd i x hx;have xc:(ds++eD (l.take i)).length+10 < 20000:=by
    have:=rM (l:=l.take i) fun v hv=>HV.out v (List.mem_of_mem_take hv)
    rw[List.length_take] at this;rw[List.length_append];have:min i l.length*10<=l.length*10:=Nat.mul_le_mul_right _ R5;omega
   have xe:Hid (ds++eD (l.take (i+1))=ds++eD (l.take i)++Y0 x):=by
    refine hid ?_;rw[List.take_add_one,hx,List.append_assoc];simp[eD]
   have HX:=hid (HV.out x (L2a hx));have xl:=xa.wlt;have xf:=hid xa;have xi:=hid xb;clear xa xb xd hx;generalize ds++eD (l.take i)=cs at *
   go_wp2_with fail;refine (jI xf.out x HX.out xc).mono ?_;rintro e w1 ⟨rfl,h1,h2⟩;have H1:=hid h1;have H2:=hid (xi.out.trans h2);clear h1 h2;go_wp2_with fail;go_roundw
   case rel=>exact ⟨i+1,by omega,by go_num,by rw [xe.out];exact H1.out,H2.out⟩
   case measure=>simp [intOf];omega
  ·obtain rfl:i=l.length:=by omega
   rw[List.take_length] at xa;have HP:Hid (G1 wb ab (bs++wY l) W (.returned (.tuple #[])) wr):=⟨rfl,by unfold wY;rw [<- List.append_assoc,xg.out];exact xa,xj.out.trans xb⟩;clear xa xb;go_wp2_with fail;go_end0
   exact HP.out
end
section
variable {W:World} {ab wb:Nat} {l:List FrA}
def frB (f:FrA):List Int:=B5 f.fn++B5 f.pc++X3 f.loc++X3 f.stk
def lM (l:List FrA):List Int:=l.flatMap frB
def cW (l:List FrA):List Int:=B5 l.length++lM l
structure nA (f:FrA):Prop where
 fn:f.fn < 1000
 pc:f.pc < 1000
 len:f.loc.length+f.stk.length<=18
 loc:∀v,v∈f.loc->sJ v
 stk:∀v,v∈f.stk->sJ v
theorem a7p {f:FrA} (h:nA f):(frB f).length<=218:=by
 have h1:=B1 (n:=f.fn) (by have:=h.fn;omega);have h2:=B1 (n:=f.pc) (by have:=h.pc;omega);have h3:=eK h.loc;have h4:=eK h.stk;have h5:=h.len;unfold frB;simp only[List.length_append];omega
theorem wD (h:∀f,f∈l->nA f):(lM l).length<=l.length*218:=by
 induction l with
 | nil=>simp [lM]
 | cons v l ih =>
  have h1:=ih fun x hx=>h x (by simp [hx])
  have h2:=a7p (h v R6);unfold lM at h1 ⊢;rw[List.flatMap_cons,List.length_append,List.length_cons,Nat.add_mul];omega
def FIn (W:World) (wb ab:Nat) (a:Option Addr) (l:List FrA):Prop:=0 < l.length->∃b,a=some ⟨b,0,none⟩/\b < W.heap.size/\b≠wb/\b≠ab/\∀(i:Nat) (f:FrA),l[i]?=some f ->
 ∃la lc sa sc,W.cell? ⟨b,i*4,none⟩=some (J (f.fn:Int))/\W.cell? ⟨b,i*4+1,none⟩=some (J (f.pc:Int))/\W.cell? ⟨b,i*4+2,none⟩=some (.slice la f.loc.length lc)/\W.cell? ⟨b,i*4+3,none⟩=some (.slice sa f.stk.length sc)/\VIn W wb ab la f.loc/\VIn W wb ab sa f.stk
theorem FIn.later {V:World} {a:Option Addr} (h:FIn W wb ab a l) (hw:E2 wb ab W V):FIn V wb ab a l:=fun h0=>by
 obtain⟨b,e,hb,h1,h2,hc⟩:=h h0;refine⟨b,e,L0a hb hw.size,h1,h2,fun i f hf=>?_⟩;obtain⟨la,lc,sa,sc,k0,k1,k2,k3,v1,v2⟩:=hc i f hf;exact⟨la,lc,sa,sc,hw.cell hb h1 h2 k0,hw.cell hb h1 h2 k1,hw.cell hb h1 h2 k2,hw.cell hb h1 h2 k3,v1.later hw,v2.later hw⟩
theorem xZ {bs:List Int} (h:O3 W wb ab bs) (a:Option Addr) (c:Nat) (l:List FrA) (hl:FIn W wb ab a l) (hv:∀f,f∈l->nA f) (hn:bs.length+l.length*218+300 < 20000) :
  Calls prog 194 #[zB wb,.slice a l.length c] W fun e w'=>G1 wb ab (bs++cW l) W e w':=by
 have HC:=hid (K0 h l.length R5 R5);have HL:=hid hl;have HV:=hid hv;have xr:=B1 (n:=l.length) R5;clear h hl hv;go_enter func194,ntmps194;go_wp2_with fail;refine HC.out.mono ?_;rintro e w0 ⟨rfl,h1,h2⟩;have HH:=hid h1;have xo:=hid h2;have xn:=hid (HL.out.later h2);clear h1 h2;generalize hds:bs++B5 l.length=ds at *
 have xp:ds.length<=bs.length+10:=by rw [<- hds,List.length_append];omega
 have xm:=hid hds;clear hds;go_wp2_with fail;go_loopw [12] (fun vi wr=>∃i:Nat,i<=l.length/\vi=J i/\O3 wr wb ab (ds++lM (l.take i))/\E2 wb ab w0 wr) (fun vi _=>l.length - (intOf vi).toNat)
 case atStart=>exact ⟨0,L4c _,rfl,by simpa [lM] using HH.out,E2.refl _ _ _⟩
 case round =>
  obtain⟨i,hi,rfl,xc,xf⟩:=hrel;by_cases hlt:i < l.length
  ·obtain ⟨f,hx⟩:∃f,l[i]?=some f:=⟨_,L1b hlt⟩
   obtain⟨b,rfl,hb,xs,xt,xh⟩:=(xn.out.later xf) R5;obtain⟨la,lc,sa,sc,k0,k1,k2,k3,v1,v2⟩:=xh i f hx;have xl:(ds++lM (l.take i)).length+260 < 20000:=by
    have:=wD (l:=l.take i) fun v hv=>HV.out v (List.mem_of_mem_take hv)
    rw[List.length_take] at this;rw[List.length_append];have:min i l.length*218<=l.length*218:=Nat.mul_le_mul_right _ R5;omega
   have xk:Hid (ds++lM (l.take (i+1))=ds++lM (l.take i)++B5 f.fn++B5 f.pc++X3 f.loc++X3 f.stk):=by
    refine hid ?_;rw[List.take_add_one,hx];simp[lM,frB,List.append_assoc]
   have xa:=HV.out f (L2a hx);have xj:=hid xa;have n1:=B1 (n:=f.fn) (by have:=xa.fn;omega);have n2:=B1 (n:=f.pc) (by have:=xa.pc;omega);have n3:=eK xa.loc;have n5:=xa.len;have f1:=xa.fn;have f2:=xa.pc;have xq:=xc.wlt;have xu:=xc.alt;have xe:L0d wr (wr.alloc (.cells #[J (f.fn:Int),J (f.pc:Int),.slice la f.loc.length lc,.slice sa f.stk.length sc] 86)):=L3a (L3b _ _) (L1c _) _
   have xg:=hid (xc.later xe);have xi:=hid (xf.trans (E2.of_below xe));have xd:=hid (v1.later (E2.of_below xe));have xb:=hid (v2.later (E2.of_below xe));clear xc xf xh hx xa v1 v2 xe;generalize ds++lM (l.take i)=cs at *
   go_wp2_with fail;refine (K0 xg.out f.fn R5 R5).mono ?_;rintro e w1 ⟨rfl,h1,h2⟩;have y1:w1.cell? ⟨wr.heap.size,1,none⟩=some (J (f.pc:Int)):=h2.cell R6 R5 R5 R3;have y2:w1.cell? ⟨wr.heap.size,2,none⟩=some (.slice la f.loc.length lc):=h2.cell R6 R5 R5 R3;have y3:w1.cell? ⟨wr.heap.size,3,none⟩=some (.slice sa f.stk.length sc):=h2.cell R6 R5 R5 R3
   have l1:wr.heap.size < w1.heap.size:=by have:=h2.size;simp at this;omega
   have H1:=hid h1;have H2:=hid (xi.out.trans h2);have xd:=hid (xd.out.later h2);have xb:=hid (xb.out.later h2);clear h1 h2 k0 k1 k2 k3 xg xi;go_wp2_with fail;refine (K0 H1.out f.pc R5 (by rw [List.length_append];omega)).mono ?_;rintro e w2 ⟨rfl,h1,h2⟩;have z2:=h2.cell l1 R5 R5 y2;have z3:=h2.cell l1 R5 R5 y3;have l2:wr.heap.size < w2.heap.size:=L0a l1 h2.size
   have H3:=hid h1;have H4:=hid (H2.out.trans h2);have xd:=hid (xd.out.later h2);have xb:=hid (xb.out.later h2);clear h1 h2 y1 y2 y3 H1 H2;go_wp2_with fail;refine (dG H3.out la lc f.loc xd.out xj.out.loc (by rw [List.length_append,List.length_append];omega)).mono ?_;rintro e w3 ⟨rfl,h1,h2⟩;have t3:=h2.cell l2 R5 R5 z3;have l3:wr.heap.size < w3.heap.size:=L0a l2 h2.size
   have H5:=hid h1;have H6:=hid (H4.out.trans h2);have xb:=hid (xb.out.later h2);clear h1 h2 z2 z3 H3 H4 xd;go_wp2_with fail;refine (dG H5.out sa sc f.stk xb.out xj.out.stk (by rw [List.length_append,List.length_append,List.length_append];omega)).mono ?_;rintro e w4 ⟨rfl,h1,h2⟩;have H7:=hid h1;have H8:=hid (H6.out.trans h2);clear h1 h2 t3 H5 H6 xb;go_wp2_with fail;go_roundw
   case rel=>exact ⟨i+1,by omega,by go_num,by rw [xk.out];exact H7.out,H8.out⟩
   case measure=>simp [intOf];omega
  ·obtain rfl:i=l.length:=by omega
   rw[List.take_length] at xc;have HP:Hid (G1 wb ab (bs++cW l) W (.returned (.tuple #[])) wr):=⟨rfl,by unfold cW;rw [<- List.append_assoc,xm.out];exact xc,xo.out.trans xf⟩;clear xc xf;go_wp2_with fail;go_end0
   exact HP.out
end
section
variable {W:World} {ab wb:Nat} {l:List Ob}
def obB (o:Ob):List Int:=B5 o.1.toNat++(if o.1=3 then [] else B5 o.2.length)++X3 o.2
def kO (l:List Ob):List Int:=l.flatMap obB
def cO (l:List Ob):List Int:=B5 l.length++kO l
structure nC (o:Ob):Prop where
 kind:0<=o.1/\o.1 < 256
 len:o.2.length<=12
 vals:∀v,v∈o.2->sJ v
theorem a7z {o:Ob} (h:nC o):(obB o).length<=152:=by
 have h1:=B1 (n:=o.1.toNat) (by have:=h.kind;omega);have h2:=B1 (n:=o.2.length) (by have:=h.len;omega);have h3:=eK h.vals;have h5:=h.len;unfold obB;simp only[List.length_append];split
 ·simp;omega
 ·omega
theorem wW (h:∀f,f∈l->nC f):(kO l).length<=l.length*152:=by
 induction l with
 | nil=>simp [kO]
 | cons v l ih =>
  have h1:=ih fun x hx=>h x (by simp [hx])
  have h2:=a7z (h v R6);unfold kO at h1 ⊢;rw[List.flatMap_cons,List.length_append,List.length_cons,Nat.add_mul];omega
def OIn (W:World) (wb ab:Nat) (a:Option Addr) (l:List Ob):Prop:=0 < l.length->∃b,a=some ⟨b,0,none⟩/\b < W.heap.size/\b≠wb/\b≠ab/\∀(i:Nat) (o:Ob),l[i]?=some o ->
 ∃fa fc,W.cell? ⟨b,i*2,none⟩=some (zC o.1)/\W.cell? ⟨b,i*2+1,none⟩=some (.slice fa o.2.length fc)/\VIn W wb ab fa o.2
theorem OIn.later {V:World} {a:Option Addr} (h:OIn W wb ab a l) (hw:E2 wb ab W V):OIn V wb ab a l:=fun h0=>by
 obtain⟨b,e,hb,h1,h2,hc⟩:=h h0;refine⟨b,e,L0a hb hw.size,h1,h2,fun i f hf=>?_⟩;obtain⟨fa,fc,k0,k1,v1⟩:=hc i f hf;exact⟨fa,fc,hw.cell hb h1 h2 k0,hw.cell hb h1 h2 k1,v1.later hw⟩
theorem uM {bs:List Int} (h:O3 W wb ab bs) (a:Option Addr) (c:Nat) (l:List Ob) (hl:OIn W wb ab a l) (hv:∀f,f∈l->nC f) (hn:bs.length+l.length*152+300 < 20000) :
  Calls prog 195 #[zB wb,.slice a l.length c] W fun e w'=>G1 wb ab (bs++cO l) W e w':=by
 have HC:=hid (K0 h l.length R5 R5);have HL:=hid hl;have HV:=hid hv;have xx:=B1 (n:=l.length) R5;clear h hl hv;go_enter func195,ntmps195;go_wp2_with fail;refine HC.out.mono ?_;rintro e w0 ⟨rfl,h1,h2⟩;have HH:=hid h1;have xs:=hid h2;have xr:=hid (HL.out.later h2);clear h1 h2;generalize hds:bs++B5 l.length=ds at *
 have xt:ds.length<=bs.length+10:=by rw [<- hds,List.length_append];omega
 have xq:=hid hds;clear hds;go_wp2_with fail;go_loopw [12] (fun vi wr=>∃i:Nat,i<=l.length/\vi=J i/\O3 wr wb ab (ds++kO (l.take i))/\E2 wb ab w0 wr) (fun vi _=>l.length - (intOf vi).toNat)
 case atStart=>exact ⟨0,L4c _,rfl,by simpa [kO] using HH.out,E2.refl _ _ _⟩
 case round =>
  obtain⟨i,hi,rfl,xa,xc⟩:=hrel;by_cases hlt:i < l.length
  ·obtain ⟨o,hx⟩:∃o,l[i]?=some o:=⟨_,L1b hlt⟩
   obtain⟨b,rfl,hb,xw,ya,xl⟩:=(xr.out.later xc) R5;obtain⟨fa,fc,k0,k1,v1⟩:=xl i o hx;have xp:(ds++kO (l.take i)).length+200 < 20000:=by
    have:=wW (l:=l.take i) fun v hv=>HV.out v (List.mem_of_mem_take hv)
    rw[List.length_take] at this;rw[List.length_append];have:min i l.length*152<=l.length*152:=Nat.mul_le_mul_right _ R5;omega
   have xb:=HV.out o (L2a hx);have xh:=hid xb;obtain⟨kd,xe⟩:=L5c xb.kind.1;have xy:kd < 256:=by have:=xb.kind.2;omega
   have xn:o.1.toNat=kd:=by rw [xe];rfl
   have n1:=B1 (n:=kd) R5;have n2:=B1 (n:=o.2.length) (by have:=xb.len;omega);have n5:=xb.len;have xu:=xa.wlt;have yb:=xa.alt;have xd:L0d wr (wr.alloc (.cells #[zC (kd:Int),.slice fa o.2.length fc] 90)):=L3a (L3b _ _) (L1c _) _;have xi:=hid (xa.later xd);have xk:=hid (xc.trans (E2.of_below xd));have xm:=hid (v1.later (E2.of_below xd))
   rw[xe] at k0;have xg:Hid (ds++kO (l.take (i+1))=ds++kO (l.take i)++obB o):=by
    refine hid ?_;rw[List.take_add_one,hx,List.append_assoc];simp[kO]
   have xf:=hid (And.intro xe xn);clear xa xc xl hx xb v1 xd xe xn;generalize ds++kO (l.take i)=cs at *
   go_wp2_with fail;refine (K0 xi.out kd R5 R5).mono ?_;rintro e w1 ⟨rfl,h1,h2⟩;have y0:w1.cell? ⟨wr.heap.size,0,none⟩=some (zC (kd:Int)):=h2.cell R6 R5 R5 R3;have y1:w1.cell? ⟨wr.heap.size,1,none⟩=some (.slice fa o.2.length fc):=h2.cell R6 R5 R5 R3;have l1:wr.heap.size < w1.heap.size:=by have:=h2.size;simp at this;omega
   have H1:=hid h1;have H2:=hid (xk.out.trans h2);have xj:=hid (xm.out.later h2);clear h1 h2 k0 k1 xi xk xm;by_cases h3:kd=3
   ·have HE:Hid (cs++B5 kd++X3 o.2=cs++obB o):=by
     refine hid ?_;unfold obB;rw[if_pos (by rw [xf.out.1,h3];rfl),xf.out.2,List.append_nil,List.append_assoc]
    subst h3;go_wp2_with fail;refine (dG H1.out fa fc o.2 xj.out xh.out.vals (by rw [List.length_append];omega)).mono ?_;rintro e w4 ⟨rfl,h1,h2⟩;have H7:=hid h1;have H8:=hid (H2.out.trans h2);clear h1 h2 y0 y1 H1 H2;go_wp2_with fail;go_roundw
    case rel=>exact ⟨i+1,by omega,by go_num,by rw [xg.out,<- HE.out];exact H7.out,H8.out⟩
    case measure=>simp [intOf];omega
   ·have HE:Hid (cs++B5 kd++B5 o.2.length++X3 o.2=cs++obB o):=by
     refine hid ?_;unfold obB;rw[if_neg (by rw [xf.out.1];omega),xf.out.2];simp[List.append_assoc]
    have xz:((kd:Int) == 3)=false:=by simp;omega
    have xv:¬(kd:Int)=3:=by omega
    go_wp2_with fail;refine (K0 H1.out o.2.length R5 (by rw [List.length_append];omega)).mono ?_;rintro e w2 ⟨rfl,h1,h2⟩;have z1:=h2.cell l1 R5 R5 y1;have l2:wr.heap.size < w2.heap.size:=L0a l1 h2.size;have H3:=hid h1;have H4:=hid (H2.out.trans h2);have xo:=hid (xj.out.later h2);clear h1 h2 y0 y1 H1 H2;go_wp2_with fail;refine (dG H3.out fa fc o.2 xo.out xh.out.vals (by rw [List.length_append,List.length_append];omega)).mono ?_
    rintro e w4 ⟨rfl,h1,h2⟩;have H7:=hid h1;have H8:=hid (H4.out.trans h2);clear h1 h2 z1 H3 H4;go_wp2_with fail;go_roundw
    case rel=>exact ⟨i+1,by omega,by go_num,by rw [xg.out,<- HE.out];exact H7.out,H8.out⟩
    case measure=>simp [intOf];omega
  ·obtain rfl:i=l.length:=by omega
   rw[List.take_length] at xa;have HP:Hid (G1 wb ab (bs++cO l) W (.returned (.tuple #[])) wr):=⟨rfl,by unfold cO;rw [<- List.append_assoc,xq.out];exact xa,xs.out.trans xc⟩;clear xa xc;go_wp2_with fail;go_end0
   exact HP.out
end
section
variable {f:FnR} {g:PgR}
def inB (f:FnR) (j:Nat):List Int:=B5 (f.op j).toNat++Y0 (f.ar j)
def Z7 (f:FnR) (k:Nat):List Int:=(List.range k).flatMap (inB f)
def fnB (f:FnR):List Int:=B5 f.p.toNat++B5 f.l.toNat++B5 f.n++Z7 f f.n
def fW (g:PgR) (k:Nat):List Int:=(List.range k).flatMap fun i=>fnB (g.f i)
def progB (g:PgR):List Int:=B5 g.n++fW g g.n
structure sD (f:FnR):Prop where
 p:0<=f.p/\f.p<=8
 l:0<=f.l/\f.l<=8
 n:f.n<=60
 op:∀j,j < f.n->0<=f.op j/\f.op j < 28
 ar:∀j,j < f.n->I64 (f.ar j)
structure aM (g:PgR):Prop where
 n:g.n<=8
 f:∀i,i < g.n->sD (g.f i)
theorem iT (f:FnR) (k:Nat):Z7 f (k+1)=Z7 f k++inB f k:=by unfold Z7;rw [List.range_succ,List.flatMap_append];simp
theorem eC (g:PgR) (k:Nat):fW g (k+1)=fW g k++fnB (g.f k):=by unfold fW;rw [List.range_succ,List.flatMap_append];simp
theorem gP (h:sD f):∀k,k<=f.n->(Z7 f k).length<=k*20
 | 0,_=>by simp [Z7]
 | k+1,hk=>by
  have h1:=gP h k R5;have h2:=B1 (n:=(f.op k).toNat) (by have:=h.op k R5;omega);have h3:=oP (h.ar k R5);rw[iT,List.length_append];unfold inB;rw[List.length_append];omega
theorem a7o (h:sD f):(fnB f).length<=1230:=by
 have h1:=B1 (n:=f.p.toNat) (by have:=h.p;omega);have h2:=B1 (n:=f.l.toNat) (by have:=h.l;omega);have h3:=B1 (n:=f.n) (by have:=h.n;omega);have h4:=gP h f.n (L1c _);have h5:=h.n;unfold fnB;simp only[List.length_append];omega
theorem kE (h:aM g):∀k,k<=g.n->(fW g k).length<=k*1230
 | 0,_=>by simp [fW]
 | k+1,hk=>by
  have h1:=kE h k R5;have h2:=a7o (h.f k R5);rw[eC,List.length_append];omega
structure PIn (W:World) (wb ab:Nat) (g:PgR):Prop where
 pg:I9 W.heap.size W g
 ne:∀k,g.blk k->k≠wb/\k≠ab
theorem PIn.later {W V:World} {wb ab:Nat} (h:PIn W wb ab g) (hw:E2 wb ab W V):PIn V wb ab g :=
 ⟨h.pg.held hw.size fun k hk=>hw.block k (h.pg.blk_lt hk) (h.ne k hk).1 (h.ne k hk).2,h.ne⟩
end
end Go.Proofs.YtbkmgoffiigdbaaGreatDoor
