import Derived.Test.YtbkmgoffiigdbabGreatDoorVT
import Derived.Laws.Bits64b
import Derived.Laws.Shifts
namespace Go.Proofs.YtbkmgoffiigdbabGreatDoor
open Go.RowKit Go.Sort
set_option maxHeartbeats 4000000
set_option maxRecDepth 100000
structure Rs where
 p:Nat
 f:Bool
def J0 (bs:List Int) (s:Rs):Int × Rs:=if s.f=true∨bs.length≤s.p then (0,⟨s.p,true⟩) else (bs.getD s.p 0,⟨s.p+1,false⟩)
def E9 (s:Rs) (h:Bool):Rs:=if h then s else ⟨s.p,true⟩
def jK (x:Int) (k:Nat):Int:=x*2 ^ min k 64 % 18446744073709551616
def a2y (x:Int) (k:Nat):Int:=x / 2 ^ min k 64
def Z2 (bs:List Int):Nat→Rs→Int→Nat→Int × Rs
 | 0,s,n,_=>(n,s)
 | F+1,s,n,k =>
  if (J0 bs s).1 < 128 then (bits .or .u64 n (jK (bits .andNot .u8 (J0 bs s).1 128) k),E9 (E9 (J0 bs s).2 (a2y (jK (bits .andNot .u8 (J0 bs s).1 128) k) k == bits .andNot .u8 (J0 bs s).1 128)) ((J0 bs s).1 != 0 || k == 0))
  else Z2 bs F (E9 (J0 bs s).2 (a2y (jK (bits .andNot .u8 (J0 bs s).1 128) k) k == bits .andNot .u8 (J0 bs s).1 128)) (bits .or .u64 n (jK (bits .andNot .u8 (J0 bs s).1 128) k)) (k+7)
def X9 (bs:List Int) (s:Rs):Int × Rs:=Z2 bs (bs.length+1) s 0 0
theorem mS {b:Int} (h0:0≤b) (h1:b < 256):bits .andNot .u8 b 128=b % 128:=by
 obtain⟨m,rfl⟩:=Int.eq_ofNat_of_zero_le h0;have hm:m < 256:=by omega
 have:∀m,m < 256→bits .andNot .u8 ((m:Nat):Int) 128=(m:Int) % 128:=by decide
 exact this m hm
theorem sH {bs pre post:List Int} {x:Int} (h:bs=pre++x::post):J0 bs ⟨pre.length,false⟩=(x,⟨pre.length+1,false⟩):=by
 unfold J0;have hl:¬(((⟨pre.length,false⟩:Rs).f=true)∨bs.length≤(⟨pre.length,false⟩:Rs).p):=by
  rw[h];simp
 rw[if_neg hl,h];simp[List.getD_eq_getElem?_getD]
theorem a3m {n x k:Nat} (hn:n < 2 ^ k) (h64:n+x*2 ^ k < 18446744073709551616):bits .or .u64 (n:Int) ((x*2 ^ k:Nat):Int)=((n+x*2 ^ k:Nat):Int):=by
 rw[bits_or_u64_nat n _ Q8 Q8];congr 1
 have:=Nat.shiftLeft_add_eq_or_of_lt hn x;rw[Nat.shiftLeft_eq] at this;rw[Nat.or_comm,← this];omega
theorem a9B {k q:Nat} (hq:q≠0) (h:q*2 ^ k < 18446744073709551616):k < 64:=by
 have h1:2 ^ k≤q*2 ^ k:=Nat.le_mul_of_pos_left _ Q8;have h2:2 ^ k < 2 ^ 64:=by
  have:(2:Nat) ^ 64=18446744073709551616:=by decide
  omega
 exact (Nat.pow_lt_pow_iff_right Q7).1 h2
theorem a7h {x k:Nat} (hk:k < 64) (hx:x*2 ^ k < 18446744073709551616):jK (x:Int) k=((x*2 ^ k:Nat):Int):=by
 unfold jK;rw[Nat.min_eq_left Q8];have e:(x:Int)*2 ^ k=((x*2 ^ k:Nat):Int):=by rw [Int.natCast_mul,Int.natCast_pow];rfl
 rw[e];omega
theorem a7i {x k:Nat} (hk:k < 64):a2y ((x*2 ^ k:Nat):Int) k=(x:Int):=by
 unfold a2y;rw[Nat.min_eq_left Q8];have e:((2:Int) ^ k)=((2 ^ k:Nat):Int):=by rw [Int.natCast_pow];rfl
 rw[e,← Int.natCast_ediv,Nat.mul_div_cancel _ (Nat.pow_pos Q7)]
theorem hJ (n:Nat):1≤(D6 n).length:=by rw [D6];split <;> simp
theorem uX {bs post:List Int} : ∀(F q n k:Nat) (pre:List Int),bs=pre++(D6 q++post)→(D6 q).length≤F→n < 2 ^ k→n+q*2 ^ k < 18446744073709551616→(0 < k→q≠0) →
  Z2 bs F ⟨pre.length,false⟩ (n:Int) k=(((n+q*2 ^ k:Nat):Int),⟨pre.length+(D6 q).length,false⟩)
 | 0,q,_,_,_,_,hF,_,_,_=>by have:=hJ q;omega
 | F+1,q,n,k,pre,hb,hF,hn,h64,hq=>by
  have hk:k < 64:=by
   by_cases h0:q=0
   ·have:k=0:=by
     rcases Nat.eq_zero_or_pos k with h | h
     ·exact h
     ·exact absurd h0 (hq h)
    omega
   ·exact a9B h0 Q8
  rw[Z2];by_cases hlt:q < 128
  ·have hnum:D6 q=[(q:Int)]:=by rw [D6,if_pos hlt]
   rw[hnum] at hb ⊢;rw[sH hb];simp only;have hpart:bits .andNot .u8 (q:Int) 128=(q:Int):=by rw [mS Q8 Q8];omega
   rw[if_pos Q8,hpart,a7h hk Q8,a7i hk,a3m hn h64];have h1:((q:Int) == (q:Int))=true:=by simp
   have h2:((q:Int) != 0 || k == 0)=true:=by
    rcases Nat.eq_zero_or_pos k with h | h
    ·simp [h]
    ·have:=hq h
     simp;exact Or.inl Q8
   rw[h1,h2];rfl
  ·have hnum:D6 q=((q % 128+128:Nat):Int)::D6 (q / 128):=by rw [D6,if_neg hlt]
   rw[hnum] at hb hF ⊢;rw[sH hb];simp only;have hpart:bits .andNot .u8 ((q % 128+128:Nat):Int) 128=((q % 128:Nat):Int):=by rw [mS Q8 Q8];omega
   have hmul:q*2 ^ k=q % 128*2 ^ k+q / 128*2 ^ (k+7):=by
    have h1:(2:Nat) ^ (k+7)=2 ^ k*128:=by rw [Nat.pow_add]
    have h2:q=q % 128+128*(q / 128):=(Nat.mod_add_div q 128).symm;rw[h1]
    conv=>lhs;rw [h2,Nat.add_mul]
    congr 1
    rw[Nat.mul_comm (2 ^ k) 128,← Nat.mul_assoc,Nat.mul_comm 128 (q / 128)]
   have hle:q % 128*2 ^ k≤q*2 ^ k:=Nat.mul_le_mul_right _ (Nat.mod_le _ _);have hn7:n+q % 128*2 ^ k < 2 ^ (k+7):=by
    have h1:(2:Nat) ^ (k+7)=128*2 ^ k:=by rw [Nat.pow_add,Nat.mul_comm]
    have h2:q % 128*2 ^ k≤127*2 ^ k:=Nat.mul_le_mul_right _ Q8;have h3:128*2 ^ k=127*2 ^ k+2 ^ k:=by rw [show 128=127+1 from rfl,Nat.add_mul,Nat.one_mul]
    omega
   rw[if_neg Q8,hpart,a7h hk Q8,a7i hk,a3m hn Q8];have h1:(((q % 128:Nat):Int) == ((q % 128:Nat):Int))=true:=by simp
   rw[h1];show Z2 bs F ⟨pre.length+1,false⟩ _ _=_;have key:=uX (bs:=bs) (post:=post) F (q / 128) (n+q % 128*2 ^ k) (k+7) (pre++[((q % 128+128:Nat):Int)]) (by rw [hb];simp) (by simpa using hF) hn7 Q8 (fun _=>by omega);rw[List.length_append,List.length_singleton] at key;rw[key];congr 1
   ·rw [hmul,Nat.add_assoc]
   ·congr 1
    simp only[List.length_cons];omega
def Enc {α:Type} (bs:List Int) (rd:Rs→α × Rs) (x:α) (e:List Int):Prop:=∀pre post,bs=pre++(e++post)→rd ⟨pre.length,false⟩=(x,⟨pre.length+e.length,false⟩)
theorem a3k (bs:List Int) {m:Nat} (hm:m < 18446744073709551616):Enc bs (X9 bs) (m:Int) (D6 m):=fun pre post hb=>by
 have hl:(D6 m).length≤bs.length+1:=by rw [hb];simp;omega
 have:=uX (bs:=bs) (post:=post) (bs.length+1) m 0 0 pre hb hl Q7 Q8 (fun h=>by omega);unfold X9;simpa using this
def W6 (bs:List Int) (s:Rs):Int × Rs:=(if (X9 bs s).1 % 2=1 then -1 - (X9 bs s).1 / 2 else (X9 bs s).1 / 2,(X9 bs s).2)
theorem wN (bs:List Int) {z:Int} (hz:I64 z):Enc bs (W6 bs) z (jI z):=fun pre post hb=>by
 have h:=a3k bs (pD hz.1 hz.2) pre post hb;unfold W6;rw[h];simp only;have e:(if ((oS z:Nat):Int) % 2=1 then -1 - ((oS z:Nat):Int) / 2 else ((oS z:Nat):Int) / 2)=z:=by
  unfold oS;split <;> split <;> omega
 rw[e];rfl
def D7 (bs:List Int) (most:Int) (s:Rs):Int × Rs:=(if (E9 (X9 bs s).2 (decide ((X9 bs s).1≤most))).f then 0 else (X9 bs s).1,E9 (X9 bs s).2 (decide ((X9 bs s).1≤most)))
theorem Y1 (bs:List Int) {m:Nat} {most:Int} (hm:m < 18446744073709551616) (hle:(m:Int)≤most):Enc bs (D7 bs most) (m:Int) (D6 m):=fun pre post hb=>by
 have h:=a3k bs hm pre post hb;unfold D7;rw[h];simp only;rw[decide_eq_true hle];rfl
def C0 (bs:List Int) (s:Rs):Int × Rs:=D7 bs 9223372036854775807 s
theorem bG (bs:List Int) {m:Nat} (hm:m < 9223372036854775808):Enc bs (C0 bs) (m:Int) (D6 m):=Y1 bs Q8 Q8
def K4 (bs:List Int) (s:Rs):Val × Rs :=
 if (J0 bs s).1=0 then ((0,0),(J0 bs s).2)
 else if (J0 bs s).1=1 then ((1,(W6 bs (J0 bs s).2).1),(W6 bs (J0 bs s).2).2)
 else if (J0 bs s).1=2 then ((2,(C0 bs (J0 bs s).2).1),(C0 bs (J0 bs s).2).2)
 else ((0,0),E9 (J0 bs s).2 false)
def nT (v:Val):Prop:=sY v∧(v=(0,0)∨v.1=1∨v.1=2)
theorem a5r (bs:List Int) {v:Val} (h:nT v):Enc bs (K4 bs) v (fD v):=fun pre post hb=>by
 obtain⟨⟨hi,hr⟩,hk⟩:=h;unfold fD at hb ⊢;rw[List.cons_append] at hb;unfold K4;rw[sH hb];simp only;obtain⟨k,z⟩:=v;simp only at hi hr hk hb ⊢;rcases hk with hk | hk | hk
 ·cases hk
  simp
 ·subst hk
  rw[if_pos rfl] at hb ⊢;rw[if_neg Q7,if_pos rfl];have:=wN bs hi (pre++[1]) post (by rw [hb];simp);rw[List.length_append,List.length_singleton] at this;rw[this];simp only[List.length_cons];congr 2
  omega
 ·subst hk
  rw[if_neg Q7,if_pos rfl] at hb ⊢;rw[if_neg Q7,if_neg Q7,if_pos rfl];obtain⟨m,rfl⟩:=Int.eq_ofNat_of_zero_le (hr rfl);have hm:((m:Int)).toNat=m:=by omega
  rw[hm] at hb ⊢;have:=bG bs (m:=m) (by have:=hi.2;omega) (pre++[2]) post (by rw [hb];simp);rw[List.length_append,List.length_singleton] at this;rw[this];simp only[List.length_cons];congr 2
  omega
def D9 {α:Type} (rd:Rs→α × Rs):Nat→Int→List α→Rs→List α × Rs
 | 0,_,acc,s=>(acc,s)
 | F+1,n,acc,s=>if (acc.length:Int) < n∧s.f=false then D9 rd F n (acc++[(rd s).1]) (rd s).2 else (acc,s)
theorem a0b {α:Type} {bs:List Int} {rd:Rs→α × Rs} {e:α→List Int} : ∀(l acc:List α) (F:Nat) (pre post:List Int),(∀x,x∈l→Enc bs rd x (e x))→bs=pre++(l.flatMap e++post)→l.length < F →
  D9 rd F ((acc.length+l.length:Nat):Int) acc ⟨pre.length,false⟩=(acc++l,⟨pre.length+(l.flatMap e).length,false⟩)
 | [],acc,0,_,_,_,_,hF=>by simp at hF
 | [],acc,F+1,pre,post,_,_,_=>by
  rw[D9,if_neg Q9];simp
 | x::l,acc,0,_,_,_,_,hF=>by simp at hF
 | x::l,acc,F+1,pre,post,h,hb,hF=>by
  rw[D9,if_pos ⟨by simp;omega,rfl⟩];rw[List.flatMap_cons,List.append_assoc] at hb;rw[h x Q9 pre _ hb];simp only;have key:=a0b l (acc++[x]) F (pre++e x) post (fun y hy=>h y (by simp [hy])) (by rw [hb];simp) (by simpa using hF);have hn:(acc++[x]).length+l.length=acc.length+(x::l).length:=by simp;omega
  rw[hn,List.length_append] at key;rw[key];congr 1
  ·simp
  ·rw [List.flatMap_cons,List.length_append,Nat.add_assoc]
structure F7 (W:World) (rb:Nat) (a:Option Addr) (c:Nat) (bs:List Int) (s:Rs):Prop where
 c0:W.cell? ⟨rb,0,none⟩=some (.slice a bs.length c)
 c1:W.cell? ⟨rb,1,none⟩=some (.int .i64 (s.p:Int))
 c2:W.cell? ⟨rb,2,none⟩=some (.bool s.f)
 c3:W.cell? ⟨rb,3,none⟩=some (.func (.func 109) #[] #[])
 c4:W.cell? ⟨rb,4,none⟩=some (.func (.func 110) #[] #[])
 c5:W.cell? ⟨rb,5,none⟩=some (.func (.func 111) #[] #[])
 c6:W.cell? ⟨rb,6,none⟩=some (.func (.func 112) #[] #[])
 c7:W.cell? ⟨rb,7,none⟩=some (.func (.func 112) #[] #[])
 z:∀j,W.frozen? ⟨rb,j,none⟩=false
 bytes:Y2 W a bs
 ne:∀b o,a=some ⟨b,o,none⟩→b≠rb
 lt:rb < W.heap.size
 rng:∀x,x∈bs→0≤x∧x < 256
 len:bs.length≤20000
 pos:s.p≤bs.length
abbrev Rd (rb:Nat) (W W':World):Prop:=A6 rb rb W W'
theorem F7.held {W V:World} {rb c:Nat} {a:Option Addr} {bs:List Int} {s:Rs} (h:F7 W rb a c bs s) (hs:W.heap.size≤V.heap.size) (hb:∀k,k < W.heap.size→V.heap[k]?=W.heap[k]?):F7 V rb a c bs s:=by
 have e:=hb rb h.lt;have hc:∀j,V.cell? ⟨rb,j,none⟩=W.cell? ⟨rb,j,none⟩:=fun j=>World.cell?_of_block (w:=W) (a:=⟨rb,j,none⟩) e
 refine⟨(hc 0).trans h.c0,(hc 1).trans h.c1,(hc 2).trans h.c2,(hc 3).trans h.c3,(hc 4).trans h.c4,(hc 5).trans h.c5,(hc 6).trans h.c6,(hc 7).trans h.c7,fun j=>(World.frozen?_of_block (w:=W) (a:=⟨rb,j,none⟩) e).trans (h.z j),fun h0=>?_,h.ne,Nat.lt_of_lt_of_le h.lt hs,h.rng,h.len,h.pos⟩;obtain⟨b,o,e,hbl,hc⟩:=h.bytes h0;exact⟨b,o,e,Nat.lt_of_lt_of_le hbl hs,fun i x hx=>by rw [World.cell?_of_block (w:=W) (a:=⟨b,o+i,none⟩) (hb b hbl)];exact hc i x hx⟩
theorem F7.later {W V:World} {rb c:Nat} {a:Option Addr} {bs:List Int} {s:Rs} (h:F7 W rb a c bs s) (hB:Below W.heap.size W V):F7 V rb a c bs s:=h.held hB.size fun k hk=>hB.block k hk
theorem F7.setP {W:World} {rb c:Nat} {a:Option Addr} {bs:List Int} {s:Rs} (h:F7 W rb a c bs s) (q:Nat) (hq:q≤bs.length):F7 (W.setCell ⟨rb,1,none⟩ (.int .i64 (q:Int))) rb a c bs ⟨q,s.f⟩:=by
 have hc:∀j,j≠1→(W.setCell ⟨rb,1,none⟩ (.int .i64 (q:Int))).cell? ⟨rb,j,none⟩=W.cell? ⟨rb,j,none⟩:=fun j hj=>World.cell?_setCell_other _ _ _ _ (fun e=>hj (by injection e with e1 e2;exact e2.symm))
 refine⟨(hc 0 Q7).trans h.c0,World.cell?_setCell_same _ _ _ h.c1,(hc 2 Q7).trans h.c2,(hc 3 Q7).trans h.c3,(hc 4 Q7).trans h.c4,(hc 5 Q7).trans h.c5,(hc 6 Q7).trans h.c6,(hc 7 Q7).trans h.c7,fun j=>(World.frozen?_setCell _ _ _ _).trans (h.z j),fun h0=>?_,h.ne,by simpa using h.lt,h.rng,h.len,hq⟩;obtain⟨b,o,e,hbl,hx⟩:=h.bytes h0;exact⟨b,o,e,by simpa using hbl,fun i x hi=>by rw [World.cell?_setCell_far _ _ _ _ (by exact Ne.symm (h.ne b o e))];exact hx i x hi⟩
theorem F7.setF {W:World} {rb c:Nat} {a:Option Addr} {bs:List Int} {s:Rs} (h:F7 W rb a c bs s):F7 (W.setCell ⟨rb,2,none⟩ (.bool true)) rb a c bs ⟨s.p,true⟩:=by
 have hc:∀j,j≠2→(W.setCell ⟨rb,2,none⟩ (.bool true)).cell? ⟨rb,j,none⟩=W.cell? ⟨rb,j,none⟩:=fun j hj=>World.cell?_setCell_other _ _ _ _ (fun e=>hj (by injection e with e1 e2;exact e2.symm))
 refine⟨(hc 0 Q7).trans h.c0,(hc 1 Q7).trans h.c1,World.cell?_setCell_same _ _ _ h.c2,(hc 3 Q7).trans h.c3,(hc 4 Q7).trans h.c4,(hc 5 Q7).trans h.c5,(hc 6 Q7).trans h.c6,(hc 7 Q7).trans h.c7,fun j=>(World.frozen?_setCell _ _ _ _).trans (h.z j),fun h0=>?_,h.ne,by simpa using h.lt,h.rng,h.len,h.pos⟩;obtain⟨b,o,e,hbl,hx⟩:=h.bytes h0;exact⟨b,o,e,by simpa using hbl,fun i x hi=>by rw [World.cell?_setCell_far _ _ _ _ (by exact Ne.symm (h.ne b o e))];exact hx i x hi⟩
def J1 (rb:Nat) (a:Option Addr) (c:Nat) (bs:List Int) (s:Rs) (v:Value) (W:World) (e:Ending) (w':World):Prop:=e=.returned v∧F7 w' rb a c bs s∧Rd rb W w'
theorem a4u (rb:Nat) (w:World) (v:Value) (h:w.cell? ⟨rb,2,none⟩=some v) (hz:w.frozen? ⟨rb,2,none⟩=false):Calls Tryz.prog 82 #[.pointer (some ⟨rb,0,none⟩),.bool false] w fun e w'=>e=.returned (.tuple #[])∧w'=w.setCell ⟨rb,2,none⟩ (.bool true):=by
 go_enter Tryz.func82,Tryz.ntmps82;go_wp2_with fail;go_end0
 exact⟨rfl,rfl⟩
theorem M5 {W:World} {rb c:Nat} {a:Option Addr} {bs:List Int} {s:Rs} (h:F7 W rb a c bs s) (hold:Bool) :
  Calls Tryz.prog 82 #[.pointer (some ⟨rb,0,none⟩),.bool hold] W fun e w'=>J1 rb a c bs (E9 s hold) (.tuple #[]) W e w':=by
 cases hold
 ·refine (a4u rb W _ h.c2 (h.z 2)).mono ?_
  rintro e w' ⟨rfl,rfl⟩;exact⟨rfl,h.setF,A6.setW _⟩
 ·refine (aM _ W).mono ?_
  rintro e w' ⟨rfl,rfl⟩;exact⟨rfl,h,A6.refl _ _ _⟩
def a5D (rb:Nat) (a:Option Addr) (c:Nat) (bs:List Int) (s:Rs) (W:World) (e:Ending) (w':World):Prop :=
 ∃b o,e=.returned (.pointer (some ⟨b,o,none⟩))∧w'.cell? ⟨b,o,none⟩=some (.int .u8 (J0 bs s).1)∧b < w'.heap.size∧F7 w' rb a c bs (J0 bs s).2∧Rd rb W w'
theorem a8c {W:World} {rb b o c:Nat} {bs:List Int} {s:Rs} (h:F7 W rb (some ⟨b,o,none⟩) c bs s) (hf:s.f=false) (hn:s.p < bs.length) :
  Calls Tryz.prog 67 #[.pointer (some ⟨rb,0,none⟩)] W fun e w'=>e=.returned (.pointer (some ⟨b,o+s.p,none⟩))∧pP (W.setCell ⟨rb,1,none⟩ (.int .i64 ((s.p:Int)+1))) w':=by
 have c0:=h.c0;have c1:=h.c1;have c2:=h.c2;rw[hf] at c2;have z1:=h.z 1;have hw:=h.lt;have hl:=h.len;generalize s.p=n at *
 generalize bs.length=m at *
 have hn':(n:Int) < (m:Int):=by omega
 clear h hf;go_enter Tryz.func67,Tryz.ntmps67;go_wp2_with fail;have hd:decide ((n:Int) < (m:Int))=true:=decide_eq_true hn';have he1:(n:Int)+1 - 1=(n:Int):=by omega
 have he2:IntKind.i64.wrap ((n:Int)+1 - 1)=(n:Int):=by rw [he1];exact Go.IntWalk.i64_in _ Q8
 have he3:(0:Int)≤(n:Int):=by omega
 go_region_with (go_at_call 82;refine (aM _ _).mono ?_;rintro e w' ⟨rfl,hw⟩;rw [hw];clear hw w')
 all_goals go_wp2_with fail
 all_goals go_region
 all_goals go_wp2_with fail
 all_goals go_ret
 all_goals exact ⟨rfl,⟨rfl,rfl,rfl,rfl⟩⟩
theorem a1T {W:World} {rb c:Nat} {a:Option Addr} {bs:List Int} {s:Rs} (h:F7 W rb a c bs s) (hf:s.f=true) :
  Calls Tryz.prog 67 #[.pointer (some ⟨rb,0,none⟩)] W fun e w'=>∃b,e=.returned (.pointer (some ⟨b,0,none⟩))∧w'.cell? ⟨b,0,none⟩=some (.int .u8 0)∧b < w'.heap.size∧F7 w' rb a c bs ⟨s.p,true⟩∧Rd rb W w':=by
 have c0:=h.c0;have c1:=h.c1;have hw:=h.lt;have hl:=h.len;have HM:Hid (∀(hold:Bool) (V:World),Below W.heap.size W V→Calls Tryz.prog 82 #[.pointer (some ⟨rb,0,none⟩),.bool hold] V fun e w'=>e=.returned (.tuple #[])∧w'.cell? ⟨rb,2,none⟩=some (.bool true)∧F7 w' rb a c bs ⟨s.p,true⟩∧Rd rb W w'):=fun hold V hV=>by
  refine (M5 (h.later hV) hold).mono ?_;rintro e w' ⟨rfl,h1,h2⟩;have e:E9 s hold=⟨s.p,true⟩:=by
   cases hold
   ·rfl
   ·show s=_;rw [← hf]
  rw[e] at h1;exact⟨rfl,h1.c2,h1,(A6.of_below hV).trans h2⟩
 clear h hf;generalize s.p=n at *
 generalize bs.length=m at *
 go_enter Tryz.func67,Tryz.ntmps67;go_wp2_with fail;go_region_with (go_at_call 82;refine (HM.out _ _ ?_).mono ?_;exact P5;rintro e w1 ⟨rfl,d2,h1,h2⟩;have H1:=hid h1;have H2:=hid h2;clear h1 h2)
 all_goals
  go_wp2_with fail;go_ret;exact⟨_,rfl,by go_simp,by simp,H1.out.later (Below.alloc (Below.refl _ _) (Nat.le_refl _) _),H2.out.trans (A6.of_below (Below.alloc (Below.refl _ _) (Nat.le_refl _) _))⟩
theorem a6F {W:World} {rb c:Nat} {a:Option Addr} {bs:List Int} {s:Rs} (h:F7 W rb a c bs s) (hn:bs.length≤s.p) :
  Calls Tryz.prog 67 #[.pointer (some ⟨rb,0,none⟩)] W fun e w'=>∃b,e=.returned (.pointer (some ⟨b,0,none⟩))∧w'.cell? ⟨b,0,none⟩=some (.int .u8 0)∧b < w'.heap.size∧F7 w' rb a c bs ⟨s.p,true⟩∧Rd rb W w':=by
 have c0:=h.c0;have c1:=h.c1;have hw:=h.lt;have hl:=h.len;have HM:Hid (∀(V:World),Below W.heap.size W V→Calls Tryz.prog 82 #[.pointer (some ⟨rb,0,none⟩),.bool false] V fun e w'=>e=.returned (.tuple #[])∧w'.cell? ⟨rb,2,none⟩=some (.bool true)∧F7 w' rb a c bs ⟨s.p,true⟩∧Rd rb W w'):=fun V hV=>by
  refine (M5 (h.later hV) false).mono ?_;rintro e w' ⟨rfl,h1,h2⟩;have h1':F7 w' rb a c bs ⟨s.p,true⟩:=h1;exact⟨rfl,h1'.c2,h1',(A6.of_below hV).trans h2⟩
 clear h;generalize s.p=n at *
 generalize bs.length=m at *
 have HD:Hid (decide (n < m)=false):=hid (decide_eq_false Q8);go_enter Tryz.func67,Tryz.ntmps67;go_wp2_with fail;go_region_with (go_at_call 82;rw [HD.out];refine (HM.out _ ?_).mono ?_;exact P5;rintro e w1 ⟨rfl,d2,h1,h2⟩;have H1:=hid h1;have H2:=hid h2;clear h1 h2)
 all_goals
  go_wp2_with fail;go_ret;exact⟨_,rfl,by go_simp,by simp,H1.out.later (Below.alloc (Below.refl _ _) (Nat.le_refl _) _),H2.out.trans (A6.of_below (Below.alloc (Below.refl _ _) (Nat.le_refl _) _))⟩
theorem a0d {W:World} {rb c:Nat} {a:Option Addr} {bs:List Int} {s:Rs} (h:F7 W rb a c bs s) :
  Calls Tryz.prog 67 #[.pointer (some ⟨rb,0,none⟩)] W fun e w'=>a5D rb a c bs s W e w':=by
 by_cases hf:s.f=true
 ·have e:J0 bs s=(0,⟨s.p,true⟩):=by unfold J0;rw [if_pos (Or.inl hf)]
  refine (a1T h hf).mono ?_;rintro e' w' ⟨b,rfl,h1,h2,h3,h4⟩;exact⟨b,0,rfl,by rw [e];exact h1,h2,by rw [e];exact h3,h4⟩
 ·by_cases hn:s.p < bs.length
  ·have hf':s.f=false:=by simpa using hf
   have e:J0 bs s=(bs.getD s.p 0,⟨s.p+1,false⟩):=by
    unfold J0;rw[if_neg (fun hc=>by rcases hc with hc | hc;exact hf hc;omega)]
   obtain⟨b,o,rfl,hb,hx⟩:=h.bytes Q8;refine (a8c h hf' hn).mono ?_;rintro e' w' ⟨rfl,hl⟩;have hset:=h.setP (s.p+1) Q8;rw[hf'] at hset;have hcast:((s.p+1:Nat):Int)=(s.p:Int)+1:=by omega
   rw[hcast] at hset;have hB:=hl.below;have hsz:(W.setCell ⟨rb,1,none⟩ (.int .i64 ((s.p:Int)+1))).heap.size=W.heap.size:=by simp
   have hget:bs[s.p]?=some (bs.getD s.p 0):=by rw [List.getD_eq_getElem?_getD,List.getElem?_eq_getElem hn];rfl
   refine⟨b,o+s.p,rfl,?_,?_,by rw [e];exact hset.later hB,A6.trans (A6.setW _) (A6.of_below hB)⟩
   ·rw [e,hB.cell (p:=⟨b,o+s.p,none⟩) (by rw [hsz];exact hb),World.cell?_setCell_far _ _ _ _ (by exact Ne.symm (h.ne b o rfl))]
    exact hx s.p _ hget
   ·have:=hB.size;rw [hsz] at this;omega
  ·have e:J0 bs s=(0,⟨s.p,true⟩):=by unfold J0;rw [if_pos (Or.inr Q8)]
   refine (a6F h Q8).mono ?_;rintro e' w' ⟨b,rfl,h1,h2,h3,h4⟩;exact⟨b,0,rfl,by rw [e];exact h1,h2,by rw [e];exact h3,h4⟩
theorem a6X {bs:List Int} (h:∀x,x∈bs→0≤x∧x < 256) (s:Rs):0≤(J0 bs s).1∧(J0 bs s).1 < 256:=by
 unfold J0;split
 ·exact ⟨by show (0:Int)≤0;decide,by show (0:Int) < 256;decide⟩
 ·rename_i hc
  have hn:s.p < bs.length:=by
   rcases Nat.lt_or_ge s.p bs.length with h1 | h1
   ·exact h1
   ·exact absurd (Or.inr h1) hc
  have hm:bs.getD s.p 0∈bs:=by
   rw[List.getD_eq_getElem?_getD,List.getElem?_eq_getElem hn];exact List.getElem_mem hn
  exact h _ hm
theorem a6Y {bs:List Int} {s:Rs} (h:¬(J0 bs s).1 < 128):s.p < bs.length∧(J0 bs s).2.p=s.p+1:=by
 unfold J0 at h ⊢;split
 ·rename_i hc
  rw[if_pos hc] at h;exact absurd (by show (0:Int) < 128;decide) h
 ·rename_i hc
  refine⟨?_,rfl⟩;rcases Nat.lt_or_ge s.p bs.length with h1 | h1
  ·exact h1
  ·exact absurd (Or.inr h1) hc
theorem a8w (s:Rs) (b:Bool):(E9 s b).p=s.p:=by unfold E9;split <;> rfl
theorem a0u {bs:List Int} (F:Nat) {s s1:Rs} (n:Int) (k:Nat) {b:Int} (hb:J0 bs s=(b,s1)):Z2 bs (F+1) s n k =
  if b < 128 then (bits .or .u64 n (jK (bits .andNot .u8 b 128) k),E9 (E9 s1 (a2y (jK (bits .andNot .u8 b 128) k) k == bits .andNot .u8 b 128)) (b != 0 || k == 0))
  else Z2 bs F (E9 s1 (a2y (jK (bits .andNot .u8 b 128) k) k == bits .andNot .u8 b 128)) (bits .or .u64 n (jK (bits .andNot .u8 b 128) k)) (k+7):=by
 rw[Z2,hb]
theorem gI {W:World} {rb c:Nat} {a:Option Addr} {bs:List Int} {s:Rs} (h:F7 W rb a c bs s) :
  Calls Tryz.prog 109 #[.pointer (some ⟨rb,0,none⟩)] W fun e w'=>J1 rb a c bs (X9 bs s).2 (.int .u64 (X9 bs s).1) W e w':=by
 have HH:=hid h;have hlen:=h.len;have HRNG:=hid h.rng;unfold X9;clear h;go_enter Tryz.func109,Tryz.ntmps109;go_wp2_with fail;go_loopw [3,4] (fun vn vk wr=>∃(i k:Nat) (s':Rs) (n':Int),i≤bs.length∧k=7*i∧vn=.int .u64 n'∧vk=.int .i64 (k:Int)∧F7 wr rb a c bs s'∧Rd rb W wr∧s'.p=s.p+i∧Z2 bs (bs.length+1) s 0 0=Z2 bs (bs.length+1 - i) s' n' k) (fun _ vk _=>7*bs.length+7 - (intOf vk).toNat)
 case atStart=>exact ⟨0,0,s,0,Nat.zero_le _,rfl,rfl,rfl,HH.out,A6.refl _ _ _,rfl,rfl⟩
 case round =>
  obtain⟨i,k,s',n',hi,hk,rfl,rfl,hrd,hwr,hp,heq⟩:=hrel;have HK:=hid hk;have hk0:(0:Int)≤(k:Int):=by omega
  have hkb:k≤140000:=by omega
  clear hk;have HRD:=hid hrd;have HWR:=hid hwr;have hbd:=a6X HRNG.out s';have hon:=a6Y (bs:=bs) (s:=s');obtain⟨b,s1,hb⟩:∃b s1,J0 bs s'=(b,s1):=⟨_,_,rfl⟩
  have hstep:=a0u (bs.length - i) n' k hb;rw[show bs.length - i+1=bs.length+1 - i by omega] at hstep;have HEQ:=hid (heq.trans hstep);have hpl:=hrd.pos;clear hrd hwr heq hstep;go_wp2_with fail;refine (a0d HRD.out).mono ?_;rintro e w1 ⟨b1,o1,rfl,x0,l1,h1,h2⟩;rw[hb] at x0 h1 hbd hon;simp only at x0 h1 hbd hon;have H1:=hid h1;have H2:=hid (HWR.out.trans h2);clear h1 h2 HRD HWR;have hand:bits BinOp.andNot IntKind.u8 b 128=b % 128:=mS hbd.1 hbd.2
  rw[hand] at HEQ;obtain⟨q,hq⟩:∃q,q=b % 128:=⟨_,rfl⟩
  rw[← hq] at HEQ hand;have hq0:0≤q∧q < 128:=by omega
  have hwq:IntKind.u64.wrap q=q:=by simp [IntKind.wrap,IntKind.bits,IntKind.signed];omega
  obtain⟨y,hy⟩:∃y,IntKind.u64.wrap (q*2 ^ min k 64)=y:=⟨_,rfl⟩
  have hsy:jK q k=y:=by rw [← hy];rfl
  obtain⟨t,ht⟩:∃t,y / 2 ^ min k 64=t:=⟨_,rfl⟩
  have hst:a2y y k=t:=ht;rw[hsy,hst] at HEQ;clear hq hb hsy hst;go_wp2_with fail;go_region_with (go_at_call 82;refine (M5 (H1.out.later ?_) _).mono ?_;exact P5;rintro e w2 ⟨rfl,h3,h4⟩;have H3:=hid h3;have H4:=hid (H2.out.trans ((A6.of_below P5).trans h4));clear h3 h4)
  all_goals
   clear H1 H2;by_cases hlt:b < 128
   ·rw [if_pos hlt] at HEQ
    by_cases hb0:b=0
    ·subst hb0
     have HB:Hid (((k:Int) == 0)=(((0:Int) != 0) || (k == 0))):=by
      refine hid ?_;rw[Bool.eq_iff_iff];simp
     go_wp2_with fail;rw[HB.out];refine (M5 H3.out _).mono ?_;rintro e w3 ⟨rfl,h5,h6⟩;have H5:=hid h5;have H6:=hid (H4.out.trans h6);clear h5 h6;go_wp2_with fail;go_ret;exact⟨by rw [HEQ.out];rfl,by rw [HEQ.out];exact H5.out,H6.out⟩
    ·have hb1:(b == 0)=false:=beq_eq_false_iff_ne.2 hb0
     have HB:Hid ((b != 0 || k == 0)=true):=by
      refine hid ?_;simp[hb0]
     rw[HB.out] at HEQ;go_wp2_with fail;refine (M5 H3.out _).mono ?_;rintro e w3 ⟨rfl,h5,h6⟩;have H5:=hid h5;have H6:=hid (H4.out.trans h6);clear h5 h6;go_wp2_with fail;go_ret;exact⟨by rw [HEQ.out];rfl,by rw [HEQ.out];exact H5.out,H6.out⟩
   ·rw [if_neg hlt] at HEQ
    obtain⟨q1,q2⟩:=hon Q8;go_wp2_with fail;go_roundw
    case rel=>exact ⟨i+1,k+7,_,_,by omega,by have:=HK.out;omega,rfl,by go_num,H3.out,H4.out,by rw [a8w];omega,by rw [HEQ.out];congr 1;omega⟩
    case measure=>simp [intOf];have:=HK.out;omega
theorem uW {bs:List Int} (h:∀x,x∈bs→0≤x∧x < 256):∀(F:Nat) (s:Rs) (n:Int) (k:Nat),0≤n→n < 18446744073709551616→0≤(Z2 bs F s n k).1∧(Z2 bs F s n k).1 < 18446744073709551616
 | 0,_,_,_,h0,h1=>⟨h0,h1⟩
 | F+1,s,n,k,h0,h1=>by
  have hor:0≤bits .or .u64 n (jK (bits .andNot .u8 (J0 bs s).1 128) k)∧bits .or .u64 n (jK (bits .andNot .u8 (J0 bs s).1 128) k) < 18446744073709551616:=by
   have hy0:0≤jK (bits .andNot .u8 (J0 bs s).1 128) k∧jK (bits .andNot .u8 (J0 bs s).1 128) k < 18446744073709551616:=by unfold jK;omega
   obtain⟨y,hy⟩:=Int.eq_ofNat_of_zero_le hy0.1;obtain⟨m,hm⟩:=Int.eq_ofNat_of_zero_le h0;rw[hy,hm,bits_or_u64_nat m y Q8 Q8];have:m ||| y < 2 ^ 64:=Nat.or_lt_two_pow Q8 Q8
   omega
  rw[Z2];split
  ·exact hor
  ·exact uW h F _ _ _ hor.1 hor.2
theorem xF {bs:List Int} (h:∀x,x∈bs→0≤x∧x < 256) (s:Rs):0≤(X9 bs s).1∧(X9 bs s).1 < 18446744073709551616:=uW h _ _ _ _ Q7 Q7
theorem xO {W:World} {rb c:Nat} {a:Option Addr} {bs:List Int} {s:Rs} (h:F7 W rb a c bs s) :
  Calls Tryz.prog 110 #[.pointer (some ⟨rb,0,none⟩)] W fun e w'=>J1 rb a c bs (W6 bs s).2 (.int .i64 (W6 bs s).1) W e w':=by
 have HN:=hid (gI h);have hbd:=xF h.rng s;have HI:Hid (W6 bs s=(if (X9 bs s).1 % 2=1 then -1 - (X9 bs s).1 / 2 else (X9 bs s).1 / 2,(X9 bs s).2)):=hid rfl;generalize W6 bs s=r at *
 generalize (X9 bs s).1=n at *
 generalize (X9 bs s).2=s' at *
 clear h;go_enter Tryz.func110,Tryz.ntmps110;go_wp2_with fail;refine HN.out.mono ?_;rintro e w1 ⟨rfl,h1,h2⟩;have H1:=hid h1;have H2:=hid h2;clear h1 h2;have hw:IntKind.i64.wrap (n / 2)=n / 2:=Go.IntWalk.i64_in _ Q8;by_cases hodd:n % 2=1
 ·rw [if_pos hodd] at HI
  go_wp2_with fail;go_ret;exact⟨by rw [HI.out];first | rfl | (congr 2;omega),by rw [HI.out];exact H1.out,H2.out⟩
 ·rw [if_neg hodd] at HI
  have hodd':n % 2=0:=by omega
  go_wp2_with fail;go_ret;exact⟨by rw [HI.out];rfl,by rw [HI.out];exact H1.out,H2.out⟩
theorem aY {W:World} {rb c:Nat} {a:Option Addr} {bs:List Int} {s:Rs} (h:F7 W rb a c bs s) (most:Nat) (hm:most≤9223372036854775807) :
  Calls Tryz.prog 80 #[.pointer (some ⟨rb,0,none⟩),.int .i64 (most:Int)] W fun e w'=>J1 rb a c bs (D7 bs most s).2 (.int .i64 (D7 bs most s).1) W e w':=by
 have HN:Hid (∀V,Below W.heap.size W V→Calls Tryz.prog 109 #[.pointer (some ⟨rb,0,none⟩)] V fun e w'=>J1 rb a c bs (X9 bs s).2 (.int .u64 (X9 bs s).1) V e w'):=fun V hV=>gI (h.later hV)
 have hbd:=xF h.rng s;have c3:=h.c3;have hlt:=h.lt;have HI:Hid (D7 bs most s=(if (E9 (X9 bs s).2 (decide ((X9 bs s).1≤(most:Int)))).f then 0 else (X9 bs s).1,E9 (X9 bs s).2 (decide ((X9 bs s).1≤(most:Int))))):=hid rfl;generalize D7 bs most s=r at *
 generalize (X9 bs s).1=n at *
 generalize (X9 bs s).2=s' at *
 clear h;go_enter Tryz.func80,Tryz.ntmps80;go_wp2_with (go_at_call 109;refine (HN.out _ ?_).mono ?_;exact P5;rintro e w1 ⟨rfl,h1,h2⟩;have H1:=hid h1;have H2:=hid h2;clear h1 h2)
 refine (M5 H1.out _).mono ?_;rintro e w2 ⟨rfl,h3,h4⟩;have d2:=h3.c2;have l2:=h3.lt;have H3:=hid h3;have H4:=hid (H2.out.trans h4);clear h3 h4 H1 H2;generalize hs2:E9 s' (decide (n≤(most:Int)))=s2 at *
 cases hf:s2.f
 ·rw [hf] at d2 HI
  have hle:n≤(most:Int):=by
   rcases Int.lt_or_le (most:Int) n with hgt | hle
   ·rw [decide_eq_false Q8] at hs2
    rw[← hs2] at hf
    cases hf
   ·exact hle
  have hw:IntKind.i64.wrap n=n:=Go.IntWalk.i64_in _ Q8;clear hs2;go_wp2_with fail;go_ret;exact⟨by rw [HI.out];rfl,by rw [HI.out];exact H3.out,H4.out⟩
 ·rw [hf] at d2 HI
  clear hs2;go_wp2_with fail;go_ret;exact⟨by rw [HI.out];rfl,by rw [HI.out];exact H3.out,H4.out⟩
theorem aF {W:World} {rb c:Nat} {a:Option Addr} {bs:List Int} {s:Rs} (h:F7 W rb a c bs s) :
  Calls Tryz.prog 114 #[.pointer (some ⟨rb,0,none⟩)] W fun e w'=>J1 rb a c bs (C0 bs s).2 (.int .i64 (C0 bs s).1) W e w':=by
 have HN:=hid (aY h 9223372036854775807 Q7);clear h;go_enter Tryz.func114,Tryz.ntmps114;go_wp2_with (go_at_call 80;refine HN.out.mono ?_;rintro e w1 ⟨rfl,h1,h2⟩)
 go_ret;exact⟨rfl,h1,h2⟩
theorem iG {W:World} {rb c:Nat} {a:Option Addr} {bs:List Int} {s:Rs} (h:F7 W rb a c bs s) :
  Calls Tryz.prog 134 #[.pointer (some ⟨rb,0,none⟩)] W fun e w'=>J1 rb a c bs (W6 bs s).2 (.int .i64 (W6 bs s).1) W e w':=by
 have HN:Hid (∀V,Below W.heap.size W V→Calls Tryz.prog 110 #[.pointer (some ⟨rb,0,none⟩)] V fun e w'=>J1 rb a c bs (W6 bs s).2 (.int .i64 (W6 bs s).1) V e w'):=fun V hV=>xO (h.later hV)
 have c4:=h.c4;have hlt:=h.lt;clear h;go_enter Tryz.func134,Tryz.ntmps134;go_wp2_with (go_at_call 110;refine (HN.out _ ?_).mono ?_;exact P5;rintro e w1 ⟨rfl,h1,h2⟩)
 go_ret;exact⟨rfl,h1,h2⟩
theorem uI (n:Int) (w:World):Calls Tryz.prog 112 #[.int .i64 n] w fun e w'=>e=.returned (.bool true)∧w'=w:=by
 go_enter Tryz.func112,Tryz.ntmps112;go_wp2
 go_ret;exact⟨rfl,rfl⟩
structure Fwd (s s':Rs):Prop where
 p:s.p≤s'.p
 f:s.f=true→s'.f=true
theorem Fwd.refl (s:Rs):Fwd s s:=⟨Nat.le_refl _,id⟩
theorem Fwd.trans {s t u:Rs} (h:Fwd s t) (k:Fwd t u):Fwd s u:=⟨Nat.le_trans h.p k.p,fun e=>k.f (h.f e)⟩
theorem rE (bs:List Int) (s:Rs):Fwd s (J0 bs s).2:=by
 unfold J0;split
 ·exact ⟨Nat.le_refl _,fun _=>rfl⟩
 ·rename_i h
  exact⟨Nat.le_succ _,fun e=>absurd (Or.inl e) h⟩
theorem X6 (s:Rs) (b:Bool):Fwd s (E9 s b):=by
 unfold E9;split
 ·exact Fwd.refl s
 ·exact ⟨Nat.le_refl _,fun _=>rfl⟩
theorem mY (bs:List Int):∀(F:Nat) (s:Rs) (n:Int) (k:Nat),Fwd s (Z2 bs F s n k).2
 | 0,s,_,_=>Fwd.refl s
 | F+1,s,n,k=>by
  rw[Z2];split
  ·exact (rE bs s).trans ((X6 _ _).trans (X6 _ _))
  ·exact (rE bs s).trans ((X6 _ _).trans (mY bs F _ _ _))
theorem a3b (bs:List Int) (s:Rs):Fwd s (X9 bs s).2:=mY bs _ _ _ _
theorem a3a (bs:List Int) (s:Rs):Fwd s (W6 bs s).2:=a3b bs s
theorem rF (bs:List Int) (most:Int) (s:Rs):Fwd s (D7 bs most s).2:=(a3b bs s).trans (X6 _ _)
theorem mX (bs:List Int) (s:Rs):Fwd s (C0 bs s).2:=rF bs _ s
def gT (s s':Rs):Prop:=Fwd s s'∧(s'.f=true∨s.p < s'.p)
theorem bP (bs:List Int) (s:Rs):gT s (J0 bs s).2:=⟨rE bs s,by
 unfold J0;split
 ·exact Or.inl rfl
 ·exact Or.inr (Nat.lt_succ_self _)⟩
theorem gT.then {s t u:Rs} (h:gT s t) (k:Fwd t u):gT s u:=⟨h.1.trans k,by
 rcases h.2 with e | e
 ·exact Or.inl (k.f e)
 ·exact Or.inr (Nat.lt_of_lt_of_le e k.p)⟩
theorem vB (bs:List Int) (s:Rs):gT s (X9 bs s).2:=by
 unfold X9;rw[Z2];split
 ·exact (bP bs s).then ((X6 _ _).trans (X6 _ _))
 ·exact (bP bs s).then ((X6 _ _).trans (mY bs _ _ _ _))
theorem a5k (bs:List Int) (s:Rs):gT s (W6 bs s).2:=vB bs s
theorem kU (bs:List Int) (most:Int) (s:Rs):gT s (D7 bs most s).2:=(vB bs s).then (X6 _ _)
theorem oH (bs:List Int) (s:Rs):gT s (K4 bs s).2:=by
 unfold K4;split
 ·exact bP bs s
 ·split
  ·exact (bP bs s).then (a3a bs _)
  ·split
   ·exact (bP bs s).then (mX bs _)
   ·exact (bP bs s).then (X6 (J0 bs s).2 false)
theorem A6.frozen {wb ab:Nat} {W V:World} (h:A6 wb ab W V) {b i:Nat} (hb:b < W.heap.size) (h1:b≠wb) (h2:b≠ab) (hc:W.frozen? ⟨b,i,none⟩=false):V.frozen? ⟨b,i,none⟩=false:=by
 rw[World.frozen?_of_block (w:=W) (a:=⟨b,i,none⟩) (h.block b hb h1 h2)];exact hc
theorem A6.setNew {wb ab:Nat} {W V:World} (h:A6 wb ab W V) {b:Nat} (hb:W.heap.size≤b) (i:Nat) (v:Value):A6 wb ab W (V.setCell ⟨b,i,none⟩ v) :=
 ⟨h.os,h.tape,h.output,by simpa using h.size,fun k hk h1 h2=>by rw [heap_setCell_other _ _ _ _ (show k≠b by omega)];exact h.block k hk h1 h2⟩
theorem F7.setNew {W V:World} {rb c:Nat} {a:Option Addr} {bs:List Int} {s s':Rs} (h0:F7 W rb a c bs s) (h:F7 V rb a c bs s') {b:Nat} (hb:W.heap.size≤b) (i:Nat) (v:Value):F7 (V.setCell ⟨b,i,none⟩ v) rb a c bs s':=by
 have hl:=h0.lt;have e:(V.setCell ⟨b,i,none⟩ v).heap[rb]?=V.heap[rb]?:=heap_setCell_other _ _ _ _ (show rb≠b by omega);have hc:∀j,(V.setCell ⟨b,i,none⟩ v).cell? ⟨rb,j,none⟩=V.cell? ⟨rb,j,none⟩:=fun j=>World.cell?_of_block (w:=V) (a:=⟨rb,j,none⟩) e
 refine⟨(hc 0).trans h.c0,(hc 1).trans h.c1,(hc 2).trans h.c2,(hc 3).trans h.c3,(hc 4).trans h.c4,(hc 5).trans h.c5,(hc 6).trans h.c6,(hc 7).trans h.c7,fun j=>(World.frozen?_of_block (w:=V) (a:=⟨rb,j,none⟩) e).trans (h.z j),fun hp=>?_,h.ne,by simpa using h.lt,h.rng,h.len,h.pos⟩;obtain⟨b1,o1,e1,hb1,_⟩:=h0.bytes hp;obtain⟨b2,o2,e2,hb2,hx⟩:=h.bytes hp;rw[e1] at e2
 cases e2;exact⟨b1,o1,e1,by simpa using hb2,fun j x hj=>by rw [World.cell?_of_block (w:=V) (a:=⟨b1,o1+j,none⟩) (heap_setCell_other _ _ _ _ (show b1≠b by omega))];exact hx j x hj⟩
theorem a2v {W:World} {rb c:Nat} {a:Option Addr} {bs:List Int} {s:Rs} (h:F7 W rb a c bs s) :
  Calls Tryz.prog 149 #[.pointer (some ⟨rb,0,none⟩)] W fun e w'=>J1 rb a c bs (K4 bs s).2 (.agg #[.int .u8 (K4 bs s).1.1,.int .i64 (K4 bs s).1.2]) W e w':=by
 have hlt:=h.lt;have HH:=hid h;have HW:=hid h;obtain⟨b,s1,hb⟩:∃b s1,J0 bs s=(b,s1):=⟨_,_,rfl⟩
 have HV:Hid (K4 bs s=if b=0 then ((0,0),s1) else if b=1 then ((1,(W6 bs s1).1),(W6 bs s1).2) else if b=2 then ((2,(C0 bs s1).1),(C0 bs s1).2) else ((0,0),E9 s1 false)):=by
  refine hid ?_;unfold K4;rw[hb]
 have HNB:=hid hb;have hB0:Below W.heap.size W (W.alloc (.cells #[.int .u8 0,.int .i64 0] 73)):=Below.alloc (Below.refl _ _) (Nat.le_refl _) _;have HB0:=hid hB0;generalize K4 bs s=r at *
 clear h hB0 hb;go_enter Tryz.func149,Tryz.ntmps149;go_wp2_with fail;refine (a0d (HH.out.later HB0.out)).mono ?_;rintro e w1 ⟨b1,o1,rfl,x0,l1,h1,h2⟩;rw[HNB.out] at x0 h1;simp only at x0 h1;have y0:w1.cell? ⟨W.heap.size,0,none⟩=some (.int .u8 0):=h2.cell Q9 Q8 Q8 Q6;have y1:w1.cell? ⟨W.heap.size,1,none⟩=some (.int .i64 0):=h2.cell Q9 Q8 Q8 Q6
 have f0:w1.frozen? ⟨W.heap.size,0,none⟩=false:=h2.frozen Q9 Q8 Q8 Q6;have f1:w1.frozen? ⟨W.heap.size,1,none⟩=false:=h2.frozen Q9 Q8 Q8 Q6;have lw1:W.heap.size < w1.heap.size:=by have:=h2.size;simp at this;omega
 have H1:=hid h1;have H2:=hid ((A6.of_below HB0.out).trans h2);clear h1 h2 HNB HH HB0;by_cases hb0:b=0
 ·subst hb0
  rw[if_pos rfl] at HV;go_wp2_with fail;refine bodyPost_ret (v:=.agg #[.int .u8 0,.int .i64 0]) (by simp [results,Tryz.results149,go_sem,y0,y1]) rfl ?_;rw[HV.out];exact⟨rfl,(by repeat (first | exact H1.out | refine HW.out.setNew ?_ (Nat.le_refl _) _ _ | refine F7.later ?_ (Below.alloc (Below.refl _ _) (Nat.le_refl _) _))),(by repeat (first | exact H2.out | refine A6.setNew ?_ (Nat.le_refl _) _ _ | refine A6.trans ?_ (A6.of_below (Below.alloc (Below.refl _ _) (Nat.le_refl _) _))))⟩
 ·have hb0':(b == 0)=false:=beq_eq_false_iff_ne.2 hb0
  rw[if_neg hb0] at HV;by_cases hb1:b=1
  ·subst hb1
   rw[if_pos rfl] at HV;have HS:=hid (iG H1.out);generalize W6 bs s1=q at *
   go_wp2_with fail;refine HS.out.mono ?_;rintro e w2 ⟨rfl,h3,h4⟩;have z0:=h4.cell lw1 Q8 Q8 y0;have z1:=h4.cell lw1 Q8 Q8 y1;have g0:=h4.frozen lw1 Q8 Q8 f0;have g1:=h4.frozen lw1 Q8 Q8 f1;have lw2:W.heap.size < w2.heap.size:=Nat.lt_of_lt_of_le lw1 h4.size;have H3:=hid h3;have H4:=hid (H2.out.trans h4);clear h3 h4 y0 y1 f0 f1 x0;go_wp2_with (go_at_call 152;refine (N4 _ _).mono ?_;rintro e w' ⟨rfl,o4,rfl⟩)
   refine bodyPost_ret (v:=.agg #[.int .u8 1,.int .i64 q.1]) (by simp [results,Tryz.results149,go_sem,z0,z1,lw2]) rfl ?_;rw[HV.out];exact⟨rfl,(by repeat (first | exact H3.out | refine HW.out.setNew ?_ (Nat.le_refl _) _ _ | refine F7.later ?_ (Below.alloc (Below.refl _ _) (Nat.le_refl _) _))),(by repeat (first | exact H4.out | refine A6.setNew ?_ (Nat.le_refl _) _ _ | refine A6.trans ?_ (A6.of_below (Below.alloc (Below.refl _ _) (Nat.le_refl _) _))))⟩
  ·have hb1':(b == 1)=false:=beq_eq_false_iff_ne.2 hb1
   rw[if_neg hb1] at HV;by_cases hb2:b=2
   ·subst hb2
    rw[if_pos rfl] at HV;have HS:=hid (aF H1.out);generalize C0 bs s1=q at *
    go_wp2_with fail;refine HS.out.mono ?_;rintro e w2 ⟨rfl,h3,h4⟩;have z0:=h4.cell lw1 Q8 Q8 y0;have z1:=h4.cell lw1 Q8 Q8 y1;have g0:=h4.frozen lw1 Q8 Q8 f0;have g1:=h4.frozen lw1 Q8 Q8 f1;have lw2:W.heap.size < w2.heap.size:=Nat.lt_of_lt_of_le lw1 h4.size;have H3:=hid h3;have H4:=hid (H2.out.trans h4);clear h3 h4 y0 y1 f0 f1 x0;go_wp2_with (go_at_call 131;refine (bW _ _).mono ?_;rintro e w' ⟨rfl,o4,rfl⟩)
    refine bodyPost_ret (v:=.agg #[.int .u8 2,.int .i64 q.1]) (by simp [results,Tryz.results149,go_sem,z0,z1,lw2]) rfl ?_;rw[HV.out];exact⟨rfl,(by repeat (first | exact H3.out | refine HW.out.setNew ?_ (Nat.le_refl _) _ _ | refine F7.later ?_ (Below.alloc (Below.refl _ _) (Nat.le_refl _) _))),(by repeat (first | exact H4.out | refine A6.setNew ?_ (Nat.le_refl _) _ _ | refine A6.trans ?_ (A6.of_below (Below.alloc (Below.refl _ _) (Nat.le_refl _) _))))⟩
   ·have hb2':(b == 2)=false:=beq_eq_false_iff_ne.2 hb2
    rw[if_neg hb2] at HV;go_wp2_with fail;refine (M5 H1.out false).mono ?_;rintro e w2 ⟨rfl,h3,h4⟩;have z0:=h4.cell lw1 Q8 Q8 y0;have z1:=h4.cell lw1 Q8 Q8 y1;have g0:=h4.frozen lw1 Q8 Q8 f0;have g1:=h4.frozen lw1 Q8 Q8 f1;have lw2:W.heap.size < w2.heap.size:=Nat.lt_of_lt_of_le lw1 h4.size;have H3:=hid h3;have H4:=hid (H2.out.trans h4)
    clear h3 h4 y0 y1 f0 f1 x0;go_wp2_with fail;refine bodyPost_ret (v:=.agg #[.int .u8 0,.int .i64 0]) (by simp [results,Tryz.results149,go_sem,z0,z1]) rfl ?_;rw[HV.out];exact⟨rfl,(by repeat (first | exact H3.out | refine HW.out.setNew ?_ (Nat.le_refl _) _ _ | refine F7.later ?_ (Below.alloc (Below.refl _ _) (Nat.le_refl _) _))),(by repeat (first | exact H4.out | refine A6.setNew ?_ (Nat.le_refl _) _ _ | refine A6.trans ?_ (A6.of_below (Below.alloc (Below.refl _ _) (Nat.le_refl _) _))))⟩
def Z5:Value→Nat
 | .slice _ n _=>n
 | _=>0
def N9 (bs:List Int) (n:Int) (s:Rs):List Val × Rs:=D9 (K4 bs) (bs.length+2) n [] s
theorem aT {α:Type} {rd:Rs→α × Rs} {F:Nat} {n:Int} {acc:List α} {s:Rs} (h:(acc.length:Int) < n∧s.f=false):D9 rd (F+1) n acc s=D9 rd F n (acc++[(rd s).1]) (rd s).2:=by rw [D9,if_pos h]
theorem Y7 {α:Type} {rd:Rs→α × Rs} {F:Nat} {n:Int} {acc:List α} {s:Rs} (h:¬((acc.length:Int) < n∧s.f=false)):D9 rd (F+1) n acc s=(acc,s):=by rw [D9,if_neg h]
theorem F7.low {W V V':World} {rb c:Nat} {a:Option Addr} {bs:List Int} {s s':Rs} (h0:F7 W rb a c bs s) (h:F7 V rb a c bs s') (hs:V.heap.size≤V'.heap.size) (hb:∀k,k < W.heap.size→V'.heap[k]?=V.heap[k]?):F7 V' rb a c bs s':=by
 have e:=hb rb h0.lt;have hc:∀j,V'.cell? ⟨rb,j,none⟩=V.cell? ⟨rb,j,none⟩:=fun j=>World.cell?_of_block (w:=V) (a:=⟨rb,j,none⟩) e
 refine⟨(hc 0).trans h.c0,(hc 1).trans h.c1,(hc 2).trans h.c2,(hc 3).trans h.c3,(hc 4).trans h.c4,(hc 5).trans h.c5,(hc 6).trans h.c6,(hc 7).trans h.c7,fun j=>(World.frozen?_of_block (w:=V) (a:=⟨rb,j,none⟩) e).trans (h.z j),fun hp=>?_,h.ne,Nat.lt_of_lt_of_le h.lt hs,h.rng,h.len,h.pos⟩;obtain⟨b1,o1,e1,hb1,_⟩:=h0.bytes hp;obtain⟨b2,o2,e2,hb2,hx⟩:=h.bytes hp;rw[e1] at e2
 cases e2;exact⟨b1,o1,e1,Nat.lt_of_lt_of_le hb2 hs,fun j x hj=>by rw [World.cell?_of_block (w:=V) (a:=⟨b1,o1+j,none⟩) (hb b1 hb1)];exact hx j x hj⟩
theorem cT {W V w5:World} {o:Obj} {v:Value} {e size n:Nat} {xs:List Value} (hr:V.ownsRow W.heap.size e size v n xs) (hs:W.heap.size≤V.heap.size) (hg:(V.alloc o).grownBy w5 v.ownBlock):V.heap.size≤w5.heap.size∧(∀k,k < W.heap.size→w5.heap[k]?=V.heap[k]?)∧w5.os=V.os∧w5.tape=V.tape∧w5.output=V.output:=by
 have h1:=hg.size;simp at h1;refine⟨by omega,fun k hk=>?_,hg.os,hg.tape,hg.output⟩;rw[hg.block k Q5 (fun e=>by have:=(hr.lt k e.symm).1;omega)];exact (Below.alloc (Below.refl _ _) (Nat.le_refl _) _).block k Q8
theorem A6.low {wb ab:Nat} {W V V':World} (h:A6 wb ab W V) (hl:V.heap.size≤V'.heap.size∧(∀k,k < W.heap.size→V'.heap[k]?=V.heap[k]?)∧V'.os=V.os∧V'.tape=V.tape∧V'.output=V.output):A6 wb ab W V' :=
 ⟨hl.2.2.1.trans h.os,hl.2.2.2.1.trans h.tape,hl.2.2.2.2.trans h.output,Nat.le_trans h.size hl.1,fun k hk h1 h2=>(hl.2.1 k hk).trans (h.block k hk h1 h2)⟩
theorem a2M (l:List Val) (x y:Int):A5 l++[.int .u8 x,.int .i64 y]=A5 (l++[(x,y)]):=by simp [A5,N0]
theorem a0a {W:World} {rb c:Nat} {a:Option Addr} {bs:List Int} {s:Rs} (h:F7 W rb a c bs s) (n:Int) (hn:n≤9223372036854775807) :
  Calls Tryz.prog 148 #[.pointer (some ⟨rb,0,none⟩),.int .i64 n,.func (.func 149) #[.pointer (some ⟨rb,0,none⟩)] #[]] W fun e w'=>∃v,J1 rb a c bs (N9 bs n s).2 v W e w'∧w'.ownsRow W.heap.size 73 2 v (N9 bs n s).1.length (A5 (N9 bs n s).1):=by
 obtain⟨i73,hi,hz,hsz,hby⟩:=info_parts Z7;have HI:=hid hi;have HZ:=hid hz;have HSZ:=hid hsz;have HBY:=hid hby;have HH:=hid h;have hlen:=h.len;unfold N9;clear h hi hz hsz hby;go_enter Tryz.func148,Tryz.ntmps148;go_wp2_with fail;go_loopw [7] (fun vl wr=>∃(acc:List Val) (la:Option Addr) (lc:Nat) (s':Rs),vl=.slice la acc.length lc∧wr.ownsRow W.heap.size 73 2 vl acc.length (A5 acc)∧F7 wr rb a c bs s'∧Rd rb W wr∧(s'.f=true∨s.p+acc.length≤s'.p)∧acc.length≤bs.length+1∧D9 (K4 bs) (bs.length+2) n [] s=D9 (K4 bs) (bs.length+2 - acc.length) n acc s') (fun vl _=>bs.length+2 - Z5 vl)
 case atStart=>exact ⟨[],none,0,s,rfl,World.ownsRow_nil _ _ _ _,HH.out,A6.refl _ _ _,Or.inr (Nat.le_refl _),Nat.zero_le _,rfl⟩
 case round =>
  obtain⟨acc,la,lc,s',rfl,hrow,hrd,hwr,hpp,hal,heq⟩:=hrel;have c2:=hrd.c2;have hlt:=hrd.lt;have hps:=hrd.pos;have HRD:=hid hrd;have HWR:=hid hwr;have HROW:=hid hrow;by_cases hgo:(acc.length:Int) < n∧s'.f=false
  ·obtain ⟨h1,h2⟩:=hgo
   have hal2:acc.length≤bs.length:=by
    rcases hpp with e | e
    ·rw [h2] at e;cases e
    ·omega
   have HEQ:Hid (D9 (K4 bs) (bs.length+2) n [] s=D9 (K4 bs) (bs.length+2 - (acc.length+1)) n (acc++[(K4 bs s').1]) (K4 bs s').2):=by
    refine hid ?_;rw[heq,show bs.length+2 - acc.length=(bs.length+2 - (acc.length+1))+1 by omega];exact aT ⟨h1,h2⟩
   have htk:=oH bs s';have HPP:Hid ((K4 bs s').2.f=true∨s.p+(acc.length+1)≤(K4 bs s').2.p):=by
    refine hid ?_;rcases htk.2 with e | e
    ·exact Or.inl e
    ·rcases hpp with e' | e'
     ·rw [h2] at e';cases e'
     ·exact Or.inr Q8
   rw[h2] at c2;have HV:=hid (a2v hrd);generalize K4 bs s'=r at *
   obtain⟨⟨x1,x2⟩,s2⟩:=r;simp only at HV HPP HEQ;clear hrd hwr hrow hpp heq htk h2;generalize hk:acc.length=k at *
   have HK:=hid hk;clear hk;go_wp2_with fail;refine HV.out.mono ?_;rintro e w1 ⟨rfl,h3,h4⟩;have hr1:w1.ownsRow W.heap.size 73 2 (.slice la k lc) k (A5 acc):=A2 HROW.out fun b hb=>h4.block b (HROW.out.lt b hb).2 (by have:=(HROW.out.lt b hb).1;have:=HH.out.lt;omega) (by have:=(HROW.out.lt b hb).1;have:=HH.out.lt;omega)
   have H3:=hid h3;have H4:=hid (HWR.out.trans h4);have HR1:=hid hr1;have hz1:W.heap.size≤w1.heap.size:=H4.out.size;clear h3 h4 hr1;go_wp2_with (at_builtin;go_must (refine C8 _ rfl (.tmp 20) (.tmp 23) 45 rfl W.heap.size 73 i73 _ 2 16 Tryz.underlying45 HI.out HZ.out HSZ.out HBY.out rfl Q7 (.slice la k lc) k (A5 acc) rfl (HR1.out.alloc _) (some ⟨w1.heap.size,0,none⟩) 1 1 [.int .u8 x1,.int .i64 x2] rfl rfl (fun _=>⟨_,rfl,World.news_of_block (cs:=#[.int .u8 x1,.int .i64 x2]) (t:=73) (fr:=(0,0)) (D8 Q9)⟩) (by intro u hu;simp at hu;rcases hu with rfl | rfl <;> rfl) Q0 Q8 Q5 ?_))
   intro v5 w5 hown5 hgrow5 _;obtain⟨a5,c5,rfl⟩:=B0 hown5;have hlow:=cT HR1.out hz1 hgrow5;have H5:=hid (HH.out.low H3.out hlow.1 hlow.2.1);have H6:=hid (H4.out.low hlow);have hown6:w5.ownsRow W.heap.size 73 2 (.slice a5 (k+1) c5) (k+1) (A5 (acc++[(x1,x2)])):=by rw [← a2M];exact hown5
   have HO5:=hid hown6;clear hown5 hgrow5 hlow hown6;go_wp2_with fail;go_roundw
   case rel=>exact ⟨acc++[(x1,x2)],a5,c5,s2,by rw [List.length_append,HK.out];rfl,by rw [List.length_append,HK.out];exact HO5.out,H5.out,H6.out,by rw [List.length_append,HK.out];exact HPP.out,by rw [List.length_append,HK.out];simp;omega,by rw [List.length_append,HK.out];exact HEQ.out⟩
   case measure=>simp [Z5];omega
  ·have HEQ:Hid (D9 (K4 bs) (bs.length+2) n [] s=(acc,s')):=by
    refine hid ?_;rw[heq,show bs.length+2 - acc.length=(bs.length+1 - acc.length)+1 by omega];exact Y7 hgo
   have HP:Hid (∀v,v=.slice la acc.length lc→J1 rb a c bs (D9 (K4 bs) (bs.length+2) n [] s).2 v W (.returned v) wr∧wr.ownsRow W.heap.size 73 2 v (D9 (K4 bs) (bs.length+2) n [] s).1.length (A5 (D9 (K4 bs) (bs.length+2) n [] s).1)):=fun v hv=>by
    rw[HEQ.out,hv];exact⟨⟨rfl,HRD.out,HWR.out⟩,HROW.out⟩
   clear hrd hwr hrow hpp heq;by_cases hn2:(acc.length:Int) < n
   ·have hf:s'.f=true:=by
     cases e:s'.f
     ·exact absurd ⟨hn2,e⟩ hgo
     ·rfl
    rw[hf] at c2;clear hgo;go_wp2_with fail;go_ret;exact⟨_,HP.out _ rfl⟩
   ·clear hgo
    go_wp2_with fail;go_ret;exact⟨_,HP.out _ rfl⟩
theorem cI {W:World} {rb c:Nat} {a:Option Addr} {bs:List Int} {s:Rs} (h:F7 W rb a c bs s) (n:Int) (hn:n≤9223372036854775807) :
  Calls Tryz.prog 137 #[.pointer (some ⟨rb,0,none⟩),.int .i64 n] W fun e w'=>∃v,J1 rb a c bs (N9 bs n s).2 v W e w'∧w'.ownsRow W.heap.size 73 2 v (N9 bs n s).1.length (A5 (N9 bs n s).1):=by
 have HN:=hid (a0a h n hn);clear h;go_enter Tryz.func137,Tryz.ntmps137;go_wp2_with (go_at_call 148;refine HN.out.mono ?_;rintro e w1 ⟨v,⟨rfl,h1,h2⟩,h3⟩)
 go_ret;exact⟨v,⟨rfl,h1,h2⟩,h3⟩
end Go.Proofs.YtbkmgoffiigdbabGreatDoor
