import Derived.Test.YtbkmgoffiigdbabGreatDoorVYa
namespace Go.Proofs.YtbkmgoffiigdbabGreatDoor
open Go.RowKit Go.Sort
theorem a5y (n:Int):IntKind.u32.wrap n=n % 4294967296:=by simp [IntKind.wrap,IntKind.bits,IntKind.signed]
theorem c0I (a b:Nat) (ha:a < 4294967296) (hb:b < 4294967296):bits .xor .u32 (a:Int) (b:Int)=((a ^^^ b:Nat):Int):=by
 have hx:a ^^^ b < 2 ^ 32:=Nat.xor_lt_two_pow Q8 Q8;have h1:(BitVec.ofInt 32 (a:Int)).toNat=a:=by
  rw[BitVec.ofInt_natCast,BitVec.toNat_ofNat];exact Nat.mod_eq_of_lt Q8
 have h2:(BitVec.ofInt 32 (b:Int)).toNat=b:=by
  rw[BitVec.ofInt_natCast,BitVec.toNat_ofNat];exact Nat.mod_eq_of_lt Q8
 show IntKind.u32.wrap ((BitVec.ofInt 32 (a:Int) ^^^ BitVec.ofInt 32 (b:Int)).toNat:Int)=_;rw[BitVec.toNat_xor,h1,h2,a5y];omega
theorem c2I (a b:Nat) (ha:a < 4294967296) (hb:b < 4294967296):bits .and .u32 (a:Int) (b:Int)=((a &&& b:Nat):Int):=by
 have hx:a &&& b < 2 ^ 32:=Nat.and_lt_two_pow _ Q8;have h1:(BitVec.ofInt 32 (a:Int)).toNat=a:=by
  rw[BitVec.ofInt_natCast,BitVec.toNat_ofNat];exact Nat.mod_eq_of_lt Q8
 have h2:(BitVec.ofInt 32 (b:Int)).toNat=b:=by
  rw[BitVec.ofInt_natCast,BitVec.toNat_ofNat];exact Nat.mod_eq_of_lt Q8
 show IntKind.u32.wrap ((BitVec.ofInt 32 (a:Int) &&& BitVec.ofInt 32 (b:Int)).toNat:Int)=_;rw[BitVec.toNat_and,h1,h2,a5y];omega
def a7S (r:Nat):Nat:=if r % 2=1 then r / 2 ^^^ 3988292384 else r / 2
def a2n:Nat→Nat→Nat
 | 0,r=>r
 | n+1,r=>a7S (a2n n r)
def a0u (r b:Nat):Nat:=a2n 8 (r ^^^ b)
def a0X (l:List Nat):Nat:=l.foldl a0u 4294967295
theorem c0R {r:Nat} (h:r < 4294967296):a7S r < 4294967296:=by
 unfold a7S;split
 ·have:r / 2 ^^^ 3988292384 < 2 ^ 32:=Nat.xor_lt_two_pow Q8 Q7
  omega
 ·omega
theorem a1c {r:Nat} (h:r < 4294967296):∀n,a2n n r < 4294967296
 | 0=>h
 | n+1=>c0R (a1c h n)
theorem a1d {r b:Nat} (h:r < 4294967296) (hb:b < 4294967296):a0u r b < 4294967296:=by
 have:r ^^^ b < 2 ^ 32:=Nat.xor_lt_two_pow Q8 Q8;exact a1c Q8 8
theorem a4e:∀(l:List Nat) {r:Nat},r < 4294967296→(∀b,b∈l→b < 256)→l.foldl a0u r < 4294967296
 | [],_,h,_=>h
 | b::l,r,h,hl=>a4e l (a1d h (by have:=hl b Q9;omega)) fun x hx=>hl x (by simp [hx])
theorem b6j {x:Nat} (h:x < 2147483648):(x ^^^ 3988292384).testBit 31=true:=by
 rw[Nat.testBit_xor];have h1:x.testBit 31=false:=Nat.testBit_lt_two_pow Q8;have h2:(3988292384:Nat).testBit 31=true:=by decide
 rw[h1,h2];rfl
theorem a1V {a b c:Nat} (h:a ^^^ c=b ^^^ c):a=b:=by
 have:=congrArg (· ^^^ c) h;simp only[Nat.xor_assoc,Nat.xor_self,Nat.xor_zero] at this;exact this
theorem b8P {a b:Nat} (ha:a < 4294967296) (hb:b < 4294967296) (h:a7S a=a7S b):a=b:=by
 unfold a7S at h;by_cases h1:a % 2=1 <;> by_cases h2:b % 2=1
 ·rw [if_pos h1,if_pos h2] at h
  have:=a1V h;omega
 ·rw [if_pos h1,if_neg h2] at h
  have t1:=b6j (x:=a / 2) Q8;rw[h,Nat.testBit_lt_two_pow (show b / 2 < 2 ^ 31 by omega)] at t1
  cases t1
 ·rw [if_neg h1,if_pos h2] at h
  have t1:=b6j (x:=b / 2) Q8;rw[← h,Nat.testBit_lt_two_pow (show a / 2 < 2 ^ 31 by omega)] at t1
  cases t1
 ·rw [if_neg h1,if_neg h2] at h
  omega
theorem a4Z {a b:Nat} (ha:a < 4294967296) (hb:b < 4294967296):∀n,a2n n a=a2n n b→a=b
 | 0,h=>h
 | n+1,h=>a4Z ha hb n (b8P (a1c ha n) (a1c hb n) h)
theorem b6y {a b x:Nat} (ha:a < 4294967296) (hb:b < 4294967296) (hx:x < 4294967296) (h:a0u a x=a0u b x):a=b:=by
 have h1:a ^^^ x < 2 ^ 32:=Nat.xor_lt_two_pow Q8 Q8;have h2:b ^^^ x < 2 ^ 32:=Nat.xor_lt_two_pow Q8 Q8;exact a1V (a4Z Q8 Q8 8 h)
theorem b3t {a x y:Nat} (ha:a < 4294967296) (hx:x < 4294967296) (hy:y < 4294967296) (h:a0u a x=a0u a y):x=y:=by
 have h1:a ^^^ x < 2 ^ 32:=Nat.xor_lt_two_pow Q8 Q8;have h2:a ^^^ y < 2 ^ 32:=Nat.xor_lt_two_pow Q8 Q8;have:=a4Z Q8 Q8 8 h;rw[Nat.xor_comm a x,Nat.xor_comm a y] at this;exact a1V this
theorem b1A:∀(l:List Nat) {a b:Nat},a < 4294967296→b < 4294967296→(∀x,x∈l→x < 256)→l.foldl a0u a=l.foldl a0u b→a=b
 | [],_,_,_,_,_,h=>h
 | x::l,a,b,ha,hb,hl,h=>by
  have hx:=hl x Q9;exact b6y ha hb Q8 (b1A l (a1d ha Q8) (a1d hb Q8) (fun y hy=>hl y (by simp [hy])) h)
theorem b4M {pre post:List Nat} {x y:Nat} (h1:∀b,b∈pre→b < 256) (h2:∀b,b∈post→b < 256) (hx:x < 256) (hy:y < 256) (hne:x≠y):a0X (pre++x::post)≠a0X (pre++y::post):=by
 unfold a0X;rw[List.foldl_append,List.foldl_append,List.foldl_cons,List.foldl_cons];have hp:=a4e pre (r:=4294967295) Q7 h1;intro h;exact hne (b3t hp Q8 Q8 (b1A post (a1d hp Q8) (a1d hp Q8) h2 h))
theorem b1d {r:Nat} (h:r < 4294967296):a3X (r:Int)=((a7S r:Nat):Int):=by
 unfold a3X a7S;have e1:bits BinOp.and IntKind.u32 (r:Int) 1=((r &&& 1:Nat):Int):=c2I r 1 h Q7;rw[e1,Nat.and_one_is_mod];by_cases h1:r % 2=1
 ·rw [if_pos Q8,if_pos h1]
  have e2:(r:Int) / 2=((r / 2:Nat):Int):=by omega
  rw[e2];exact c0I (r / 2) 3988292384 Q8 Q7
 ·rw [if_neg Q8,if_neg h1]
  omega
theorem a3Y {r:Nat} (h:r < 4294967296):∀n,R8 n (r:Int)=((a2n n r:Nat):Int)
 | 0=>rfl
 | n+1=>by
  rw[R8,a3Y h n,b1d (a1c h n)];rfl
theorem a9x {r b:Nat} (h:r < 4294967296) (hb:b < 256):a1e (r:Int) (b:Int)=((a0u r b:Nat):Int):=by
 unfold a1e a0u;have e1:(b:Int) % 4294967296=(b:Int):=by omega
 have hx:r ^^^ b < 2 ^ 32:=Nat.xor_lt_two_pow Q8 Q8;rw[e1,c0I r b h Q8,a3Y Q8]
theorem b1B:∀(l:List Nat) {r:Nat},r < 4294967296→(∀b,b∈l→b < 256)→(l.map fun n:Nat=>(n:Int)).foldl a1e (r:Int)=((l.foldl a0u r:Nat):Int)
 | [],_,_,_=>rfl
 | b::l,r,h,hl=>by
  have hb:=hl b Q9;rw[List.map_cons,List.foldl_cons,List.foldl_cons,a9x h hb];exact b1B l (a1d h Q8) fun x hx=>hl x (by simp [hx])
theorem b8d {l:List Nat} (hl:∀b,b∈l→b < 256):a0i (l.map fun n:Nat=>(n:Int))=((a0X l:Nat):Int):=b1B l Q7 hl
def a4I (l:List Nat):Nat:=a0X l ^^^ 4294967295
theorem b0A {l:List Nat} (hl:∀b,b∈l→b < 256):a4I l < 4294967296:=by
 have h:=a4e l (r:=4294967295) Q7 hl;have:a0X l ^^^ 4294967295 < 2 ^ 32:=Nat.xor_lt_two_pow (by unfold a0X;omega) Q7;unfold a4I;omega
theorem a7L {l:List Nat} (hl:∀b,b∈l→b < 256):B5 (l.map fun n:Nat=>(n:Int))=[((a4I l % 256:Nat):Int),((a4I l / 256 % 256:Nat):Int),((a4I l / 65536 % 256:Nat):Int),((a4I l / 16777216 % 256:Nat):Int)]:=by
 have h:=a4e l (r:=4294967295) Q7 hl;unfold B5;rw[b8d hl];have e:bits BinOp.xor IntKind.u32 IntKind.u32.max ((a0X l:Nat):Int)=((a4I l:Nat):Int):=by
  have:bits BinOp.xor IntKind.u32 ((4294967295:Nat):Int) ((a0X l:Nat):Int)=((4294967295 ^^^ a0X l:Nat):Int):=c0I _ _ Q7 h;rw[Nat.xor_comm] at this;exact this
 rw[e];simp
def J4 (l:List Int):Prop:=∀x,x∈l→0≤x∧x < 256
theorem a6I {l:List Int} (h:J4 l):∃k:List Nat,l=k.map (fun n:Nat=>(n:Int))∧∀b,b∈k→b < 256:=by
 refine⟨l.map Int.toNat,?_,fun b hb=>?_⟩
 ·rw [List.map_map]
  conv=>lhs;rw [← List.map_id l]
  refine List.map_congr_left fun x hx=>?_
  have:=(h x hx).1;show x=((x.toNat:Nat):Int);omega
 ·obtain ⟨x,hx,rfl⟩:=List.mem_map.1 hb
  have:=h x hx;omega
theorem c0q {k l:List Nat} (hk:∀b,b∈k→b < 256) (hl:∀b,b∈l→b < 256) (h:B5 (k.map fun n:Nat=>(n:Int))=B5 (l.map fun n:Nat=>(n:Int))):a0X k=a0X l:=by
 rw[a7L hk,a7L hl] at h;simp only[List.cons.injEq,and_true] at h;obtain⟨h1,h2,h3,h4⟩:=h;have b1:=b0A hk;have b2:=b0A hl;have e:a4I k=a4I l:=by omega
 exact a1V e
theorem b5e {pre post:List Int} {x y:Int} (h1:J4 (pre++x::post)) (hy:0≤y∧y < 256) (hne:x≠y):B5 (pre++x::post)≠B5 (pre++y::post):=by
 have hpre:J4 pre:=fun z hz=>h1 z (by simp [hz])
 have hpost:J4 post:=fun z hz=>h1 z (by simp [hz])
 have hx:=h1 x Q9;obtain⟨p,rfl,hp⟩:=a6I hpre;obtain⟨q,rfl,hq⟩:=a6I hpost;obtain⟨x,rfl⟩:=Int.eq_ofNat_of_zero_le hx.1;obtain⟨y,rfl⟩:=Int.eq_ofNat_of_zero_le hy.1;intro h;have e:∀z:Nat,p.map (fun n:Nat=>(n:Int))++(z:Int)::q.map (fun n:Nat=>(n:Int))=(p++z::q).map fun n:Nat=>(n:Int):=fun z=>by simp
 rw[e,e] at h;have hb:∀z:Nat,z < 256→∀b,b∈p++z::q→b < 256:=fun z hz b hb=>by
  rcases List.mem_append.1 hb with hb | hb
  ·exact hp b hb
  ·rcases List.mem_cons.1 hb with hb | hb
   ·omega
   ·exact hq b hb
 exact b4M hp hq Q8 Q8 Q8 (c0q (hb x Q8) (hb y Q8) h)
def Dec {α:Type} (bs:List Int) (rd:Rs→α × Rs) (e:α→List Int) (G:α→Prop):Prop :=
 ∀s,s.p≤bs.length→(rd s).2.f=false→s.f=false∧(rd s).2.p≤bs.length∧bs.drop s.p=e (rd s).1++bs.drop (rd s).2.p∧G (rd s).1
theorem T3 {s:Rs} {b:Bool} (h:(i8 s b).f=false):b=true∧s.f=false:=by
 have hb:=b2z h;subst hb;exact⟨rfl,h⟩
theorem Dec.len {α:Type} {bs:List Int} {rd:Rs→α × Rs} {e:α→List Int} {G:α→Prop} (h:Dec bs rd e G) {s:Rs} (hp:s.p≤bs.length) (hf:(rd s).2.f=false):(rd s).2.p=s.p+(e (rd s).1).length:=by
 obtain⟨_,h1,h2,_⟩:=h s hp hf;have:=congrArg List.length h2;rw[List.length_drop,List.length_append,List.length_drop] at this;omega
theorem b2f (bs:List Int) (hr:J4 bs):Dec bs (j8 bs) (fun x=>[x]) (fun x=>0≤x∧x < 256):=fun s hp hf=>by
 unfold j8 at hf ⊢;by_cases h:s.f=true∨bs.length≤s.p
 ·rw [if_pos h] at hf
  cases hf
 ·rw [if_neg h]
  have h1:s.f=false:=by
   cases e:s.f
   ·rfl
   ·exact absurd (Or.inl e) h
  have h2:s.p < bs.length:=by omega
  refine⟨h1,by show s.p+1≤_;omega,?_,?_⟩
  ·show bs.drop s.p=[bs.getD s.p 0]++bs.drop (s.p+1)
   rw[List.drop_eq_getElem_cons h2,List.getD_eq_getElem?_getD,List.getElem?_eq_getElem h2];rfl
  ·show 0≤bs.getD s.p 0∧bs.getD s.p 0 < 256
   rw[List.getD_eq_getElem?_getD,List.getElem?_eq_getElem h2];exact hr _ (List.getElem_mem h2)
theorem b2d {q k:Nat} (hk:k < 64) (h:q*2 ^ k < 18446744073709551616):q*2 ^ k+2 ^ k≤18446744073709551616:=by
 have e:(18446744073709551616:Nat)=2 ^ (64 - k)*2 ^ k:=by rw [← Nat.pow_add,Nat.sub_add_cancel Q8]
 have h1:q < 2 ^ (64 - k):=by
  rw[e] at h;exact Nat.lt_of_mul_lt_mul_right h
 have h2:(q+1)*2 ^ k≤2 ^ (64 - k)*2 ^ k:=Nat.mul_le_mul_right _ h1;rw[Nat.add_mul,Nat.one_mul] at h2;omega
theorem b2Q {x k:Nat} (h:(a8p (Y3 (x:Int) k) k == (x:Int))=true) (hx:x < 128):(k < 64∧x*2 ^ k < 18446744073709551616)∨(64≤k∧x=0):=by
 have h:=beq_iff_eq.1 h;rcases Nat.lt_or_ge k 64 with hk | hk
 ·refine Or.inl ⟨hk,?_⟩
  unfold a8p Y3 at h;rw[Nat.min_eq_left Q8] at h;have e:(x:Int)*2 ^ k=((x*2 ^ k:Nat):Int):=by rw [Int.natCast_mul,Int.natCast_pow];rfl
  have e2:((2:Int) ^ k)=((2 ^ k:Nat):Int):=by rw [Int.natCast_pow];rfl
  rw[e,e2] at h;have e3:(((x*2 ^ k:Nat):Int) % 18446744073709551616)=((x*2 ^ k % 18446744073709551616:Nat):Int):=by omega
  rw[e3,← Int.natCast_ediv] at h;have h':x*2 ^ k % 18446744073709551616 / 2 ^ k=x:=by exact_mod_cast h
  refine Decidable.byContradiction fun hn=>?_
  have h1:x*2 ^ k % 18446744073709551616 < x*2 ^ k:=by
   have:=Nat.mod_lt (x*2 ^ k) (show 0 < 18446744073709551616 by decide);omega
  have h2:x*2 ^ k≤x*2 ^ k % 18446744073709551616:=by
   conv=>lhs;rw [← h']
   exact Nat.div_mul_le_self _ _
  omega
 ·refine Or.inr ⟨hk,?_⟩
  unfold a8p Y3 at h;rw[Nat.min_eq_right hk] at h;have e:(2:Int) ^ 64=18446744073709551616:=by decide
  rw[e] at h;omega
theorem a9c {bs:List Int} (hr:J4 bs):∀(F:Nat) (s:Rs) (n k:Nat),s.p≤bs.length→bs.length < s.p+F→n < 2 ^ k→n < 18446744073709551616→(F6 bs F s (n:Int) k).2.f=false →
  s.f=false∧(F6 bs F s (n:Int) k).2.p≤bs.length∧∃q:Nat,(F6 bs F s (n:Int) k).1=((n+q*2 ^ k:Nat):Int)∧n+q*2 ^ k < 18446744073709551616∧bs.drop s.p=n8 q++bs.drop (F6 bs F s (n:Int) k).2.p∧(0 < k→q≠0)
 | 0,s,_,_,hp,hF,_,_,_=>by omega
 | F+1,s,n,k,hp,hF,hn,h64,hf=>by
  rw[F6] at hf ⊢;have hnx:=b2f bs hr s hp;generalize j8 bs s=r at hnx hf ⊢;obtain⟨b,s1⟩:=r;simp only at hnx hf ⊢;by_cases hlt:b < 128
  ·rw [if_pos hlt] at hf ⊢
   obtain⟨m2,hf1⟩:=T3 hf;obtain⟨m1,hf0⟩:=T3 hf1;obtain⟨h1,h2,h3,h4⟩:=hnx hf0;obtain⟨q,rfl⟩:=Int.eq_ofNat_of_zero_le h4.1;have hq:q < 128:=by omega
   have hpart:bits .andNot .u8 (q:Int) 128=(q:Int):=by rw [a4Y Q8 Q8];omega
   rw[hpart] at m1 ⊢;have hk:k < 64∧q*2 ^ k < 18446744073709551616:=by
    rcases b2Q m1 hq with h | ⟨h,h0⟩
    ·exact h
    ·exfalso
     subst h0;have:(k == 0)=true:=by simpa using m2
     have:=beq_iff_eq.1 this;omega
   have hroom:=b2d hk.1 hk.2;have es:i8 (i8 s1 (a8p (Y3 (q:Int) k) k == (q:Int))) ((q:Int) != 0 || k == 0)=s1:=by rw [m1,m2];rfl
   rw[es];refine⟨h1,h2,q,?_,by omega,?_,fun h0=>?_⟩
   ·show bits .or .u64 (n:Int) (Y3 (q:Int) k)=_
    rw[c0m hk.1 hk.2,b5W hn Q8]
   ·rw [h3]
    show [(q:Int)]++bs.drop s1.p=_;rw[n8,if_pos hq]
   ·rintro rfl
    have:(k == 0)=true:=by simpa using m2
    have:=beq_iff_eq.1 this;omega
  ·rw [if_neg hlt] at hf ⊢
   generalize hs2:i8 s1 (a8p (Y3 (bits .andNot .u8 b 128) k) k == bits .andNot .u8 b 128)=s2 at hf ⊢;have hfw:∀n':Int,(F6 bs F s2 n' (k+7)).2.f=false→s2.f=false:=fun n' h=>by
    have h0:=(a2U bs F s2 n' (k+7)).f
    cases e:s2.f
    ·rfl
    ·rw [h0 e] at h
     cases h
   have hf2:=hfw _ hf;rw[← hs2] at hf2;obtain⟨m1,hf0⟩:=T3 hf2;obtain⟨h1,h2,h3,h4⟩:=hnx hf0;obtain⟨b,rfl⟩:=Int.eq_ofNat_of_zero_le h4.1;have hpart:bits .andNot .u8 (b:Int) 128=((b - 128:Nat):Int):=by rw [a4Y Q8 Q8];omega
   rw[hpart] at m1 hs2 hf ⊢;rw[m1] at hs2;have hs2:s1=s2:=hs2;subst hs2;have hb:b - 128 < 128:=by omega
   have hor:bits .or .u64 (n:Int) (Y3 ((b - 128:Nat):Int) k)=((n+(b - 128)*2 ^ k:Nat):Int)∧n+(b - 128)*2 ^ k < 2 ^ (k+7)∧n+(b - 128)*2 ^ k < 18446744073709551616:=by
    have hp7:(2:Nat) ^ (k+7)=128*2 ^ k:=by rw [Nat.pow_add,Nat.mul_comm]
    rcases b2Q m1 hb with ⟨hk,hm⟩ | ⟨hk,h0⟩
    ·have hroom:=b2d hk hm
     have h127:(b - 128)*2 ^ k≤127*2 ^ k:=Nat.mul_le_mul_right _ Q8;refine⟨by rw [c0m hk hm,b5W hn Q8],?_,by omega⟩;have:128*2 ^ k=127*2 ^ k+2 ^ k:=by rw [show 128=127+1 from rfl,Nat.add_mul,Nat.one_mul]
     omega
    ·rw [h0]
     have e0:Y3 ((0:Nat):Int) k=((0:Nat):Int):=by unfold Y3;simp
     rw[e0,bits_or_u64_nat n 0 h64 Q7];refine⟨by simp,?_,by omega⟩;have:2 ^ k≤2 ^ (k+7):=Nat.pow_le_pow_right Q7 Q8;omega
   rw[hor.1] at hf ⊢;have hs1p:s1.p=s.p+1:=by
    have:=congrArg List.length h3;rw[List.length_drop,List.length_append,List.length_drop] at this;simp at this;omega
   obtain⟨_,i2,q',i3,i4,i5,i6⟩:=a9c hr F s1 _ (k+7) h2 Q8 hor.2.1 hor.2.2 hf;have hq':=i6 Q8;have hmul:(b - 128+128*q')*2 ^ k=(b - 128)*2 ^ k+q'*2 ^ (k+7):=by
    rw[Nat.add_mul,Nat.pow_add,Nat.mul_assoc,Nat.mul_comm 128,Nat.mul_assoc]
   refine⟨h1,i2,b - 128+128*q',?_,by omega,?_,fun _=>by omega⟩
   ·rw [i3]
    congr 1
    omega
   ·rw [h3,i5]
    rw[show n8 (b - 128+128*q')=(((b - 128+128*q') % 128+128:Nat):Int)::n8 ((b - 128+128*q') / 128) by rw [n8,if_neg Q8]];have e1:(b - 128+128*q') % 128+128=b:=by omega
    have e2:(b - 128+128*q') / 128=q':=by omega
    rw[e1,e2];rfl
theorem b5T {bs:List Int} (hr:J4 bs):Dec bs (D8 bs) (fun x=>n8 x.toNat) (fun x=>0≤x∧x < 18446744073709551616):=fun s hp hf=>by
 unfold D8 at hf ⊢;have hf':(F6 bs (bs.length+1) s ((0:Nat):Int) 0).2.f=false:=hf;obtain⟨h1,h2,q,h3,h4,h5,_⟩:=a9c hr (bs.length+1) s 0 0 hp Q8 Q7 Q7 hf';have e:0+q*2 ^ 0=q:=by simp
 rw[e] at h3 h4;have h3':(F6 bs (bs.length+1) s 0 0).1=(q:Int):=h3;refine⟨h1,h2,?_,by rw [h3'];omega⟩;rw[h3'];show bs.drop s.p=n8 ((q:Int)).toNat++_;rw[Int.toNat_natCast];exact h5
theorem a9W {bs:List Int} (hr:J4 bs):Dec bs (G7 bs) a0R I64:=fun s hp hf=>by
 obtain⟨h1,h2,h3,h4⟩:=b5T hr s hp hf;unfold G7;obtain⟨m,hm⟩:=Int.eq_ofNat_of_zero_le h4.1;have h3:bs.drop s.p=n8 ((D8 bs s).1).toNat++bs.drop (D8 bs s).2.p:=h3;rw[hm,Int.toNat_natCast] at h3;rw[hm] at h4;refine⟨h1,h2,?_,?_⟩
 ·show bs.drop s.p=a0R (if (D8 bs s).1 % 2=1 then -1 - (D8 bs s).1 / 2 else (D8 bs s).1 / 2)++_
  rw[hm];have e:a0R (if (m:Int) % 2=1 then -1 - (m:Int) / 2 else (m:Int) / 2)=n8 m:=by
   unfold a0R;congr 1
   unfold a9U;split <;> split <;> omega
  rw[e];exact h3
 ·show I64 (if (D8 bs s).1 % 2=1 then -1 - (D8 bs s).1 / 2 else (D8 bs s).1 / 2)
  rw[hm];unfold I64;split <;> omega
theorem U0 {bs:List Int} (hr:J4 bs) (most:Int):Dec bs (c9 bs most) (fun x=>n8 x.toNat) (fun x=>0≤x∧x≤most∧x < 18446744073709551616):=fun s hp hf=>by
 have hf':(i8 (D8 bs s).2 (decide ((D8 bs s).1≤most))).f=false:=hf;obtain⟨m,hf0⟩:=T3 hf';obtain⟨h1,h2,h3,h4⟩:=b5T hr s hp hf0;unfold c9;rw[m] at hf' ⊢;have e:(i8 (D8 bs s).2 true)=(D8 bs s).2:=rfl;simp only[e] at hf' ⊢;rw[hf',if_neg Q7];exact⟨h1,h2,h3,h4.1,of_decide_eq_true m,h4.2⟩
theorem V0 {bs:List Int} (hr:J4 bs):Dec bs (b8 bs) (fun x=>n8 x.toNat) (fun x=>0≤x∧x≤9223372036854775807):=fun s hp hf=>by
 obtain⟨h1,h2,h3,h4⟩:=U0 hr 9223372036854775807 s hp hf;exact⟨h1,h2,h3,h4.1,h4.2.1⟩
theorem b8v {bs:List Int} (hr:J4 bs):Dec bs (y9 bs) a1T a3h:=fun s hp hf=>by
 unfold y9 at hf ⊢;have hnx:=b2f bs hr s hp;generalize j8 bs s=r at hnx hf ⊢;obtain⟨b,s1⟩:=r;simp only at hnx hf ⊢;by_cases h0:b=0
 ·rw [if_pos h0] at hf ⊢
  obtain⟨h1,h2,h3,h4⟩:=hnx hf;subst h0;exact⟨h1,h2,h3,⟨⟨D2 (show (-1000000:Int)≤0 by decide) (show (0:Int)≤1000000 by decide),fun _=>Int.le_refl _⟩,Or.inl rfl⟩⟩
 ·rw [if_neg h0] at hf ⊢
  by_cases e1:b=1
  ·rw [if_pos e1] at hf ⊢
   have hd:=a9W hr s1;have hfs1:s1.f=false:=by
    have h0:=(a6j bs s1).f
    cases e:s1.f
    ·rfl
    ·rw [h0 e] at hf;cases hf
   obtain⟨h1,h2,h3,h4⟩:=hnx hfs1;obtain⟨g1,g2,g3,g4⟩:=hd h2 hf;subst e1;refine⟨h1,g2,?_,⟨⟨g4,fun e=>absurd (show (1:Int)=2 from e) Q7⟩,Or.inr (Or.inl rfl)⟩⟩;show bs.drop s.p=(1::a0R (G7 bs s1).1)++bs.drop (G7 bs s1).2.p;rw[h3,g3];rfl
  ·rw [if_neg e1] at hf ⊢
   by_cases e2:b=2
   ·rw [if_pos e2] at hf ⊢
    have hfs1:s1.f=false:=by
     have h0:=(Z5 bs s1).f
     cases e:s1.f
     ·rfl
     ·rw [h0 e] at hf;cases hf
    obtain⟨h1,h2,h3,h4⟩:=hnx hfs1;obtain⟨g1,g2,g3,g4⟩:=V0 hr s1 h2 hf;subst e2;refine⟨h1,g2,?_,⟨⟨⟨by show -9223372036854775808≤(b8 bs s1).1;omega,by show (b8 bs s1).1≤_;omega⟩,fun _=>g4.1⟩,Or.inr (Or.inr rfl)⟩⟩;show bs.drop s.p=(2::n8 (b8 bs s1).1.toNat)++bs.drop (b8 bs s1).2.p;rw[h3,g3];rfl
   ·rw [if_neg e2] at hf
    cases hf
theorem b1Z {α:Type} {bs:List Int} {rd:Rs→α × Rs} {e:α→List Int} {G:α→Prop} (h:Dec bs rd e G) (hpos:∀x,1≤(e x).length) (n:Int):∀(F:Nat) (acc:List α) (s:Rs),s.p≤bs.length→bs.length < s.p+F→(f8 rd F n acc s).2.f=false →
  s.f=false∧(f8 rd F n acc s).2.p≤bs.length∧∃l,(f8 rd F n acc s).1=acc++l∧bs.drop s.p=l.flatMap e++bs.drop (f8 rd F n acc s).2.p∧(∀x,x∈l→G x)∧n≤((acc++l).length:Int)∧(l≠[]→((acc++l).length:Int)=n)
 | 0,acc,s,hp,hF,hf=>by omega
 | F+1,acc,s,hp,hF,hf=>by
  by_cases hg:(acc.length:Int) < n∧s.f=false
  ·rw [J9 hg] at hf ⊢
   have hfs:(rd s).2.f=false:=by
    cases q:(rd s).2.f
    ·rfl
    ·cases F with
     | zero=>rw [show f8 rd 0 n (acc++[(rd s).1]) (rd s).2=(acc++[(rd s).1],(rd s).2) from rfl] at hf;rw [q] at hf;cases hf
     | succ F =>
      rw[B1 (fun hh=>by rw [q] at hh;cases hh.2)] at hf;rw[q] at hf
      cases hf
   obtain⟨h1,h2,h3,h4⟩:=h s hp hfs;have hl:=h.len hp hfs;have hp1:=hpos (rd s).1;obtain⟨i1,i2,l,i3,i4,i5,i6,i7⟩:=b1Z h hpos n F (acc++[(rd s).1]) (rd s).2 h2 Q8 hf;have ea:acc++[(rd s).1]++l=acc++(rd s).1::l:=by simp
   rw[ea] at i3 i6 i7;refine⟨h1,i2,(rd s).1::l,i3,?_,fun x hx=>?_,i6,fun _=>?_⟩
   ·rw [h3,i4,List.flatMap_cons,List.append_assoc]
   ·rcases List.mem_cons.1 hx with rfl | hx
    ·exact h4
    ·exact i5 x hx
   ·by_cases hl0:l=[]
    ·subst hl0
     have:=hg.1;simp at i6 ⊢;omega
    ·exact i7 hl0
  ·rw [B1 hg] at hf ⊢
   have hf':s.f=false:=hf;refine⟨hf',hp,[],by simp,by simp,fun x hx=>(by cases hx),?_,fun h=>absurd rfl h⟩;rw[List.append_nil];show n≤(acc.length:Int);exact Decidable.byContradiction fun hh=>hg ⟨by omega,hf'⟩
theorem a1j {α:Type} {bs:List Int} {rd:Rs→α × Rs} {e:α→List Int} {G:α→Prop} (h:Dec bs rd e G) (hpos:∀x,1≤(e x).length) {n:Int} (hn:0≤n):Dec bs (f8 rd (bs.length+2) n []) (fun l=>l.flatMap e) (fun l=>(l.length:Int)=n∧∀x,x∈l→G x):=fun s hp hf=>by
 obtain⟨h1,h2,l,h3,h4,h5,h6,h7⟩:=b1Z h hpos n (bs.length+2) [] s hp Q8 hf;rw[List.nil_append] at h3 h6 h7;rw[h3];refine⟨h1,h2,h4,?_,h5⟩;by_cases hl:l=[]
 ·subst hl
  simp at h6 ⊢;omega
 ·exact h7 hl
theorem noF {s t:Rs} (h:Fwd s t) (ht:t.f=false):s.f=false:=by
 cases e:s.f
 ·rfl
 ·rw [h.f e] at ht;cases ht
theorem a0n {bs:List Int} (hr:J4 bs) {n:Int} (hn:0≤n):Dec bs (q9 bs n) R0 (fun l=>(l.length:Int)=n∧∀x,x∈l→a3h x):=a1j (b8v hr) c0v hn
theorem b9v {bs:List Int} (hr:J4 bs) {n:Int} (hn:0≤n):Dec bs (a1t bs n) a1g (fun l=>(l.length:Int)=n∧∀x,x∈l→I64 x):=a1j (a9W hr) (fun _=>a4v _) hn
theorem c1t {bs:List Int} (hr:J4 bs):Dec bs (a6a bs) a5k (fun l=>l.length≤40∧∀x,x∈l→I64 x):=fun s hp hf=>by
 have hf':(a1t bs (c9 bs 40 s).1 (c9 bs 40 s).2).2.f=false:=hf;have hf0:=noF (M8 (fun s=>(a5r bs s).1) _ _ _ _:Fwd _ (a1t bs (c9 bs 40 s).1 (c9 bs 40 s).2).2) hf';obtain⟨h1,h2,h3,h4⟩:=U0 hr 40 s hp hf0;obtain⟨g1,g2,g3,g4,g5⟩:=b9v hr h4.1 _ h2 hf';refine⟨h1,g2,?_,?_,g5⟩
 ·show bs.drop s.p=a5k (a1t bs (c9 bs 40 s).1 (c9 bs 40 s).2).1++_
  unfold a5k;have e:(a1t bs (c9 bs 40 s).1 (c9 bs 40 s).2).1.length=((c9 bs 40 s).1).toNat:=by omega
  rw[e,h3,g3,List.append_assoc];rfl
 ·show (a1t bs (c9 bs 40 s).1 (c9 bs 40 s).2).1.length≤40
  omega
theorem b7h {bs:List Int} (hr:J4 bs):Dec bs (C2 bs) a2s (fun x=>0≤x.1∧I64 x.2):=fun s hp hf=>by
 have hf':(G7 bs (b8 bs s).2).2.f=false:=hf;have hf0:=noF (a6j bs _) hf';obtain⟨h1,h2,h3,h4⟩:=V0 hr s hp hf0;obtain⟨g1,g2,g3,g4⟩:=a9W hr _ h2 hf';refine⟨h1,g2,?_,h4.1,g4⟩;show bs.drop s.p=(n8 ((b8 bs s).1).toNat++a0R (G7 bs (b8 bs s).2).1)++_;rw[h3,g3,List.append_assoc];rfl
def a4f (x:FnL):List Int:=n8 x.1.toNat++n8 x.2.1.toNat++n8 x.2.2.length++x.2.2.flatMap a2s
theorem b3T (x:Int × Int):1≤(a2s x).length:=by
 unfold a2s;rw[List.length_append];have:=a4v x.1.toNat;omega
theorem b6Y (x:FnL):1≤(a4f x).length:=by
 unfold a4f;simp only[List.length_append];have:=a4v x.1.toNat;omega
theorem b9j {bs:List Int} (hr:J4 bs):Dec bs (F7 bs) a4f (fun x=>∀y,y∈x.2.2→I64 y.2):=fun s hp hf=>by
 have hf':(N4 bs (b8 bs (b8 bs (b8 bs s).2).2).1 (b8 bs (b8 bs (b8 bs s).2).2).2).2.f=false:=hf;have f3:=noF (a7e bs _ _) hf';have f2:=noF (Z5 bs _) f3;have f1:=noF (Z5 bs _) f2;obtain⟨h1,h2,h3,h4⟩:=V0 hr s hp f1;obtain⟨g1,g2,g3,g4⟩:=V0 hr _ h2 f2;obtain⟨k1,k2,k3,k4⟩:=V0 hr _ g2 f3;obtain⟨l1,l2,l3,l4,l5⟩:=a1j (b7h hr) b3T k4.1 _ k2 hf'
 refine⟨h1,l2,?_,fun y hy=>(l5 y hy).2⟩;show bs.drop s.p=(n8 ((b8 bs s).1).toNat++n8 ((b8 bs (b8 bs s).2).1).toNat++n8 (f8 (C2 bs) (bs.length+2) (b8 bs (b8 bs (b8 bs s).2).2).1 [] (b8 bs (b8 bs (b8 bs s).2).2).2).1.length++(f8 (C2 bs) (bs.length+2) (b8 bs (b8 bs (b8 bs s).2).2).1 [] (b8 bs (b8 bs (b8 bs s).2).2).2).1.flatMap a2s)++_
 have e:(f8 (C2 bs) (bs.length+2) (b8 bs (b8 bs (b8 bs s).2).2).1 [] (b8 bs (b8 bs (b8 bs s).2).2).2).1.length=((b8 bs (b8 bs (b8 bs s).2).2).1).toNat:=by omega
 rw[e,h3,g3,k3,l3];simp only[List.append_assoc];rfl
theorem b9Z {bs:List Int} (hr:J4 bs):Dec bs (U7 bs) (fun L=>n8 L.length++L.flatMap a4f) (fun L=>∀x,x∈L→∀y,y∈x.2.2→I64 y.2):=fun s hp hf=>by
 have hf':(a0h bs (b8 bs s).1 (b8 bs s).2).2.f=false:=hf;have f1:=noF (M8 (fun s=>(a7M bs s).1) _ _ _ _:Fwd _ (a0h bs (b8 bs s).1 (b8 bs s).2).2) hf';obtain⟨h1,h2,h3,h4⟩:=V0 hr s hp f1;obtain⟨l1,l2,l3,l4,l5⟩:=a1j (b9j hr) b6Y h4.1 _ h2 hf';refine⟨h1,l2,?_,l5⟩;show bs.drop s.p=(n8 (f8 (F7 bs) (bs.length+2) (b8 bs s).1 [] (b8 bs s).2).1.length++(f8 (F7 bs) (bs.length+2) (b8 bs s).1 [] (b8 bs s).2).1.flatMap a4f)++_
 have e:(f8 (F7 bs) (bs.length+2) (b8 bs s).1 [] (b8 bs s).2).1.length=((b8 bs s).1).toNat:=by omega
 rw[e,h3,l3,List.append_assoc];rfl
theorem a0S {α:Type} (l:List α) (f:Nat→α) (h:∀i x,l[i]?=some x→f i=x):(List.range l.length).map f=l:=by
 refine List.ext_getElem? fun i=>?_
 rw[List.getElem?_map];by_cases hi:i < l.length
 ·rw [List.getElem?_range hi,List.getElem?_eq_getElem hi]
  show some (f i)=_;rw[h i _ (List.getElem?_eq_getElem hi)]
 ·rw [List.getElem?_eq_none_iff.2 (by rw [List.length_range];omega),List.getElem?_eq_none_iff.2 Q8]
  rfl
theorem a3f.progB {g:PgR} {L:List FnL} (h:a3f g L):progB g=n8 L.length++L.flatMap a4f:=by
 unfold YtbkmgoffiigdbabGreatDoor.progB a2q;rw[h.n];congr 1
 have e:((List.range L.length).map fun i=>fnB (g.f i))=L.map a4f:=by
  rw[← a0S (L.map a4f) (fun i=>fnB (g.f i)) (fun i x hx=>?_),List.length_map];rw[List.getElem?_map] at hx;obtain⟨y,hy,rfl⟩:=Option.map_eq_some_iff.1 hx;obtain⟨q1,q2,q3,q4⟩:=h.f i y hy;unfold fnB U6 a4f;rw[q1,q2,q3];congr 1
  have e2:((List.range y.2.2.length).map (inB (g.f i)))=y.2.2.map a2s:=by
   rw[← a0S (y.2.2.map a2s) (inB (g.f i)) (fun j z hz=>?_),List.length_map];rw[List.getElem?_map] at hz;obtain⟨u,hu,rfl⟩:=Option.map_eq_some_iff.1 hz;obtain⟨r1,r2⟩:=q4 j u hu;unfold inB a2s;rw[r1,r2]
  rw[List.flatMap_def,List.flatMap_def,e2]
 rw[List.flatMap_def,List.flatMap_def,e]
theorem a3f.arI {g:PgR} {L:List FnL} (h:a3f g L) (hL:∀x,x∈L→∀y,y∈x.2.2→I64 y.2):ArI g:=fun i hi j hj=>by
 rw[h.n] at hi;obtain⟨_,_,q3,q4⟩:=h.f i _ (List.getElem?_eq_getElem hi);rw[q3] at hj;rw[(q4 j _ (List.getElem?_eq_getElem hj)).2];exact hL _ (List.getElem_mem hi) _ (List.getElem_mem hj)
theorem c1l {bs:List Int} (hr:J4 bs):Dec bs (T6 bs) obB a9s:=fun s hp hf=>by
 unfold T6 at hf ⊢;obtain⟨m,f2⟩:=T3 hf;have f1:=noF (X3 bs _ _) f2;have f0:=noF (b1I bs _ _) f1;obtain⟨h1,h2,h3,h4⟩:=U0 hr 3 s hp f0;have em:∀t:Rs,i8 t true=t:=fun _=>rfl
 rw[m,em];simp only;generalize hk:(c9 bs 3 s).1=k at *
 generalize (c9 bs 3 s).2=s1 at *
 have hk4:k=0∨k=1∨k=2∨k=3:=by omega
 have hs1:bs.drop s.p=n8 k.toNat++bs.drop s1.p:=h3;rcases hk4 with rfl | rfl | rfl | rfl
 ·have:(F3 bs 0 s1).2.f=true:=rfl
  rw[this] at f1
  cases f1
 ·have es:F3 bs 1 s1=c9 bs 8 s1:=rfl
  rw[es] at f1 f2 ⊢;obtain⟨g1,g2,g3,g4⟩:=U0 hr 8 s1 h2 f1;obtain⟨l1,l2,l3,l4,l5⟩:=a0n hr g4.1 _ g2 f2;refine⟨h1,l2,?_,l5,Or.inl ⟨rfl,by show (q9 bs (c9 bs 8 s1).1 (c9 bs 8 s1).2).1.length≤8;omega⟩⟩;have e:(q9 bs (c9 bs 8 s1).1 (c9 bs 8 s1).2).1.length=((c9 bs 8 s1).1).toNat:=by omega
  have g3:bs.drop s1.p=n8 ((c9 bs 8 s1).1).toNat++bs.drop (c9 bs 8 s1).2.p:=g3;unfold obB;simp only;rw[if_neg Q7,e,hs1,g3,l3];simp only[List.append_assoc]
 ·have es:F3 bs 2 s1=c9 bs 12 s1:=rfl
  rw[es] at f1 f2 ⊢;obtain⟨g1,g2,g3,g4⟩:=U0 hr 12 s1 h2 f1;obtain⟨l1,l2,l3,l4,l5⟩:=a0n hr g4.1 _ g2 f2;refine⟨h1,l2,?_,l5,Or.inr (Or.inl ⟨rfl,by show (q9 bs (c9 bs 12 s1).1 (c9 bs 12 s1).2).1.length≤12;omega⟩)⟩;have e:(q9 bs (c9 bs 12 s1).1 (c9 bs 12 s1).2).1.length=((c9 bs 12 s1).1).toNat:=by omega
  have g3:bs.drop s1.p=n8 ((c9 bs 12 s1).1).toNat++bs.drop (c9 bs 12 s1).2.p:=g3;unfold obB;simp only;rw[if_neg Q7,e,hs1,g3,l3];simp only[List.append_assoc]
 ·have es:F3 bs 3 s1=(1,s1):=rfl
  rw[es] at f1 f2 m ⊢;obtain⟨l1,l2,l3,l4,l5⟩:=a0n hr (show (0:Int)≤1 by decide) _ h2 f2;refine⟨h1,l2,?_,l5,Or.inr (Or.inr ⟨rfl,by show (q9 bs 1 s1).1.length=1;omega,fun v hv=>?_⟩)⟩
  ·unfold obB
   simp only;rw[if_pos trivial,hs1,l3];simp
  ·have ha:(q9 bs 1 s1).1.any isI=false:=by
    simpa using m
   have:=List.any_eq_false.1 ha v hv;unfold isI at this;simpa using this
theorem b9p {bs:List Int} (hr:J4 bs):Dec bs (a0B bs) L5 (fun l=>l.length≤40∧∀x,x∈l→a9s x):=fun s hp hf=>by
 have hf':(a8W bs (c9 bs 40 s).1 (c9 bs 40 s).2).2.f=false:=hf;have hf0:=noF (M8 (fun s=>(a5s bs s).1) _ _ _ _:Fwd _ (a8W bs (c9 bs 40 s).1 (c9 bs 40 s).2).2) hf';obtain⟨h1,h2,h3,h4⟩:=U0 hr 40 s hp hf0;obtain⟨g1,g2,g3,g4,g5⟩:=a1j (c1l hr) c1k h4.1 _ h2 hf';refine⟨h1,g2,?_,?_,g5⟩
 ·show bs.drop s.p=(n8 (f8 (T6 bs) (bs.length+2) (c9 bs 40 s).1 [] (c9 bs 40 s).2).1.length++(f8 (T6 bs) (bs.length+2) (c9 bs 40 s).1 [] (c9 bs 40 s).2).1.flatMap obB)++_
  have e:(f8 (T6 bs) (bs.length+2) (c9 bs 40 s).1 [] (c9 bs 40 s).2).1.length=((c9 bs 40 s).1).toNat:=by omega
  rw[e,h3,g3,List.append_assoc];rfl
 ·show (f8 (T6 bs) (bs.length+2) (c9 bs 40 s).1 [] (c9 bs 40 s).2).1.length≤40
  omega
theorem b6g {g:PgR} (hp:s7 g) {fn:Nat} (hfn:fn < g.n):0≤(g.f fn).p∧0≤(g.f fn).l∧(g.f fn).n≤60∧(g.f fn).l≤8∧g.n≤8:=by
 have h:=hp.sized.bd hfn;have h2:=hp.sized.2.1;refine⟨by omega,by omega,by omega,by omega,h2⟩
theorem b6W {bs:List Int} (hr:J4 bs) {g:PgR} (hp:s7 g) {fn:Nat} (hfn:fn < g.n) (calls:Bool) {s:Rs} (hps:s.p≤bs.length) (hf:(k7 bs g fn calls s).2.f=false) :
  s.f=false∧(k7 bs g fn calls s).2.p≤bs.length∧bs.drop s.p=frB ⟨fn,(k7 bs g fn calls s).1.1.toNat,(k7 bs g fn calls s).1.2.1,(k7 bs g fn calls s).1.2.2⟩++bs.drop (k7 bs g fn calls s).2.p ∧
   a9q ⟨fn,(k7 bs g fn calls s).1.1.toNat,(k7 bs g fn calls s).1.2.1,(k7 bs g fn calls s).1.2.2⟩∧(calls=true→(g.f fn).op (k7 bs g fn calls s).1.1.toNat=14) ∧
   Z7 g ⟨fn,(k7 bs g fn calls s).1.1.toNat,(k7 bs g fn calls s).1.2.1,(k7 bs g fn calls s).1.2.2⟩ (if calls then (g.f ((g.f fn).ar (k7 bs g fn calls s).1.1.toNat).toNat).p else 0):=by
 obtain⟨b1,b2,b3,b4,b5⟩:=b6g hp hfn;have htop:(d6 bs g fn s).2.f=false→s.f=false∧(d6 bs g fn s).2.p≤bs.length∧bs.drop s.p=n8 fn++n8 (d6 bs g fn s).1.toNat++bs.drop (d6 bs g fn s).2.p∧(0≤(d6 bs g fn s).1∧(d6 bs g fn s).1.toNat < 1000)∧∃b,(b9 g (g.f fn)).Reach (d6 bs g fn s).1.toNat b∧A1 (b9 g (g.f fn)) (d6 bs g fn s).1.toNat=b:=fun hf=>by
  unfold d6 at hf ⊢;simp only at hf ⊢;obtain⟨m2,f2⟩:=T3 hf;have em:∀t:Rs,i8 t true=t:=fun _=>rfl
  have f1:=noF (T1 bs _ _) f2;obtain⟨m1,f0⟩:=T3 f1;rw[m1,em] at f2 m2 ⊢;rw[m2,em];obtain⟨h1,h2,h3,h4⟩:=V0 hr s hps f0;obtain⟨g1,g2,g3,g4⟩:=U0 hr _ _ h2 f2;have e1:(b8 bs s).1=(fn:Int):=beq_iff_eq.1 m1;have h3:bs.drop s.p=n8 ((b8 bs s).1).toNat++_:=h3;rw[e1,Int.toNat_natCast] at h3;have g3:bs.drop (b8 bs s).2.p=n8 ((c9 bs (((g.f fn).n - 1:Nat):Int) (b8 bs s).2).1).toNat++_:=g3
  refine⟨h1,g2,by rw [h3,g3,List.append_assoc],⟨g4.1,by omega⟩,?_⟩;by_cases hh:∃b,(b9 g (g.f fn)).Reach (c9 bs (((g.f fn).n - 1:Nat):Int) (b8 bs s).2).1.toNat b
  ·obtain ⟨b,hb⟩:=hh
   exact⟨b,hb,a0Q (hp.fits fn hfn) hb⟩
  ·rw [a1E hh] at m2
   exact absurd m2 Q7
 cases calls with
 | false =>
  have hf':(T4 bs (g.f fn).l (A1 (b9 g (g.f fn)) (d6 bs g fn s).1.toNat) (d6 bs g fn s).1 (d6 bs g fn s).2).2.f=false:=hf;have f2:(q9 bs (A1 (b9 g (g.f fn)) (d6 bs g fn s).1.toNat) (q9 bs (g.f fn).l (d6 bs g fn s).2).2).2.f=false:=hf';have f1:=noF (X3 bs _ _) f2;have f0:=noF (X3 bs _ _) f1;obtain⟨h1,h2,h3,h4,b,hb,hh⟩:=htop f0;have hfit:=(hp.fits fn hfn).1 _ _ hb
  have hb0:0≤b:=n7.reach_bd (fun a=>by show 0≤v9 _;unfold v9;split <;> first | decide | (split <;> decide)) (hp.fits fn hfn) hb;obtain⟨k1,k2,k3,k4,k5⟩:=a0n hr b2 _ h2 f1;rw[hh] at f2;obtain⟨l1,l2,l3,l4,l5⟩:=a0n hr hb0 _ k2 f2;have key:k7 bs g fn false s=(((d6 bs g fn s).1,(q9 bs (g.f fn).l (d6 bs g fn s).2).1,(q9 bs b (q9 bs (g.f fn).l (d6 bs g fn s).2).2).1),(q9 bs b (q9 bs (g.f fn).l (d6 bs g fn s).2).2).2):=by
   unfold k7;rw[if_neg Q7,hh];rfl
  rw[key];simp only;refine⟨h1,l2,?_,⟨by show fn < 1000;omega,h4.2,k5,l5⟩,fun e=>(by cases e),?_⟩
  ·unfold frB
   simp only;rw[h3,k3,l3];simp only[List.append_assoc]
  ·refine ⟨hfn,k4,?_⟩
   show (b9 g (g.f fn)).Reach (d6 bs g fn s).1.toNat (((q9 bs b (q9 bs (g.f fn).l (d6 bs g fn s).2).2).1.length:Int)+(if false=true then (g.f ((g.f fn).ar (d6 bs g fn s).1.toNat).toNat).p else 0));rw[if_neg Q7,l4,Int.add_zero];exact hb
 | true =>
  have f2:(q9 bs (A1 (b9 g (g.f fn)) (d6 bs g fn s).1.toNat - s6 ((g.f fn).op (d6 bs g fn s).1.toNat) (g.f ((g.f fn).ar (d6 bs g fn s).1.toNat).toNat).p) (q9 bs (g.f fn).l (i8 (d6 bs g fn s).2 ((g.f fn).op (d6 bs g fn s).1.toNat == 14))).2).2.f=false:=hf;have f1:=noF (X3 bs _ _) f2;have fm:=noF (X3 bs _ _) f1;obtain⟨m,f0⟩:=T3 fm;have h14:(g.f fn).op (d6 bs g fn s).1.toNat=14:=beq_iff_eq.1 m
  have em:i8 (d6 bs g fn s).2 ((g.f fn).op (d6 bs g fn s).1.toNat == 14)=(d6 bs g fn s).2:=by rw [m];rfl
  obtain⟨h1,h2,h3,h4,b,hb,hh⟩:=htop f0;have hfit:=(hp.fits fn hfn).1 _ _ hb;have hpop:s6 ((g.f fn).op (d6 bs g fn s).1.toNat) (g.f ((g.f fn).ar (d6 bs g fn s).1.toNat).toNat).p=(g.f ((g.f fn).ar (d6 bs g fn s).1.toNat).toNat).p:=by rw [h14];rfl
  have hpl:(g.f ((g.f fn).ar (d6 bs g fn s).1.toNat).toNat).p≤b:=by
   have:(b9 g (g.f fn)).pop (d6 bs g fn s).1.toNat≤b:=hfit.2.1;have e:(b9 g (g.f fn)).pop (d6 bs g fn s).1.toNat=s6 ((g.f fn).op (d6 bs g fn s).1.toNat) (g.f ((g.f fn).ar (d6 bs g fn s).1.toNat).toNat).p:=rfl;rw[e,hpop] at this;exact this
  rw[em] at f1 f2;obtain⟨k1,k2,k3,k4,k5⟩:=a0n hr b2 _ h2 f1;rw[hh,hpop] at f2;obtain⟨l1,l2,l3,l4,l5⟩:=a0n hr (show 0≤b - (g.f ((g.f fn).ar (d6 bs g fn s).1.toNat).toNat).p by omega) _ k2 f2;have key:k7 bs g fn true s=(((d6 bs g fn s).1,(q9 bs (g.f fn).l (d6 bs g fn s).2).1,(q9 bs (b - (g.f ((g.f fn).ar (d6 bs g fn s).1.toNat).toNat).p) (q9 bs (g.f fn).l (d6 bs g fn s).2).2).1),(q9 bs (b - (g.f ((g.f fn).ar (d6 bs g fn s).1.toNat).toNat).p) (q9 bs (g.f fn).l (d6 bs g fn s).2).2).2):=by
   unfold k7;rw[if_pos rfl,em,hh,hpop];rfl
  rw[key];simp only;refine⟨h1,l2,?_,⟨by show fn < 1000;omega,h4.2,k5,l5⟩,fun _=>h14,?_⟩
  ·unfold frB
   simp only;rw[h3,k3,l3];simp only[List.append_assoc]
  ·refine ⟨hfn,k4,?_⟩
   show (b9 g (g.f fn)).Reach (d6 bs g fn s).1.toNat (((q9 bs (b - (g.f ((g.f fn).ar (d6 bs g fn s).1.toNat).toNat).p) (q9 bs (g.f fn).l (d6 bs g fn s).2).2).1.length:Int)+(if true=true then (g.f ((g.f fn).ar (d6 bs g fn s).1.toNat).toNat).p else 0));rw[if_pos rfl,l4,Int.sub_add_cancel];exact hb
theorem c1R {g:PgR} {fn:Nat} {c:FrA} {r:List FrA} (h:Up g fn (c::r)):c.fn=fn:=by
 cases r with
 | nil=>exact h.1
 | cons d r=>exact h.1
theorem b5I {bs:List Int} (hr:J4 bs) {g:PgR} (hp:s7 g):∀(n fn:Nat) (acc:List FrA) (s:Rs),fn < g.n→s.p≤bs.length→(V6 bs g n (fn:Int) acc s).2.f=false →
  s.f=false∧(V6 bs g n (fn:Int) acc s).2.p≤bs.length∧∃l,(V6 bs g n (fn:Int) acc s).1=acc++l∧l.length=n∧bs.drop s.p=a3g l++bs.drop (V6 bs g n (fn:Int) acc s).2.p∧Up g fn l∧∀f,f∈l→a9q f
 | 0,fn,acc,s,_,hps,hf=>by
  have hf':s.f=false:=hf;exact⟨hf',hps,[],by show acc=acc++[];simp,rfl,by show bs.drop s.p=[]++bs.drop s.p;simp,trivial,fun f hf=>by cases hf⟩
 | n+1,fn,acc,s,hfn,hps,hf=>by
  have hs:s.f=false:=by
   cases e:s.f
   ·rfl
   ·rw [V6,if_pos e,e] at hf
    cases hf
  have D:=fun h=>b6W hr hp hfn (decide ((1:Int) < ((n+1:Nat):Int))) (s:=s) hps h
  obtain⟨r,hrf⟩:∃r,k7 bs g fn (decide ((1:Int) < ((n+1:Nat):Int))) s=r:=⟨_,rfl⟩
  obtain⟨⟨pc,loc,stk⟩,s2⟩:=r;have hgo:=b0n (bs:=bs) (g:=g) (n:=n+1) Q8 fn acc hs hrf;rw[hrf] at D;rw[hgo] at hf ⊢;rw[Nat.add_sub_cancel] at hf ⊢;simp only at D hf ⊢;have hf2:s2.f=false:=by
   cases n with
   | zero=>exact hf
   | succ n =>
    cases e:s2.f
    ·rfl
    ·rw [V6,if_pos e,e] at hf
     cases hf
  obtain⟨h1,h2,h3,h4,h5,h6⟩:=D hf2
  cases n with
  | zero =>
   have hd:decide ((1:Int) < ((0+1:Nat):Int))=false:=by decide
   rw[hd] at h6;refine⟨h1,h2,[⟨fn,pc.toNat,loc,stk⟩],rfl,rfl,?_,⟨rfl,h6⟩,fun f hf=>by rw [List.mem_singleton] at hf;rw [hf];exact h4⟩;show bs.drop s.p=a3g [⟨fn,pc.toNat,loc,stk⟩]++bs.drop s2.p;rw[h3];simp[a3g]
  | succ n =>
   have hd:decide ((1:Int) < ((n+1+1:Nat):Int))=true:=decide_eq_true Q8;rw[hd] at h5 h6;have h14:=h5 rfl;have hpc:pc.toNat < (g.f fn).n:=h6.pc_lt hp;have hl:m5 g.n (g.f fn).l (g.f fn).n ((g.f fn).op pc.toNat) ((g.f fn).ar pc.toNat)=true:=hp.legal fn hfn pc.toNat hpc;have hc:=A7 hl h14;obtain⟨a,hA⟩:=Int.eq_ofNat_of_zero_le hc.1;rw[hA] at hf ⊢;have ha:a < g.n:=by omega
   obtain⟨i1,i2,l,i3,i4,i5,i6,i7⟩:=b5I hr hp (n+1) a (acc++[⟨fn,pc.toNat,loc,stk⟩]) s2 ha h2 hf
   cases l with
   | nil=>simp at i4
   | cons c r =>
    have hcf:=c1R i6;refine⟨h1,i2,⟨fn,pc.toNat,loc,stk⟩::c::r,by rw [i3];simp,by simp at i4 ⊢;omega,?_,⟨rfl,?_,h14,by rw [hcf];exact hA,by rw [hcf];exact i6⟩,fun f hf=>?_⟩
    ·rw [h3,i5]
     simp[a3g,List.flatMap_cons]
    ·rw [if_pos rfl,hA,Int.toNat_natCast] at h6
     rw[hcf];exact h6
    ·rcases List.mem_cons.1 hf with rfl | hf
     ·exact h4
     ·exact i7 f hf
theorem b2a {g:PgR} : ∀(l low:List FrA) (fn:Nat),Y5 g fn low→Up g fn l→l≠[]→Z8 g (l.reverse++low)
 | [],_,_,_,_,h=>absurd rfl h
 | [f],low,fn,hl,hu,_=>by
  obtain⟨rfl,h2⟩:=hu;exact⟨h2,hl⟩
 | f::c::r,low,fn,hl,hu,_=>by
  obtain⟨rfl,h2,h3,h4,h5⟩:=hu;rw[List.reverse_cons,List.append_assoc];exact b2a (c::r) (f::low) c.fn ⟨h2,h3,h4,hl⟩ h5 Q9
theorem a8H {g:PgR} {l:List FrA} (h:Up g 0 l):Z8 g l.reverse:=by
 cases l with
 | nil=>trivial
 | cons f r =>
  have:=b2a (f::r) [] 0 rfl h Q9;rwa [List.append_nil] at this
theorem b3O {bs:List Int} (hr:J4 bs) {g:PgR} (hp:s7 g):Dec bs (N3 bs g) N2 (fun l=>l.length≤12∧Up g 0 l∧∀f,f∈l→a9q f):=fun s hps hf=>by
 have hf':(V6 bs g (c9 bs 12 s).1.toNat ((0:Nat):Int) [] (c9 bs 12 s).2).2.f=false:=hf;have hg0:0 < g.n:=hp.sized.1;have hf0:(c9 bs 12 s).2.f=false:=by
  cases e:(c9 bs 12 s).2.f
  ·rfl
  ·cases hn:(c9 bs 12 s).1.toNat with
   | zero=>rw [hn] at hf';rw [show V6 bs g 0 ((0:Nat):Int) [] (c9 bs 12 s).2=([],(c9 bs 12 s).2) from rfl] at hf';rw [e] at hf';cases hf'
   | succ n=>rw [hn,V6,if_pos e,e] at hf';cases hf'
 obtain⟨h1,h2,h3,h4⟩:=U0 hr 12 s hps hf0;obtain⟨g1,g2,l,g3,g4,g5,g6,g7⟩:=b5I hr hp _ 0 [] _ hg0 h2 hf';rw[List.nil_append] at g3;have e:(N3 bs g s).1=l:=g3;rw[e];have h3:bs.drop s.p=n8 ((c9 bs 12 s).1).toNat++_:=h3;refine⟨h1,g2,?_,by omega,g6,g7⟩;unfold N2;rw[g4,h3,g5,List.append_assoc];rfl
theorem b9B {bs:List Int} (hr:J4 bs) {g:PgR} (hp:s7 g) {s:Rs} (hps:s.p≤bs.length) (hg:a3f g (U7 bs s).1) (hf:(rM6 bs g s).f=false) :
  bs.drop s.p=machB g ⟨(rM1 bs s).1,(rM2 bs s).1,(rM3 bs g s).1,(rM5 bs g s).1,[]⟩∧a2g g ⟨(rM1 bs s).1,(rM2 bs s).1,(rM3 bs g s).1,(rM5 bs g s).1,[]⟩∧ArI g:=by
 obtain⟨m6,f5⟩:=T3 hf;have f4:(rM4 bs g s).f=false:=noF ((T1 bs _ _).trans (M8 (fun s=>(a5s bs s).1) _ _ _ _):Fwd _ (a0B bs (rM4 bs g s)).2) f5;obtain⟨m4,f3⟩:=T3 f4;have e4:rM4 bs g s=(rM3 bs g s).2:=by unfold rM4;rw [m4];rfl
 have hfw3:(rM2 bs s).2.f=false:=by
  have:(N3 bs g (rM2 bs s).2).2.f=false:=f3
  cases e:(rM2 bs s).2.f
  ·rfl
  ·have h0:=(T1 bs 12 (rM2 bs s).2).f e
   unfold N3 at this
   cases hn:(c9 bs 12 (rM2 bs s).2).1.toNat with
   | zero=>rw [hn] at this;rw [show V6 bs g 0 0 [] (c9 bs 12 (rM2 bs s).2).2=([],(c9 bs 12 (rM2 bs s).2).2) from rfl] at this;rw [h0] at this;cases this
   | succ n=>rw [hn,V6,if_pos h0,h0] at this;cases this
 have f1:(rM1 bs s).2.f=false:=noF ((T1 bs _ _).trans (M8 (fun s=>(a5r bs s).1) _ _ _ _):Fwd _ (a6a bs (rM1 bs s).2).2) hfw3;have f0:(U7 bs s).2.f=false:=noF (T1 bs _ _) f1;obtain⟨a1,a2,a3,a4⟩:=b9Z hr s hps f0;obtain⟨b1,b2,b3,b4⟩:=U0 hr 7 _ a2 f1;obtain⟨c1,c2,c3,c4⟩:=c1t hr _ b2 hfw3;obtain⟨d1,d2,d3,d4⟩:=b3O hr hp _ c2 f3;have f5':(a0B bs (rM3 bs g s).2).2.f=false:=by rw [← e4];exact f5
 obtain⟨k1,k2,k3,k4⟩:=b9p hr _ d2 f5';have e5:rM5 bs g s=a0B bs (rM3 bs g s).2:=by unfold rM5;rw [e4]
 have hend:bs.drop (a0B bs (rM3 bs g s).2).2.p=[]:=by
  rw[e5] at m6;rw[beq_iff_eq.1 m6];exact List.drop_length
 have k3:bs.drop (rM3 bs g s).2.p=L5 (a0B bs (rM3 bs g s).2).1++bs.drop (a0B bs (rM3 bs g s).2).2.p:=k3;rw[hend,List.append_nil] at k3;refine⟨?_,⟨⟨b4.1,b4.2.1⟩,c4,d4.2.1,⟨d4.1,d4.2.2⟩,?_,?_⟩,hg.arI a4⟩
 ·rw [a3]
  unfold machB;rw[hg.progB];have b3:bs.drop (U7 bs s).2.p=n8 ((rM1 bs s).1).toNat++bs.drop (rM1 bs s).2.p:=b3;have c3:bs.drop (rM1 bs s).2.p=a5k (rM2 bs s).1++bs.drop (rM2 bs s).2.p:=c3;have d3:bs.drop (rM2 bs s).2.p=N2 (rM3 bs g s).1++bs.drop (rM3 bs g s).2.p:=d3;have k3:bs.drop (rM3 bs g s).2.p=L5 (rM5 bs g s).1:=by rw [e5];exact k3
  simp only;rw[b3,c3,d3,k3];simp only[List.append_assoc]
 ·show (rM5 bs g s).1.length≤40∧_
  rw[e5];exact k4
 ·show (rM1 bs s).1=1↔(rM3 bs g s).1=[]
  have m4:=beq_iff_eq.1 m4;constructor
  ·intro h
   have:((rM1 bs s).1 == 1)=true:=by simpa using h
   rw[this] at m4;have:=m4.symm;simpa using this
  ·intro h
   rw[h] at m4;have:((rM1 bs s).1 == 1)=true:=m4;simpa using this
theorem b7e {l:List Nat} {n:Nat} (hl:l.length=n) (hlt:∀x,x∈l→x < n) (hn:l.Nodup) (hs:a2k l):l=List.range n:=by
 have hstep:∀i x y,l[i]?=some x→l[i+1]?=some y→x < y:=fun i x y h1 h2=>by
  have:=hs i x y h1 h2;have hne:x≠y:=fun e=>by
   rw[e] at h1;have:=a7p hn h1 h2;omega
  omega
 have low:∀(i x:Nat),l[i]?=some x→i≤x:=fun i=>by
  induction i with
  | zero=>intro x _;omega
  | succ i ih =>
   intro x hx;have hi:=(List.getElem?_eq_some_iff.1 hx).1;obtain⟨y,hy⟩:∃y,l[i]?=some y:=⟨_,List.getElem?_eq_getElem Q8⟩
   have:=ih y hy;have:=hstep i y x hy hx;omega
 have high:∀(k i x:Nat),i+k+1=n→l[i]?=some x→x≤i:=fun k=>by
  induction k with
  | zero=>intro i x hi hx;have:=hlt x (List.mem_of_getElem? hx);omega
  | succ k ih =>
   intro i x hi hx;obtain⟨y,hy⟩:∃y,l[i+1]?=some y:=⟨_,List.getElem?_eq_getElem Q8⟩
   have:=ih (i+1) y Q8 hy;have:=hstep i x y hx hy;omega
 refine List.ext_getElem? fun i=>?_
 by_cases hi:i < n
 ·rw [List.getElem?_range hi,List.getElem?_eq_getElem Q8]
  have h1:=low i _ (List.getElem?_eq_getElem Q8);have h2:=high (n - 1 - i) i _ Q8 (List.getElem?_eq_getElem Q8);congr 1
  omega
 ·rw [List.getElem?_eq_none_iff.2 Q8,List.getElem?_eq_none_iff.2 (by rw [List.length_range];omega)]
structure b8H (p:McA):Prop where
 frs:∀f,f∈p.frs→∀v,v∈f.loc++f.stk→v.1=2→0≤v.2∧v.2.toNat < p.obs.length
 obs:∀o,o∈p.obs→∀v,v∈o.2→v.1=2→0≤v.2∧v.2.toNat < p.obs.length
theorem c1C {R:McR} (h:W9 R):b8H R.abs:=by
 have hl:R.abs.obs.length=R.obs.length:=List.length_map _;refine⟨fun f hf v hv h2=>?_,fun o ho v hv h2=>?_⟩
 ·obtain ⟨x,hx,rfl⟩:=List.mem_map.1 hf
  obtain⟨i,hi⟩:=List.getElem?_of_mem hx;rw[hl];rcases List.mem_append.1 hv with hv | hv
  ·exact h.1 _ _ _ _ (Or.inl ⟨i,x,hi,rfl,rfl,rfl,rfl⟩) v hv h2
  ·exact h.1 _ _ _ _ (Or.inr (Or.inl ⟨i,x,hi,rfl,rfl,rfl,rfl⟩)) v hv h2
 ·obtain ⟨x,hx,rfl⟩:=List.mem_map.1 ho
  obtain⟨i,hi⟩:=List.getElem?_of_mem hx;rw[hl];exact h.1 _ _ _ _ (Or.inr (Or.inr ⟨i,x,hi,rfl,rfl,rfl,rfl⟩)) v hv h2
def a2D (p:McA):McA:=if p.obs=[] then { p with obs:=[(0,[])] } else p
theorem b6Z {o:Ob} (h:a9s o):o.1≠0:=by
 rcases h.2 with ⟨e,_⟩ | ⟨e,_⟩ | ⟨e,_⟩ <;> omega
theorem b1L {obs:List Ob} (hk:∀o,o∈obs→o.1≠0) {v:Val} (h:a3h v) (hr:v.1=2→0≤v.2∧v.2.toNat < obs.length):VOk obs v:=by
 rcases h.2 with h | h | h
 ·exact Or.inl h
 ·exact Or.inr (Or.inl h)
 ·obtain ⟨h0,hl⟩:=hr h
  exact Or.inr (Or.inr ⟨h,h0,_,List.getElem?_eq_getElem hl,hk _ (List.getElem_mem hl)⟩)
theorem a9a {g:PgR} {p:McA} (h:a2g g p) (hr:b8H p) (hd:p.dr=[]):e8 g (a2D p)∧o7 (a2D p)∧J5 (a2D p):=by
 have hk:∀o,o∈p.obs→o.1≠0:=fun o ho=>b6Z (h.obs.2 o ho)
 have hfv:∀f,f∈p.frs→∀v,v∈f.loc++f.stk→a3h v:=fun f hf v hv=>by
  rcases List.mem_append.1 hv with hv | hv
  ·exact (h.frs.2 f hf).loc v hv
  ·exact (h.frs.2 f hf).stk v hv
 have hrun:p.st=0→p.frs≠[]:=fun h0 e=>by
  have:=h.halt.2 e;omega
 unfold a2D;by_cases he:p.obs=[]
 ·rw [if_pos he]
  refine⟨⟨hrun,a8H h.up,h.frs.1,fun f hf v hv=>?_,fun o ho=>?_,⟨by show 1≤1;omega,by show 1≤40;omega⟩,h.out.1,by show p.dr.length≤200;rw [hd];exact Nat.zero_le _⟩,⟨h.st,h.out.2,fun f hf v hv=>(hfv f hf v hv).1.1,fun o ho v hv=>?_⟩,h.halt⟩
  ·rcases (hfv f hf v hv).2 with q | q | q
   ·exact Or.inl q
   ·exact Or.inr (Or.inl q)
   ·have:=(hr.frs f hf v hv q).2
    rw[he] at this;simp at this
  ·have ho:o∈[((0,[]):Ob)]:=ho
   rw[List.mem_singleton] at ho;rw[ho];exact Or.inl ⟨rfl,rfl⟩
  ·have ho:o∈[((0,[]):Ob)]:=ho
   rw[List.mem_singleton] at ho;rw[ho] at hv
   cases hv
 ·rw [if_neg he]
  have hpos:1≤p.obs.length:=by
   rcases Nat.eq_zero_or_pos p.obs.length with q | q
   ·exact absurd (List.length_eq_zero_iff.1 q) he
   ·exact q
  refine⟨⟨hrun,a8H h.up,h.frs.1,fun f hf v hv=>b1L hk (hfv f hf v hv) (hr.frs f hf v hv),fun o ho=>?_,⟨hpos,h.obs.1⟩,h.out.1,by rw [hd];exact Nat.zero_le _⟩,⟨h.st,h.out.2,fun f hf v hv=>(hfv f hf v hv).1.1,fun o ho v hv=>((h.obs.2 o ho).1 v hv).1.1⟩,h.halt⟩;have hv:∀v,v∈o.2→VOk p.obs v:=fun v hv=>b1L hk ((h.obs.2 o ho).1 v hv) (hr.obs o ho v hv)
  rcases (h.obs.2 o ho).2 with ⟨e,e2⟩ | ⟨e,e2⟩ | ⟨e,e2,e3⟩
  ·exact Or.inr (Or.inl ⟨e,e2,hv⟩)
  ·exact Or.inr (Or.inr (Or.inl ⟨e,e2,hv⟩))
  ·obtain ⟨u,hu⟩:=List.length_eq_one_iff.1 e2
   exact Or.inr (Or.inr (Or.inr ⟨e,u,hu,hv u (by rw [hu];simp),e3 u (by rw [hu];simp)⟩))
theorem a2y {n:Nat} {v:Val} (h:v.1=2→0≤v.2∧v.2.toNat < n):j4 (List.range n) v=v:=by
 unfold j4;by_cases h2:v.1=2
 ·obtain ⟨h0,hl⟩:=h h2
  rw[if_pos h2,c2k List.nodup_range (List.getElem?_range hl)];show (2,((v.2.toNat:Nat):Int))=v;exact Prod.ext h2.symm (by show ((v.2.toNat:Nat):Int)=v.2;omega)
 ·rw [if_neg h2]
theorem a4s {α:Type} {l:List α} {f:α→α} (h:∀x,x∈l→f x=x):l.map f=l:=by
 conv=>rhs;rw [← List.map_id l]
 exact List.map_congr_left h
theorem b4S {g:PgR} {p:McA} (h:a2g g p) (hr:b8H p) (hd:p.dr=[]) (h1:(a6 p).length=p.obs.length) (hs:a2k (a6 p)):g8 (a2D p)=p:=by
 have hI:=(a9a h hr hd).1;have hfr:∀n,(∀f,f∈p.frs→∀v,v∈f.loc++f.stk→v.1=2→0≤v.2∧v.2.toNat < n)→p.frs.map (a1p (List.range n))=p.frs:=fun n hn=>a4s fun f hf=>by
  show FrA.mk f.fn f.pc (f.loc.map _) (f.stk.map _)=f;rw[a4s fun v hv=>a2y (hn f hf v (by simp [hv])),a4s fun v hv=>a2y (hn f hf v (by simp [hv]))]
 by_cases he:p.obs=[]
 ·have e:a2D p={ p with obs:=[(0,[])] }:=by unfold a2D;rw [if_pos he]
  have hnor:∀f,f∈p.frs→∀v,v∈f.loc++f.stk→v.1≠2:=fun f hf v hv h2=>by
   have:=(hr.frs f hf v hv h2).2;rw[he] at this;simp at this
  have hal:a6 (a2D p)=[]:=by
   have hm:r7 [] (z7 p.frs)=[]:=by
    have:∀j,j∉r7 [] (z7 p.frs):=fun j hj=>by
     rcases (K2 _ _ _).1 hj with q | ⟨v,hv,h2,_⟩
     ·cases q
     ·obtain ⟨f,hf,hv⟩:=D0.1 hv
      exact hnor f hf v hv h2
    exact List.eq_nil_iff_forall_not_mem.2 this
   rw[e];show z8 [(0,[])] 1 0 (r7 [] (z7 p.frs))=[];rw[hm];rfl
  unfold g8;rw[hal];rw[e];show McA.mk p.st p.out (p.frs.map (a1p [])) [] []=p;have:p.frs.map (a1p [])=p.frs:=hfr 0 fun f hf v hv h2=>absurd h2 (hnor f hf v hv)
  rw[this];obtain⟨a,b,c,d,e'⟩:=p;simp only at he hd;rw[he,hd]
 ·have e:a2D p=p:=by unfold a2D;rw [if_neg he]
  rw[e] at hI ⊢;have hal:a6 p=List.range p.obs.length:=b7e h1 (fun x hx=>hI.alive.lt x hx) hI.alive.nodup hs;unfold g8;rw[hal,hfr _ hr.frs];have ho:(List.range p.obs.length).map (J8 p)=p.obs:=a0S p.obs (J8 p) fun i x hx=>by
   unfold J8;rw[hx,hal];show (x.1,x.2.map _)=x;rw[a4s fun v hv=>a2y (hr.obs x (List.mem_of_getElem? hx) v hv)]
  rw[ho];obtain⟨a,b,c,d,e'⟩:=p;simp only at hd;rw[hd]
end Go.Proofs.YtbkmgoffiigdbabGreatDoor
