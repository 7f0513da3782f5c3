import Derived.Test.YtbkmgoffiigdbabGreatDoorVYc
import Derived.Test.YtbkmgoffiigdbabGreatDoorVZq
namespace Go.Proofs.YtbkmgoffiigdbabGreatDoor
open Go.RowKit Go.Sort
set_option maxHeartbeats 8000000
set_option maxRecDepth 100000
theorem c1J {xs ys:List Int} (hx:J4 xs) (hy:J4 ys) (h:strOfNums xs=strOfNums ys):xs=ys:=by
 have h1:(xs.map fun n=>UInt8.ofNat n.toNat)=ys.map fun n=>UInt8.ofNat n.toNat:=by
  have:=congrArg (fun b:ByteArray=>b.data.toList) h;simpa [strOfNums] using this
 have hl:xs.length=ys.length:=by have:=congrArg List.length h1;simpa using this
 refine List.ext_getElem? fun i=>?_
 by_cases hi:i < xs.length
 ·rw [List.getElem?_eq_getElem hi,List.getElem?_eq_getElem Q8]
  have h2:=congrArg (fun l:List UInt8=>l[i]?) h1;simp only[List.getElem?_map,List.getElem?_eq_getElem hi,List.getElem?_eq_getElem (show i < ys.length by omega),Option.map_some] at h2;have h3:=congrArg UInt8.toNat (Option.some.inj h2);have bx:=hx _ (List.getElem_mem hi);have by':=hy _ (List.getElem_mem (show i < ys.length by omega))
  rw[UInt8.toNat_ofNat',UInt8.toNat_ofNat',Nat.mod_eq_of_lt Q8,Nat.mod_eq_of_lt Q8] at h3;congr 1
  omega
 ·rw [List.getElem?_eq_none_iff.2 Q8,List.getElem?_eq_none_iff.2 Q8]
theorem b1z {W:World} {b1 o1 b2 o2:Nat} {xs ys:List Int} (h1:a2l W b1 o1 xs) (h2:a2l W b2 o2 ys) (hx:J4 xs) (hy:J4 ys) (hne:xs≠ys) (c1 c2 n m:Nat) (hn:n=xs.length) (hm:m=ys.length) :
  Calls Tryz.prog 78 #[.slice (some ⟨b1,o1,none⟩) n c1,.slice (some ⟨b2,o2,none⟩) m c2] W fun e w'=>e=.returned (.bool false)∧w'=W:=by
 have k1:=run_convert_bytes_arg (P:=Tryz.prog) W 33 5 Tryz.underlying33 Tryz.underlying5 b1 o1 n c1 xs hn.symm (by rw [hn];exact h1) 9 Tryz.underlying9;have k2:=run_convert_bytes_arg (P:=Tryz.prog) W 33 5 Tryz.underlying33 Tryz.underlying5 b2 o2 m c2 ys hm.symm (by rw [hm];exact h2) 9 Tryz.underlying9;have hs:¬strOfNums xs=strOfNums ys:=fun e=>hne (c1J hx hy e)
 have hs2:((strOfNums xs).toList == (strOfNums ys).toList)=false:=beq_eq_false_iff_ne.2 fun e=>hs (by
  rw[ByteArray.toList_eq,ByteArray.toList_eq] at e;have e2:(strOfNums xs).data=(strOfNums ys).data:=Array.toList_inj.1 e;exact congrArg ByteArray.mk e2)
 clear hn hm h1 h2 hx hy hne;go_enter Tryz.func78,Tryz.ntmps78;go_wp2_with fail;go_ret;exact⟨rfl,rfl⟩
theorem b7X {W:World} {b1 o1 b2 o2:Nat} {xs ys:List Int} (h1:a2l W b1 o1 xs) (h2:a2l W b2 o2 ys) (hx:J4 xs) (hy:J4 ys) (hne:xs≠ys) (n1 c1 c2 n:Nat) (hn:n=xs.length) (hm:n=ys.length) (hle:n≤n1) (hc:n1≤c1) :
  Calls Tryz.prog 76 #[.slice (some ⟨b1,o1,none⟩) n1 c1,.slice (some ⟨b2,o2,none⟩) n c2] W fun e w'=>e=.returned (.bool false)∧w'=W:=by
 have HEQ:Hid (Calls Tryz.prog 78 #[.slice (some ⟨b1,o1,none⟩) n c1,.slice (some ⟨b2,o2,none⟩) n c2] W fun e w'=>e=.returned (.bool false)∧w'=W):=hid (b1z h1 h2 hx hy hne c1 c2 n n hn hm);have hge:(n:Int)≤(n1:Int):=by omega
 have hlt:¬(n1:Int) < (n:Int):=by omega
 have hnc:n≤c1:=by omega
 clear hn hm h1 h2 hx hy hne;go_enter Tryz.func76,Tryz.ntmps76;go_wp2_with (go_at_call 78;refine HEQ.out.mono ?_;rintro e w1 ⟨rfl,rfl⟩)
 go_ret;exact⟨rfl,rfl⟩
theorem b2Y (w:World):Calls Tryz.prog 77 #[.int .u8 1] w fun e w'=>e=.returned (.tuple #[.agg #[.func (.func 104) #[] #[],.func (.func 105) #[] #[],.func (.func 106) #[] #[],.func (.func 107) #[] #[],.func (.func 108) #[] #[]],.bool true])∧Below w.heap.size w w':=by
 go_enter Tryz.func77,Tryz.ntmps77;go_wp2_with fail;refine bodyPost_ret (v:=.tuple #[.agg #[.func (.func 104) #[] #[],.func (.func 105) #[] #[],.func (.func 106) #[] #[],.func (.func 107) #[] #[],.func (.func 108) #[] #[]],.bool true]) (by simp [results,Tryz.results77,go_sem]) rfl ?_;refine⟨rfl,?_⟩
 repeat (first | exact Below.refl _ _ | refine Below.setCell ?_ (by first | exact Nat.le_refl _ | (simp;done)) _ | refine Below.alloc ?_ P7 _)
theorem c0E (x:Int) (h1:x≠1) (h2:x≠2) (w:World):Calls Tryz.prog 77 #[.int .u8 x] w fun e w'=>e=.returned (.tuple #[.agg #[.nilFunc,.nilFunc,.nilFunc,.nilFunc,.nilFunc],.bool false])∧Below w.heap.size w w':=by
 have e1:(x == 1)=false:=beq_eq_false_iff_ne.2 h1;have e2:(x == 2)=false:=beq_eq_false_iff_ne.2 h2;go_enter Tryz.func77,Tryz.ntmps77;go_wp2_with fail;refine bodyPost_ret (v:=.tuple #[.agg #[.nilFunc,.nilFunc,.nilFunc,.nilFunc,.nilFunc],.bool false]) (by simp [results,Tryz.results77,go_sem]) rfl ?_;exact⟨rfl,Below.alloc (Below.refl _ _) (Nat.le_refl _) _⟩
structure a4Q (W:World) (gb cap n:Nat) (img:List Int):Prop where
 len:img.length=n+4
 n4:4≤n
 n2:n+4≤20000
 cap:n+4≤cap
 lt:gb < W.heap.size
 rng:J4 img
 cell:∀(i:Nat) (x:Int),img[i]?=some x→W.cell? ⟨gb,i,none⟩=some (.int .u8 x)
theorem a4Q.later {W U:World} {gb cap n:Nat} {img:List Int} (h:a4Q W gb cap n img) (hB:Below W.heap.size W U):a4Q U gb cap n img :=
 ⟨h.len,h.n4,h.n2,h.cap,Nat.lt_of_lt_of_le h.lt hB.size,h.rng,fun i x hx=>(hB.cell (p:=⟨gb,i,none⟩) h.lt).trans (h.cell i x hx)⟩
theorem a4Q.part {W:World} {gb cap n:Nat} {img:List Int} (h:a4Q W gb cap n img) (o m:Nat) (hm:o+m≤img.length):a2l W gb o ((img.drop o).take m):=fun i hi=>by
 have hl:((img.drop o).take m).length=m:=by rw [List.length_take,List.length_drop];omega
 rw[hl] at hi;have e:((img.drop o).take m)[i]?=some (img[o+i]' Q8):=by
  rw[List.getElem?_take,if_pos hi,List.getElem?_drop,List.getElem?_eq_getElem Q8]
 rw[List.getD_eq_getElem?_getD,e];exact h.cell (o+i) _ (List.getElem?_eq_getElem Q8)
theorem b1e {l k:List Int} (h:J4 l) (hs:∀x,x∈k→x∈l):J4 k:=fun x hx=>h x (hs x hx)
theorem b6h (l:List Int):J4 (B5 l):=fun x hx=>by
 unfold B5 at hx;simp at hx;rcases hx with rfl | rfl | rfl | rfl <;> omega
def Z9 (code:Int) (W:World) (e:Ending) (w':World):Prop:=e=.returned (.tuple #[.pointer none,.int .i64 code])∧Below W.heap.size W w'
theorem a4y {W:World} {gb cap n:Nat} {img:List Int} (h:a4Q W gb cap n img) (hm:img.take 3≠[83,76,77]) :
  Calls Tryz.prog 50 #[.slice (some ⟨gb,0,none⟩) (n+4) cap] W fun e w'=>Z9 8 W e w':=by
 have hgb:=h.lt;have h4:=h.n4;have h2:=h.n2;have hcp:=h.cap;have hlen:=h.len;have HPF:Hid (∀(U:World) (k c2:Nat),Below W.heap.size W U→(∀j u,[Value.int .u8 83,.int .u8 76,.int .u8 77][j]?=some u→U.cell? ((⟨k,0,none⟩:Addr).add j)=some u)→Calls Tryz.prog 76 #[.slice (some ⟨gb,0,none⟩) (n+4) cap,.slice (some ⟨k,0,none⟩) 3 c2] U fun e w'=>e=.returned (.bool false)∧w'=U):=hid fun U k c2 hU q=>by
  have hp:=(h.later hU).part 0 3 Q8;rw[List.drop_zero] at hp;exact b7X hp (ys:=[83,76,77]) (fun i hi=>by
   rw[Nat.zero_add,← E9]
   match i,hi with
   | 0,_=>exact q 0 _ rfl
   | 1,_=>exact q 1 _ rfl
   | 2,_=>exact q 2 _ rfl) (b1e h.rng fun x hx=>List.mem_of_mem_take hx) (fun x hx=>by simp at hx;rcases hx with rfl | rfl | rfl <;> decide) hm _ _ _ 3 (by rw [List.length_take];omega) rfl Q8 Q8
 have kc:=fun (w:World) (C:Array Value) (n c:Nat)=>Go.Lib.run_convert_bytes_const (P:=Tryz.prog) w 33 5 C n c Tryz.underlying33 Tryz.underlying5
 have hi1:¬(20000:Int) < ((n+4:Nat):Int):=by omega
 have hi2:¬((n+4:Nat):Int) < 8:=by omega
 have hi3:¬(20000:Int) < (n:Int)+4:=by omega
 have hi4:¬(n:Int)+4 < 8:=by omega
 clear h hm hlen;go_enter Tryz.func50,Tryz.ntmps50;go_wp2_with fail;refine (HPF.out _ _ _ P0 (World.news_of_block (cs:=#[.int .u8 83,.int .u8 76,.int .u8 77]) (t:=5) (fr:=(3,4)) (j6 rfl))).mono ?_;rintro e w1 ⟨rfl,rfl⟩;clear kc HPF;go_wp2_with fail
 go_ret2;exact⟨rfl,Below.alloc (Below.refl _ _) (Nat.le_refl _) _⟩
theorem a2x {W:World} {gb cap n:Nat} {img:List Int} (h:a4Q W gb cap n img) (hm:img.take 3=[83,76,77]) (v:Int) (hv:img[3]?=some v) (v1:v≠1) (v2:v≠2) :
  Calls Tryz.prog 50 #[.slice (some ⟨gb,0,none⟩) (n+4) cap] W fun e w'=>Z9 9 W e w':=by
 have hgb:=h.lt;have h4:=h.n4;have h2:=h.n2;have hcp:=h.cap;have hlen:=h.len;have u3:=h.cell 3 v hv;have HPF:Hid (∀(U:World) (k c2:Nat),Below W.heap.size W U→(∀j u,[Value.int .u8 83,.int .u8 76,.int .u8 77][j]?=some u→U.cell? ((⟨k,0,none⟩:Addr).add j)=some u)→Calls Tryz.prog 76 #[.slice (some ⟨gb,0,none⟩) (n+4) cap,.slice (some ⟨k,0,none⟩) 3 c2] U fun e w'=>e=.returned (.bool true)∧w'=U):=hid fun U k c2 hU q=>by
  have hp:=(h.later hU).part 0 3 Q8;rw[List.drop_zero,hm] at hp;exact a0A hp (xs:=[83,76,77]) (fun i hi=>by
   rw[Nat.zero_add,← E9]
   match i,hi with
   | 0,_=>exact q 0 _ rfl
   | 1,_=>exact q 1 _ rfl
   | 2,_=>exact q 2 _ rfl) _ _ _ 3 rfl Q8 Q8
 have HV:Hid (∀U:World,Calls Tryz.prog 77 #[.int .u8 v] U fun e w'=>e=.returned (.tuple #[.agg #[.nilFunc,.nilFunc,.nilFunc,.nilFunc,.nilFunc],.bool false])∧Below U.heap.size U w'):=hid fun U=>c0E v v1 v2 U
 have kc:=fun (w:World) (C:Array Value) (n c:Nat)=>Go.Lib.run_convert_bytes_const (P:=Tryz.prog) w 33 5 C n c Tryz.underlying33 Tryz.underlying5
 have hi1:¬(20000:Int) < ((n+4:Nat):Int):=by omega
 have hi2:¬((n+4:Nat):Int) < 8:=by omega
 have hi3:¬(20000:Int) < (n:Int)+4:=by omega
 have hi4:¬(n:Int)+4 < 8:=by omega
 have h34:(3:Nat) < n+4:=by omega
 clear h hm hlen hv v1 v2;go_enter Tryz.func50,Tryz.ntmps50;go_wp2_with fail;refine (HPF.out _ _ _ P0 (World.news_of_block (cs:=#[.int .u8 83,.int .u8 76,.int .u8 77]) (t:=5) (fr:=(3,4)) (j6 rfl))).mono ?_;rintro e w1 ⟨rfl,rfl⟩;clear kc HPF;go_wp2_with fail
 refine (HV.out _).mono ?_;rintro e w2 ⟨rfl,hb2⟩;have HB2:Hid (Below W.heap.size W w2):=a0 hb2 (Below.alloc (Below.refl _ _) (Nat.le_refl _) _);have hs2:=HB2.out.size;clear hb2 HV;go_wp2_with fail;go_ret2;exact⟨rfl,Below.alloc HB2.out hs2 _⟩
def c2R (o:Bool):Value:=if o then .agg #[.func (.func 104) #[] #[],.func (.func 105) #[] #[],.func (.func 106) #[] #[],.func (.func 107) #[] #[],.func (.func 108) #[] #[]] else .agg #[.func (.func 109) #[] #[],.func (.func 110) #[] #[],.func (.func 111) #[] #[],.func (.func 112) #[] #[],.func (.func 112) #[] #[]]
theorem a7r {W:World} {gb cap n:Nat} {img:List Int} (h:a4Q W gb cap n img) (hm:img.take 3=[83,76,77]) (o:Bool) (hv:img[3]?=some (if o then 1 else 2)) (hsum:img.drop n≠B5 (img.take n)) :
  Calls Tryz.prog 50 #[.slice (some ⟨gb,0,none⟩) (n+4) cap] W fun e w'=>Z9 10 W e w':=by
 have hgb:=h.lt;have h4:=h.n4;have h2:=h.n2;have hcp:=h.cap;have hlen:=h.len;have u3:=h.cell 3 _ hv;have HPF:Hid (∀(U:World) (k c2:Nat),Below W.heap.size W U→(∀j u,[Value.int .u8 83,.int .u8 76,.int .u8 77][j]?=some u→U.cell? ((⟨k,0,none⟩:Addr).add j)=some u)→Calls Tryz.prog 76 #[.slice (some ⟨gb,0,none⟩) (n+4) cap,.slice (some ⟨k,0,none⟩) 3 c2] U fun e w'=>e=.returned (.bool true)∧w'=U):=hid fun U k c2 hU q=>by
  have hp:=(h.later hU).part 0 3 Q8;rw[List.drop_zero,hm] at hp;exact a0A hp (xs:=[83,76,77]) (fun i hi=>by
   rw[Nat.zero_add,← E9]
   match i,hi with
   | 0,_=>exact q 0 _ rfl
   | 1,_=>exact q 1 _ rfl
   | 2,_=>exact q 2 _ rfl) _ _ _ 3 rfl Q8 Q8
 obtain⟨arr,harr⟩:∃arr,arr=(B6 (B5 (img.take n))).toArray:=⟨_,rfl⟩
 have hnl:(img.take n).length=n:=by rw [List.length_take];omega
 have HSUM:Hid (∀U:World,Below W.heap.size W U→Calls Tryz.prog 47 #[.slice (some ⟨gb,0,none⟩) n cap] U fun e w'=>e=.returned (.slice (some ⟨U.heap.size,0,none⟩) 4 4)∧w'=U.alloc (.cells arr 5)):=hid fun U hU=>by
  have:=a3a (W:=U) (some ⟨gb,0,none⟩) cap (img.take n) (fun h0=>⟨gb,0,rfl,Nat.lt_of_lt_of_le hgb hU.size,fun i x hx=>by
   rw[Nat.zero_add];have hi:=(List.getElem?_eq_some_iff.1 hx).1;rw[List.getElem?_take,if_pos Q8] at hx;exact (h.later hU).cell i x hx⟩) Q8
  rw[hnl,← harr] at this;exact this
 have HEQ:Hid (∀(U:World) (k:Nat),Below W.heap.size W U→U.heap.size=k→Calls Tryz.prog 78 #[.slice (some ⟨gb,n,none⟩) 4 (cap - n),.slice (some ⟨k,0,none⟩) 4 4] (U.alloc (.cells arr 5)) fun e w'=>e=.returned (.bool false)∧w'=U.alloc (.cells arr 5)):=hid fun U k hU hk=>by
  rw[harr,← hk];have hp:=(h.later (Below.alloc hU hU.size (.cells (B6 (B5 (img.take n))).toArray 5))).part n 4 Q8;have e:(img.drop n).take 4=img.drop n:=List.take_of_length_le (by rw [List.length_drop];omega);rw[e] at hp;exact b1z hp (b5k U (B5 (img.take n)) _) (b1e h.rng fun x hx=>List.mem_of_mem_drop hx) (b6h _) hsum _ _ 4 4 (by rw [List.length_drop];omega) rfl
 have HV:Hid (∀U:World,Calls Tryz.prog 77 #[.int .u8 (if o then 1 else 2)] U fun e w'=>e=.returned (.tuple #[c2R o,.bool true])∧Below U.heap.size U w'):=hid fun U=>by
  cases o
  ·exact b2Z U
  ·exact b2Y U
 have kc:=fun (w:World) (C:Array Value) (n c:Nat)=>Go.Lib.run_convert_bytes_const (P:=Tryz.prog) w 33 5 C n c Tryz.underlying33 Tryz.underlying5
 have hi3:¬(20000:Int) < (n:Int)+4:=by omega
 have hi4:¬(n:Int)+4 < 8:=by omega
 have hi1:¬(20000:Int) < ((n+4:Nat):Int):=by omega
 have hi2:¬((n+4:Nat):Int) < 8:=by omega
 have hw1:IntKind.i64.wrap ((n:Int)+4 - 4)=(n:Int):=by rw [Int.add_sub_cancel];exact Go.IntWalk.i64_in _ Q8
 have hw2:IntKind.i64.wrap (((n+4:Nat):Int) - 4)=(n:Int):=by
  have:((n+4:Nat):Int) - 4=(n:Int):=by omega
  rw[this];exact Go.IntWalk.i64_in _ Q8
 have hc1:n≤cap:=by omega
 have hc2:n+4≤cap:=by omega
 have hc3:¬n=cap:=by omega
 have hc4:¬cap=n:=by omega
 have h34:(3:Nat) < n+4:=by omega
 clear h hm hlen hv hsum hnl harr;generalize (if o then (1:Int) else 2)=v at *
 obtain⟨p0,p1,p2,p3,p4,hver⟩:∃p0 p1 p2 p3 p4:Nat,c2R o=.agg #[.func (.func p0) #[] #[],.func (.func p1) #[] #[],.func (.func p2) #[] #[],.func (.func p3) #[] #[],.func (.func p4) #[] #[]]:=by
  cases o
  ·exact ⟨109,110,111,112,112,rfl⟩
  ·exact ⟨104,105,106,107,108,rfl⟩
 rw[hver] at HV;clear hver;go_enter Tryz.func50,Tryz.ntmps50;go_wp2_with fail;refine (HPF.out _ _ _ P0 (World.news_of_block (cs:=#[.int .u8 83,.int .u8 76,.int .u8 77]) (t:=5) (fr:=(3,4)) (j6 rfl))).mono ?_;rintro e w1 ⟨rfl,rfl⟩;clear kc HPF
 go_wp2_with fail;refine (HV.out _).mono ?_;rintro e w2 ⟨rfl,hb2⟩;have HB2:Hid (Below W.heap.size W w2):=a0 hb2 (Below.alloc (Below.refl _ _) (Nat.le_refl _) _);have hs2:=HB2.out.size;clear hb2 HV;go_wp2_with fail;go_region
 go_wp2_with fail;refine (HSUM.out _ (Below.drew (Below.alloc HB2.out hs2 _))).mono ?_;rintro e w3 ⟨rfl,rfl⟩;clear HSUM;go_wp2_with fail;refine (HEQ.out _ _ (Below.drew (Below.alloc HB2.out hs2 _)) Q9).mono ?_;rintro e w4 ⟨rfl,rfl⟩;clear HEQ;go_wp2_with fail;go_ret2;exact⟨rfl,Below.alloc (Below.drew (Below.alloc HB2.out hs2 _)) Q5 _⟩
def a4T (gb cap:Nat) (core:List Int) (W:World) (e:Ending) (w':World):Prop :=
 ∃rb,e=.returned (.tuple #[.pointer (some ⟨rb,0,none⟩),.int .i64 0])∧r6 w' rb (some ⟨gb,0,none⟩) cap core ⟨4,false⟩∧Below W.heap.size W w'∧W.heap.size≤rb
theorem b4s {W:World} {gb cap:Nat} {core rest:List Int} (hb:D9 W (some ⟨gb,0,none⟩) (core++B5 core)) (hcore:core=[83,76,77]++(1::rest)) (hl:core.length+4≤20000) (hcap:core.length+4≤cap) (hrng:∀x,x∈core→0≤x∧x < 256) (n:Nat) (hn:n=core.length) :
  Calls Tryz.prog 50 #[.slice (some ⟨gb,0,none⟩) (n+4) cap] W fun e w'=>a4T gb cap core W e w':=by
 obtain⟨b,o,e,hgb,hcs⟩:=hb (by rw [hcore];simp)
 cases e;have hlen:core.length=rest.length+4:=by rw [hcore];simp
 have e0:core++B5 core=[]++([83,76,77]++((1::rest)++B5 core)):=by
  rw[List.nil_append,← List.append_assoc,← hcore]
 have u0:a2l W gb 0 [83,76,77]:=b6k (pre:=[]) (post:=(1::rest)++B5 core) hcs e0;clear e0;have u3:W.cell? ⟨gb,3,none⟩=some (.int .u8 1):=by
  have:=hcs 3 1 (by rw [hcore];rfl);rwa [Nat.zero_add] at this
 have u4:a2l W gb n (B5 core):=by
  have:=b6k (pre:=core) (xs:=B5 core) (post:=[]) hcs Q9;rw[Nat.zero_add,← hn] at this;exact this
 have HPF:Hid (∀(U:World) (k c2:Nat),Below W.heap.size W U→(∀j u,[Value.int .u8 83,.int .u8 76,.int .u8 77][j]?=some u→U.cell? ((⟨k,0,none⟩:Addr).add j)=some u)→Calls Tryz.prog 76 #[.slice (some ⟨gb,0,none⟩) (n+4) cap,.slice (some ⟨k,0,none⟩) 3 c2] U fun e w'=>e=.returned (.bool true)∧w'=U):=hid fun U k c2 hU q =>
  a0A (a4L u0 hgb hU) (xs:=[83,76,77]) (fun i hi=>by
   rw[Nat.zero_add,← E9]
   match i,hi with
   | 0,_=>exact q 0 _ rfl
   | 1,_=>exact q 1 _ rfl
   | 2,_=>exact q 2 _ rfl) _ _ _ _ rfl Q8 Q8
 obtain⟨arr,harr⟩:∃arr,arr=(B6 (B5 core)).toArray:=⟨_,rfl⟩
 have HSUM:Hid (∀U:World,Below W.heap.size W U→Calls Tryz.prog 47 #[.slice (some ⟨gb,0,none⟩) n cap] U fun e w'=>e=.returned (.slice (some ⟨U.heap.size,0,none⟩) 4 4)∧w'=U.alloc (.cells arr 5)):=hid fun U hU=>by
  rw[hn,harr];refine a3a _ _ _ (fun h0=>⟨gb,0,rfl,Nat.lt_of_lt_of_le hgb hU.size,fun i x hx=>?_⟩) Q8;refine (hU.cell (p:=⟨gb,0+i,none⟩) hgb).trans (hcs i x ?_);rw[List.getElem?_append_left (List.getElem?_eq_some_iff.1 hx).1];exact hx
 have HEQ:Hid (∀(U:World) (k:Nat),Below W.heap.size W U→U.heap.size=k→Calls Tryz.prog 78 #[.slice (some ⟨gb,n,none⟩) 4 (cap - n),.slice (some ⟨k,0,none⟩) 4 4] (U.alloc (.cells arr 5)) fun e w'=>e=.returned (.bool true)∧w'=U.alloc (.cells arr 5)):=hid fun U k hU hk=>by
  rw[harr,← hk];exact a3B (a4L u4 hgb (Below.alloc hU hU.size _)) (b5k U (B5 core) _) _ _ 4 rfl
 have HRD:Hid (∀(V:World) (rb:Nat),Below W.heap.size W V→W.heap.size≤rb→rb < V.heap.size→V.cell? ⟨rb,0,none⟩=some (.slice (some ⟨gb,0,none⟩) n cap)→V.cell? ⟨rb,1,none⟩=some (.int .i64 4)→V.cell? ⟨rb,2,none⟩=some (.bool false)→V.cell? ⟨rb,3,none⟩=some (.func (.func 104) #[] #[])→V.cell? ⟨rb,4,none⟩=some (.func (.func 105) #[] #[])→V.cell? ⟨rb,5,none⟩=some (.func (.func 106) #[] #[])→V.cell? ⟨rb,6,none⟩=some (.func (.func 107) #[] #[])→V.cell? ⟨rb,7,none⟩=some (.func (.func 108) #[] #[])→(∀j,V.frozen? ⟨rb,j,none⟩=false)→a4T gb cap core W (.returned (.tuple #[.pointer (some ⟨rb,0,none⟩),.int .i64 0])) V):=hid fun V rb hV hge hlt q0 q1 q2 q3 q4 q5 q6 q7 qz=>by
  refine⟨rb,rfl,⟨by rw [← hn];exact q0,q1,q2,q3,q4,q5,q6,q7,qz,fun h0=>⟨gb,0,rfl,Nat.lt_of_lt_of_le hgb hV.size,fun i x hx=>?_⟩,fun b o e=>by cases e;omega,hlt,hrng,by omega,by show 4≤core.length;omega⟩,hV,hge⟩;refine (hV.cell (p:=⟨gb,0+i,none⟩) hgb).trans (hcs i x ?_);rw[List.getElem?_append_left (List.getElem?_eq_some_iff.1 hx).1];exact hx
 have kc:=fun (w:World) (C:Array Value) (n c:Nat)=>Go.Lib.run_convert_bytes_const (P:=Tryz.prog) w 33 5 C n c Tryz.underlying33 Tryz.underlying5
 have hi1:¬(20000:Int) < ((n+4:Nat):Int):=by omega
 have hi2:¬((n+4:Nat):Int) < 8:=by omega
 have hi3:¬(20000:Int) < (n:Int)+4:=by omega
 have hi4:¬(n:Int)+4 < 8:=by omega
 have hw1:IntKind.i64.wrap ((n:Int)+4 - 4)=(n:Int):=by rw [Int.add_sub_cancel];exact Go.IntWalk.i64_in _ Q8
 have hw2:IntKind.i64.wrap (((n+4:Nat):Int) - 4)=(n:Int):=by
  have:((n+4:Nat):Int) - 4=(n:Int):=by omega
  rw[this];exact Go.IntWalk.i64_in _ Q8
 have hc1:n≤cap:=by omega
 have hc2:n+4≤cap:=by omega
 have hc3:¬n=cap:=by omega
 have hc4:¬cap=n:=by omega
 have h34:(3:Nat) < n+4:=by omega
 clear hb hcs u0 u4 hcore hl hcap hrng hn hlen harr;go_enter Tryz.func50,Tryz.ntmps50;go_wp2_with fail;refine (HPF.out _ _ _ P0 (World.news_of_block (cs:=#[.int .u8 83,.int .u8 76,.int .u8 77]) (t:=5) (fr:=(3,4)) (j6 rfl))).mono ?_;rintro e w1 ⟨rfl,rfl⟩
 go_wp2_with fail;refine (b2Y _).mono ?_;rintro e w2 ⟨rfl,hb2⟩;have HB2:Hid (Below W.heap.size W w2):=a0 hb2 P0;have hs2:=HB2.out.size;clear hb2;go_wp2_with fail;go_region
 go_wp2_with fail;clear kc;refine (HSUM.out _ (Below.drew (Below.alloc HB2.out hs2 _))).mono ?_;rintro e w3 ⟨rfl,rfl⟩;clear HSUM HPF;go_wp2_with fail;refine (HEQ.out _ _ (Below.drew (Below.alloc HB2.out hs2 _)) Q9).mono ?_;rintro e w4 ⟨rfl,rfl⟩;clear HEQ;go_wp2_with fail;go_ret2;have hb9:Below W.heap.size W ((w2.alloc (.cells #[.func (.func 104) #[] #[],.func (.func 105) #[] #[],.func (.func 106) #[] #[],.func (.func 107) #[] #[],.func (.func 108) #[] #[]] 103)).drew.alloc (.cells arr 5)):=Below.alloc (Below.drew (Below.alloc HB2.out hs2 _)) Q5 _
 refine HRD.out _ _ (Below.alloc hb9 hb9.size _) Q8 Q9 Q6 Q6 Q6 Q6 Q6 Q6 Q6 Q6 (fun j=>by go_simp)
theorem a3e {W:World} {gb cap n:Nat} {code:Int} (h:Calls Tryz.prog 50 #[.slice (some ⟨gb,0,none⟩) n cap] W fun e w'=>Z9 code W e w') (hc:code≠0) (cp:Int) (a:Option Addr) (m c:Nat) :
  Calls Tryz.prog 30 #[.slice (some ⟨gb,0,none⟩) n cap,.int .i64 cp,.slice a m c] W fun e w'=>Z9 code W e w':=by
 have H:=hid h;have hb:(code == 0)=false:=beq_eq_false_iff_ne.2 hc;clear h;go_enter Tryz.func30,Tryz.ntmps30;go_wp2_with (go_at_call 50;refine H.out.mono ?_;rintro e w1 ⟨rfl,hb1⟩;have HB1:=hid hb1;clear hb1)
 go_ret2;exact⟨rfl,HB1.out⟩
theorem a1C {W:World} {gb cap n:Nat} {code cp:Int} {a:Option Addr} {m c:Nat} (h:Calls Tryz.prog 30 #[.slice (some ⟨gb,0,none⟩) n cap,.int .i64 cp,.slice a m c] W fun e w'=>Z9 code W e w') :
  Calls Tryz.prog 11 #[.slice (some ⟨gb,0,none⟩) n cap,.int .i64 cp,.slice a m c] W fun e w'=>Z9 code W e w':=by
 have H:=hid h;clear h;go_enter Tryz.func11,Tryz.ntmps11;go_wp2_with (go_at_call 30;refine H.out.mono ?_;rintro e w1 ⟨rfl,hb1⟩;have HB1:=hid hb1;clear hb1)
 go_ret2;exact⟨rfl,HB1.out⟩
def b0X (W:World) (rb:Nat) (core:List Int) (e:Ending) (w2:World):Prop :=
 ∃mb,e=.returned (.pointer (some ⟨mb,0,none⟩))∧rb < w2.heap.size∧((w2.cell? ⟨rb,2,none⟩=some (.bool true)∧Below W.heap.size W w2) ∨
  (w2.cell? ⟨rb,2,none⟩=some (.bool false)∧∃own g R s,b6q W g s w2 own mb g R∧s7 g∧ArI g∧e8 g s∧o7 s∧J5 s∧core=[83,76,77,2]++machB g (g8 s)))
theorem a1U {W w1 w2:World} {rb:Nat} (hB:Below W.heap.size W w1) (hrb:W.heap.size≤rb) (hw:b7 rb rb w1 w2):Below W.heap.size W w2 :=
 ⟨hw.os.trans hB.os,hw.tape.trans hB.tape,hw.output.trans hB.output,Nat.le_trans hB.size hw.size,fun k hk=>by
  have:=hB.size;rw[hw.block k Q8 Q8 Q8,hB.block k hk]⟩
theorem b3m (g:PgR):K8 g g:=⟨rfl,fun _ _=>⟨rfl,rfl,rfl,fun _ _=>⟨rfl,rfl⟩⟩⟩
theorem a3f.alike2 {g g':PgR} {L:List FnL} (h:a3f g L) (h':a3f g' L):K8 g g':=by
 refine⟨h'.n.trans h.n.symm,fun i hi=>?_⟩;rw[h.n] at hi;obtain⟨a1,a2,a3,a4⟩:=h.f i _ (List.getElem?_eq_getElem hi);obtain⟨b1,b2,b3,b4⟩:=h'.f i _ (List.getElem?_eq_getElem hi);refine⟨b1.trans a1.symm,b2.trans a2.symm,b3.trans a3.symm,fun j hj=>?_⟩;rw[a3] at hj;have ha:=a4 j _ (List.getElem?_eq_getElem hj);have hb:=b4 j _ (List.getElem?_eq_getElem hj);exact⟨hb.1.trans ha.1.symm,hb.2.trans ha.2.symm⟩
theorem a9y {g:PgR} {y:Int} (h:y5 g 0 y):y5 g 0 0:=by
 rcases h with ⟨_,h⟩ | ⟨hs,⟨_,h⟩ | ⟨hc,⟨_,h⟩ | ⟨hh,h1,h2⟩⟩⟩
 ·cases h
 ·cases h
 ·cases h
 ·exact Or.inr ⟨hs,Or.inr ⟨hc,Or.inr ⟨hh,rfl,rfl⟩⟩⟩
theorem b7q {W w1:World} {rb gb cap0:Nat} {core rest:List Int} (ht:Tab W) (hcore:core=[83,76,77,2]++rest) (h:o9 w1 rb (some ⟨gb,0,none⟩) cap0 core ⟨4,false⟩) (hB:Below W.heap.size W w1) (hrb:W.heap.size≤rb) :
  Calls Tryz.prog 51 #[.pointer (some ⟨rb,0,none⟩)] w1 fun e w2=>b0X W rb core e w2:=by
 have ht1:Tab w1:=ht.held hB.size (hB.block 0 ht.1);have hr0:rb≠0:=by have:=ht.1;omega
 have hr:J4 core:=h.rng;have h4:4≤core.length:=by rw [hcore];simp
 by_cases hall:∀g,a3f g (U7 core ⟨4,false⟩).1→y5 g 0 0
 ·refine (a8j h ht1 hr0 hall).mono ?_
  rintro e w2 ⟨own,mb,g,R,b,⟨rfl,hrd,hwr⟩,hm,his,habs,hbi,hno,hgb,hown⟩;have hbel:=a1U hB hrb hwr;have hpk:=a6m (hall g his);refine⟨mb,rfl,hrd.lt,?_⟩
  cases hf:(i8 (rM6 core g ⟨4,false⟩) b).f
  ·refine Or.inr ⟨by have:=hrd.c2;rw [hf] at this;exact this,?_⟩
   obtain⟨hb,hf6⟩:=T3 hf;obtain⟨d1,d2,d3⟩:=b9B hr hpk (s:=⟨4,false⟩) h4 his hf6;have hip:=hbi.1 hb;rw[← habs] at d1 d2;have hrf:=c1C hip;have hdr:R.abs.dr=[]:=by rw [habs]
   have hl:R.abs.obs.length=R.obs.length:=List.length_map _;obtain⟨i1,i2,i3⟩:=a9a d2 hrf hdr;have hpack:=b4S d2 hrf hdr (by rw [hl];exact hip.2.1) hip.2.2;refine⟨own,g,R,a2D R.abs,⟨hm,b3m g,hpack.symm,hno,hbel,fun k hk=>Nat.le_trans hB.size (hgb k hk),fun b t hb=>Nat.le_trans hB.size (hown b t hb)⟩,hpk,d3,i1,i2,i3,?_⟩;rw[hpack];have e4:core.drop 4=rest:=by rw [hcore];rfl
   rw[hcore];congr 1
   rw[← e4];exact d1
  ·refine Or.inl ⟨by have:=hrd.c2;rw [hf] at this;exact this,hbel⟩
 ·refine (b0t h ht1 hr0 fun g x y hg hck=>?_).mono ?_
  ·by_cases hx:x=0
   ·exfalso
    subst hx;have hok:=a6m (a9y hck);exact hall fun g' hg'=>b3v ((hg.alike2 hg').pgOk hok)
   ·have:(x == 0)=false:=beq_eq_false_iff_ne.2 hx
    rw[this];rfl
  ·rintro e w2 ⟨mb,rfl,hfa,hwr⟩
   exact⟨mb,rfl,hfa.lt,Or.inl ⟨hfa.flag,a1U hB hrb hwr⟩⟩
def a6g (core:List Int) (W:World) (e:Ending) (w':World):Prop :=
 Z9 11 W e w'∨∃g s,s7 g∧ArI g∧e8 g s∧o7 s∧J5 s∧core=[83,76,77,2]++machB g (g8 s)∧a1b g (M7 s 40 []) W e w'
theorem c2D {W w2:World} {own:Own} {mb:Nat} {g:PgR} {R:McR} {s:McA} (h:b6q W g s w2 own mb g R) (hp:s7 g) (hi:e8 g s) (hz:o7 s) :
  Calls Tryz.prog 52 #[.pointer (some ⟨mb,0,none⟩),.int .i64 40,.slice none 0 0] w2 fun e w'=>e=.returned (.int .i64 0)∧a1b g (M7 s 40 []) W (.returned (.tuple #[.pointer (some ⟨mb,0,none⟩),.int .i64 0])) w':=by
 have hal:(a6 s).length≤40:=by
  have:=A9 hi.alive.nodup hi.alive.lt;have:=hi.cap.2;omega
 exact c1Q h hp hi hz 40 Q8 Q8 hal none 0 [] (fun h0=>by simp at h0) Q9
theorem b8w {W:World} {gb cap0 n:Nat} {core rest:List Int} (ht:Tab W) (hcore:core=[83,76,77,2]++rest) (hop:Calls Tryz.prog 50 #[.slice (some ⟨gb,0,none⟩) n cap0] W fun e w'=>a6y gb cap0 core W e w') :
  Calls Tryz.prog 30 #[.slice (some ⟨gb,0,none⟩) n cap0,.int .i64 40,.slice none 0 0] W fun e w'=>a6g core W e w':=by
 have HOP:=hid hop;have HMG:Hid (∀w1 rb,o9 w1 rb (some ⟨gb,0,none⟩) cap0 core ⟨4,false⟩→Below W.heap.size W w1→W.heap.size≤rb→Calls Tryz.prog 51 #[.pointer (some ⟨rb,0,none⟩)] w1 fun e w2=>b0X W rb core e w2):=hid fun w1 rb hrd hB hrb=>b7q ht hcore hrd hB hrb
 have HUN:Hid (∀w2 own mb g R s,b6q W g s w2 own mb g R→s7 g→e8 g s→o7 s→_):=hid fun w2 own mb g R s h hp hi hz=>c2D (W:=W) (w2:=w2) (own:=own) (mb:=mb) (g:=g) (R:=R) (s:=s) h hp hi hz
 clear hop ht hcore;go_enter Tryz.func30,Tryz.ntmps30;go_wp2_with (go_at_call 50;refine HOP.out.mono ?_;rintro e w1 ⟨rb,rfl,hrd,hb1,hge⟩;have HM:=hid (HMG.out _ _ hrd hb1 hge);clear hrd hb1)
 refine HM.out.mono ?_;rintro e w2 ⟨mb,rfl,hrl,⟨hf,hbel⟩ | ⟨hf,own,g,R,s,hmg,hp,ha,hi,hz,hh,hco⟩⟩
 ·have HB:=hid hbel
  clear hbel HM HMG HUN HOP;go_wp2_with fail;go_ret2;exact Or.inl ⟨rfl,HB.out⟩
 ·have HU:=hid (HUN.out w2 own mb g R s hmg hp hi hz)
  have HF:Hid (s7 g∧ArI g∧e8 g s∧o7 s∧J5 s∧core=[83,76,77,2]++machB g (g8 s)):=hid ⟨hp,ha,hi,hz,hh,hco⟩;clear hmg HM HMG HUN HOP hp ha hi hz hh hco;go_wp2_with fail;refine HU.out.mono ?_;rintro e w3 ⟨rfl,hw⟩;have HW:=hid hw;clear hw HU;go_wp2_with fail;go_ret2;obtain⟨f1,f2,f3,f4,f5,f6⟩:=HF.out;exact Or.inr ⟨g,s,f1,f2,f3,f4,f5,f6,HW.out⟩
theorem b6v {W:World} {gb cap0 n:Nat} {core:List Int} (h:Calls Tryz.prog 30 #[.slice (some ⟨gb,0,none⟩) n cap0,.int .i64 40,.slice none 0 0] W fun e w'=>a6g core W e w') :
  Calls Tryz.prog 11 #[.slice (some ⟨gb,0,none⟩) n cap0,.int .i64 40,.slice none 0 0] W fun e w'=>a6g core W e w':=by
 have H:Hid (Calls Tryz.prog 30 #[.slice (some ⟨gb,0,none⟩) n cap0,.int .i64 40,.slice none 0 0] W fun e w'=>∃v z,e=.returned (.tuple #[v,.int .i64 z])∧(v=.pointer none∨∃m,v=.pointer (some ⟨m,0,none⟩))∧a6g core W e w'):=hid (h.mono fun e w' hw=>by
  rcases hw with ⟨rfl,hb⟩ | ⟨g,s,f1,f2,f3,f4,f5,f6,own,mb,g',R,rfl,hw⟩
  ·exact ⟨_,_,rfl,Or.inl rfl,Or.inl ⟨rfl,hb⟩⟩
  ·exact ⟨_,_,rfl,Or.inr ⟨mb,rfl⟩,Or.inr ⟨g,s,f1,f2,f3,f4,f5,f6,own,mb,g',R,rfl,hw⟩⟩)
 clear h;go_enter Tryz.func11,Tryz.ntmps11;go_wp2_with fail;refine H.out.mono ?_;rintro e w1 ⟨v,z,rfl,rfl | ⟨m,rfl⟩,hw⟩
 all_goals
  have HW:=hid hw;clear hw;go_wp2_with fail;go_ret2;exact HW.out
theorem c0G {W:World} {gb cap0 n:Nat} {core:List Int} (ht:Tab W) (hbad:(a0V core ⟨4,false⟩).2.f=true) (hop:Calls Tryz.prog 50 #[.slice (some ⟨gb,0,none⟩) n cap0] W fun e w'=>a4T gb cap0 core W e w') (cp:Int) (a:Option Addr) (m c:Nat) :
  Calls Tryz.prog 30 #[.slice (some ⟨gb,0,none⟩) n cap0,.int .i64 cp,.slice a m c] W fun e w'=>Z9 11 W e w':=by
 have HOP:=hid hop;have HMG:Hid (∀w1 rb,r6 w1 rb (some ⟨gb,0,none⟩) cap0 core ⟨4,false⟩→Below W.heap.size W w1→W.heap.size≤rb→Calls Tryz.prog 51 #[.pointer (some ⟨rb,0,none⟩)] w1 fun e w2=>∃mb,e=.returned (.pointer (some ⟨mb,0,none⟩))∧rb < w2.heap.size∧w2.cell? ⟨rb,2,none⟩=some (.bool true)∧Below W.heap.size W w2):=hid fun w1 rb hrd hB hrb=>by
  refine (a8i hrd (ht.held hB.size (hB.block 0 ht.1)) (by have:=ht.1;omega) fun g x y _ _=>(y8 _ _).f hbad).mono ?_;rintro e w2 ⟨mb,rfl,hfa,hwr⟩;exact⟨mb,rfl,hfa.lt,hfa.flag,a1U hB hrb hwr⟩
 clear hop ht hbad;go_enter Tryz.func30,Tryz.ntmps30;go_wp2_with (go_at_call 50;refine HOP.out.mono ?_;rintro e w1 ⟨rb,rfl,hrd,hb1,hge⟩;have HM:=hid (HMG.out _ _ hrd hb1 hge);clear hrd hb1)
 refine HM.out.mono ?_;rintro e w2 ⟨mb,rfl,hrl,hf,hbel⟩;have HB:=hid hbel;clear hbel HM HMG HOP;go_wp2_with fail;go_ret2;exact⟨rfl,HB.out⟩
theorem a5x (n:Nat) (h:n < 4294967296):IntKind.i64.wrap (n:Int)=(n:Int):=Go.IntWalk.i64_in _ Q8
theorem c0J (a b:Nat) (ha:a < 4294967296) (hb:b < 4294967296):bits .xor .i64 (a:Int) (b:Int)=((a ^^^ b:Nat):Int):=by
 have hx:a ^^^ b < 2 ^ 32:=Nat.xor_lt_two_pow Q8 Q8;have h1:(BitVec.ofInt 64 (a:Int)).toNat=a:=by
  rw[BitVec.ofInt_natCast,BitVec.toNat_ofNat];exact Nat.mod_eq_of_lt Q8
 have h2:(BitVec.ofInt 64 (b:Int)).toNat=b:=by
  rw[BitVec.ofInt_natCast,BitVec.toNat_ofNat];exact Nat.mod_eq_of_lt Q8
 show IntKind.i64.wrap ((BitVec.ofInt 64 (a:Int) ^^^ BitVec.ofInt 64 (b:Int)).toNat:Int)=_;rw[BitVec.toNat_xor,h1,h2];exact a5x _ Q8
theorem b8c {l:List Nat} {i:Nat} {x:Nat} (h:l[i]?=some x):a0X (l.take (i+1))=a0u (a0X (l.take i)) x:=by
 have e:l.take (i+1)=l.take i++[x]:=by rw [List.take_add_one,h];rfl
 rw[e];simp[a0X,List.foldl_append]
theorem c1D {l:List Nat} (h:∀b,b∈l→b < 256):a0X l < 4294967296:=a4e l (r:=4294967295) Q7 h
theorem b9A {W:World} (a:Option Addr) (c:Nat) (l:List Nat) (hl:D9 W a (l.map fun n:Nat=>(n:Int))) (hb:∀b,b∈l→b < 256) (hn:l.length≤20000) :
  Calls Tryz.prog 37 #[.slice a l.length c] W fun e w'=>e=.returned (.int .i64 (a4I l:Int))∧w'=W:=by
 have HL:=hid hl;have HB:=hid hb;clear hl hb;go_enter Tryz.func37,Tryz.ntmps37;go_wp2_with fail;go_loopw [3,4] (fun vr vi wr=>∃i:Nat,i≤l.length∧vi=.int .i64 i∧vr=.int .i64 (a0X (l.take i):Int)∧W=wr) (fun _ vi _=>l.length - (intOf vi).toNat)
 case atStart=>exact ⟨0,Nat.zero_le _,rfl,rfl,by first | rfl | trivial⟩
 case round =>
  obtain⟨i,hi,rfl,rfl,rfl⟩:=hrel;have hr32:a0X (l.take i) < 4294967296:=c1D fun b hb=>HB.out b (List.mem_of_mem_take hb)
  by_cases hlt:i < l.length
  ·obtain ⟨x,hx⟩:∃x,l[i]?=some x:=⟨_,List.getElem?_eq_getElem hlt⟩
   have hx2:x < 256:=HB.out x (List.mem_of_getElem? hx);obtain⟨b,o,rfl,hb,hcs⟩:=HL.out (by rw [List.length_map];omega);have x0:=hcs i x (by rw [List.getElem?_map,hx];rfl);have HTK:=hid (b8c hx);clear hcs hx;generalize a0X (l.take i)=r at *
   have hwx:=a5x x Q8;have hxor:=c0J r x hr32 Q8;obtain⟨rx,hrx⟩:∃rx,rx=r ^^^ x:=⟨_,rfl⟩
   have hrx32:rx < 4294967296:=by
    have:r ^^^ x < 2 ^ 32:=Nat.xor_lt_two_pow Q8 Q8;omega
   rw[← hrx] at hxor;go_wp2_with fail;go_loopw [3,5] (fun vr vi wr=>∃k:Nat,k≤8∧vi=.int .i64 k∧vr=.int .i64 (a2n k rx:Int)∧W=wr) (fun _ vi _=>8 - (intOf vi).toNat)
   case atStart=>exact ⟨0,Nat.zero_le _,rfl,by rw [hrx];rfl,by first | rfl | trivial⟩
   case round =>
    obtain⟨k,hk,rfl,rfl,rfl⟩:=hrel;have HBK:Hid (a2n (k+1) rx=a7S (a2n k rx)):=hid rfl;have HB8:Hid (k=8→a2n k rx=a0u r x):=hid (by rintro rfl;rw [hrx];rfl);have hq32:=a1c hrx32 k;generalize a2n k rx=q at *
    clear hrx hxor hwx;by_cases hk8:k < 8
    ·have hk8':(k:Int) < 8:=by omega
     obtain⟨h,hh⟩:∃h,h=q / 2:=⟨_,rfl⟩
     have HS:Hid (a7S q=if q % 2=1 then h ^^^ 3988292384 else h):=hid (by rw [hh];rfl);have d1:(q:Int) / 2=(h:Int):=by omega
     have d2:(q:Int).tdiv 2=(h:Int):=by rw [Int.tdiv_eq_ediv_of_nonneg Q8];exact d1
     have d3:=a5x h Q8;have hx9:=c0J h 3988292384 Q8 Q7;have hx8:bits .xor .i64 (h:Int) 3988292384=((h ^^^ 3988292384:Nat):Int):=hx9;clear hx9;obtain⟨z,hz⟩:∃z,z=h ^^^ 3988292384:=⟨_,rfl⟩
     rw[← hz] at hx8 HS;by_cases h1:q % 2=1
     ·have e1:(q:Int) % 2=1:=by omega
      have e2:(q:Int).tmod 2=1:=by rw [Int.tmod_eq_emod_of_nonneg Q8];exact e1
      clear hh hz;go_wp2_with fail;go_roundw
      case rel=>exact ⟨k+1,by omega,by go_num,by rw [HBK.out,HS.out,if_pos h1],by first | rfl | trivial⟩
      case measure=>simp [intOf];omega
     ·have e1:(q:Int) % 2=0:=by omega
      have e2:(q:Int).tmod 2=0:=by rw [Int.tmod_eq_emod_of_nonneg Q8];exact e1
      clear hh hz;go_wp2_with fail;go_roundw
      case rel=>exact ⟨k+1,by omega,by go_num,by rw [HBK.out,HS.out,if_neg h1],by first | rfl | trivial⟩
      case measure=>simp [intOf];omega
    ·obtain rfl:k=8:=by omega
     have H8:=hid (HB8.out rfl);clear HBK HB8;go_wp2_with fail;go_roundw
     case rel=>exact ⟨i+1,by omega,by go_num,by rw [HTK.out,← H8.out],by first | rfl | trivial⟩
     case measure=>simp [intOf];omega
  ·obtain rfl:i=l.length:=by omega
   rw[List.take_length] at hr32 ⊢;have HS:Hid (a4I l=a0X l ^^^ 4294967295):=hid rfl;generalize a0X l=r at *
   have hx9:bits .xor .i64 (r:Int) 4294967295=((r ^^^ 4294967295:Nat):Int):=c0J r 4294967295 hr32 Q7;obtain⟨z,hz⟩:∃z,z=a4I l:=⟨_,rfl⟩
   rw[← HS.out,← hz] at hx9;have HZ:=hid hz;clear HS hz;go_wp2_with fail;go_ret;exact⟨by rw [HZ.out];rfl,by first | rfl | trivial⟩
structure a3w (W:World) (gb cap n:Nat) (img:List Int):Prop where
 im:a4Q W gb cap n img
 fz:∀j,W.frozen? ⟨gb,j,none⟩=false
theorem a3w.later {W U:World} {gb cap n:Nat} {img:List Int} (h:a3w W gb cap n img) (hB:Below W.heap.size W U):a3w U gb cap n img :=
 ⟨h.im.later hB,fun j=>by rw [← h.fz j];exact World.frozen?_of_block (hB.block gb h.im.lt)⟩
theorem a3w.set {W:World} {gb cap n:Nat} {img:List Int} (h:a3w W gb cap n img) (i:Nat) (hi:i < n+4) (y:Int) (hy:0≤y∧y < 256):a3w (W.setCell ⟨gb,i,none⟩ (.int .u8 y)) gb cap n (img.set i y):=by
 have hl:=h.im.len;refine⟨⟨by rw [List.length_set];exact hl,h.im.n4,h.im.n2,h.im.cap,by simpa using h.im.lt,fun x hx=>?_,fun j x hx=>?_⟩,fun j=>by go_simp;exact h.fz j⟩
 ·rcases List.mem_or_eq_of_mem_set hx with hx | rfl
  ·exact h.im.rng x hx
  ·exact hy
 ·rw [List.getElem?_set] at hx
  by_cases hij:i=j
  ·subst hij
   rw[if_pos rfl,if_pos Q8] at hx
   cases hx;have x0:=h.im.cell i _ (List.getElem?_eq_getElem Q8);go_simp
  ·rw [if_neg hij] at hx
   rw[World.cell?_setCell_other (h:=fun e=>hij (congrArg Addr.off e))];exact h.im.cell j x hx
theorem b1c {gb i:Nat} {W U:World} (h:Below gb W U) (v:Value):Below gb W (U.setCell ⟨gb,i,none⟩ v):=Below.setCell h (Nat.le_refl _) _
theorem a6G {a b:Nat} {W U:World} (h:Below b W U) (hab:a≤b):Below a W U:=⟨h.os,h.tape,h.output,h.size,fun k hk=>h.block k Q8⟩
theorem b4V {W:World} {gb cap n:Nat} {core:List Nat} {tl:List Int} (h:a3w W gb cap n (core.map (fun n:Nat=>(n:Int))++tl)) (hn:core.length=n) (hb:∀b,b∈core→b < 256) :
  Calls Tryz.prog 22 #[.slice (some ⟨gb,0,none⟩) (n+4) cap] W fun e w'=>e=.returned (.slice (some ⟨gb,0,none⟩) (n+4) cap)∧a3w w' gb cap n (core.map (fun n:Nat=>(n:Int))++B5 (core.map fun n:Nat=>(n:Int)))∧Below gb W w':=by
 have hlen:=h.im.len;have h4:=h.im.n4;have h2:=h.im.n2;have hcp:=h.im.cap;have htl:tl.length=4:=by rw [List.length_append,List.length_map] at hlen;omega
 have HSUM:Hid (Calls Tryz.prog 37 #[.slice (some ⟨gb,0,none⟩) n cap] W fun e w'=>e=.returned (.int .i64 (a4I core:Int))∧w'=W):=hid (by
  have:=b9A (W:=W) (some ⟨gb,0,none⟩) cap core (fun _=>⟨gb,0,rfl,h.im.lt,fun i x hx=>by
   rw[Nat.zero_add];exact h.im.cell i x (by rw [List.getElem?_append_left (List.getElem?_eq_some_iff.1 hx).1];exact hx)⟩) hb Q8
  rw[hn] at this;exact this)
 have HSB:=hid (a7L hb);have hs32:=b0A hb;generalize a4I core=s at *
 have H:=hid h;have hcl:(core.map (fun n:Nat=>(n:Int))).length=n:=by rw [List.length_map];exact hn
 generalize core.map (fun n:Nat=>(n:Int))=cI at *
 have HCL:=hid hcl;have hw1:IntKind.i64.wrap ((n:Int)+4 - 4)=(n:Int):=by rw [Int.add_sub_cancel];exact Go.IntWalk.i64_in _ Q8
 have hw2:IntKind.i64.wrap (((n+4:Nat):Int) - 4)=(n:Int):=by
  have:((n+4:Nat):Int) - 4=(n:Int):=by omega
  rw[this];exact Go.IntWalk.i64_in _ Q8
 have hc1:n≤cap:=by omega
 have hc2:n+4≤cap:=by omega
 clear h hb hlen hcl hn;go_enter Tryz.func22,Tryz.ntmps22;go_wp2_with fail;refine HSUM.out.mono ?_;rintro e w1 ⟨rfl,rfl⟩;clear HSUM;go_wp2_with fail;go_loopw [5] (fun vi wr=>∃i:Nat,i≤4∧vi=.int .i64 i∧(∃rest:List Int,rest.length=4 - i∧a3w wr gb cap n (cI++(B5 cI).take i++rest))∧Below gb w1 wr) (fun vi _=>4 - (intOf vi).toNat)
 case atStart=>exact ⟨0,by omega,rfl,⟨tl,htl,by rw [List.take_zero,List.append_nil];exact H.out⟩,Below.refl _ _⟩
 case round =>
  obtain⟨i,hi,rfl,⟨rest,hrl,hsl⟩,hbel⟩:=hrel;by_cases hi4:i < 4
  ·obtain ⟨r0,rest,rfl⟩:∃a b,rest=a::b:=by
    cases rest with
    | nil=>simp at hrl;omega
    | cons a b=>exact ⟨a,b,rfl⟩
   have hlt:((B5 cI).take i).length=i:=by rw [List.length_take,a2G];omega
   have x0:wr.cell? ⟨gb,n+i,none⟩=some (.int .u8 r0):=hsl.im.cell (n+i) r0 (by
    rw[List.append_assoc,List.getElem?_append_right (by rw [HCL.out];omega),HCL.out,List.getElem?_append_right (by rw [hlt];omega),hlt];simp)
   have z0:=hsl.fz (n+i);have HSL:=hid hsl;have HBL:=hid hbel;have hkk:(i:Int) < 4:=by omega
   have hni:n+i < n+4:=by omega
   have hw3:IntKind.i64.wrap ((n:Int)+(i:Int))=((n+i:Nat):Int):=by rw [Go.IntWalk.i64_in _ Q8];omega
   clear hsl hbel;go_wp2_with fail;have hy:(B5 cI)[i]?=some ((s:Int) / 2 ^ (8*i) % 256):=by
    rw[HSB.out];rcases (show i=0∨i=1∨i=2∨i=3 by omega) with rfl | rfl | rfl | rfl <;> simp
   have hset:(cI++(B5 cI).take i++(r0::rest)).set (n+i) ((s:Int) / 2 ^ (8*i) % 256)=cI++(B5 cI).take (i+1)++rest:=by
    rw[List.set_append_right _ _ (by rw [List.length_append,hlt,HCL.out];omega),List.length_append,hlt,HCL.out,Nat.sub_self,List.set_cons_zero,List.take_add_one,hy];simp
   have hs2:=HSL.out.set (n+i) Q8 ((s:Int) / 2 ^ (8*i) % 256) Q8;rw[hset] at hs2;exact⟨⟨i+1,by omega,by go_num,⟨rest,by simp at hrl;omega,hs2⟩,b1c HBL.out _⟩,by simp [intOf];omega⟩
  ·obtain rfl:i=4:=by omega
   obtain rfl:rest=[]:=List.eq_nil_of_length_eq_zero Q8;have HSL:=hid hsl;have HBL:=hid hbel;clear hsl hbel;go_wp2_with fail;go_ret;refine⟨rfl,?_,HBL.out⟩;have:=HSL.out;rw[List.append_nil,List.take_of_length_le (by rw [a2G];omega)] at this;exact this
theorem a8R (c n:Int) (w:World) (h1 : -9223372036854775808≤c) (h2:c≤9223372036854775807) (hn:0 < n) (hn2:n≤20000) :
  Calls Tryz.prog 12 #[.int .i64 c,.int .i64 n] w fun e w'=>e=.returned (.int .i64 (i9 c n))∧w'=w:=by
 have hn0:¬n=0:=by omega
 have hn1:(n == 0)=false:=beq_eq_false_iff_ne.2 hn0;have hn3:¬n = -1:=by omega
 by_cases hc:c < 0
 ·have hp:(0:Int) ≤ -(c+1):=by omega
  have e1:(-(c+1)).tmod n = -(c+1) % n:=Int.tmod_eq_emod_of_nonneg hp;have hb1:=Int.emod_nonneg (-(c+1)) hn0;have hb2:=Int.emod_lt_of_pos (-(c+1)) hn;have HP:Hid (i9 c n = -(c+1) % n):=hid (by unfold i9;rw [if_pos hc]);go_enter Tryz.func12,Tryz.ntmps12;go_wp2_with fail;go_ret;refine⟨a0E ?_,rfl⟩;rw[HP.out]
 ·have e1:c.tmod n=c % n:=Int.tmod_eq_emod_of_nonneg Q8
  have hb1:=Int.emod_nonneg c hn0;have hb2:=Int.emod_lt_of_pos c hn;have HP:Hid (i9 c n=c % n):=hid (by unfold i9;rw [if_neg hc]);go_enter Tryz.func12,Tryz.ntmps12;go_wp2_with fail;go_ret;refine⟨a0E ?_,rfl⟩;rw[HP.out]
theorem c1L {core:List Int} (hb:J4 core) (i:Nat) (hi:i < core.length) (y:Int) (hy:0≤y∧y < 256) (hne:core[i]?≠some y):B5 core≠B5 (core.set i y):=by
 have e1:core=core.take i++core[i]::core.drop (i+1):=by simp
 have e2:core.set i y=core.take i++y::core.drop (i+1):=List.set_eq_take_append_cons_drop.trans (if_pos hi);rw[e2];intro h;have hx:core[i]≠y:=fun e=>hne (by rw [List.getElem?_eq_getElem hi,e])
 exact b5e (by rw [← e1];exact hb) hy hx (by rw [← e1];exact h)
theorem c2B {l:List Int} {i:Nat} (hi:i < l.length) {y:Int} (hne:l[i]?≠some y):l.set i y≠l:=fun e=>hne (by
 have:(l.set i y)[i]?=some y:=by rw [List.getElem?_set_self hi]
 rwa [e] at this)
structure K4 (core img img':List Int) (n i:Nat) (y:Int):Prop where
 len:core.length=n
 n4:4≤n
 rng:J4 core
 head:core.take 4=[83,76,77,2]
 e1:img=core++B5 core
 e2:img'=img.set i y
 il:i < n+4
 yr:0≤y∧y < 256
 ne:img[i]?≠some y
theorem K4.take_lt {core img img':List Int} {n i:Nat} {y:Int} (h:K4 core img img' n i y) (hi:i < n):img'.take n=core.set i y∧img'.drop n=B5 core:=by
 have hl:=h.len;rw[h.e2,h.e1,List.set_append_left _ _ Q8];constructor
 ·exact List.take_left' (by rw [List.length_set];exact hl)
 ·exact List.drop_left' (by rw [List.length_set];exact hl)
theorem K4.take_ge {core img img':List Int} {n i:Nat} {y:Int} (h:K4 core img img' n i y) (hi:n≤i):img'.take n=core∧img'.drop n=(B5 core).set (i - n) y:=by
 have hl:=h.len;rw[h.e2,h.e1,List.set_append_right _ _ Q8];constructor
 ·exact List.take_left' hl
 ·rw [List.drop_left' hl,hl]
theorem K4.ne_core {core img img':List Int} {n i:Nat} {y:Int} (h:K4 core img img' n i y) (hi:i < n):core[i]?≠some y:=by
 have:=h.ne;have hl:=h.len;rw[h.e1,List.getElem?_append_left Q8] at this;exact this
theorem K4.sum {core img img':List Int} {n i:Nat} {y:Int} (h:K4 core img img' n i y):img'.drop n≠B5 (img'.take n):=by
 have hl:=h.len;by_cases hi:i < n
 ·rw [(h.take_lt hi).1,(h.take_lt hi).2]
  exact c1L h.rng i Q8 y h.yr (h.ne_core hi)
 ·rw [(h.take_ge Q8).1,(h.take_ge Q8).2]
  have:=h.ne;rw[h.e1,List.getElem?_append_right Q8,hl] at this;have h9:=h.il;exact c2B (by rw [a2G];omega) this
theorem K4.head4 {core img img':List Int} {n i:Nat} {y:Int} (h:K4 core img img' n i y):(img'.take n).take 4=[83,76,77,2].set i y:=by
 have hl:=h.len;by_cases hi:i < n
 ·rw [(h.take_lt hi).1,List.take_set,h.head]
 ·have h4:=h.n4
  rw[(h.take_ge Q8).1,h.head];exact (List.set_eq_of_length_le (by show 4≤i;omega)).symm
theorem K4.take4 {core img img':List Int} {n i:Nat} {y:Int} (h:K4 core img img' n i y):img'.take 4=[83,76,77,2].set i y:=by
 rw[← h.head4,List.take_take,Nat.min_eq_left h.n4]
theorem b5L {l:List Int} {i:Nat} {y:Int} (h:l.take 4=[83,76,77,2].set i y) (hne:i < 4→[83,76,77,2][i]?≠some y) :
  (i < 3∧l.take 3≠[83,76,77])∨(l.take 3=[83,76,77]∧((i=3∧y≠2∧l[3]?=some y)∨(4≤i∧l[3]?=some 2))):=by
 have h3:l.take 3=([83,76,77,2].set i y).take 3:=by rw [← h,List.take_take];rfl
 have g3:l[3]?=([83,76,77,2].set i y)[3]?:=by rw [← h,List.getElem?_take,if_pos Q8]
 by_cases hi:i < 4
 ·have hn:=hne hi
  rcases (show i=0∨i=1∨i=2∨i=3 by omega) with rfl | rfl | rfl | rfl
  ·exact Or.inl ⟨by omega,by rw [h3];intro e;simp at e hn;omega⟩
  ·exact Or.inl ⟨by omega,by rw [h3];intro e;simp at e hn;omega⟩
  ·exact Or.inl ⟨by omega,by rw [h3];intro e;simp at e hn;omega⟩
  ·exact Or.inr ⟨by rw [h3];rfl,Or.inl ⟨rfl,fun e=>hn (by rw [e];rfl),by rw [g3];rfl⟩⟩
 ·have e:([83,76,77,2]:List Int).set i y=[83,76,77,2]:=List.set_eq_of_length_le (by show 4≤i;omega)
  rw[e] at h3 g3;exact Or.inr ⟨by rw [h3];rfl,Or.inr ⟨by omega,by rw [g3];rfl⟩⟩
theorem K4.hne {core img img':List Int} {n i:Nat} {y:Int} (h:K4 core img img' n i y):i < 4→([83,76,77,2]:List Int)[i]?≠some y:=fun hi=>by
 have h4:=h.n4;have:=h.ne_core Q8;rw[← h.head,List.getElem?_take,if_pos hi];exact this
theorem b5t {W:World} {gb cap n i:Nat} {core img img':List Int} {y:Int} (h:a4Q W gb cap n img') (ht:K4 core img img' n i y) :
  ∃code:Int,(code=8∨code=9∨code=10)∧(4≤i→code=10)∧Calls Tryz.prog 11 #[.slice (some ⟨gb,0,none⟩) (n+4) cap,.int .i64 40,.slice none 0 0] W fun e w'=>Z9 code W e w':=by
 rcases b5L ht.take4 ht.hne with ⟨h3,hm⟩ | ⟨hm,⟨h3,hy2,hv⟩ | ⟨h4,hv⟩⟩
 ·exact ⟨8,Or.inl rfl,fun h4=>by omega,a1C (a3e (a4y h hm) Q7 _ _ _ _)⟩
 ·by_cases hy1:y=1
  ·subst hy1
   exact⟨10,Or.inr (Or.inr rfl),fun _=>rfl,a1C (a3e (a7r h hm true hv ht.sum) Q7 _ _ _ _)⟩
  ·exact ⟨9,Or.inr (Or.inl rfl),fun h4=>by omega,a1C (a3e (a2x h hm y hv hy1 hy2) Q7 _ _ _ _)⟩
 ·exact ⟨10,Or.inr (Or.inr rfl),fun _=>rfl,a1C (a3e (a7r h hm false hv ht.sum) Q7 _ _ _ _)⟩
def b8J (core:List Int) (W:World) (e:Ending) (w':World):Prop :=
 (∃code:Int,(code=8∨code=9∨code=11)∧Z9 code W e w')∨∃g s,s7 g∧ArI g∧e8 g s∧o7 s∧J5 s∧core=[83,76,77,2]++machB g (g8 s)∧a1b g (M7 s 40 []) W e w'
theorem a4Q.bytes {W:World} {gb cap n:Nat} {img:List Int} (h:a4Q W gb cap n img):D9 W (some ⟨gb,0,none⟩) img:=fun _=>⟨gb,0,rfl,h.lt,fun i x hx=>by rw [Nat.zero_add];exact h.cell i x hx⟩
theorem c0n {l:List Int} {v:Int} (h:l.take 3=[83,76,77]) (hv:l[3]?=some v):l=[83,76,77]++(v::l.drop 4):=by
 have e1:l=l.take 3++l.drop 3:=(List.take_append_drop 3 l).symm;have hlt:3 < l.length:=(List.getElem?_eq_some_iff.1 hv).1;have e2:l.drop 3=l[3]::l.drop 4:=List.drop_eq_getElem_cons hlt;have e3:l[3]=v:=by rw [List.getElem?_eq_getElem hlt] at hv;exact Option.some.inj hv
 rw[h,e2,e3] at e1;exact e1
theorem b3a {W:World} {gb cap n i:Nat} {core img img' core':List Int} {y:Int} {g:PgR} {p:McA} (htab:Tab W) (h:a4Q W gb cap n (core'++B5 core')) (ht:K4 core img img' n i y) (hc':core'=img'.take n) (hl':core'.length=n) (hp:s7 g) (hcore:core=[83,76,77,2]++machB g p) :
  Calls Tryz.prog 11 #[.slice (some ⟨gb,0,none⟩) (n+4) cap,.int .i64 40,.slice none 0 0] W fun e w'=>b8J core' W e w':=by
 have hh:core'.take 4=[83,76,77,2].set i y:=by rw [hc'];exact ht.head4
 have h4:=ht.n4;have e3:(core'++B5 core').take 3=core'.take 3:=List.take_append_of_le_length Q8;have g3:(core'++B5 core')[3]?=core'[3]?:=List.getElem?_append_left Q8;have hr':J4 core':=fun x hx=>h.rng x (List.mem_append_left _ hx)
 have n2:=h.n2;have cp:=h.cap;rcases b5L hh ht.hne with ⟨h3,hm⟩ | ⟨hm,⟨h3,hy2,hv⟩ | ⟨hi4,hv⟩⟩
 ·exact (a1C (a3e (a4y h (by rw [e3];exact hm)) Q7 _ _ _ _)).mono fun e w' hw=>Or.inl ⟨8,Or.inl rfl,hw⟩
 ·by_cases hy1:y=1
  ·subst hy1
   have hop:=b4s (cap:=cap) (rest:=core'.drop 4) h.bytes (c0n hm hv) Q8 Q8 hr' n hl'.symm;have hd:core'=[83,76,77,1]++machB g p:=by
    rw[hc',(ht.take_lt Q8).1,hcore,h3];rfl
   have hbad:(a0V core' ⟨4,false⟩).2.f=true:=c1m (pre:=[83,76,77,1]) (post:=n8 p.st.toNat++a5k p.out++N2 p.frs++L5 p.obs) hp (by rw [hd];simp [machB,List.append_assoc]) Q8;exact (a1C (c0G htab hbad hop _ _ _ _)).mono fun e w' hw=>Or.inl ⟨11,Or.inr (Or.inr rfl),hw⟩
  ·exact (a1C (a3e (a2x h (by rw [e3];exact hm) y (by rw [g3];exact hv) hy1 hy2) Q7 _ _ _ _)).mono fun e w' hw=>Or.inl ⟨9,Or.inr (Or.inl rfl),hw⟩
 ·have hs:=c0n hm hv
  have hop:=b2l (cap:=cap) (rest:=core'.drop 4) h.bytes hs Q8 Q8 hr' n hl'.symm;refine (b6v (b8w (rest:=core'.drop 4) htab (hs.trans (by rw [List.cons_append,List.cons_append,List.cons_append,List.nil_append];rfl)) hop)).mono fun e w' hw=>?_
  rcases hw with hw | hw
  ·exact Or.inl ⟨11,Or.inr (Or.inr rfl),hw⟩
  ·exact Or.inr hw
theorem b4T {w:World} {base gb n cap:Nat} {xs:List Value} (h:w.ownsRow base 5 1 (.slice (some ⟨gb,0,none⟩) n cap) n xs) (j:Nat):w.frozen? ⟨gb,j,none⟩=false:=by
 rcases h.2 with ⟨h0,_⟩ | ⟨g',cap',cur,hv,_,hg,_⟩
 ·cases h0
 ·cases hv
  simp[World.frozen?,hg]
theorem c0i {w:World} {base gb n cap:Nat} {xs:List Value} (h:w.ownsRow base 5 1 (.slice (some ⟨gb,0,none⟩) n cap) n xs):base≤gb:=by
 rcases h.2 with ⟨h0,_⟩ | ⟨g',cap',cur,hv,hb,hg,_⟩
 ·cases h0
 ·cases hv
  exact hb
def c2a (base n:Nat) (img:List Int) (w:World) (e:Ending) (w':World):Prop :=
 ∃gb cap0,e=.returned (.slice (some ⟨gb,0,none⟩) (n+4) cap0)∧Below w.heap.size w w'∧a3w w' gb cap0 n img∧base≤gb
theorem b1q {g:PgR} {s:McA} (hp:s7 g) (ha:ArI g) (hi:e8 g s) (hz:o7 s):4≤(M4 g (g8 s)).length∧(M4 g (g8 s)).length+4≤20000:=by
 have hml:=a8M (b2q hp ha) (a1M hp hi hz);have hcl:(M4 g (g8 s)).length=(machB g (g8 s)).length+4:=by
  rw[a1f,List.length_append];show 4+_=_;omega
 omega
theorem b8U {W:World} {gb cap0:Nat} {g:PgR} {s:McA} (h:b0S W gb cap0 g s):J4 (M4 g (g8 s)):=by
 intro x hx;rw[a1f] at hx;rcases List.mem_append.1 hx with hx | hx
 ·simp at hx
  rcases hx with rfl | rfl | rfl | rfl <;> decide
 ·exact b8Q (b7R h.pg h.inv h.ints h.halt) x hx
theorem SM.saveSl {w0 w:World} {g:PgR} {oa:Own} {ma:Nat} {ga:PgR} {Ra:McR} {s:McA} (h:SM w0 w g oa ma ga Ra s) (hp:s7 g) (ha:ArI g) (n:Nat) (hn:(M4 g (g8 s)).length=n) :
  Calls Tryz.prog 10 #[.pointer (some ⟨ma,0,none⟩)] w fun e w'=>c2a w0.heap.size n (imgB g (g8 s)) w e w':=by
 have hi:=h.sa.inv hp h.inv;have hz:=h.ints;obtain⟨e,_⟩:=h.is;rw[← e] at hi hz;have:=b6u h.m (h.sa.pgOk hp) hi hz (h.sa.arI ha);rw[h.sa.imgB,e] at this;have hlen:(imgB g (g8 s)).length=n+4:=by rw [b7d,hn]
 refine this.mono ?_;rintro e' w' ⟨gb,cap0,rfl,hb,hB,hrow⟩;have hoc:=D7 hrow;obtain⟨c1,c2⟩:=b1q hp ha h.inv h.ints;have him:b0S w' gb cap0 g s:=⟨hp,ha,h.inv,h.ints,h.halt,h.m.tab.held hB.size (hB.block 0 h.m.tab.1),hb,hoc.1⟩;obtain⟨b,o,e9,hgb,hcs⟩:=hb (by rw [hlen];omega)
 cases e9;refine⟨gb,cap0,by rw [hlen],hB,⟨⟨hlen,by omega,by omega,by rw [← hlen];exact hoc.1,hoc.2,fun x hx=>?_,fun i x hx=>?_⟩,b4T hrow⟩,Nat.le_trans h.bel.size (c0i hrow)⟩
 ·rcases List.mem_append.1 hx with hx | hx
  ·exact b8U him x hx
  ·exact b6h _ x hx
 ·have:=hcs i x hx
  rwa [Nat.zero_add] at this
theorem b5w {W w':World} {g:PgR} {s:McA} {e:Ending} (hp:s7 g) (ha:ArI g) (hi:e8 g s) (hz:o7 s) (hh:J5 s) (hw:a1b g (M7 s 40 []) W e w') :
  ∃mb,e=.returned (.tuple #[.pointer (some ⟨mb,0,none⟩),.int .i64 0])∧Below W.heap.size W w'∧∀n core,M4 g (g8 s)=core→core.length=n →
   Calls Tryz.prog 10 #[.pointer (some ⟨mb,0,none⟩)] w' fun e w''=>∃gb cap0,e=.returned (.slice (some ⟨gb,0,none⟩) (n+4) cap0)∧Below w'.heap.size w' w''∧D9 w'' (some ⟨gb,0,none⟩) (core++B5 core):=by
 obtain⟨ob,mb,g',Rb,rfl,hm,hal,habs,hno,hB,hblk,hnew⟩:=hw;have hal40:(a6 s).length≤40:=by
  have:=A9 hi.alive.nodup hi.alive.lt;have:=hi.cap.2;omega
 obtain⟨f1,f2,⟨r,f3,f3'⟩,f4,f5⟩:=a5T hi hz (cap:=40) Q8 Q8 hal40 (l:=[]) Q9;have hsm:SM W w' g ob mb (c0V g g') Rb (M7 s 40 []):=⟨hm.fix hal,⟨habs,hno⟩,hal.same,f1,f2,b3R hh 40 [],hnew,hB⟩;have hpk:=b7T f3 f3' hi f1;refine⟨mb,rfl,hB,fun n core hc hn=>?_⟩;have hs:=hsm.saveSl hp ha n (by rw [hpk,hc,hn]);refine hs.mono ?_;rintro e w'' ⟨gb,cap0,rfl,hb,hsl,_⟩
 refine⟨gb,cap0,rfl,hb,?_⟩;have:=hsl.im.bytes;rw[hpk] at this;have e9:imgB g (g8 s)=core++B5 core:=by rw [← hc];rfl
 rw[e9] at this;exact this
theorem b1r {W:World} {gb cap0 n i:Nat} {g:PgR} {s:McA} {y:Int} (h:a3w W gb cap0 n (imgB g (g8 s))) (hn:(M4 g (g8 s)).length=n) (hi:i < n+4) (hy:0≤y∧y < 256) (hne:(imgB g (g8 s))[i]?≠some y):K4 (M4 g (g8 s)) (imgB g (g8 s)) ((imgB g (g8 s)).set i y) n i y :=
 ⟨hn,h.im.n4,fun x hx=>h.im.rng x (List.mem_append_left _ hx),by rw [a1f];rfl,rfl,rfl,hi,hy,hne⟩
theorem c0K {x k:Nat} (hx:x < 256) (hk:k < 256) (h0:k≠0):x ^^^ k < 256∧x ^^^ k≠x:=by
 have:x ^^^ k < 2 ^ 8:=Nat.xor_lt_two_pow Q8 Q8;refine⟨by omega,fun e=>h0 ?_⟩;have h2:=congrArg (x ^^^ ·) e;simp only[← Nat.xor_assoc,Nat.xor_self,Nat.zero_xor] at h2;exact h2
theorem a8Q (c n:Int) (hn:0 < n):0≤i9 c n∧i9 c n < n:=by
 unfold i9;exact⟨Int.emod_nonneg _ Q8,Int.emod_lt_of_pos _ hn⟩
theorem c2Z (a b:Nat) (ha:a < 256) (hb:b < 256):bits .xor .u8 (a:Int) (IntKind.u8.wrap (b:Int))=((a ^^^ b:Nat):Int):=by
 have hx:a ^^^ b < 2 ^ 8:=Nat.xor_lt_two_pow Q8 Q8;have hw:∀m:Nat,m < 256→IntKind.u8.wrap (m:Int)=(m:Int):=fun m hm=>by
  have:IntKind.u8.wrap (m:Int)=(m:Int) % 256:=by simp [IntKind.wrap,IntKind.bits,IntKind.signed]
  rw[this];omega
 have h1:(BitVec.ofInt 8 (a:Int)).toNat=a:=by
  rw[BitVec.ofInt_natCast,BitVec.toNat_ofNat];exact Nat.mod_eq_of_lt Q8
 have h2:(BitVec.ofInt 8 (b:Int)).toNat=b:=by
  rw[BitVec.ofInt_natCast,BitVec.toNat_ofNat];exact Nat.mod_eq_of_lt Q8
 rw[hw b hb];show IntKind.u8.wrap ((BitVec.ofInt 8 (a:Int) ^^^ BitVec.ofInt 8 (b:Int)).toNat:Int)=_;rw[BitVec.toNat_xor,h1,h2];exact hw _ Q8
theorem c0j {W:World} {gb cap n:Nat} {img:List Int} (h:a3w W gb cap n img) :
  Calls Tryz.prog 22 #[.slice (some ⟨gb,0,none⟩) (n+4) cap] W fun e w'=>e=.returned (.slice (some ⟨gb,0,none⟩) (n+4) cap)∧a3w w' gb cap n (img.take n++B5 (img.take n))∧Below gb W w':=by
 have hl:=h.im.len;obtain⟨k,hk,hk2⟩:=a6I (l:=img.take n) fun x hx=>h.im.rng x (List.mem_of_mem_take hx)
 have hkl:k.length=n:=by
  have:=congrArg List.length hk;rw[List.length_take,List.length_map] at this;omega
 have h9:a3w W gb cap n (k.map (fun n:Nat=>(n:Int))++img.drop n):=by rw [← hk,List.take_append_drop];exact h
 have:=b4V h9 hkl hk2;rw[← hk] at this;exact this
theorem c2P {w:World} (a1 a2:Option Addr) (c1 c2 n:Nat) (l:List Int) (hl:l.length=n+4) (hn:n+4≤20000) (h1:D9 w a1 l) (h2:D9 w a2 l) :
  Calls Tryz.prog 21 #[.slice a1 (n+4) c1,.slice a2 (n+4) c2] w fun e w'=>e=.returned (.bool true)∧Below w.heap.size w w':=by
 have:=a8n a1 a2 c1 c2 l w Q8 h1 h2;rw[hl] at this;exact this
theorem a7N {w0 W:World} {gb cap n i:Nat} {core img img':List Int} {y:Int} {g:PgR} {p:McA} (htab:Tab W) (h:a3w W gb cap n (img'.take n++B5 (img'.take n))) (ht:K4 core img img' n i y) (hp:s7 g) (hcore:core=[83,76,77,2]++machB g p) (hB:Below w0.heap.size w0 W) :
  Calls Tryz.prog 11 #[.slice (some ⟨gb,0,none⟩) (n+4) cap,.int .i64 40,.slice none 0 0] W fun e w'=>Below w0.heap.size w0 w'∧((∃code:Int,(code=8∨code=9∨code=11)∧e=.returned (.tuple #[.pointer none,.int .i64 code])) ∨
   ∃mb,e=.returned (.tuple #[.pointer (some ⟨mb,0,none⟩),.int .i64 0])∧Calls Tryz.prog 10 #[.pointer (some ⟨mb,0,none⟩)] w' fun e w2=>∃gb2 c2,e=.returned (.slice (some ⟨gb2,0,none⟩) (n+4) c2)∧Below w0.heap.size w0 w2 ∧
    Calls Tryz.prog 21 #[.slice (some ⟨gb,0,none⟩) (n+4) cap,.slice (some ⟨gb2,0,none⟩) (n+4) c2] w2 fun e w3=>e=.returned (.bool true)∧Below w0.heap.size w0 w3):=by
 have hl:=ht.len;have hlen:=h.im.len;have hl':(img'.take n).length=n:=by
  rw[List.length_append,a2G] at hlen;omega
 refine (b3a htab h.im ht rfl hl' hp hcore).mono ?_;rintro e w' (⟨code,hc,rfl,hb⟩ | ⟨g',s',f1,f2,f3,f4,f5,f6,hw⟩)
 ·exact ⟨a0 hb hB,Or.inl ⟨code,hc,rfl⟩⟩
 ·obtain ⟨mb,rfl,hb,hs⟩:=b5w f1 f2 f3 f4 f5 hw
  refine⟨a0 hb hB,Or.inr ⟨mb,rfl,(hs n _ (by rw [a1f];exact f6.symm) hl').mono ?_⟩⟩;rintro e w2 ⟨gb2,c2,rfl,hb2,hy2⟩;refine⟨gb2,c2,rfl,a0 hb2 (a0 hb hB),?_⟩;refine (c2P _ _ _ _ n _ hlen h.im.n2 (h.later (a0 hb2 hb)).im.bytes hy2).mono ?_;rintro e w3 ⟨rfl,hb3⟩;exact⟨rfl,a0 hb3 (a0 hb2 (a0 hb hB))⟩
theorem b5d (a:Option Addr) (n c b o:Nat) (R:Nat→Int) (again:Bool) (room steps wh v:Int) (w:World) (hr:M3 w.heap.size w a n b o R) (hc:n≤c) (h1 : -9223372036854775808≤room) (h2:room≤9223372036854775807) (h3 : -9223372036854775808≤steps) (h4:steps≤9223372036854775807) (h5 : -9223372036854775808≤wh) (h6:wh≤9223372036854775807) (h7 : -9223372036854775808≤v) (h8:v≤9223372036854775807) (ht:Tab w) :
  Calls Tryz.prog 5 #[.slice a n c,.bool again,.int .i64 room,.int .i64 steps,.int .i64 wh,.int .i64 v] w fun e w'=>e=.returned (.bool true)∧Below w.heap.size w w':=by
 obtain⟨q0,q1⟩:=a7v room;obtain⟨cap,hcap⟩:=Int.eq_ofNat_of_zero_le (show 0≤1+i9 room 40 by omega);have hcap1:1≤cap:=by omega
 have hcap2:cap≤40:=by omega
 have HCAP:Hid ((cap:Int)=1+i9 room 40):=hid hcap.symm;obtain⟨q400,q401⟩:=b2s steps;obtain⟨f0,hf0⟩:=Int.eq_ofNat_of_zero_le q400;have hf04:f0≤10000:=by omega
 have HFU:Hid (∀U:World,Calls Tryz.prog 9 #[.int .i64 steps] U fun e w'=>e=.returned (.int .i64 (f0:Int))∧w'=U):=hid fun U=>by
  have:=b9i steps U h3 h4;rw[hf0] at this;exact this
 obtain⟨p0,p1⟩:=a8Q v 255 Q7;obtain⟨p,hp⟩:=Int.eq_ofNat_of_zero_le p0;obtain⟨kk,hkk⟩:∃kk:Nat,kk=1+p:=⟨_,rfl⟩
 have hkk1:1≤kk:=by omega
 have hkk2:kk < 256:=by omega
 have hwk:IntKind.i64.wrap (1+(p:Int))=(kk:Int):=by
  rw[Go.IntWalk.i64_in _ Q8,hkk];omega
 have hwk8:(kk:Int) % 256=(kk:Int):=by omega
 have HPV:Hid (∀U:World,Calls Tryz.prog 12 #[.int .i64 v,.int .i64 255] U fun e w'=>e=.returned (.int .i64 (p:Int))∧w'=U):=hid fun U=>by
  have:=a8R v 255 U h7 h8 Q7 Q7;rw[hp] at this;exact this
 have HPW:Hid (∀m:Nat,1≤m→m≤20000→∃i:Nat,i < m∧∀U:World,Calls Tryz.prog 12 #[.int .i64 wh,.int .i64 (m:Int)] U fun e w'=>e=.returned (.int .i64 (i:Int))∧w'=U):=hid fun m hm1 hm2=>by
  obtain⟨i0,i1⟩:=a8Q wh m Q8;obtain⟨i,hi⟩:=Int.eq_ofNat_of_zero_le i0;refine⟨i,by omega,fun U=>?_⟩;have:=a8R wh m U h5 h6 Q8 Q8;rw[hi] at this;exact this
 have HP:Hid (∀W,Below w.heap.size w W→Calls Tryz.prog 7 #[.slice a n c,.bool again] W fun e w'=>a8v W e w'):=fun W hW=>b4f a n c b o R again W ((hr.below hW).mono hW.size) hc
 have HT:=hid ht;have HRM:=hid (And.intro h1 h2);have h0:0 < w.heap.size:=ht.1;clear hr ht h1 h2 h3 h4 h5 h6 h7 h8 q0 q1 hp hcap q400 q401 hf0 p0 p1 hkk;go_enter Tryz.func5,Tryz.ntmps5;go_wp2_with fail;refine (HP.out _ P0).mono ?_;rintro e w1 ⟨g,rfl,hpg,hck,hb1,har⟩
 have hB1:Below w.heap.size w w1:=a0 hb1 P0;have ht1:Tab w1:=HT.out.held hB1.size (hB1.block 0 h0);have HBG:Hid (∀W,Below w1.heap.size w1 W→Calls Tryz.prog 6 #[.agg #[.slice g.a g.n g.c],.int .i64 room] W fun e w'=>a6r g cap W e w'):=fun W hW=>b3r g W (hpg.held hW.size fun k hk=>hW.block k (hpg.blk_lt hk)) (ht1.held hW.size (hW.block 0 ht1.1)) hck room HRM.out.1 HRM.out.2 cap HCAP.out
 have HB1:=hid hB1;have HPK:=hid (a6m hck);have HAR:=hid har;clear hpg hck hb1 hB1 ht1 har HRM HCAP;go_wp2_with fail;refine (HBG.out _ P0).mono ?_;rintro e w2 ⟨oa,ma,ga,Ra,rfl,hma,hbga,hsa,hb2,hna,hba⟩;obtain⟨s0,hs0⟩:∃s0:McA,s0=⟨0,[],[⟨0,0,List.replicate (g.f 0).l.toNat (0,0),[]⟩],List.replicate cap (0,[]),[]⟩:=⟨_,rfl⟩
 have HSM:Hid (SM w w2 g oa ma ga Ra s0):=hid ⟨hma,by rw [hs0];exact ⟨(b1b hbga).1,(b1b hbga).2⟩,hsa,by rw [hs0];exact b7m HPK.out hcap1 hcap2,by rw [hs0];exact b3U _ _ _,by rw [hs0];exact ⟨fun e=>absurd (show (0:Int)=1 from e) Q7,fun e=>absurd e Q9⟩,fun k t hk=>Nat.le_trans (Nat.le_trans HB1.out.size Q9) (hna k t hk),a0 hb2 (by repeat (first | exact HB1.out | exact Below.refl _ _ | refine Below.drew ?_ | refine Below.drewQ ?_ _ | refine Below.alloc ?_ (by first | (simp;done) | (simp;omega) | (have:=HB1.out.size;simp;omega)) _))⟩
 clear hma hbga hsa hb2 hna hba hs0 HB1 HBG HP;go_wp2_with (go_at_call 9;refine (HFU.out _).mono ?_;rintro e w' ⟨rfl,hw⟩;rw [hw];clear hw w')
 refine (HSM.out.run HPK.out HAR.out f0 hf04).mono ?_;rintro e w3 ⟨rfl,oa3,Ra3,h3⟩;generalize runA g f0 s0=s at *
 generalize z6 g f0 s0=m0 at *
 have H3:=hid h3;have hcl:=b1q HPK.out HAR.out h3.inv h3.ints;obtain⟨nn,hnn⟩:∃nn,(M4 g (g8 s)).length=nn:=⟨_,rfl⟩
 rw[hnn] at hcl;have hn4:=hcl.1;have hn2:=hcl.2;have HNN:=hid hnn;clear h3 hcl hnn HSM HFU;go_wp2_with fail;refine (H3.out.saveSl HPK.out HAR.out nn HNN.out).mono ?_;rintro e w4 ⟨gb,cap0,rfl,hb4,hsl,hge⟩;have HSL:=hid hsl;have HB4:=hid (a0 hb4 H3.out.bel);have hcp:=hsl.im.cap;have hlt4:=hsl.im.lt;obtain⟨i,hi,hpw⟩:=HPW.out (nn+4) Q8 Q8;have HPI:Hid (∀U:World,Calls Tryz.prog 12 #[.int .i64 wh,.int .i64 ((nn:Int)+4)] U fun e w'=>e=.returned (.int .i64 (i:Int))∧w'=U):=hid hpw
 clear hb4 hsl HPW hpw H3;have hlen:(imgB g (g8 s)).length=nn+4:=HSL.out.im.len;obtain⟨xI,hx⟩:∃x,(imgB g (g8 s))[i]?=some x:=⟨_,List.getElem?_eq_getElem Q8⟩
 have hxr:=HSL.out.im.rng xI (List.mem_of_getElem? hx);obtain⟨x,rfl⟩:=Int.eq_ofNat_of_zero_le hxr.1;have hx2:x < 256:=by omega
 have x0:=HSL.out.im.cell i _ hx;have z0:=HSL.out.fz i;have hturn:=c0K hx2 hkk2 Q8;obtain⟨y,hy⟩:∃y,y=x ^^^ kk:=⟨_,rfl⟩
 rw[← hy] at hturn;have HTU:=hid (b1r HSL.out HNN.out hi (y:=(y:Int)) Q8 (by rw [hx];intro e;cases e;exact hturn.2 rfl));have hxy:bits .xor .u8 (x:Int) (IntKind.u8.wrap (kk:Int))=(y:Int):=by rw [c2Z x kk hx2 hkk2,hy]
 have HXY:=hid hxy;have hi8:¬((nn+4:Nat):Int) < 8:=by omega
 have hi9:¬(nn:Int)+4 < 8:=by omega
 clear hx hxr hlen hxy;have hin:(i:Int) < (nn:Int)+4:=by omega
 have HY:=hid hy;clear hy;go_wp2_with fail;refine (HPI.out _).mono ?_;rintro e w' ⟨rfl,hw⟩;rw[hw];clear hw w' HPI;go_wp2_with (go_at_call 12;refine (HPV.out _).mono ?_;rintro e w' ⟨rfl,hw⟩;rw [hw];clear hw w')
 go_region_with (go_at_call 12;refine (HPV.out _).mono ?_;rintro e w' ⟨rfl,hw⟩;rw [hw];clear hw w')
 all_goals
  rw[HXY.out];have hsl5:=(HSL.out.set i hi (y:Int) Q8).later (Below.drew (Below.refl _ _));have hb5:Below w.heap.size w ((w4.setCell ⟨gb,i,none⟩ (.int .u8 (y:Int))).drew):=Below.drew (Below.setCell HB4.out hge _);generalize (w4.setCell ⟨gb,i,none⟩ (.int .u8 (y:Int))).drew=w5 at *
  obtain⟨code,hc1,hc2,hc3⟩:=b5t hsl5.im HTU.out;have hc0:(code == 0)=false:=by rcases hc1 with rfl | rfl | rfl <;> rfl
  have hc9:¬code=0:=by rcases hc1 with rfl | rfl | rfl <;> decide
  have HSL5:=hid hsl5;have HB5:=hid hb5;have HC3:=hid hc3;have HC2:=hid hc2;clear hsl5 hb5 hc1 hc2 hc3 x0 z0 HSL HXY;go_wp2_with fail;refine HC3.out.mono ?_;rintro e w6 ⟨rfl,hb6⟩;have HB6:=hid (a0 hb6 HB5.out);have HSE:=hid (c0j (HSL5.out.later hb6));clear hb6 HC3 HSL5;by_cases hge4:4≤i
  ·obtain rfl:=HC2.out hge4
   have hge5:(4:Int)≤(i:Int):=by omega
   go_wp2_with fail;refine HSE.out.mono ?_;rintro e w7 ⟨rfl,hsl7,hb7⟩;have hB7:Below w.heap.size w w7:=HB6.out.trans (a6G hb7 hge);have HW:=hid (a7N (HT.out.held hB7.size (hB7.block 0 h0)) hsl7 HTU.out HPK.out (a1f _ _) hB7);clear hsl7 hb7 hB7 HSE;go_wp2_with fail;refine HW.out.mono ?_;rintro e w8 ⟨hb8,⟨code2,hcc,rfl⟩ | ⟨mb,rfl,hsv⟩⟩
   ·have HB8:=hid hb8
    clear hb8 HW;rcases hcc with rfl | rfl | rfl
    all_goals
     go_wp2_with fail;go_ret;exact⟨rfl,HB8.out⟩
   ·have HSV:=hid hsv
    clear hb8 hsv HW;go_wp2_with fail;refine HSV.out.mono ?_;rintro e w9 ⟨gb2,c2,rfl,hb9,hsm⟩;have HSB:=hid hsm;clear hb9 hsm HSV;go_wp2_with fail;refine HSB.out.mono ?_;rintro e w10 ⟨rfl,hb10⟩;have HB10:=hid hb10;clear hb10 HSB;go_wp2_with fail;go_ret;exact⟨rfl,HB10.out⟩
  ·have hge5:¬(4:Int)≤(i:Int):=by omega
   go_wp2_with fail;refine HSE.out.mono ?_;rintro e w7 ⟨rfl,hsl7,hb7⟩;have hB7:Below w.heap.size w w7:=HB6.out.trans (a6G hb7 hge);have HW:=hid (a7N (HT.out.held hB7.size (hB7.block 0 h0)) hsl7 HTU.out HPK.out (a1f _ _) hB7);clear hsl7 hb7 hB7 HSE;go_wp2_with fail;refine HW.out.mono ?_;rintro e w8 ⟨hb8,⟨code2,hcc,rfl⟩ | ⟨mb,rfl,hsv⟩⟩
   ·have HB8:=hid hb8
    clear hb8 HW;rcases hcc with rfl | rfl | rfl
    all_goals
     go_wp2_with fail;go_ret;exact⟨rfl,HB8.out⟩
   ·have HSV:=hid hsv
    clear hb8 hsv HW;go_wp2_with fail;refine HSV.out.mono ?_;rintro e w9 ⟨gb2,c2,rfl,hb9,hsm⟩;have HSB:=hid hsm;clear hb9 hsm HSV;go_wp2_with fail;refine HSB.out.mono ?_;rintro e w10 ⟨rfl,hb10⟩;have HB10:=hid hb10;clear hb10 HSB;go_wp2_with fail;go_ret;exact⟨rfl,HB10.out⟩
end Go.Proofs.YtbkmgoffiigdbabGreatDoor
