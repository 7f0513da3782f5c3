import Derived.Test.YtbkmgoffiigdbabGreatDoorVZp
namespace Go.Proofs.YtbkmgoffiigdbabGreatDoor
open Go.RowKit Go.Sort
set_option maxHeartbeats 4000000
set_option maxRecDepth 100000
def FA (W:World) (rb:Nat) (a:Option Addr) (c:Nat) (bs:List Int):Prop:=∃s,o9 W rb a c bs s∧s.f=true
theorem FA.later {W V:World} {rb c:Nat} {a:Option Addr} {bs:List Int} (h:FA W rb a c bs) (hB:Below W.heap.size W V):FA V rb a c bs:=by
 obtain⟨s,h,hf⟩:=h;exact⟨s,h.later hB,hf⟩
theorem FA.lt {W:World} {rb c:Nat} {a:Option Addr} {bs:List Int} (h:FA W rb a c bs):rb < W.heap.size:=by
 obtain⟨s,h,hf⟩:=h;exact h.lt
theorem FA.flag {W:World} {rb c:Nat} {a:Option Addr} {bs:List Int} (h:FA W rb a c bs):W.cell? ⟨rb,2,none⟩=some (.bool true):=by
 obtain⟨s,h,hf⟩:=h;have:=h.c2;rw[hf] at this;exact this
def a8u (rb:Nat) (a:Option Addr) (c:Nat) (bs:List Int) (v:Value) (W:World) (e:Ending) (w':World):Prop:=e=.returned v∧FA w' rb a c bs∧Rd rb W w'
theorem a5L {bs:List Int} {s:Rs} (h:s.f=true) (m:Int):(c9 bs m s).1=0∧(c9 bs m s).2.f=true:=by
 have h2:=(T1 bs m s).f h;refine⟨?_,h2⟩;unfold c9 at h2 ⊢;simp only at h2 ⊢;rw[h2];rfl
theorem b5o {W:World} {rb c:Nat} {a:Option Addr} {bs:List Int} (h:FA W rb a c bs) (most:Nat) (hm:most≤9223372036854775807) :
  Calls Tryz.prog 80 #[.pointer (some ⟨rb,0,none⟩),.int .i64 (most:Int)] W fun e w'=>a8u rb a c bs (.int .i64 0) W e w':=by
 obtain⟨s,h,hf⟩:=h;refine (N0 h most hm).mono ?_;rintro e w' ⟨rfl,h1,h2⟩;obtain⟨e1,e2⟩:=a5L (bs:=bs) hf (most:Int);rw[e1];exact⟨rfl,⟨_,h1,e2⟩,h2⟩
theorem b4l {W:World} {rb c:Nat} {a:Option Addr} {bs:List Int} (h:FA W rb a c bs) (hold:Bool) :
  Calls Tryz.prog 82 #[.pointer (some ⟨rb,0,none⟩),.bool hold] W fun e w'=>a8u rb a c bs (.tuple #[]) W e w':=by
 obtain⟨s,h,hf⟩:=h;refine (C0 h hold).mono ?_;rintro e w' ⟨rfl,h1,h2⟩;exact⟨rfl,⟨_,h1,(y8 s hold).f hf⟩,h2⟩
theorem c0Q {W:World} {rb c:Nat} {a:Option Addr} {bs:List Int} (h:FA W rb a c bs) :
  Calls Tryz.prog 84 #[.pointer (some ⟨rb,0,none⟩)] W fun e w'=>(∃b,e=.returned (.bool b))∧Below W.heap.size W w':=by
 obtain⟨s,h,hf⟩:=h;refine (a8x h).mono ?_;rintro e w' ⟨rfl,h1⟩;exact⟨⟨_,rfl⟩,h1⟩
theorem a4o (rb:Nat) (W:World):Calls Tryz.prog 117 #[.pointer (some ⟨rb,0,none⟩),.int .i64 0,.func (.func 118) #[.pointer (some ⟨rb,0,none⟩)] #[]] W fun e w'=>e=.returned (.slice none 0 0)∧w'=W:=by
 go_enter Tryz.func117,Tryz.ntmps117;go_wp2_with fail;go_loopw [7] (fun vl wr=>vl=.slice none 0 0∧wr=W) (fun _ _=>0)
 case atStart=>exact ⟨rfl,rfl⟩
 case round =>
  obtain⟨rfl,rfl⟩:=hrel;go_wp2_with fail;go_ret;exact⟨rfl,rfl⟩
theorem b7L {W:World} {rb c:Nat} {a:Option Addr} {bs:List Int} (h:FA W rb a c bs) :
  Calls Tryz.prog 83 #[.pointer (some ⟨rb,0,none⟩)] W fun e w'=>a8u rb a c bs (.slice none 0 0) W e w':=by
 have HN:=hid (b5o h 40 Q7);clear h;go_enter Tryz.func83,Tryz.ntmps83;go_wp2_with (first | (go_at_call 80;refine HN.out.mono ?_;rintro e w1 ⟨rfl,h1,h2⟩) | (go_at_call 117;refine (a4o rb _).mono ?_;rintro e w2 ⟨rfl,hw⟩;rw [hw];clear hw w2))
 go_ret;exact⟨rfl,h1,h2⟩
theorem b9g {W:World} {rb c:Nat} {a:Option Addr} {bs:List Int} (h:FA W rb a c bs) (pa:Option Addr) (pn pc:Nat) :
  Calls Tryz.prog 81 #[.pointer (some ⟨rb,0,none⟩),.agg #[.slice pa pn pc]] W fun e w'=>a8u rb a c bs (.slice none 0 0) W e w':=by
 have hB0:Below W.heap.size W (W.alloc (.cells #[.slice pa pn pc] 27)):=Below.alloc (Below.refl _ _) (Nat.le_refl _) _;have HB0:=hid hB0;have HU:=hid (b5o (h.later hB0) 12 Q7);simp only[show ((12:Nat):Int)=12 from rfl] at HU;clear h hB0;go_enter Tryz.func81,Tryz.ntmps81;go_wp2_with fail;refine HU.out.mono ?_;rintro e w1 ⟨rfl,h1,h2⟩;have H1:=hid h1;have H2:=hid ((b7.of_below HB0.out).trans h2)
 clear h1 h2 HU HB0;go_wp2_with fail;go_loopw [5,6,7] (fun vl vc vn wr=>vl=.slice none 0 0∧vc=.int .i64 0∧vn=.int .i64 0∧wr=w1) (fun _ _ _ _=>0)
 case atStart=>exact ⟨rfl,rfl,rfl,rfl⟩
 case round =>
  obtain⟨rfl,rfl,rfl,rfl⟩:=hrel;go_wp2_with fail;go_ret;exact⟨rfl,H1.out,H2.out⟩
theorem c2N {W:World} {rb c:Nat} {a:Option Addr} {bs:List Int} (h:FA W rb a c bs) :
  Calls Tryz.prog 111 #[.pointer (some ⟨rb,0,none⟩)] W fun e w'=>a8u rb a c bs (.slice none 0 0) W e w':=by
 obtain⟨s,h,hf⟩:=h;obtain⟨e1,e2⟩:=a5L (bs:=bs) hf 40;have e3:a6a bs s=([],(c9 bs 40 s).2):=by
  unfold a6a a1t;rw[e1];exact B1 (F:=bs.length+1) Q9
 refine (b2M h).mono ?_;rintro e w' ⟨v,⟨rfl,h1,h2⟩,_,h4⟩;rw[e3] at h1 h4;rw[h4 rfl];exact⟨rfl,⟨_,h1,e2⟩,h2⟩
structure MmF (W w:World) (M rb:Nat) (a:Option Addr) (c:Nat) (bs:List Int) (g:PgR):Prop where
 mm:a0L w M g 0 (.slice none 0 0) (.slice none 0 0) (.slice none 0 0)
 rd:FA w rb a c bs
 wr:b7 rb rb W w
 pg:A4 w.heap.size w g
 tab:Tab w
 M0:W.heap.size≤M
 gM:∀k,g.blk k→W.heap.size≤k∧k≠M
theorem MmF.next {W w w':World} {M rb:Nat} {a:Option Addr} {c:Nat} {bs:List Int} {g:PgR} (h:MmF W w M rb a c bs g) (hl:rb < W.heap.size) (h0:rb≠0) (hr:FA w' rb a c bs) (hw:b7 rb rb w w'):MmF W w' M rb a c bs g:=by
 have:=h.M0;exact⟨h.mm.kept hw.size (hw.block M h.mm.lt Q8 Q8),hr,h.wr.trans hw,h.pg.wrote (fun k hk=>by have:=h.gM k hk;omega) hw,h.tab.wrote h0 hw,h.M0,h.gM⟩
theorem MmF.below {W w w':World} {M rb:Nat} {a:Option Addr} {c:Nat} {bs:List Int} {g:PgR} (h:MmF W w M rb a c bs g) (hl:rb < W.heap.size) (h0:rb≠0) (hw:Below w.heap.size w w'):MmF W w' M rb a c bs g :=
 h.next hl h0 (h.rd.later hw) (b7.of_below hw)
theorem MmF.put {W w:World} {M rb:Nat} {a:Option Addr} {c:Nat} {bs:List Int} {g:PgR} {s0:Rs} (hW:o9 W rb a c bs s0) (h:MmF W w M rb a c bs g) (j:Nat) (v:Value) (hm:a0L (w.setCell ⟨M,j,none⟩ v) M g 0 (.slice none 0 0) (.slice none 0 0) (.slice none 0 0)):MmF W (w.setCell ⟨M,j,none⟩ v) M rb a c bs g:=by
 have hM0:=h.M0;have hz:=h.tab.1;have hWz:=hW.lt;obtain⟨s,hrd,hf⟩:=h.rd;refine⟨hm,⟨s,hW.setNew hrd hM0 j v,hf⟩,h.wr.setNew hM0 j v,h.pg.held Q9 fun k hk=>?_,h.tab.held Q9 ?_,hM0,h.gM⟩
 ·exact heap_setCell_other _ _ _ _ (show k≠M from (h.gM k hk).2)
 ·exact heap_setCell_other _ _ _ _ (show 0≠M by omega)
def C8:McR:=⟨0,.slice none 0 0,[],.slice none 0 0,[],.slice none 0 0,[],.slice none 0 0,[]⟩
theorem MmF.mach {W w:World} {M rb:Nat} {a:Option Addr} {c:Nat} {bs:List Int} {g:PgR} (h:MmF W w M rb a c bs g) (hl:rb < W.heap.size):∃own,a8 w own M g C8:=by
 have hM0:=h.M0;have hp:∀b t,uX M C8 b t→t=.mach∧b=M:=fun b t hp=>by
  cases t with
  | mach=>exact ⟨rfl,hp⟩
  | out=>cases hp
  | called=>cases hp
  | slots=>cases hp
  | draws=>cases hp
  | loc i=>obtain ⟨f,hf,_⟩:=hp;simp [C8] at hf
  | stk i=>obtain ⟨f,hf,_⟩:=hp;simp [C8] at hf
  | fld j=>obtain ⟨f,hf,_⟩:=hp;simp [C8] at hf
 obtain⟨own,hm,_⟩:=T2 (w:=w) (mb:=M) (g:=g) (R:=C8) (fun b t t' h1 h2=>by rw [(hp b t h1).1,(hp b t' h2).1]) (fun b t h1=>by rw [(hp b t h1).2];exact h.mm.lt)
  h.mm.c0 h.mm.c1 h.mm.c2 h.mm.c3 h.mm.c4 h.mm.c5 h.mm.z (World.ownsRow_nil _ _ _ _) (World.ownsRow_nil _ _ _ _) (World.ownsRow_nil _ _ _ _) (World.ownsRow_nil _ _ _ _) (fun i f hf=>by simp [C8] at hf) (fun i f hf=>by simp [C8] at hf) (fun i f hf=>by simp [C8] at hf)
  h.pg (fun k hk t h1=>(h.gM k hk).2 (hp k t h1).2) h.tab (fun t h1=>by have:=(hp 0 t h1).2;omega)
 exact⟨own,hm⟩
theorem a4c:b6t C8:=by
 refine⟨by simp [C8],by simp [C8],fun q v l t hv=>?_,fun q v l t hv=>?_⟩ <;> rcases hv with ⟨i,f,hf,_⟩ | ⟨i,f,hf,_⟩ | ⟨j,o,ho,_⟩
 all_goals simp [C8] at *
theorem b0t {W:World} {rb c:Nat} {a:Option Addr} {bs:List Int} {s:Rs} (h:o9 W rb a c bs s) (ht:Tab W) (h0:rb≠0) (hbad:∀g x y,a3f g (U7 bs s).1→y5 g x y→(i8 (U7 bs s).2 (x == 0)).f=true) :
  Calls Tryz.prog 51 #[.pointer (some ⟨rb,0,none⟩)] W fun e w'=>∃mb,a8u rb a c bs (.pointer (some ⟨mb,0,none⟩)) W e w':=by
 have hlt:=h.lt;have HW:=hid h;have HP:=hid (a4F h ht h0);have HT:=hid ht;have HCK:=hid hbad;clear h ht hbad;go_enter Tryz.func51,Tryz.ntmps51;go_wp2_with fail;refine HP.out.mono ?_;rintro e w1 ⟨g,x,y,⟨rfl,h1,h2⟩,hpi,hbl,his,hck⟩;have hfa:FA w1 rb a c bs:=⟨_,h1,HCK.out g x y his hck⟩;have hB1:Below w1.heap.size w1 (w1.alloc (.cells #[.slice g.a g.n g.c,.int .i64 0,.slice none 0 0,.slice none 0 0,.slice none 0 0,.slice none 0 0] 81)):=Below.alloc (Below.refl _ _) (Nat.le_refl _) _
 have hW1:=(h2.trans (b7.of_below hB1):b7 rb rb W _);have hs1:W.heap.size≤w1.heap.size:=h2.size;have S1:Hid (MmF W (w1.alloc (.cells #[.slice g.a g.n g.c,.int .i64 0,.slice none 0 0,.slice none 0 0,.slice none 0 0,.slice none 0 0] 81)) w1.heap.size rb a c bs g) :=
  hid ⟨⟨by go_simp,by go_simp,by go_simp,by go_simp,by go_simp,by go_simp,fun j=>by go_simp,by simp⟩,hfa.later hB1,hW1,hpi.held hB1.size (fun k hk=>hB1.block k (hpi.blk_lt hk)),HT.out.wrote h0 hW1,hs1,fun k hk=>⟨hbl k hk,by have:=hpi.blk_lt hk;omega⟩⟩
 have HU:=hid (b5o S1.out.rd 7 Q7);simp only[show ((7:Nat):Int)=7 from rfl] at HU;clear h1 h2 hpi hbl his hck hB1 hW1 HP HCK hfa;go_wp2_with fail;refine HU.out.mono ?_;rintro e w2 ⟨rfl,h3,h4⟩;have S2:=hid (S1.out.next hlt h0 h3 h4);clear h3 h4 HU S1;have hM0:=S2.out.M0;have hMr:w1.heap.size≠rb:=by omega
 have y1:=S2.out.mm.c1;have z1:=S2.out.mm.z 1;have l2:=S2.out.mm.lt;obtain⟨s2,hr2,_⟩:=S2.out.rd;have c5:=hr2.c5;have lr:=hr2.lt;clear hr2;have S3:=hid (S2.out.put HW.out 1 (.int .i64 0) (S2.out.mm.set1 0));have HO:=hid (c2N S3.out.rd);go_wp2_with fail;refine HO.out.mono ?_;rintro e w4 ⟨rfl,h5,h6⟩;have S4:=hid (S3.out.next hlt h0 h5 h6);clear h5 h6 HO y1 z1 l2 c5 lr S3 S2;have y2:=S4.out.mm.c2;have z2:=S4.out.mm.z 2
 have l4:=S4.out.mm.lt;have y0:=S4.out.mm.c0;have lr:=S4.out.rd.lt;have S5:=hid (S4.out.put HW.out 2 (.slice none 0 0) (S4.out.mm.set2 _));have HF:=hid (b9g S5.out.rd g.a g.n g.c);go_wp2_with fail;refine HF.out.mono ?_;rintro e w6 ⟨rfl,h7,h8⟩;have S6:=hid (S5.out.next hlt h0 h7 h8);clear h7 h8 HF y2 z2 l4 y0 lr S5 S4;have y3:=S6.out.mm.c3;have z3:=S6.out.mm.z 3;have l6:=S6.out.mm.lt;have y1:=S6.out.mm.c1
 have lr:=S6.out.rd.lt;have S7:=hid (S6.out.put HW.out 3 (.slice none 0 0) (S6.out.mm.set3 _));go_wp2_with fail;generalize w6.setCell ⟨w1.heap.size,3,none⟩ (.slice none 0 0)=w7 at *
 clear y3 z3 l6 y1 lr S6;have y1:=S7.out.mm.c1;have y3:=S7.out.mm.c3;have l7:=S7.out.mm.lt;have HRE:Hid (∀V,Below w7.heap.size w7 V→FA V rb a c bs):=hid fun V hV=>S7.out.rd.later hV
 go_region_held3 (fun u=>u.cell? ⟨w1.heap.size,1,none⟩=some (.int .i64 0)∧u.cell? ⟨w1.heap.size,3,none⟩=some (.slice none 0 0)) (first | go_keep | exact ⟨y1,y3⟩ | exact ⟨s1,s3⟩) (first | (go_at_call 82;refine (b4l (HRE.out _ P5) _).mono ?_;rintro e w8 ⟨rfl,h9,h10⟩;have S8:=hid ((S7.out.below hlt h0 P5).next hlt h0 h9 h10);have s1:=S8.out.mm.c1;have s3:=S8.out.mm.c3;clear h9 h10))
 rename_i hHeld
 clear hHeld s1 s3 y1 y3 l7 S7 HRE;have HO:=hid (b7L S8.out.rd);go_wp2_with fail;refine HO.out.mono ?_;rintro e w9 ⟨rfl,h11,h12⟩;have S9:=hid (S8.out.next hlt h0 h11 h12);clear h11 h12 HO S8;have y4:=S9.out.mm.c4;have z4:=S9.out.mm.z 4;have l9:=S9.out.mm.lt;have lr:=S9.out.rd.lt;have S10:=hid (S9.out.put HW.out 4 (.slice none 0 0) (S9.out.mm.set4 _));go_wp2_with fail;generalize w9.setCell ⟨w1.heap.size,4,none⟩ (.slice none 0 0)=w10 at *
 clear y4 z4 l9 lr S9;have HAE:Hid (∀V,Below w10.heap.size w10 V→Calls Tryz.prog 84 #[.pointer (some ⟨rb,0,none⟩)] V fun e w'=>(∃b,e=.returned (.bool b))∧Below V.heap.size V w'):=hid fun V hV=>c0Q (S10.out.rd.later hV)
 go_region_with (first | (go_at_call 84;refine (HAE.out _ P5).mono ?_;rintro e w11 ⟨⟨b0,rfl⟩,hb11⟩;have HB11:Hid (Below w10.heap.size w10 w11):=a0 hb11 P5;clear hb11) | (go_at_call 82;refine (b4l (S10.out.rd.later HB11.out) _).mono ?_;rintro e w12 ⟨rfl,h13,h14⟩;have S12:=hid ((S10.out.below hlt h0 HB11.out).next hlt h0 h13 h14);clear h13 h14))
 all_goals
  obtain⟨own,hmach⟩:=S12.out.mach hlt;have HIP:Hid (∀V,Below w12.heap.size w12 V→Calls Tryz.prog 85 #[.pointer (some ⟨w1.heap.size,0,none⟩)] V fun e w'=>∃b,e=.returned (.bool b)∧Below V.heap.size V w'):=hid fun V hV=>(a1G (hmach.same hV.size fun k hk=>hV.block k hk) a4c (fun ha=>by have h9:=a1D (a4c.free ha);have h8:C8.obs.length=0:=rfl;omega)).mono fun e w' ⟨b,h1,h2,_⟩=>⟨b,h1,h2⟩
  clear hmach HAE HB11 S10;go_wp2_with fail;go_region_with (first | (go_at_call 85;refine (HIP.out _ P5).mono ?_;rintro e w13 ⟨b,rfl,hb13⟩;have HB13:Hid (Below w12.heap.size w12 w13):=a0 hb13 P5;clear hb13) | (go_at_call 82;refine (b4l (S12.out.rd.later HB13.out) _).mono ?_;rintro e w14 ⟨rfl,h15,h16⟩;have H15:=hid h15;have H16:=hid h16;clear h15 h16))
 all_goals
  go_wp2_with fail;go_ret;exact⟨w1.heap.size,rfl,H15.out,(S12.out.wr.trans (b7.of_below HB13.out)).trans H16.out⟩
def a4H (x:Int) (k:Nat):Int:=x*2 ^ k % 4294967296
def J1 (bs:List Int):Nat→Rs→Int→Nat→Int × Rs
 | 0,s,n,_=>(n,s)
 | m+1,s,n,k=>J1 bs m (j8 bs s).2 (bits .or .u32 n (a4H (j8 bs s).1 k)) (k+8)
def A3 (bs:List Int) (s:Rs):Int × Rs:=J1 bs 4 s 0 0
def C7 (bs:List Int) (s:Rs):Int × Rs:=((A3 bs s).1,i8 (A3 bs s).2 (decide ((A3 bs s).1≤2147483647)))
def X5 (bs:List Int) (s:Rs):Int × Rs:=(if (A3 bs s).1 < 2147483648 then (A3 bs s).1 else (A3 bs s).1 - 4294967296,(A3 bs s).2)
theorem b5V (a b:Int):0≤bits .or .u32 a b∧bits .or .u32 a b < 4294967296:=by
 have:=bits_within .or .u32 a b;have e1:IntKind.u32.min=0:=rfl;have e2:IntKind.u32.max=4294967295:=rfl;rw[e1,e2] at this;omega
theorem a8V (bs:List Int):∀(m:Nat) (s:Rs) (n:Int) (k:Nat),0≤n∧n < 4294967296→0≤(J1 bs m s n k).1∧(J1 bs m s n k).1 < 4294967296
 | 0,_,_,_,h=>h
 | m+1,_,_,_,_=>a8V bs m _ _ _ (b5V _ _)
theorem a7z (bs:List Int) (s:Rs):0≤(A3 bs s).1∧(A3 bs s).1 < 4294967296:=by
 rw[A3];exact a8V bs 4 s 0 0 ⟨by decide,by decide⟩
theorem b2B {bs:List Int} (_h:∀x,x∈bs→0≤x∧x < 256) (s:Rs):0≤(C7 bs s).1∧(C7 bs s).1 < 18446744073709551616:=by
 have:=a7z bs s;unfold C7;simp only;omega
theorem a5d (bs:List Int):∀(m:Nat) (s:Rs) (n:Int) (k:Nat),Fwd s (J1 bs m s n k).2
 | 0,s,_,_=>Fwd.refl s
 | m+1,s,_,_=>(a4g bs s).trans (a5d bs m _ _ _)
theorem b1G (bs:List Int) (s:Rs):Fwd s (A3 bs s).2:=by
 rw[A3];exact a5d bs 4 s 0 0
theorem b0o (bs:List Int) (s:Rs):(C7 bs s).2=i8 (A3 bs s).2 (decide ((A3 bs s).1≤2147483647)):=by rw [C7]
theorem b6c (bs:List Int) (s:Rs):(X5 bs s).2=(A3 bs s).2:=by rw [X5]
theorem b9l (bs:List Int) (s:Rs):Fwd s (C7 bs s).2:=by
 rw[b0o];exact (b1G bs s).trans (y8 _ _)
theorem b9k (bs:List Int) (s:Rs):Fwd s (X5 bs s).2:=by
 rw[b6c];exact b1G bs s
theorem c0a (bs:List Int) (s:Rs):A3 bs s=J1 bs 3 (j8 bs s).2 (bits .or .u32 0 (a4H (j8 bs s).1 0)) (0+8):=by
 rw[A3,J1]
theorem b5h (bs:List Int) (s:Rs):X0 s (A3 bs s).2:=by
 rw[c0a];exact (O3 bs s).then (a5d bs 3 _ _ _)
theorem b5i (bs:List Int) (s:Rs):X0 s (C7 bs s).2:=by
 rw[b0o];exact (b5h bs s).then (y8 _ _)
def V8 (bs:List Int) (most:Int) (s:Rs):Int × Rs:=(if (i8 (C7 bs s).2 (decide ((C7 bs s).1≤most))).f then 0 else (C7 bs s).1,i8 (C7 bs s).2 (decide ((C7 bs s).1≤most)))
def d8 (bs:List Int) (s:Rs):Int × Rs:=V8 bs 9223372036854775807 s
structure r6 (W:World) (rb:Nat) (a:Option Addr) (c:Nat) (bs:List Int) (s:Rs):Prop where
 c0:W.cell? ⟨rb,0,none⟩=some (.slice a bs.length c)
 c1:W.cell? ⟨rb,1,none⟩=some (.int .i64 (s.p:Int))
 c2:W.cell? ⟨rb,2,none⟩=some (.bool s.f)
 c3:W.cell? ⟨rb,3,none⟩=some (.func (.func 104) #[] #[])
 c4:W.cell? ⟨rb,4,none⟩=some (.func (.func 105) #[] #[])
 c5:W.cell? ⟨rb,5,none⟩=some (.func (.func 106) #[] #[])
 c6:W.cell? ⟨rb,6,none⟩=some (.func (.func 107) #[] #[])
 c7:W.cell? ⟨rb,7,none⟩=some (.func (.func 108) #[] #[])
 z:∀j,W.frozen? ⟨rb,j,none⟩=false
 bytes:D9 W a bs
 ne:∀b o,a=some ⟨b,o,none⟩→b≠rb
 lt:rb < W.heap.size
 rng:∀x,x∈bs→0≤x∧x < 256
 len:bs.length≤20000
 pos:s.p≤bs.length
theorem r6.held {W V:World} {rb c:Nat} {a:Option Addr} {bs:List Int} {s:Rs} (h:r6 W rb a c bs s) (hs:W.heap.size≤V.heap.size) (hb:∀k,k < W.heap.size→V.heap[k]?=W.heap[k]?):r6 V rb a c bs s:=by
 have e:=hb rb h.lt;have hc:∀j,V.cell? ⟨rb,j,none⟩=W.cell? ⟨rb,j,none⟩:=fun j=>World.cell?_of_block (w:=W) (a:=⟨rb,j,none⟩) e
 refine⟨(hc 0).trans h.c0,(hc 1).trans h.c1,(hc 2).trans h.c2,(hc 3).trans h.c3,(hc 4).trans h.c4,(hc 5).trans h.c5,(hc 6).trans h.c6,(hc 7).trans h.c7,fun j=>(World.frozen?_of_block (w:=W) (a:=⟨rb,j,none⟩) e).trans (h.z j),fun h0=>?_,h.ne,Nat.lt_of_lt_of_le h.lt hs,h.rng,h.len,h.pos⟩;obtain⟨b,o,e,hbl,hc⟩:=h.bytes h0;exact⟨b,o,e,Nat.lt_of_lt_of_le hbl hs,fun i x hx=>by rw [World.cell?_of_block (w:=W) (a:=⟨b,o+i,none⟩) (hb b hbl)];exact hc i x hx⟩
theorem r6.later {W V:World} {rb c:Nat} {a:Option Addr} {bs:List Int} {s:Rs} (h:r6 W rb a c bs s) (hB:Below W.heap.size W V):r6 V rb a c bs s:=h.held hB.size fun k hk=>hB.block k hk
theorem r6.setP {W:World} {rb c:Nat} {a:Option Addr} {bs:List Int} {s:Rs} (h:r6 W rb a c bs s) (q:Nat) (hq:q≤bs.length):r6 (W.setCell ⟨rb,1,none⟩ (.int .i64 (q:Int))) rb a c bs ⟨q,s.f⟩:=by
 have hc:∀j,j≠1→(W.setCell ⟨rb,1,none⟩ (.int .i64 (q:Int))).cell? ⟨rb,j,none⟩=W.cell? ⟨rb,j,none⟩:=fun j hj=>World.cell?_setCell_other _ _ _ _ (fun e=>hj (by injection e with e1 e2;exact e2.symm))
 refine⟨(hc 0 Q7).trans h.c0,World.cell?_setCell_same _ _ _ h.c1,(hc 2 Q7).trans h.c2,(hc 3 Q7).trans h.c3,(hc 4 Q7).trans h.c4,(hc 5 Q7).trans h.c5,(hc 6 Q7).trans h.c6,(hc 7 Q7).trans h.c7,fun j=>(World.frozen?_setCell _ _ _ _).trans (h.z j),fun h0=>?_,h.ne,by simpa using h.lt,h.rng,h.len,hq⟩;obtain⟨b,o,e,hbl,hx⟩:=h.bytes h0;exact⟨b,o,e,by simpa using hbl,fun i x hi=>by rw [World.cell?_setCell_far _ _ _ _ (by exact Ne.symm (h.ne b o e))];exact hx i x hi⟩
theorem r6.setF {W:World} {rb c:Nat} {a:Option Addr} {bs:List Int} {s:Rs} (h:r6 W rb a c bs s):r6 (W.setCell ⟨rb,2,none⟩ (.bool true)) rb a c bs ⟨s.p,true⟩:=by
 have hc:∀j,j≠2→(W.setCell ⟨rb,2,none⟩ (.bool true)).cell? ⟨rb,j,none⟩=W.cell? ⟨rb,j,none⟩:=fun j hj=>World.cell?_setCell_other _ _ _ _ (fun e=>hj (by injection e with e1 e2;exact e2.symm))
 refine⟨(hc 0 Q7).trans h.c0,(hc 1 Q7).trans h.c1,World.cell?_setCell_same _ _ _ h.c2,(hc 3 Q7).trans h.c3,(hc 4 Q7).trans h.c4,(hc 5 Q7).trans h.c5,(hc 6 Q7).trans h.c6,(hc 7 Q7).trans h.c7,fun j=>(World.frozen?_setCell _ _ _ _).trans (h.z j),fun h0=>?_,h.ne,by simpa using h.lt,h.rng,h.len,h.pos⟩;obtain⟨b,o,e,hbl,hx⟩:=h.bytes h0;exact⟨b,o,e,by simpa using hbl,fun i x hi=>by rw [World.cell?_setCell_far _ _ _ _ (by exact Ne.symm (h.ne b o e))];exact hx i x hi⟩
def F9 (rb:Nat) (a:Option Addr) (c:Nat) (bs:List Int) (s:Rs) (v:Value) (W:World) (e:Ending) (w':World):Prop:=e=.returned v∧r6 w' rb a c bs s∧Rd rb W w'
theorem V3 {W:World} {rb c:Nat} {a:Option Addr} {bs:List Int} {s:Rs} (h:r6 W rb a c bs s) (hold:Bool) :
  Calls Tryz.prog 82 #[.pointer (some ⟨rb,0,none⟩),.bool hold] W fun e w'=>F9 rb a c bs (i8 s hold) (.tuple #[]) W e w':=by
 cases hold
 ·refine (a8O rb W _ h.c2 (h.z 2)).mono ?_
  rintro e w' ⟨rfl,rfl⟩;exact⟨rfl,h.setF,b7.setW _⟩
 ·refine (K3 _ W).mono ?_
  rintro e w' ⟨rfl,rfl⟩;exact⟨rfl,h,b7.refl _ _ _⟩
def b6r (rb:Nat) (a:Option Addr) (c:Nat) (bs:List Int) (s:Rs) (W:World) (e:Ending) (w':World):Prop :=
 ∃b o,e=.returned (.pointer (some ⟨b,o,none⟩))∧w'.cell? ⟨b,o,none⟩=some (.int .u8 (j8 bs s).1)∧b < w'.heap.size∧r6 w' rb a c bs (j8 bs s).2∧Rd rb W w'
theorem b9I {W:World} {rb b o c:Nat} {bs:List Int} {s:Rs} (h:r6 W rb (some ⟨b,o,none⟩) c bs s) (hf:s.f=false) (hn:s.p < bs.length) :
  Calls Tryz.prog 67 #[.pointer (some ⟨rb,0,none⟩)] W fun e w'=>e=.returned (.pointer (some ⟨b,o+s.p,none⟩))∧a5U (W.setCell ⟨rb,1,none⟩ (.int .i64 ((s.p:Int)+1))) w':=by
 have c0:=h.c0;have c1:=h.c1;have c2:=h.c2;rw[hf] at c2;have z1:=h.z 1;have hw:=h.lt;have hl:=h.len;generalize s.p=n at *
 generalize bs.length=m at *
 have hn':(n:Int) < (m:Int):=by omega
 clear h hf;go_enter Tryz.func67,Tryz.ntmps67;go_wp2_with fail;have hd:decide ((n:Int) < (m:Int))=true:=decide_eq_true hn';have he1:(n:Int)+1 - 1=(n:Int):=by omega
 have he2:IntKind.i64.wrap ((n:Int)+1 - 1)=(n:Int):=by rw [he1];exact Go.IntWalk.i64_in _ Q8
 have he3:(0:Int)≤(n:Int):=by omega
 go_region_with (go_at_call 82;refine (K3 _ _).mono ?_;rintro e w' ⟨rfl,hw⟩;rw [hw];clear hw w')
 all_goals go_wp2_with fail
 all_goals go_region
 all_goals go_wp2_with fail
 all_goals go_ret
 all_goals exact ⟨rfl,⟨rfl,rfl,rfl,rfl⟩⟩
theorem b2g {W:World} {rb c:Nat} {a:Option Addr} {bs:List Int} {s:Rs} (h:r6 W rb a c bs s) (hf:s.f=true) :
  Calls Tryz.prog 67 #[.pointer (some ⟨rb,0,none⟩)] W fun e w'=>∃b,e=.returned (.pointer (some ⟨b,0,none⟩))∧w'.cell? ⟨b,0,none⟩=some (.int .u8 0)∧b < w'.heap.size∧r6 w' rb a c bs ⟨s.p,true⟩∧Rd rb W w':=by
 have c0:=h.c0;have c1:=h.c1;have hw:=h.lt;have hl:=h.len;have HM:Hid (∀(hold:Bool) (V:World),Below W.heap.size W V→Calls Tryz.prog 82 #[.pointer (some ⟨rb,0,none⟩),.bool hold] V fun e w'=>e=.returned (.tuple #[])∧w'.cell? ⟨rb,2,none⟩=some (.bool true)∧r6 w' rb a c bs ⟨s.p,true⟩∧Rd rb W w'):=fun hold V hV=>by
  refine (V3 (h.later hV) hold).mono ?_;rintro e w' ⟨rfl,h1,h2⟩;have e:i8 s hold=⟨s.p,true⟩:=by
   cases hold
   ·rfl
   ·show s=_;rw [← hf]
  rw[e] at h1;exact⟨rfl,h1.c2,h1,(b7.of_below hV).trans h2⟩
 clear h hf;generalize s.p=n at *
 generalize bs.length=m at *
 go_enter Tryz.func67,Tryz.ntmps67;go_wp2_with fail;go_region_with (go_at_call 82;refine (HM.out _ _ ?_).mono ?_;exact P5;rintro e w1 ⟨rfl,d2,h1,h2⟩;have H1:=hid h1;have H2:=hid h2;clear h1 h2)
 all_goals
  go_wp2_with fail;go_ret;exact⟨_,rfl,by go_simp,by simp,H1.out.later (Below.alloc (Below.refl _ _) (Nat.le_refl _) _),H2.out.trans (b7.of_below (Below.alloc (Below.refl _ _) (Nat.le_refl _) _))⟩
theorem b7A {W:World} {rb c:Nat} {a:Option Addr} {bs:List Int} {s:Rs} (h:r6 W rb a c bs s) (hn:bs.length≤s.p) :
  Calls Tryz.prog 67 #[.pointer (some ⟨rb,0,none⟩)] W fun e w'=>∃b,e=.returned (.pointer (some ⟨b,0,none⟩))∧w'.cell? ⟨b,0,none⟩=some (.int .u8 0)∧b < w'.heap.size∧r6 w' rb a c bs ⟨s.p,true⟩∧Rd rb W w':=by
 have c0:=h.c0;have c1:=h.c1;have hw:=h.lt;have hl:=h.len;have HM:Hid (∀(V:World),Below W.heap.size W V→Calls Tryz.prog 82 #[.pointer (some ⟨rb,0,none⟩),.bool false] V fun e w'=>e=.returned (.tuple #[])∧w'.cell? ⟨rb,2,none⟩=some (.bool true)∧r6 w' rb a c bs ⟨s.p,true⟩∧Rd rb W w'):=fun V hV=>by
  refine (V3 (h.later hV) false).mono ?_;rintro e w' ⟨rfl,h1,h2⟩;have h1':r6 w' rb a c bs ⟨s.p,true⟩:=h1;exact⟨rfl,h1'.c2,h1',(b7.of_below hV).trans h2⟩
 clear h;generalize s.p=n at *
 generalize bs.length=m at *
 have HD:Hid (decide (n < m)=false):=hid (decide_eq_false Q8);go_enter Tryz.func67,Tryz.ntmps67;go_wp2_with fail;go_region_with (go_at_call 82;rw [HD.out];refine (HM.out _ ?_).mono ?_;exact P5;rintro e w1 ⟨rfl,d2,h1,h2⟩;have H1:=hid h1;have H2:=hid h2;clear h1 h2)
 all_goals
  go_wp2_with fail;go_ret;exact⟨_,rfl,by go_simp,by simp,H1.out.later (Below.alloc (Below.refl _ _) (Nat.le_refl _) _),H2.out.trans (b7.of_below (Below.alloc (Below.refl _ _) (Nat.le_refl _) _))⟩
theorem b7z {W:World} {rb c:Nat} {a:Option Addr} {bs:List Int} {s:Rs} (h:r6 W rb a c bs s) :
  Calls Tryz.prog 67 #[.pointer (some ⟨rb,0,none⟩)] W fun e w'=>b6r rb a c bs s W e w':=by
 by_cases hf:s.f=true
 ·have e:j8 bs s=(0,⟨s.p,true⟩):=by unfold j8;rw [if_pos (Or.inl hf)]
  refine (b2g h hf).mono ?_;rintro e' w' ⟨b,rfl,h1,h2,h3,h4⟩;exact⟨b,0,rfl,by rw [e];exact h1,h2,by rw [e];exact h3,h4⟩
 ·by_cases hn:s.p < bs.length
  ·have hf':s.f=false:=by simpa using hf
   have e:j8 bs s=(bs.getD s.p 0,⟨s.p+1,false⟩):=by
    unfold j8;rw[if_neg (fun hc=>by rcases hc with hc | hc;exact hf hc;omega)]
   obtain⟨b,o,rfl,hb,hx⟩:=h.bytes Q8;refine (b9I h hf' hn).mono ?_;rintro e' w' ⟨rfl,hl⟩;have hset:=h.setP (s.p+1) Q8;rw[hf'] at hset;have hcast:((s.p+1:Nat):Int)=(s.p:Int)+1:=by omega
   rw[hcast] at hset;have hB:=hl.below;have hsz:(W.setCell ⟨rb,1,none⟩ (.int .i64 ((s.p:Int)+1))).heap.size=W.heap.size:=by simp
   have hget:bs[s.p]?=some (bs.getD s.p 0):=by rw [List.getD_eq_getElem?_getD,List.getElem?_eq_getElem hn];rfl
   refine⟨b,o+s.p,rfl,?_,?_,by rw [e];exact hset.later hB,b7.trans (b7.setW _) (b7.of_below hB)⟩
   ·rw [e,hB.cell (p:=⟨b,o+s.p,none⟩) (by rw [hsz];exact hb),World.cell?_setCell_far _ _ _ _ (by exact Ne.symm (h.ne b o rfl))]
    exact hx s.p _ hget
   ·have:=hB.size;rw [hsz] at this;omega
  ·have e:j8 bs s=(0,⟨s.p,true⟩):=by unfold j8;rw [if_pos (Or.inr Q8)]
   refine (b7A h Q8).mono ?_;rintro e' w' ⟨b,rfl,h1,h2,h3,h4⟩;exact⟨b,0,rfl,by rw [e];exact h1,h2,by rw [e];exact h3,h4⟩
theorem b2y {bs:List Int} (m:Nat) {s s1:Rs} (n:Int) (k:Nat) {b:Int} (hb:j8 bs s=(b,s1)):J1 bs (m+1) s n k=J1 bs m s1 (bits .or .u32 n (a4H b k)) (k+8):=by
 rw[J1,hb]
theorem b1D {W:World} {rb c:Nat} {a:Option Addr} {bs:List Int} {s:Rs} (h:r6 W rb a c bs s) :
  Calls Tryz.prog 132 #[.pointer (some ⟨rb,0,none⟩)] W fun e w'=>F9 rb a c bs (A3 bs s).2 (.int .u32 (A3 bs s).1) W e w':=by
 have HH:=hid h;have HRNG:=hid h.rng;unfold A3;clear h;go_enter Tryz.func132,Tryz.ntmps132;go_wp2_with fail;go_loopw [3,4] (fun vn vk wr=>∃(i k:Nat) (s':Rs) (n':Int),i≤4∧k=8*i∧vn=.int .u32 n'∧vk=.int .i64 (k:Int)∧r6 wr rb a c bs s'∧Rd rb W wr∧J1 bs 4 s 0 0=J1 bs (4 - i) s' n' k) (fun _ vk _=>40 - (intOf vk).toNat)
 case atStart=>exact ⟨0,0,s,0,by omega,rfl,rfl,rfl,HH.out,b7.refl _ _ _,rfl⟩
 case round =>
  obtain⟨i,k,s',n',hi,hk,rfl,rfl,hrd,hwr,heq⟩:=hrel;have HK:=hid hk;have hk0:(0:Int)≤(k:Int):=by omega
  have HRD:=hid hrd;have HWR:=hid hwr;by_cases hlt:i < 4
  ·have hk32:(k:Int) < 32:=by omega
   clear hk;have hbd:=b2A HRNG.out s';obtain⟨b,s1,hb⟩:∃b s1,j8 bs s'=(b,s1):=⟨_,_,rfl⟩
   have hstep:=b2y (3 - i) n' k hb;rw[show 3 - i+1=4 - i by omega] at hstep;have HEQ:=hid (heq.trans hstep);clear hrd hwr heq hstep;go_wp2_with fail;refine (b7z HRD.out).mono ?_;rintro e w1 ⟨b1,o1,rfl,x0,l1,h1,h2⟩;rw[hb] at x0 h1 hbd;simp only at x0 h1 hbd;have H1:=hid h1;have H2:=hid (HWR.out.trans h2);clear h1 h2 HRD HWR;have hwq:IntKind.u32.wrap b=b:=by simp [IntKind.wrap,IntKind.bits,IntKind.signed];omega
   obtain⟨y,hy⟩:∃y,b*2 ^ k % 4294967296=y:=⟨_,rfl⟩
   have hsy:a4H b k=y:=hy;rw[hsy] at HEQ;clear hb hsy;go_wp2_with fail;go_roundw
   case rel=>exact ⟨i+1,k+8,_,_,by omega,by have:=HK.out;omega,rfl,by go_num,H1.out,H2.out,by rw [HEQ.out];congr 1;omega⟩
   case measure=>simp [intOf];have:=HK.out;omega
  ·have hk32:¬(k:Int) < 32:=by omega
   obtain rfl:i=4:=by omega
   have HEQ:Hid (J1 bs 4 s 0 0=(n',s')):=hid heq;clear hk hrd hwr heq;go_wp2_with fail;go_ret;exact⟨by rw [HEQ.out];rfl,by rw [HEQ.out];exact HRD.out,HWR.out⟩
theorem a5q {W:World} {rb c:Nat} {a:Option Addr} {bs:List Int} {s:Rs} (h:r6 W rb a c bs s) :
  Calls Tryz.prog 104 #[.pointer (some ⟨rb,0,none⟩)] W fun e w'=>F9 rb a c bs (C7 bs s).2 (.int .u64 (C7 bs s).1) W e w':=by
 have HF:=hid (b1D h);have hbd:=a7z bs s;have HE:Hid (C7 bs s=((A3 bs s).1,i8 (A3 bs s).2 (decide ((A3 bs s).1≤2147483647)))):=hid rfl;generalize C7 bs s=r at *
 generalize (A3 bs s).1=n at *
 generalize (A3 bs s).2=s' at *
 clear h;go_enter Tryz.func104,Tryz.ntmps104;go_wp2_with fail;refine HF.out.mono ?_;rintro e w1 ⟨rfl,h1,h2⟩;have H1:=hid h1;have H2:=hid h2;clear h1 h2 HF;have hw:IntKind.u64.wrap n=n:=by simp [IntKind.wrap,IntKind.bits,IntKind.signed];omega
 go_wp2_with fail;refine (V3 H1.out _).mono ?_;rintro e w2 ⟨rfl,h3,h4⟩;have H3:=hid h3;have H4:=hid (H2.out.trans h4);clear h3 h4;go_wp2_with fail;go_ret;exact⟨by rw [HE.out];rfl,by rw [HE.out];exact H3.out,H4.out⟩
theorem a8o {W:World} {rb c:Nat} {a:Option Addr} {bs:List Int} {s:Rs} (h:r6 W rb a c bs s) :
  Calls Tryz.prog 105 #[.pointer (some ⟨rb,0,none⟩)] W fun e w'=>F9 rb a c bs (X5 bs s).2 (.int .i64 (X5 bs s).1) W e w':=by
 have HF:=hid (b1D h);have hbd:=a7z bs s;have HE:Hid (X5 bs s=(if (A3 bs s).1 < 2147483648 then (A3 bs s).1 else (A3 bs s).1 - 4294967296,(A3 bs s).2)):=hid rfl;generalize X5 bs s=r at *
 generalize (A3 bs s).1=n at *
 generalize (A3 bs s).2=s' at *
 obtain⟨z,hz⟩:∃z,z=(if n < 2147483648 then n else n - 4294967296):=⟨_,rfl⟩
 have hw1:IntKind.i32.wrap n=z:=by
  rw[hz];simp[IntKind.wrap,IntKind.bits,IntKind.signed];split <;> omega
 have hw2:IntKind.i64.wrap z=z:=Go.IntWalk.i64_in _ (by rw [hz];split <;> omega);rw[← hz] at HE;clear h hz;go_enter Tryz.func105,Tryz.ntmps105;go_wp2_with fail;refine HF.out.mono ?_;rintro e w1 ⟨rfl,h1,h2⟩;have H1:=hid h1;have H2:=hid h2;clear h1 h2 HF;go_wp2_with fail;go_ret;exact⟨by rw [HE.out];rfl,by rw [HE.out];exact H1.out,H2.out⟩
theorem a8e (n:Int) (w:World):Calls Tryz.prog 107 #[.int .i64 n] w fun e w'=>e=.returned (.bool (n != 18 && n != 24))∧w'=w:=by
 by_cases h1:n=18
 ·subst h1
  go_enter Tryz.func107,Tryz.ntmps107;go_wp2
  go_ret;exact⟨rfl,rfl⟩
 ·by_cases h2:n=24
  ·subst h2
   go_enter Tryz.func107,Tryz.ntmps107;go_wp2
   go_ret;exact⟨rfl,rfl⟩
  ·have e1:(n == 18)=false:=beq_eq_false_iff_ne.2 h1
   have e2:(n == 24)=false:=beq_eq_false_iff_ne.2 h2;have e3:(n != 18 && n != 24)=true:=by simp [h1,h2]
   rw[e3];go_enter Tryz.func107,Tryz.ntmps107;go_wp2
   go_ret;exact⟨rfl,rfl⟩
theorem b0h (rb:Nat) (w:World):Calls Tryz.prog 106 #[.pointer (some ⟨rb,0,none⟩)] w fun e w'=>e=.returned (.slice none 0 0)∧w'=w:=by
 go_enter Tryz.func106,Tryz.ntmps106;go_wp2
 go_ret;exact⟨rfl,rfl⟩
theorem a9g {W:World} {rb c:Nat} {a:Option Addr} {bs:List Int} {s:Rs} (h:r6 W rb a c bs s) (most:Nat) (hm:most≤9223372036854775807) :
  Calls Tryz.prog 80 #[.pointer (some ⟨rb,0,none⟩),.int .i64 (most:Int)] W fun e w'=>F9 rb a c bs (V8 bs most s).2 (.int .i64 (V8 bs most s).1) W e w':=by
 have HN:Hid (∀V,Below W.heap.size W V→Calls Tryz.prog 104 #[.pointer (some ⟨rb,0,none⟩)] V fun e w'=>F9 rb a c bs (C7 bs s).2 (.int .u64 (C7 bs s).1) V e w'):=fun V hV=>a5q (h.later hV)
 have hbd:=b2B h.rng s;have c3:=h.c3;have hlt:=h.lt;have HI:Hid (V8 bs most s=(if (i8 (C7 bs s).2 (decide ((C7 bs s).1≤(most:Int)))).f then 0 else (C7 bs s).1,i8 (C7 bs s).2 (decide ((C7 bs s).1≤(most:Int))))):=hid rfl;generalize V8 bs most s=r at *
 generalize (C7 bs s).1=n at *
 generalize (C7 bs s).2=s' at *
 clear h;go_enter Tryz.func80,Tryz.ntmps80;go_wp2_with (go_at_call 104;refine (HN.out _ ?_).mono ?_;exact P5;rintro e w1 ⟨rfl,h1,h2⟩;have H1:=hid h1;have H2:=hid h2;clear h1 h2)
 refine (V3 H1.out _).mono ?_;rintro e w2 ⟨rfl,h3,h4⟩;have d2:=h3.c2;have l2:=h3.lt;have H3:=hid h3;have H4:=hid (H2.out.trans h4);clear h3 h4 H1 H2;generalize hs2:i8 s' (decide (n≤(most:Int)))=s2 at *
 cases hf:s2.f
 ·rw [hf] at d2 HI
  have hle:n≤(most:Int):=by
   rcases Int.lt_or_le (most:Int) n with hgt | hle
   ·rw [decide_eq_false Q8] at hs2
    rw[← hs2] at hf
    cases hf
   ·exact hle
  have hw:IntKind.i64.wrap n=n:=Go.IntWalk.i64_in _ Q8;clear hs2;go_wp2_with fail;go_ret;exact⟨by rw [HI.out];rfl,by rw [HI.out];exact H3.out,H4.out⟩
 ·rw [hf] at d2 HI
  clear hs2;go_wp2_with fail;go_ret;exact⟨by rw [HI.out];rfl,by rw [HI.out];exact H3.out,H4.out⟩
theorem X6 {W:World} {rb c:Nat} {a:Option Addr} {bs:List Int} {s:Rs} (h:r6 W rb a c bs s) :
  Calls Tryz.prog 114 #[.pointer (some ⟨rb,0,none⟩)] W fun e w'=>F9 rb a c bs (d8 bs s).2 (.int .i64 (d8 bs s).1) W e w':=by
 have HN:=hid (a9g h 9223372036854775807 Q7);clear h;go_enter Tryz.func114,Tryz.ntmps114;go_wp2_with (go_at_call 80;refine HN.out.mono ?_;rintro e w1 ⟨rfl,h1,h2⟩)
 go_ret;exact⟨rfl,h1,h2⟩
theorem b0v {W:World} {rb c:Nat} {a:Option Addr} {bs:List Int} {s:Rs} (h:r6 W rb a c bs s) :
  Calls Tryz.prog 134 #[.pointer (some ⟨rb,0,none⟩)] W fun e w'=>F9 rb a c bs (X5 bs s).2 (.int .i64 (X5 bs s).1) W e w':=by
 have HN:Hid (∀V,Below W.heap.size W V→Calls Tryz.prog 105 #[.pointer (some ⟨rb,0,none⟩)] V fun e w'=>F9 rb a c bs (X5 bs s).2 (.int .i64 (X5 bs s).1) V e w'):=fun V hV=>a8o (h.later hV)
 have c4:=h.c4;have hlt:=h.lt;clear h;go_enter Tryz.func134,Tryz.ntmps134;go_wp2_with (go_at_call 105;refine (HN.out _ ?_).mono ?_;exact P5;rintro e w1 ⟨rfl,h1,h2⟩)
 go_ret;exact⟨rfl,h1,h2⟩
theorem a8I (bs:List Int) (most:Int) (s:Rs):Fwd s (V8 bs most s).2:=(b9l bs s).trans (y8 _ _)
theorem a7d (bs:List Int) (s:Rs):Fwd s (d8 bs s).2:=a8I bs _ s
theorem a5O (bs:List Int) (most:Int) (s:Rs):X0 s (V8 bs most s).2:=(b5i bs s).then (y8 _ _)
theorem r6.setNew {W V:World} {rb c:Nat} {a:Option Addr} {bs:List Int} {s s':Rs} (h0:r6 W rb a c bs s) (h:r6 V rb a c bs s') {b:Nat} (hb:W.heap.size≤b) (i:Nat) (v:Value):r6 (V.setCell ⟨b,i,none⟩ v) rb a c bs s':=by
 have hl:=h0.lt;have e:(V.setCell ⟨b,i,none⟩ v).heap[rb]?=V.heap[rb]?:=heap_setCell_other _ _ _ _ (show rb≠b by omega);have hc:∀j,(V.setCell ⟨b,i,none⟩ v).cell? ⟨rb,j,none⟩=V.cell? ⟨rb,j,none⟩:=fun j=>World.cell?_of_block (w:=V) (a:=⟨rb,j,none⟩) e
 refine⟨(hc 0).trans h.c0,(hc 1).trans h.c1,(hc 2).trans h.c2,(hc 3).trans h.c3,(hc 4).trans h.c4,(hc 5).trans h.c5,(hc 6).trans h.c6,(hc 7).trans h.c7,fun j=>(World.frozen?_of_block (w:=V) (a:=⟨rb,j,none⟩) e).trans (h.z j),fun hp=>?_,h.ne,by simpa using h.lt,h.rng,h.len,h.pos⟩;obtain⟨b1,o1,e1,hb1,_⟩:=h0.bytes hp;obtain⟨b2,o2,e2,hb2,hx⟩:=h.bytes hp;rw[e1] at e2
 cases e2;exact⟨b1,o1,e1,by simpa using hb2,fun j x hj=>by rw [World.cell?_of_block (w:=V) (a:=⟨b1,o1+j,none⟩) (heap_setCell_other _ _ _ _ (show b1≠b by omega))];exact hx j x hj⟩
theorem r6.low {W V V':World} {rb c:Nat} {a:Option Addr} {bs:List Int} {s s':Rs} (h0:r6 W rb a c bs s) (h:r6 V rb a c bs s') (hs:V.heap.size≤V'.heap.size) (hb:∀k,k < W.heap.size→V'.heap[k]?=V.heap[k]?):r6 V' rb a c bs s':=by
 have e:=hb rb h0.lt;have hc:∀j,V'.cell? ⟨rb,j,none⟩=V.cell? ⟨rb,j,none⟩:=fun j=>World.cell?_of_block (w:=V) (a:=⟨rb,j,none⟩) e
 refine⟨(hc 0).trans h.c0,(hc 1).trans h.c1,(hc 2).trans h.c2,(hc 3).trans h.c3,(hc 4).trans h.c4,(hc 5).trans h.c5,(hc 6).trans h.c6,(hc 7).trans h.c7,fun j=>(World.frozen?_of_block (w:=V) (a:=⟨rb,j,none⟩) e).trans (h.z j),fun hp=>?_,h.ne,Nat.lt_of_lt_of_le h.lt hs,h.rng,h.len,h.pos⟩;obtain⟨b1,o1,e1,hb1,_⟩:=h0.bytes hp;obtain⟨b2,o2,e2,hb2,hx⟩:=h.bytes hp;rw[e1] at e2
 cases e2;exact⟨b1,o1,e1,Nat.lt_of_lt_of_le hb2 hs,fun j x hj=>by rw [World.cell?_of_block (w:=V) (a:=⟨b1,o1+j,none⟩) (hb b1 hb1)];exact hx j x hj⟩
def A2 (bs:List Int) (s:Rs):(Int × Int) × Rs:=(((d8 bs s).1,(X5 bs (d8 bs s).2).1),i8 (X5 bs (d8 bs s).2).2 ((d8 bs s).1 != 18 && (d8 bs s).1 != 24))
theorem a4K (bs:List Int) (s:Rs):X0 s (A2 bs s).2:=(a5O bs _ s).then ((b9k bs _).trans (y8 _ _))
theorem b2K {W:World} {rb c:Nat} {a:Option Addr} {bs:List Int} {s:Rs} (h:r6 W rb a c bs s) :
  Calls Tryz.prog 136 #[.pointer (some ⟨rb,0,none⟩)] W fun e w'=>F9 rb a c bs (A2 bs s).2 (.agg #[.int .i64 (A2 bs s).1.1,.int .i64 (A2 bs s).1.2]) W e w':=by
 have hlt:=h.lt;have HW:=hid h;have hB0:Below W.heap.size W (W.alloc (.cells #[.int .i64 0,.int .i64 0] 62)):=Below.alloc (Below.refl _ _) (Nat.le_refl _) _;have HB0:=hid hB0;have HC:=hid (X6 (h.later hB0));have HE:Hid (A2 bs s=(((d8 bs s).1,(X5 bs (d8 bs s).2).1),i8 (X5 bs (d8 bs s).2).2 ((d8 bs s).1 != 18 && (d8 bs s).1 != 24))):=hid rfl;generalize A2 bs s=r at *
 generalize d8 bs s=q at *
 clear h hB0;go_enter Tryz.func136,Tryz.ntmps136;go_wp2_with fail;refine HC.out.mono ?_;rintro e w1 ⟨rfl,h1,h2⟩;have y0:w1.cell? ⟨W.heap.size,0,none⟩=some (.int .i64 0):=h2.cell Q9 Q8 Q8 Q6;have y1:w1.cell? ⟨W.heap.size,1,none⟩=some (.int .i64 0):=h2.cell Q9 Q8 Q8 Q6;have f0:w1.frozen? ⟨W.heap.size,0,none⟩=false:=h2.frozen Q9 Q8 Q8 Q6
 have f1:w1.frozen? ⟨W.heap.size,1,none⟩=false:=h2.frozen Q9 Q8 Q8 Q6;have lw1:W.heap.size < w1.heap.size:=by have:=h2.size;simp at this;omega
 have HI:=hid (b0v h1);have H2:=hid ((b7.of_below HB0.out).trans h2);generalize X5 bs q.2=t at *
 clear h1 h2 HC HB0;go_wp2_with fail;refine HI.out.mono ?_;rintro e w2 ⟨rfl,h3,h4⟩;have z0:=h4.cell lw1 Q8 Q8 y0;have z1:=h4.cell lw1 Q8 Q8 y1;have g0:=h4.frozen lw1 Q8 Q8 f0;have g1:=h4.frozen lw1 Q8 Q8 f1;have lw2:W.heap.size < w2.heap.size:=Nat.lt_of_lt_of_le lw1 h4.size;have H3:=hid h3;have H4:=hid (H2.out.trans h4);have c6:=h3.c6;have hl2:=h3.lt
 clear h3 h4 y0 y1 f0 f1 HI H2;go_wp2_with fail;have HM:Hid (∀(V:World) (b:Bool),Below w2.heap.size w2 V→V.cell? ⟨w2.heap.size,0,none⟩=some (.int .i64 q.1)→V.cell? ⟨w2.heap.size,1,none⟩=some (.int .i64 t.1)→w2.heap.size < V.heap.size→Calls Tryz.prog 82 #[.pointer (some ⟨rb,0,none⟩),.bool b] V fun e w4=>e=.returned (.tuple #[])∧((w4.cell? ⟨w2.heap.size,0,none⟩=some (.int .i64 q.1)∧w4.cell? ⟨w2.heap.size,1,none⟩=some (.int .i64 t.1)∧w4.cell? ⟨W.heap.size,0,none⟩=some (.int .i64 0)∧w4.cell? ⟨W.heap.size,1,none⟩=some (.int .i64 0)∧w4.frozen? ⟨W.heap.size,0,none⟩=false∧w4.frozen? ⟨W.heap.size,1,none⟩=false)∧w2.heap.size < w4.heap.size)∧r6 w4 rb a c bs (i8 t.2 b)∧Rd rb W w4):=hid fun V b hV v0 v1 vl=>by
  refine (V3 (H3.out.later hV) b).mono ?_;rintro e w4 ⟨rfl,h5,h6⟩;have o0:=(hV.cell (p:=⟨W.heap.size,0,none⟩) lw2).trans z0;have o1:=(hV.cell (p:=⟨W.heap.size,1,none⟩) lw2).trans z1;have p0:=(hV.frozen (p:=⟨W.heap.size,0,none⟩) lw2).trans g0;have p1:=(hV.frozen (p:=⟨W.heap.size,1,none⟩) lw2).trans g1;have lv:W.heap.size < V.heap.size:=by omega
  exact⟨rfl,⟨⟨h6.cell vl Q8 Q8 v0,h6.cell vl Q8 Q8 v1,h6.cell lv Q8 Q8 o0,h6.cell lv Q8 Q8 o1,h6.frozen lv Q8 Q8 p0,h6.frozen lv Q8 Q8 p1⟩,Nat.lt_of_lt_of_le vl h6.size⟩,h5,H4.out.trans ((b7.of_below hV).trans h6)⟩
 go_region_with (first | (go_at_call 107;refine (a8e _ _).mono ?_;rintro e w' ⟨rfl,hw⟩;rw [hw];clear hw w') | (go_at_call 82;refine (HM.out _ _ (Below.drew (Below.alloc (Below.refl _ _) (Nat.le_refl _) _)) Q6 Q6 Q9).mono ?_;rintro e w4 ⟨rfl,⟨⟨k0,k1,m0,m1,n0,n1⟩,l4⟩,h5,h6⟩;have l5:W.heap.size < w4.heap.size:=Nat.lt_trans lw2 l4;have H5:=hid h5;have H6:=hid h6;clear h5 h6))
 all_goals
  go_wp2_with fail;refine bodyPost_ret (v:=.agg #[.int .i64 q.1,.int .i64 t.1]) (by simp [results,Tryz.results136,go_sem,m0,m1]) rfl ?_;rw[HE.out];exact⟨rfl,(by repeat (first | exact H5.out | refine HW.out.setNew ?_ (Nat.le_refl _) _ _)),(by repeat (first | exact H6.out | refine b7.setNew ?_ (Nat.le_refl _) _ _))⟩
def L6 (bs:List Int) (n:Int) (s:Rs):List (Int × Int) × Rs:=f8 (A2 bs) (bs.length+2) n [] s
theorem a7k {W:World} {rb c:Nat} {a:Option Addr} {bs:List Int} {s:Rs} (h:r6 W rb a c bs s) (n:Int) (hn:n≤9223372036854775807) :
  Calls Tryz.prog 135 #[.pointer (some ⟨rb,0,none⟩),.int .i64 n,.func (.func 136) #[.pointer (some ⟨rb,0,none⟩)] #[]] W fun e w'=>∃v,F9 rb a c bs (L6 bs n s).2 v W e w'∧w'.ownsRow W.heap.size 62 2 v (L6 bs n s).1.length (f7 (L6 bs n s).1):=by
 obtain⟨i62,hi,hz,hsz,hby⟩:=info_parts E0;have HI:=hid hi;have HZ:=hid hz;have HSZ:=hid hsz;have HBY:=hid hby;have HH:=hid h;have hlen:=h.len;unfold L6;clear h hi hz hsz hby;go_enter Tryz.func135,Tryz.ntmps135;go_wp2_with fail;go_loopw [7] (fun vl wr=>∃(acc:List (Int × Int)) (la:Option Addr) (lc:Nat) (s':Rs),vl=.slice la acc.length lc∧wr.ownsRow W.heap.size 62 2 vl acc.length (f7 acc)∧r6 wr rb a c bs s'∧Rd rb W wr∧(s'.f=true∨s.p+acc.length≤s'.p)∧acc.length≤bs.length+1∧f8 (A2 bs) (bs.length+2) n [] s=f8 (A2 bs) (bs.length+2 - acc.length) n acc s') (fun vl _=>bs.length+2 - F4 vl)
 case atStart=>exact ⟨[],none,0,s,rfl,World.ownsRow_nil _ _ _ _,HH.out,b7.refl _ _ _,Or.inr (Nat.le_refl _),Nat.zero_le _,rfl⟩
 case round =>
  obtain⟨acc,la,lc,s',rfl,hrow,hrd,hwr,hpp,hal,heq⟩:=hrel;have c2:=hrd.c2;have hlt:=hrd.lt;have hps:=hrd.pos;have HRD:=hid hrd;have HWR:=hid hwr;have HROW:=hid hrow;by_cases hgo:(acc.length:Int) < n∧s'.f=false
  ·obtain ⟨h1,h2⟩:=hgo
   have hal2:acc.length≤bs.length:=by
    rcases hpp with e | e
    ·rw [h2] at e;cases e
    ·omega
   have HEQ:Hid (f8 (A2 bs) (bs.length+2) n [] s=f8 (A2 bs) (bs.length+2 - (acc.length+1)) n (acc++[(A2 bs s').1]) (A2 bs s').2):=by
    refine hid ?_;rw[heq,show bs.length+2 - acc.length=(bs.length+2 - (acc.length+1))+1 by omega];exact J9 ⟨h1,h2⟩
   have htk:=a4K bs s';have HPP:Hid ((A2 bs s').2.f=true∨s.p+(acc.length+1)≤(A2 bs s').2.p):=by
    refine hid ?_;rcases htk.2 with e | e
    ·exact Or.inl e
    ·rcases hpp with e' | e'
     ·rw [h2] at e';cases e'
     ·exact Or.inr Q8
   rw[h2] at c2;have HV:=hid (b2K hrd);generalize A2 bs s'=r at *
   obtain⟨⟨x1,x2⟩,s2⟩:=r;simp only at HV HPP HEQ;clear hrd hwr hrow hpp heq htk h2;generalize hk:acc.length=k at *
   have HK:=hid hk;clear hk;go_wp2_with fail;refine HV.out.mono ?_;rintro e w1 ⟨rfl,h3,h4⟩;have hr1:w1.ownsRow W.heap.size 62 2 (.slice la k lc) k (f7 acc):=a7 HROW.out fun b hb=>h4.block b (HROW.out.lt b hb).2 (by have:=(HROW.out.lt b hb).1;have:=HH.out.lt;omega) (by have:=(HROW.out.lt b hb).1;have:=HH.out.lt;omega)
   have H3:=hid h3;have H4:=hid (HWR.out.trans h4);have HR1:=hid hr1;have hz1:W.heap.size≤w1.heap.size:=H4.out.size;clear h3 h4 hr1;go_wp2_with (at_builtin;go_must (refine j9 _ rfl (.tmp 20) (.tmp 23) 64 rfl W.heap.size 62 i62 _ 2 16 Tryz.underlying64 HI.out HZ.out HSZ.out HBY.out rfl Q7 (.slice la k lc) k (f7 acc) rfl (HR1.out.alloc _) (some ⟨w1.heap.size,0,none⟩) 1 1 [.int .i64 x1,.int .i64 x2] rfl rfl (fun _=>⟨_,rfl,World.news_of_block (cs:=#[.int .i64 x1,.int .i64 x2]) (t:=62) (fr:=(0,0)) (j6 Q9)⟩) (by intro u hu;simp at hu;rcases hu with rfl | rfl <;> rfl) Q0 Q8 Q5 ?_))
   intro v5 w5 hown5 hgrow5 _;obtain⟨a5,c5,rfl⟩:=e6 hown5;have hlow:=O6 HR1.out hz1 hgrow5;have H5:=hid (HH.out.low H3.out hlow.1 hlow.2.1);have H6:=hid (H4.out.low hlow);have hown6:w5.ownsRow W.heap.size 62 2 (.slice a5 (k+1) c5) (k+1) (f7 (acc++[(x1,x2)])):=by rw [← a5C];exact hown5
   have HO5:=hid hown6;clear hown5 hgrow5 hlow hown6;go_wp2_with fail;go_roundw
   case rel=>exact ⟨acc++[(x1,x2)],a5,c5,s2,by rw [List.length_append,HK.out];rfl,by rw [List.length_append,HK.out];exact HO5.out,H5.out,H6.out,by rw [List.length_append,HK.out];exact HPP.out,by rw [List.length_append,HK.out];simp;omega,by rw [List.length_append,HK.out];exact HEQ.out⟩
   case measure=>simp [F4];omega
  ·have HEQ:Hid (f8 (A2 bs) (bs.length+2) n [] s=(acc,s')):=by
    refine hid ?_;rw[heq,show bs.length+2 - acc.length=(bs.length+1 - acc.length)+1 by omega];exact B1 hgo
   have HP:Hid (∀v,v=.slice la acc.length lc→F9 rb a c bs (f8 (A2 bs) (bs.length+2) n [] s).2 v W (.returned v) wr∧wr.ownsRow W.heap.size 62 2 v (f8 (A2 bs) (bs.length+2) n [] s).1.length (f7 (f8 (A2 bs) (bs.length+2) n [] s).1)):=fun v hv=>by
    rw[HEQ.out,hv];exact⟨⟨rfl,HRD.out,HWR.out⟩,HROW.out⟩
   clear hrd hwr hrow hpp heq;by_cases hn2:(acc.length:Int) < n
   ·have hf:s'.f=true:=by
     cases e:s'.f
     ·exact absurd ⟨hn2,e⟩ hgo
     ·rfl
    rw[hf] at c2;clear hgo;go_wp2_with fail;go_ret;exact⟨_,HP.out _ rfl⟩
   ·clear hgo
    go_wp2_with fail;go_ret;exact⟨_,HP.out _ rfl⟩
def B0 (bs:List Int) (s:Rs):FnL × Rs :=
 (((d8 bs s).1,(d8 bs (d8 bs s).2).1,(L6 bs (d8 bs (d8 bs (d8 bs s).2).2).1 (d8 bs (d8 bs (d8 bs s).2).2).2).1),(L6 bs (d8 bs (d8 bs (d8 bs s).2).2).1 (d8 bs (d8 bs (d8 bs s).2).2).2).2)
theorem b1H (bs:List Int) (n:Int) (s:Rs):Fwd s (L6 bs n s).2:=M8 (fun s=>(a4K bs s).1) _ _ _ _
theorem a2H (bs:List Int) (s:Rs):X0 s (B0 bs s).2:=(a5O bs _ s).then ((a7d bs _).trans ((a7d bs _).trans (b1H bs _ _)))
theorem a8Y {bs:List Int} {most:Int} (hr:∀x,x∈bs→0≤x∧x < 256) (h0:0≤most) (s:Rs):0≤(V8 bs most s).1∧(V8 bs most s).1≤most:=by
 have hb:=b2B hr s;unfold V8;simp only;split
 ·exact ⟨Int.le_refl _,h0⟩
 ·rename_i hf
  refine⟨hb.1,?_⟩;by_cases hle:(C7 bs s).1≤most
  ·exact hle
  ·rw [decide_eq_false hle] at hf
   exact absurd rfl hf
theorem b4P {W:World} {rb c:Nat} {a:Option Addr} {bs:List Int} {s:Rs} (h:r6 W rb a c bs s) :
  Calls Tryz.prog 115 #[.pointer (some ⟨rb,0,none⟩)] W fun e w'=>∃v,F9 rb a c bs (B0 bs s).2 (.agg #[.int .i64 (B0 bs s).1.1,.int .i64 (B0 bs s).1.2.1,v]) W e w'∧w'.ownsRow W.heap.size 62 2 v (B0 bs s).1.2.2.length (f7 (B0 bs s).1.2.2):=by
 have hlt:=h.lt;have HW:=hid h;have HRNG:=hid h.rng;have hB0:Below W.heap.size W (W.alloc (.cells #[.int .i64 0,.int .i64 0,.slice none 0 0] 68)):=Below.alloc (Below.refl _ _) (Nat.le_refl _) _;have HB0:=hid hB0;have HC:=hid (X6 (h.later hB0));have HE:Hid (B0 bs s=(((d8 bs s).1,(d8 bs (d8 bs s).2).1,(L6 bs (d8 bs (d8 bs (d8 bs s).2).2).1 (d8 bs (d8 bs (d8 bs s).2).2).2).1),(L6 bs (d8 bs (d8 bs (d8 bs s).2).2).1 (d8 bs (d8 bs (d8 bs s).2).2).2).2)):=hid rfl
 generalize B0 bs s=r at *
 generalize d8 bs s=q1 at *
 clear h hB0;go_enter Tryz.func115,Tryz.ntmps115;go_wp2_with fail;refine HC.out.mono ?_;rintro e w1 ⟨rfl,h1,h2⟩;have y0:w1.cell? ⟨W.heap.size,0,none⟩=some (.int .i64 0):=h2.cell Q9 Q8 Q8 Q6;have y1:w1.cell? ⟨W.heap.size,1,none⟩=some (.int .i64 0):=h2.cell Q9 Q8 Q8 Q6;have y2:w1.cell? ⟨W.heap.size,2,none⟩=some (.slice none 0 0):=h2.cell Q9 Q8 Q8 Q6
 have f0:w1.frozen? ⟨W.heap.size,0,none⟩=false:=h2.frozen Q9 Q8 Q8 Q6;have f1:w1.frozen? ⟨W.heap.size,1,none⟩=false:=h2.frozen Q9 Q8 Q8 Q6;have f2:w1.frozen? ⟨W.heap.size,2,none⟩=false:=h2.frozen Q9 Q8 Q8 Q6;have lw1:W.heap.size < w1.heap.size:=by have:=h2.size;simp at this;omega
 have HI:=hid (X6 h1);have H2:=hid ((b7.of_below HB0.out).trans h2);generalize d8 bs q1.2=q2 at *
 clear h1 h2 HC HB0;go_wp2_with fail;refine HI.out.mono ?_;rintro e w2 ⟨rfl,h3,h4⟩;have z0:=h4.cell lw1 Q8 Q8 y0;have z1:=h4.cell lw1 Q8 Q8 y1;have z2:=h4.cell lw1 Q8 Q8 y2;have g0:=h4.frozen lw1 Q8 Q8 f0;have g1:=h4.frozen lw1 Q8 Q8 f1;have g2:=h4.frozen lw1 Q8 Q8 f2;have lw2:W.heap.size < w2.heap.size:=Nat.lt_of_lt_of_le lw1 h4.size
 have hB2:Below w2.heap.size w2 (w2.alloc (.cells #[.int .i64 q1.1,.int .i64 q2.1,.slice none 0 0] 68)):=Below.alloc (Below.refl _ _) (Nat.le_refl _) _;have H4:=hid ((H2.out.trans h4).trans (b7.of_below hB2));have HC3:=hid (X6 (h3.later hB2));have hq3:(d8 bs q2.2).1≤9223372036854775807:=(a8Y HRNG.out Q7 q2.2).2;generalize d8 bs q2.2=q3 at *
 clear h3 h4 hB2 y0 y1 y2 f0 f1 f2 HI H2;go_wp2_with fail;refine HC3.out.mono ?_;rintro e w3 ⟨rfl,h5,h6⟩;have u0:w3.cell? ⟨w2.heap.size,0,none⟩=some (.int .i64 q1.1):=h6.cell Q9 Q8 Q8 Q6;have u1:w3.cell? ⟨w2.heap.size,1,none⟩=some (.int .i64 q2.1):=h6.cell Q9 Q8 Q8 Q6;have u2:w3.cell? ⟨w2.heap.size,2,none⟩=some (.slice none 0 0):=h6.cell Q9 Q8 Q8 Q6
 have v2:w3.frozen? ⟨w2.heap.size,2,none⟩=false:=h6.frozen Q9 Q8 Q8 Q6;have l23:w2.heap.size < w3.heap.size:=by have:=h6.size;simp at this;omega
 have t0:w3.cell? ⟨W.heap.size,0,none⟩=some (.int .i64 0):=h6.cell Q5 Q8 Q8 Q6;have t1:w3.cell? ⟨W.heap.size,1,none⟩=some (.int .i64 0):=h6.cell Q5 Q8 Q8 Q6;have t2:w3.cell? ⟨W.heap.size,2,none⟩=some (.slice none 0 0):=h6.cell Q5 Q8 Q8 Q6;have r0:w3.frozen? ⟨W.heap.size,0,none⟩=false:=h6.frozen Q5 Q8 Q8 Q6
 have r1:w3.frozen? ⟨W.heap.size,1,none⟩=false:=h6.frozen Q5 Q8 Q8 Q6;have r2:w3.frozen? ⟨W.heap.size,2,none⟩=false:=h6.frozen Q5 Q8 Q8 Q6;have lw3:W.heap.size < w3.heap.size:=by omega
 have H6:=hid (H4.out.trans h6);have HL:=hid (a7k h5 q3.1 hq3);generalize L6 bs q3.1 q3.2=q4 at *
 clear h5 h6 z0 z1 z2 g0 g1 g2 HC3 H4;go_wp2_with fail;refine HL.out.mono ?_;rintro e w4 ⟨v4,⟨rfl,h7,h8⟩,hrow⟩;obtain⟨la,lc,rfl⟩:=e6 hrow;have p0:=h8.cell l23 Q8 Q8 u0;have p1:=h8.cell l23 Q8 Q8 u1;have p2:=h8.cell l23 Q8 Q8 u2;have k2:=h8.frozen l23 Q8 Q8 v2;have s0:=h8.cell lw3 Q8 Q8 t0;have s1:=h8.cell lw3 Q8 Q8 t1
 have s2:=h8.cell lw3 Q8 Q8 t2;have m0:=h8.frozen lw3 Q8 Q8 r0;have m1:=h8.frozen lw3 Q8 Q8 r1;have m2:=h8.frozen lw3 Q8 Q8 r2;have l24:w2.heap.size < w4.heap.size:=Nat.lt_of_lt_of_le l23 h8.size;have lw4:W.heap.size < w4.heap.size:=Nat.lt_of_lt_of_le lw3 h8.size;have hrowlt:∀b,(Value.slice la q4.1.length lc).ownBlock=some b→w3.heap.size≤b:=fun b hb=>(hrow.lt b hb).1
 have hbase:W.heap.size≤w3.heap.size:=by omega
 have HROW:=hid hrow;have HRLT:=hid hrowlt;have H7:=hid h7;have H8:=hid (H6.out.trans h8);clear hrow hrowlt h7 h8 u0 u1 u2 v2 t0 t1 t2 r0 r1 r2 HL H6;have hne:W.heap.size≠w2.heap.size:=by omega
 go_wp2_with fail;refine bodyPost_ret (v:=.agg #[.int .i64 q1.1,.int .i64 q2.1,.slice la q4.1.length lc]) (by simp [results,Tryz.results115,go_sem,s0,s1,s2]) rfl ?_;rw[HE.out];refine⟨.slice la q4.1.length lc,⟨rfl,?_,?_⟩,?_⟩
 ·repeat (first | exact H7.out | refine HW.out.setNew ?_ Q8 _ _)
 ·repeat (first | exact H8.out | refine b7.setNew ?_ Q8 _ _)
 ·refine f9 ?_ hbase
  repeat (first | exact HROW.out | refine ownsRow_setCell_other ?_ (by intro hb;have:=HRLT.out _ hb;simp at this;omega) _)
def T5 (bs:List Int) (n:Int) (s:Rs):List FnL × Rs:=f8 (B0 bs) (bs.length+2) n [] s
theorem a8b {W:World} {rb c:Nat} {a:Option Addr} {bs:List Int} {s:Rs} (h:r6 W rb a c bs s) (n:Int) (hn:n≤9223372036854775807) :
  Calls Tryz.prog 113 #[.pointer (some ⟨rb,0,none⟩),.int .i64 n,.func (.func 115) #[.pointer (some ⟨rb,0,none⟩)] #[]] W fun e w'=>∃v fl,F9 rb a c bs (T5 bs n s).2 v W e w'∧a0J w' W.heap.size v fl∧fl.map (·.1)=(T5 bs n s).1:=by
 obtain⟨i68,hi,hz,hsz,hby⟩:=info_parts a9J;have HI:=hid hi;have HZ:=hid hz;have HSZ:=hid hsz;have HBY:=hid hby;have HH:=hid h;have hlen:=h.len;unfold T5;clear h hi hz hsz hby;go_enter Tryz.func113,Tryz.ntmps113;go_wp2_with fail;go_loopw [7] (fun vl wr=>∃(acc:List FnV) (la:Option Addr) (lc:Nat) (s':Rs),vl=.slice la acc.length lc∧a0J wr W.heap.size vl acc∧r6 wr rb a c bs s'∧Rd rb W wr∧(s'.f=true∨s.p+acc.length≤s'.p)∧acc.length≤bs.length+1∧f8 (B0 bs) (bs.length+2) n [] s=f8 (B0 bs) (bs.length+2 - acc.length) n (acc.map (·.1)) s') (fun vl _=>bs.length+2 - F4 vl)
 case atStart=>exact ⟨[],none,0,s,rfl,⟨World.ownsRow_nil _ _ _ _,fun x hx=>by cases hx⟩,HH.out,b7.refl _ _ _,Or.inr (Nat.le_refl _),Nat.zero_le _,rfl⟩
 case round =>
  obtain⟨acc,la,lc,s',rfl,hrow,hrd,hwr,hpp,hal,heq⟩:=hrel;have c2:=hrd.c2;have hlt:=hrd.lt;have hps:=hrd.pos;have HRD:=hid hrd;have HWR:=hid hwr;have HROW:=hid hrow;have hml:(acc.map (·.1)).length=acc.length:=by simp
  by_cases hgo:(acc.length:Int) < n∧s'.f=false
  ·obtain ⟨h1,h2⟩:=hgo
   have hal2:acc.length≤bs.length:=by
    rcases hpp with e | e
    ·rw [h2] at e;cases e
    ·omega
   have HEQ:Hid (f8 (B0 bs) (bs.length+2) n [] s=f8 (B0 bs) (bs.length+2 - (acc.length+1)) n (acc.map (·.1)++[(B0 bs s').1]) (B0 bs s').2):=by
    refine hid ?_;rw[heq,show bs.length+2 - acc.length=(bs.length+2 - (acc.length+1))+1 by omega];exact J9 ⟨by rw [hml];exact h1,h2⟩
   have htk:=a2H bs s';have HPP:Hid ((B0 bs s').2.f=true∨s.p+(acc.length+1)≤(B0 bs s').2.p):=by
    refine hid ?_;rcases htk.2 with e | e
    ·exact Or.inl e
    ·rcases hpp with e' | e'
     ·rw [h2] at e';cases e'
     ·exact Or.inr Q8
   rw[h2] at c2;have HV:=hid (b4P hrd);generalize B0 bs s'=r at *
   obtain⟨⟨x1,x2,x3⟩,s2⟩:=r;simp only at HV HPP HEQ;clear hrd hwr hrow hpp heq htk h2 hml;generalize hk:acc.length=k at *
   have HK:=hid hk;clear hk;go_wp2_with fail;refine HV.out.mono ?_;rintro e w1 ⟨cv,⟨rfl,h3,h4⟩,hcode⟩;obtain⟨ca,cc,rfl⟩:=e6 hcode;have keep:∀b,W.heap.size≤b→b < wr.heap.size→w1.heap[b]?=wr.heap[b]?:=fun b h1 h2=>h4.block b h2 (by have:=HH.out.lt;omega) (by have:=HH.out.lt;omega)
   have hr1:w1.ownsRow W.heap.size 68 3 (.slice la k lc) k (acc.flatMap Z1):=by
    have:=HROW.out.row;rw[HK.out] at this;exact a7 this fun b hb=>keep b (this.lt b hb).1 (this.lt b hb).2
   have hcod:∀x,x∈acc++[((x1,x2,x3),.slice ca x3.length cc)]→w1.ownsRow W.heap.size 62 2 x.2 x.1.2.2.length (f7 x.1.2.2)∧∀b,(Value.slice la k lc).ownBlock=some b→x.2.ownBlock≠some b:=fun x hx=>by
    rcases List.mem_append.1 hx with hx | hx
    ·obtain ⟨q1,q2⟩:=HROW.out.code x hx
     exact⟨a7 q1 fun b hb=>keep b (q1.lt b hb).1 (q1.lt b hb).2,fun b hb=>q2 b hb⟩
    ·rw [List.mem_singleton] at hx
     subst hx;refine⟨f9 hcode (by exact HWR.out.size),fun b hb e=>?_⟩;have h5:=(hcode.lt b e).1;have h6:=HROW.out.row.lt b hb;omega
   have H3:=hid h3;have H4:=hid (HWR.out.trans h4);have HR1:=hid hr1;have HCOD:=hid hcod;have hz1:W.heap.size≤w1.heap.size:=H4.out.size;clear h3 h4 hr1 hcod hcode keep;go_wp2_with (at_builtin;go_must (refine j9 _ rfl (.tmp 20) (.tmp 23) 25 rfl W.heap.size 68 i68 _ 3 40 Tryz.underlying25 HI.out HZ.out HSZ.out HBY.out rfl Q7 (.slice la k lc) k (acc.flatMap Z1) rfl (HR1.out.alloc _) (some ⟨w1.heap.size,0,none⟩) 1 1 [.int .i64 x1,.int .i64 x2,.slice ca x3.length cc] rfl rfl (fun _=>⟨_,rfl,World.news_of_block (cs:=#[.int .i64 x1,.int .i64 x2,.slice ca x3.length cc]) (t:=68) (fr:=(0,0)) (j6 Q9)⟩) (by intro u hu;simp at hu;rcases hu with rfl | rfl | rfl <;> rfl) Q0 Q8 Q5 ?_))
   intro v5 w5 hown5 hgrow5 hwhere;obtain⟨a5,c5,rfl⟩:=e6 hown5;have hlow:=O6 HR1.out hz1 hgrow5;have H5:=hid (HH.out.low H3.out hlow.1 hlow.2.1);have H6:=hid (H4.out.low hlow);have hfn:a0J w5 W.heap.size (.slice a5 (k+1) c5) (acc++[((x1,x2,x3),.slice ca x3.length cc)]):=by
    refine⟨?_,fun x hx=>?_⟩
    ·rw [List.length_append,HK.out,List.flatMap_append]
     exact hown5
    ·obtain ⟨q1,q2⟩:=HCOD.out x hx
     have hb1:∀b,x.2.ownBlock=some b→b < w1.heap.size:=fun b hb=>(q1.lt b hb).2
     refine⟨a7 q1 fun b hb=>?_,fun b hb e=>?_⟩
     ·rw [hgrow5.block b (by have:=hb1 b hb;simp;omega) (fun e=>q2 b e.symm hb)]
      exact (Below.alloc (Below.refl _ _) (Nat.le_refl _) _).block b (hb1 b hb)
     ·rcases hwhere b hb with e' | e'
      ·exact q2 b e' e
      ·have:=hb1 b e
       first | omega | (simp at e';omega)
   have HFN:=hid hfn;clear hown5 hgrow5 hlow hfn hwhere;go_wp2_with fail;go_roundw
   case rel=>exact ⟨acc++[((x1,x2,x3),.slice ca x3.length cc)],a5,c5,s2,by rw [List.length_append,HK.out];rfl,HFN.out,H5.out,H6.out,by rw [List.length_append,HK.out];exact HPP.out,by rw [List.length_append,HK.out];simp;omega,by rw [List.length_append,HK.out,List.map_append];exact HEQ.out⟩
   case measure=>simp [F4];omega
  ·have HEQ:Hid (f8 (B0 bs) (bs.length+2) n [] s=(acc.map (·.1),s')):=by
    refine hid ?_;rw[heq,show bs.length+2 - acc.length=(bs.length+1 - acc.length)+1 by omega];exact B1 (by rw [hml];exact hgo)
   have HP:Hid (∀v,v=.slice la acc.length lc→∃fl,F9 rb a c bs (f8 (B0 bs) (bs.length+2) n [] s).2 v W (.returned v) wr∧a0J wr W.heap.size v fl∧fl.map (·.1)=(f8 (B0 bs) (bs.length+2) n [] s).1):=fun v hv=>by
    rw[HEQ.out,hv];exact⟨acc,⟨rfl,HRD.out,HWR.out⟩,HROW.out,rfl⟩
   clear hrd hwr hrow hpp heq hml;by_cases hn2:(acc.length:Int) < n
   ·have hf:s'.f=true:=by
     cases e:s'.f
     ·exact absurd ⟨hn2,e⟩ hgo
     ·rfl
    rw[hf] at c2;clear hgo;go_wp2_with fail;go_ret;obtain⟨fl,hq⟩:=HP.out _ rfl;exact⟨_,fl,hq⟩
   ·clear hgo
    go_wp2_with fail;go_ret;obtain⟨fl,hq⟩:=HP.out _ rfl;exact⟨_,hq.1,fl,hq.2⟩
theorem b4G (bs:List Int) (hb:bs.length≤20000) (n:Int) (s:Rs):(T5 bs n s).1.length≤20002∧∀x,x∈(T5 bs n s).1→x.2.2.length≤20002:=by
 constructor
 ·have:=V7 (B0 bs) (bs.length+2) n [] s
  unfold T5;simp at this;omega
 ·intro x hx
  rcases a1u (B0 bs) _ _ _ _ x hx with h | ⟨s',rfl⟩
  ·cases h
  ·unfold B0
   have:=V7 (A2 bs) (bs.length+2) (d8 bs (d8 bs (d8 bs s').2).2).1 [] (d8 bs (d8 bs (d8 bs s').2).2).2;simp at this;simp only[L6];omega
def a0V (bs:List Int) (s:Rs):List FnL × Rs:=T5 bs (d8 bs s).1 (d8 bs s).2
theorem a8k {W:World} {rb c:Nat} {a:Option Addr} {bs:List Int} {s:Rs} (h:r6 W rb a c bs s) (ht:Tab W) (h0:rb≠0) :
  Calls Tryz.prog 79 #[.pointer (some ⟨rb,0,none⟩)] W fun e w'=>∃g x y,F9 rb a c bs (i8 (a0V bs s).2 (x == 0)) (.agg #[.slice g.a g.n g.c]) W e w'∧A4 w'.heap.size w' g∧(∀k,g.blk k→W.heap.size≤k)∧a3f g (a0V bs s).1∧y5 g x y:=by
 have hlt:=h.lt;have HW:=hid h;have HLEN:=hid h.len;have HT:=hid ht;have hB0:Below W.heap.size W (W.alloc (.cells #[.slice none 0 0] 27)):=Below.alloc (Below.refl _ _) (Nat.le_refl _) _;have HB0:=hid hB0;have HC:=hid (X6 (h.later hB0));have HE:Hid (a0V bs s=T5 bs (d8 bs s).1 (d8 bs s).2):=hid rfl;have hq:(d8 bs s).1≤9223372036854775807:=(a8Y h.rng Q7 s).2
 generalize a0V bs s=r at *
 generalize d8 bs s=q1 at *
 clear h hB0 ht;go_enter Tryz.func79,Tryz.ntmps79;go_wp2_with fail;refine HC.out.mono ?_;rintro e w1 ⟨rfl,h1,h2⟩;have y0:w1.cell? ⟨W.heap.size,0,none⟩=some (.slice none 0 0):=h2.cell Q9 Q8 Q8 Q6;have f0:w1.frozen? ⟨W.heap.size,0,none⟩=false:=h2.frozen Q9 Q8 Q8 Q6;have lw1:W.heap.size < w1.heap.size:=by have:=h2.size;simp at this;omega
 have HL:=hid (a8b h1 q1.1 hq);have HBD:=hid (b4G bs HLEN.out q1.1 q1.2);have H2:=hid ((b7.of_below HB0.out).trans h2);generalize T5 bs q1.1 q1.2=q2 at *
 clear h1 h2 HC HB0;go_wp2_with fail;refine HL.out.mono ?_;rintro e w2 ⟨v,fl,⟨rfl,h3,h4⟩,hrow,hfl⟩;have z0:=h4.cell lw1 Q8 Q8 y0;have g0:=h4.frozen lw1 Q8 Q8 f0;have lw2:W.heap.size < w2.heap.size:=Nat.lt_of_lt_of_le lw1 h4.size;have hbd:=HBD.out;rw[← hfl] at hbd;have hpi:A4 w2.heap.size w2 (pgF v fl):=b5Y hrow (by have:=hbd.1;rw [List.length_map] at this;omega) (fun x hx=>by have:=hbd.2 _ (List.mem_map_of_mem hx);omega)
 have hbl:∀k,(pgF v fl).blk k→w1.heap.size≤k:=fun k hk=>(b5X hrow k hk).1
 have his:=b5Z v fl;rw[hfl] at his;obtain⟨va,vc,rfl⟩:=e6 hrow.row;have hg1:(pgF (.slice va fl.length vc) fl).a=va:=rfl;have hg2:(pgF (.slice va fl.length vc) fl).n=fl.length:=rfl;have hg3:(pgF (.slice va fl.length vc) fl).c=vc:=rfl;generalize pgF (.slice va fl.length vc) fl=g at *
 rw[← hg1,← hg2,← hg3];have hB2:Below w2.heap.size w2 (w2.alloc (.cells #[.slice g.a g.n g.c] 27)):=Below.alloc (Below.refl _ _) (Nat.le_refl _) _;have H4:=hid (H2.out.trans h4);have H3:=hid h3;have HPI:=hid hpi;have HBL:=hid hbl;have HIS:=hid his;have HB2:=hid hB2;have HK:=hid (a2P g _ (hpi.below hB2 |>.mono hB2.size) ((HT.out.wrote h0 H4.out).held hB2.size (hB2.block 0 Q8)));clear h3 h4 hpi hbl his hB2 y0 f0 hg1 hg2 hg3 hrow hfl hbd HL HBD H2
 go_wp2_with fail;refine HK.out.mono ?_;rintro e w3 ⟨x,y,rfl,hck,hB3⟩;have t0:w3.cell? ⟨W.heap.size,0,none⟩=some (.slice none 0 0):=by rw [hB3.cell (p:=⟨W.heap.size,0,none⟩) Q5];go_simp
 have t1:w3.frozen? ⟨W.heap.size,0,none⟩=false:=by rw [hB3.frozen (p:=⟨W.heap.size,0,none⟩) Q5];go_simp
 have u0:w3.cell? ⟨w2.heap.size,0,none⟩=some (.slice g.a g.n g.c):=by rw [hB3.cell (p:=⟨w2.heap.size,0,none⟩) Q9];go_simp
 have hB23:Below w2.heap.size w2 w3:=a0 hB3 HB2.out;have l3:w2.heap.size < w3.heap.size:=by have:=hB3.size;simp at this;omega
 have H5:=hid (H3.out.later hB23);have HM:=hid (V3 H5.out (x == 0));have H6:=hid (H4.out.trans (b7.of_below hB23));have HPI3:=hid ((HPI.out.below hB23).mono hB23.size);have HCK:=hid hck;clear hB3 hB23 hck HK HB2 HPI H4 H3 z0 g0;go_wp2_with fail;refine HM.out.mono ?_;rintro e w4 ⟨rfl,h7,h8⟩;have s0:=h8.cell Q8 Q8 Q8 t0;have s1:=h8.frozen Q8 Q8 Q8 t1
 have p0:=h8.cell l3 Q8 Q8 u0;have hpi4:A4 w4.heap.size w4 g:=HPI3.out.held h8.size fun k hk=>h8.block k (HPI3.out.blk_lt hk) (by have:=HBL.out k hk;omega) (by have:=HBL.out k hk;omega)
 have H7:=hid h7;have H8:=hid (H6.out.trans h8);have HPI4:=hid hpi4;have hne:W.heap.size≠w2.heap.size:=by omega
 clear h7 h8 hpi4 t0 t1 u0 HM H6 H5 HPI3;go_wp2_with fail;refine bodyPost_ret (v:=.agg #[.slice g.a g.n g.c]) (by simp [results,Tryz.results79,go_sem,s0]) rfl ?_;rw[HE.out];refine⟨g,x,y,⟨rfl,?_,?_⟩,?_,fun k hk=>?_,HIS.out,HCK.out⟩
 ·repeat (first | exact H7.out | refine HW.out.setNew ?_ Q8 _ _)
 ·repeat (first | exact H8.out | refine b7.setNew ?_ Q8 _ _)
 ·refine HPI4.out.held Q9 fun k hk=>?_
  have:=HBL.out k hk;exact Below.heap_setCell _ _ _ _ Q5
 ·have:=HBL.out k hk
  omega
theorem b3p {W:World} {rb c:Nat} {a:Option Addr} {bs:List Int} {s:Rs} (h:r6 W rb a c bs s) :
  Calls Tryz.prog 84 #[.pointer (some ⟨rb,0,none⟩)] W fun e w'=>e=.returned (.bool (s.p == bs.length))∧Below W.heap.size W w':=by
 have c0:=h.c0;have c1:=h.c1;have hlt:=h.lt;clear h;go_enter Tryz.func84,Tryz.ntmps84;go_wp2_with fail;go_region
 all_goals
  go_wp2_with fail;go_ret;refine⟨congrArg (fun b=>Ending.returned (Value.bool b)) ?_,Below.drew (Below.refl _ _)⟩;rw[Bool.eq_iff_iff];simp only[beq_iff_eq];omega
def FAO (W:World) (rb:Nat) (a:Option Addr) (c:Nat) (bs:List Int):Prop:=∃s,r6 W rb a c bs s∧s.f=true
theorem FAO.later {W V:World} {rb c:Nat} {a:Option Addr} {bs:List Int} (h:FAO W rb a c bs) (hB:Below W.heap.size W V):FAO V rb a c bs:=by
 obtain⟨s,h,hf⟩:=h;exact⟨s,h.later hB,hf⟩
theorem FAO.lt {W:World} {rb c:Nat} {a:Option Addr} {bs:List Int} (h:FAO W rb a c bs):rb < W.heap.size:=by
 obtain⟨s,h,hf⟩:=h;exact h.lt
theorem FAO.flag {W:World} {rb c:Nat} {a:Option Addr} {bs:List Int} (h:FAO W rb a c bs):W.cell? ⟨rb,2,none⟩=some (.bool true):=by
 obtain⟨s,h,hf⟩:=h;have:=h.c2;rw[hf] at this;exact this
def a4P (rb:Nat) (a:Option Addr) (c:Nat) (bs:List Int) (v:Value) (W:World) (e:Ending) (w':World):Prop:=e=.returned v∧FAO w' rb a c bs∧Rd rb W w'
theorem b0q {bs:List Int} {s:Rs} (h:s.f=true) (m:Int):(V8 bs m s).1=0∧(V8 bs m s).2.f=true:=by
 have h2:=(a8I bs m s).f h;refine⟨?_,h2⟩;unfold V8 at h2 ⊢;simp only at h2 ⊢;rw[h2];rfl
theorem b0E {W:World} {rb c:Nat} {a:Option Addr} {bs:List Int} (h:FAO W rb a c bs) (most:Nat) (hm:most≤9223372036854775807) :
  Calls Tryz.prog 80 #[.pointer (some ⟨rb,0,none⟩),.int .i64 (most:Int)] W fun e w'=>a4P rb a c bs (.int .i64 0) W e w':=by
 obtain⟨s,h,hf⟩:=h;refine (a9g h most hm).mono ?_;rintro e w' ⟨rfl,h1,h2⟩;obtain⟨e1,e2⟩:=b0q (bs:=bs) hf (most:Int);rw[e1];exact⟨rfl,⟨_,h1,e2⟩,h2⟩
theorem b0g {W:World} {rb c:Nat} {a:Option Addr} {bs:List Int} (h:FAO W rb a c bs) (hold:Bool) :
  Calls Tryz.prog 82 #[.pointer (some ⟨rb,0,none⟩),.bool hold] W fun e w'=>a4P rb a c bs (.tuple #[]) W e w':=by
 obtain⟨s,h,hf⟩:=h;refine (V3 h hold).mono ?_;rintro e w' ⟨rfl,h1,h2⟩;exact⟨rfl,⟨_,h1,(y8 s hold).f hf⟩,h2⟩
theorem b8O {W:World} {rb c:Nat} {a:Option Addr} {bs:List Int} (h:FAO W rb a c bs) :
  Calls Tryz.prog 84 #[.pointer (some ⟨rb,0,none⟩)] W fun e w'=>(∃b,e=.returned (.bool b))∧Below W.heap.size W w':=by
 obtain⟨s,h,hf⟩:=h;refine (b3p h).mono ?_;rintro e w' ⟨rfl,h1⟩;exact⟨⟨_,rfl⟩,h1⟩
theorem b4o {W:World} {rb c:Nat} {a:Option Addr} {bs:List Int} (h:FAO W rb a c bs) :
  Calls Tryz.prog 83 #[.pointer (some ⟨rb,0,none⟩)] W fun e w'=>a4P rb a c bs (.slice none 0 0) W e w':=by
 have HN:=hid (b0E h 40 Q7);clear h;go_enter Tryz.func83,Tryz.ntmps83;go_wp2_with (first | (go_at_call 80;refine HN.out.mono ?_;rintro e w1 ⟨rfl,h1,h2⟩) | (go_at_call 117;refine (a4o rb _).mono ?_;rintro e w2 ⟨rfl,hw⟩;rw [hw];clear hw w2))
 go_ret;exact⟨rfl,h1,h2⟩
theorem b6X {W:World} {rb c:Nat} {a:Option Addr} {bs:List Int} (h:FAO W rb a c bs) (pa:Option Addr) (pn pc:Nat) :
  Calls Tryz.prog 81 #[.pointer (some ⟨rb,0,none⟩),.agg #[.slice pa pn pc]] W fun e w'=>a4P rb a c bs (.slice none 0 0) W e w':=by
 have hB0:Below W.heap.size W (W.alloc (.cells #[.slice pa pn pc] 27)):=Below.alloc (Below.refl _ _) (Nat.le_refl _) _;have HB0:=hid hB0;have HU:=hid (b0E (h.later hB0) 12 Q7);simp only[show ((12:Nat):Int)=12 from rfl] at HU;clear h hB0;go_enter Tryz.func81,Tryz.ntmps81;go_wp2_with fail;refine HU.out.mono ?_;rintro e w1 ⟨rfl,h1,h2⟩;have H1:=hid h1;have H2:=hid ((b7.of_below HB0.out).trans h2)
 clear h1 h2 HU HB0;go_wp2_with fail;go_loopw [5,6,7] (fun vl vc vn wr=>vl=.slice none 0 0∧vc=.int .i64 0∧vn=.int .i64 0∧wr=w1) (fun _ _ _ _=>0)
 case atStart=>exact ⟨rfl,rfl,rfl,rfl⟩
 case round =>
  obtain⟨rfl,rfl,rfl,rfl⟩:=hrel;go_wp2_with fail;go_ret;exact⟨rfl,H1.out,H2.out⟩
theorem c2u {W:World} {rb c:Nat} {a:Option Addr} {bs:List Int} (h:FAO W rb a c bs) :
  Calls Tryz.prog 106 #[.pointer (some ⟨rb,0,none⟩)] W fun e w'=>a4P rb a c bs (.slice none 0 0) W e w':=by
 refine (b0h rb W).mono ?_;rintro e w' ⟨rfl,rfl⟩;exact⟨rfl,h,b7.refl _ _ _⟩
structure a5V (W w:World) (M rb:Nat) (a:Option Addr) (c:Nat) (bs:List Int) (g:PgR):Prop where
 mm:a0L w M g 0 (.slice none 0 0) (.slice none 0 0) (.slice none 0 0)
 rd:FAO w rb a c bs
 wr:b7 rb rb W w
 pg:A4 w.heap.size w g
 tab:Tab w
 M0:W.heap.size≤M
 gM:∀k,g.blk k→W.heap.size≤k∧k≠M
theorem a5V.next {W w w':World} {M rb:Nat} {a:Option Addr} {c:Nat} {bs:List Int} {g:PgR} (h:a5V W w M rb a c bs g) (hl:rb < W.heap.size) (h0:rb≠0) (hr:FAO w' rb a c bs) (hw:b7 rb rb w w'):a5V W w' M rb a c bs g:=by
 have:=h.M0;exact⟨h.mm.kept hw.size (hw.block M h.mm.lt Q8 Q8),hr,h.wr.trans hw,h.pg.wrote (fun k hk=>by have:=h.gM k hk;omega) hw,h.tab.wrote h0 hw,h.M0,h.gM⟩
theorem a5V.below {W w w':World} {M rb:Nat} {a:Option Addr} {c:Nat} {bs:List Int} {g:PgR} (h:a5V W w M rb a c bs g) (hl:rb < W.heap.size) (h0:rb≠0) (hw:Below w.heap.size w w'):a5V W w' M rb a c bs g :=
 h.next hl h0 (h.rd.later hw) (b7.of_below hw)
theorem a5V.put {W w:World} {M rb:Nat} {a:Option Addr} {c:Nat} {bs:List Int} {g:PgR} {s0:Rs} (hW:r6 W rb a c bs s0) (h:a5V W w M rb a c bs g) (j:Nat) (v:Value) (hm:a0L (w.setCell ⟨M,j,none⟩ v) M g 0 (.slice none 0 0) (.slice none 0 0) (.slice none 0 0)):a5V W (w.setCell ⟨M,j,none⟩ v) M rb a c bs g:=by
 have hM0:=h.M0;have hz:=h.tab.1;have hWz:=hW.lt;obtain⟨s,hrd,hf⟩:=h.rd;refine⟨hm,⟨s,hW.setNew hrd hM0 j v,hf⟩,h.wr.setNew hM0 j v,h.pg.held Q9 fun k hk=>?_,h.tab.held Q9 ?_,hM0,h.gM⟩
 ·exact heap_setCell_other _ _ _ _ (show k≠M from (h.gM k hk).2)
 ·exact heap_setCell_other _ _ _ _ (show 0≠M by omega)
theorem a5V.mach {W w:World} {M rb:Nat} {a:Option Addr} {c:Nat} {bs:List Int} {g:PgR} (h:a5V W w M rb a c bs g) (hl:rb < W.heap.size):∃own,a8 w own M g C8:=by
 have hM0:=h.M0;have hp:∀b t,uX M C8 b t→t=.mach∧b=M:=fun b t hp=>by
  cases t with
  | mach=>exact ⟨rfl,hp⟩
  | out=>cases hp
  | called=>cases hp
  | slots=>cases hp
  | draws=>cases hp
  | loc i=>obtain ⟨f,hf,_⟩:=hp;simp [C8] at hf
  | stk i=>obtain ⟨f,hf,_⟩:=hp;simp [C8] at hf
  | fld j=>obtain ⟨f,hf,_⟩:=hp;simp [C8] at hf
 obtain⟨own,hm,_⟩:=T2 (w:=w) (mb:=M) (g:=g) (R:=C8) (fun b t t' h1 h2=>by rw [(hp b t h1).1,(hp b t' h2).1]) (fun b t h1=>by rw [(hp b t h1).2];exact h.mm.lt)
  h.mm.c0 h.mm.c1 h.mm.c2 h.mm.c3 h.mm.c4 h.mm.c5 h.mm.z (World.ownsRow_nil _ _ _ _) (World.ownsRow_nil _ _ _ _) (World.ownsRow_nil _ _ _ _) (World.ownsRow_nil _ _ _ _) (fun i f hf=>by simp [C8] at hf) (fun i f hf=>by simp [C8] at hf) (fun i f hf=>by simp [C8] at hf)
  h.pg (fun k hk t h1=>(h.gM k hk).2 (hp k t h1).2) h.tab (fun t h1=>by have:=(hp 0 t h1).2;omega)
 exact⟨own,hm⟩
theorem a8i {W:World} {rb c:Nat} {a:Option Addr} {bs:List Int} {s:Rs} (h:r6 W rb a c bs s) (ht:Tab W) (h0:rb≠0) (hbad:∀g x y,a3f g (a0V bs s).1→y5 g x y→(i8 (a0V bs s).2 (x == 0)).f=true) :
  Calls Tryz.prog 51 #[.pointer (some ⟨rb,0,none⟩)] W fun e w'=>∃mb,a4P rb a c bs (.pointer (some ⟨mb,0,none⟩)) W e w':=by
 have hlt:=h.lt;have HW:=hid h;have HP:=hid (a8k h ht h0);have HT:=hid ht;have HCK:=hid hbad;clear h ht hbad;go_enter Tryz.func51,Tryz.ntmps51;go_wp2_with fail;refine HP.out.mono ?_;rintro e w1 ⟨g,x,y,⟨rfl,h1,h2⟩,hpi,hbl,his,hck⟩;have hfa:FAO w1 rb a c bs:=⟨_,h1,HCK.out g x y his hck⟩;have hB1:Below w1.heap.size w1 (w1.alloc (.cells #[.slice g.a g.n g.c,.int .i64 0,.slice none 0 0,.slice none 0 0,.slice none 0 0,.slice none 0 0] 81)):=Below.alloc (Below.refl _ _) (Nat.le_refl _) _
 have hW1:=(h2.trans (b7.of_below hB1):b7 rb rb W _);have hs1:W.heap.size≤w1.heap.size:=h2.size;have S1:Hid (a5V W (w1.alloc (.cells #[.slice g.a g.n g.c,.int .i64 0,.slice none 0 0,.slice none 0 0,.slice none 0 0,.slice none 0 0] 81)) w1.heap.size rb a c bs g) :=
  hid ⟨⟨by go_simp,by go_simp,by go_simp,by go_simp,by go_simp,by go_simp,fun j=>by go_simp,by simp⟩,hfa.later hB1,hW1,hpi.held hB1.size (fun k hk=>hB1.block k (hpi.blk_lt hk)),HT.out.wrote h0 hW1,hs1,fun k hk=>⟨hbl k hk,by have:=hpi.blk_lt hk;omega⟩⟩
 have HU:=hid (b0E S1.out.rd 7 Q7);simp only[show ((7:Nat):Int)=7 from rfl] at HU;clear h1 h2 hpi hbl his hck hB1 hW1 HP HCK hfa;go_wp2_with fail;refine HU.out.mono ?_;rintro e w2 ⟨rfl,h3,h4⟩;have S2:=hid (S1.out.next hlt h0 h3 h4);clear h3 h4 HU S1;have hM0:=S2.out.M0;have hMr:w1.heap.size≠rb:=by omega
 have y1:=S2.out.mm.c1;have z1:=S2.out.mm.z 1;have l2:=S2.out.mm.lt;obtain⟨s2,hr2,_⟩:=S2.out.rd;have c5:=hr2.c5;have lr:=hr2.lt;clear hr2;have S3:=hid (S2.out.put HW.out 1 (.int .i64 0) (S2.out.mm.set1 0));have HO:=hid (c2u S3.out.rd);go_wp2_with fail;refine HO.out.mono ?_;rintro e w4 ⟨rfl,h5,h6⟩;have S4:=hid (S3.out.next hlt h0 h5 h6);clear h5 h6 HO y1 z1 l2 c5 lr S3 S2;have y2:=S4.out.mm.c2;have z2:=S4.out.mm.z 2
 have l4:=S4.out.mm.lt;have y0:=S4.out.mm.c0;have lr:=S4.out.rd.lt;have S5:=hid (S4.out.put HW.out 2 (.slice none 0 0) (S4.out.mm.set2 _));have HF:=hid (b6X S5.out.rd g.a g.n g.c);go_wp2_with fail;refine HF.out.mono ?_;rintro e w6 ⟨rfl,h7,h8⟩;have S6:=hid (S5.out.next hlt h0 h7 h8);clear h7 h8 HF y2 z2 l4 y0 lr S5 S4;have y3:=S6.out.mm.c3;have z3:=S6.out.mm.z 3;have l6:=S6.out.mm.lt;have y1:=S6.out.mm.c1
 have lr:=S6.out.rd.lt;have S7:=hid (S6.out.put HW.out 3 (.slice none 0 0) (S6.out.mm.set3 _));go_wp2_with fail;generalize w6.setCell ⟨w1.heap.size,3,none⟩ (.slice none 0 0)=w7 at *
 clear y3 z3 l6 y1 lr S6;have y1:=S7.out.mm.c1;have y3:=S7.out.mm.c3;have l7:=S7.out.mm.lt;have HRE:Hid (∀V,Below w7.heap.size w7 V→FAO V rb a c bs):=hid fun V hV=>S7.out.rd.later hV
 go_region_held3 (fun u=>u.cell? ⟨w1.heap.size,1,none⟩=some (.int .i64 0)∧u.cell? ⟨w1.heap.size,3,none⟩=some (.slice none 0 0)) (first | go_keep | exact ⟨y1,y3⟩ | exact ⟨s1,s3⟩) (first | (go_at_call 82;refine (b0g (HRE.out _ P5) _).mono ?_;rintro e w8 ⟨rfl,h9,h10⟩;have S8:=hid ((S7.out.below hlt h0 P5).next hlt h0 h9 h10);have s1:=S8.out.mm.c1;have s3:=S8.out.mm.c3;clear h9 h10))
 rename_i hHeld
 clear hHeld s1 s3 y1 y3 l7 S7 HRE;have HO:=hid (b4o S8.out.rd);go_wp2_with fail;refine HO.out.mono ?_;rintro e w9 ⟨rfl,h11,h12⟩;have S9:=hid (S8.out.next hlt h0 h11 h12);clear h11 h12 HO S8;have y4:=S9.out.mm.c4;have z4:=S9.out.mm.z 4;have l9:=S9.out.mm.lt;have lr:=S9.out.rd.lt;have S10:=hid (S9.out.put HW.out 4 (.slice none 0 0) (S9.out.mm.set4 _));go_wp2_with fail;generalize w9.setCell ⟨w1.heap.size,4,none⟩ (.slice none 0 0)=w10 at *
 clear y4 z4 l9 lr S9;have HAE:Hid (∀V,Below w10.heap.size w10 V→Calls Tryz.prog 84 #[.pointer (some ⟨rb,0,none⟩)] V fun e w'=>(∃b,e=.returned (.bool b))∧Below V.heap.size V w'):=hid fun V hV=>b8O (S10.out.rd.later hV)
 go_region_with (first | (go_at_call 84;refine (HAE.out _ P5).mono ?_;rintro e w11 ⟨⟨b0,rfl⟩,hb11⟩;have HB11:Hid (Below w10.heap.size w10 w11):=a0 hb11 P5;clear hb11) | (go_at_call 82;refine (b0g (S10.out.rd.later HB11.out) _).mono ?_;rintro e w12 ⟨rfl,h13,h14⟩;have S12:=hid ((S10.out.below hlt h0 HB11.out).next hlt h0 h13 h14);clear h13 h14))
 all_goals
  obtain⟨own,hmach⟩:=S12.out.mach hlt;have HIP:Hid (∀V,Below w12.heap.size w12 V→Calls Tryz.prog 85 #[.pointer (some ⟨w1.heap.size,0,none⟩)] V fun e w'=>∃b,e=.returned (.bool b)∧Below V.heap.size V w'):=hid fun V hV=>(a1G (hmach.same hV.size fun k hk=>hV.block k hk) a4c (fun ha=>by have h9:=a1D (a4c.free ha);have h8:C8.obs.length=0:=rfl;omega)).mono fun e w' ⟨b,h1,h2,_⟩=>⟨b,h1,h2⟩
  clear hmach HAE HB11 S10;go_wp2_with fail;go_region_with (first | (go_at_call 85;refine (HIP.out _ P5).mono ?_;rintro e w13 ⟨b,rfl,hb13⟩;have HB13:Hid (Below w12.heap.size w12 w13):=a0 hb13 P5;clear hb13) | (go_at_call 82;refine (b0g (S12.out.rd.later HB13.out) _).mono ?_;rintro e w14 ⟨rfl,h15,h16⟩;have H15:=hid h15;have H16:=hid h16;clear h15 h16))
 all_goals
  go_wp2_with fail;go_ret;exact⟨w1.heap.size,rfl,H15.out,(S12.out.wr.trans (b7.of_below HB13.out)).trans H16.out⟩
theorem b9Y {bs:List Int} {s:Rs} (h:s.p≤bs.length):(j8 bs s).2.p≤bs.length:=by
 unfold j8;split
 ·exact h
 ·show s.p+1≤_
  omega
theorem a7w {bs:List Int} {s:Rs} (b:Bool) (h:s.p≤bs.length):(i8 s b).p≤bs.length:=by rw [b6d];exact h
theorem a8T {bs:List Int} : ∀(m:Nat) (s:Rs) (n:Int) (k:Nat),s.p≤bs.length→(J1 bs m s n k).2.p≤bs.length
 | 0,_,_,_,h=>h
 | m+1,_,_,_,h=>a8T m _ _ _ (b9Y h)
theorem b2v {bs:List Int} {s:Rs} (h:s.p≤bs.length):(A3 bs s).2.p≤bs.length:=by
 rw[A3];exact a8T 4 _ _ _ h
theorem c1y {bs:List Int} {s:Rs} (h:s.p≤bs.length):(C7 bs s).2.p≤bs.length:=by
 rw[b0o];exact a7w _ (b2v h)
theorem c1x {bs:List Int} {s:Rs} (h:s.p≤bs.length):(X5 bs s).2.p≤bs.length:=by
 rw[b6c];exact b2v h
theorem a1s {bs:List Int} {s:Rs} (h:s.p≤bs.length):(d8 bs s).2.p≤bs.length:=a7w _ (c1y h)
theorem b7W {bs:List Int} {s:Rs} (h:s.p≤bs.length):(A2 bs s).2.p≤bs.length:=a7w _ (c1x (a1s h))
theorem b2w {α:Type} {bs:List Int} {rd:Rs→α × Rs} (hd:∀s,s.p≤bs.length→(rd s).2.p≤bs.length):∀(F:Nat) (n:Int) (acc:List α) (s:Rs),s.p≤bs.length→(f8 rd F n acc s).2.p≤bs.length
 | 0,_,_,_,h=>h
 | F+1,n,acc,s,h=>by
  rw[f8];split
  ·exact b2w hd F n _ _ (hd s h)
  ·exact h
theorem b9X {bs:List Int} {s:Rs} (h:s.p≤bs.length):(B0 bs s).2.p≤bs.length:=b2w (fun _ h=>b7W h) _ _ _ _ (a1s (a1s (a1s h)))
theorem a7m {α:Type} {bs:List Int} {rd:Rs→α × Rs} (ht:∀s,X0 s (rd s).2) (hd:∀s,s.p≤bs.length→(rd s).2.p≤bs.length) (n:Int):∀(F:Nat) (acc:List α) (s:Rs),s.p≤bs.length→bs.length < s.p+F→(f8 rd F n acc s).2.f=false→n≤((f8 rd F n acc s).1.length:Int)
 | 0,_,s,h,hF,_=>by omega
 | F+1,acc,s,h,hF,hf=>by
  by_cases hg:(acc.length:Int) < n∧s.f=false
  ·rw [J9 hg] at hf ⊢
   have hfs:(rd s).2.f=false:=by
    cases q:(rd s).2.f
    ·rfl
    ·cases F with
     | zero=>rw [show f8 rd 0 n (acc++[(rd s).1]) (rd s).2=(acc++[(rd s).1],(rd s).2) from rfl] at hf;rw [q] at hf;cases hf
     | succ F =>
      rw[B1 (fun hh=>by rw [q] at hh;cases hh.2)] at hf;rw[q] at hf
      cases hf
   have hp:s.p < (rd s).2.p:=by
    rcases (ht s).2 with q | q
    ·rw [hfs] at q;cases q
    ·exact q
   exact a7m ht hd n F _ _ (hd s h) Q8 hf
  ·rw [B1 hg] at hf ⊢
   have hf':s.f=false:=hf;show n≤(acc.length:Int);exact Decidable.byContradiction fun hh=>hg ⟨by omega,hf'⟩
theorem c2W (a b:Nat) (ha:a < 4294967296) (hb:b < 4294967296):bits .or .u32 (a:Int) (b:Int)=((a ||| b:Nat):Int):=by
 have hx:a ||| b < 2 ^ 32:=Nat.or_lt_two_pow Q8 Q8
 have h1:(BitVec.ofInt 32 (a:Int)).toNat=a:=by
  rw[BitVec.ofInt_natCast,BitVec.toNat_ofNat];exact Nat.mod_eq_of_lt Q8
 have h2:(BitVec.ofInt 32 (b:Int)).toNat=b:=by
  rw[BitVec.ofInt_natCast,BitVec.toNat_ofNat];exact Nat.mod_eq_of_lt Q8
 show IntKind.u32.wrap ((BitVec.ofInt 32 (a:Int) ||| BitVec.ofInt 32 (b:Int)).toNat:Int)=_;rw[BitVec.toNat_or,h1,h2,a5y];omega
theorem b9f {bs:List Int} {s:Rs} {x:Nat} (h:∃a b c:Int,j8 bs s=(a,⟨s.p+1,false⟩)∧j8 bs ⟨s.p+1,false⟩=(b,⟨s.p+2,false⟩)∧j8 bs ⟨s.p+2,false⟩=(c,⟨s.p+3,false⟩)∧j8 bs ⟨s.p+3,false⟩=((x:Int),⟨s.p+4,false⟩)) (h1:1≤x) (h2:x < 128):16777216≤(A3 bs s).1:=by
 obtain⟨a,b,c,e1,e2,e3,e4⟩:=h;rw[A3,J1,e1];simp only;rw[J1,e2];simp only;rw[J1,e3];simp only;rw[J1,e4];simp only;rw[J1];simp only;have hb:=b5V (bits .or .u32 (bits .or .u32 0 (a4H a 0)) (a4H b (0+8))) (a4H c (0+8+8));obtain⟨m,hm⟩:=Int.eq_ofNat_of_zero_le hb.1;rw[hm] at hb ⊢;have hs:a4H (x:Int) (0+8+8+8)=((x*16777216:Nat):Int):=by
  unfold a4H;have e:(2:Int) ^ (0+8+8+8)=16777216:=by decide
  rw[e];omega
 rw[hs,c2W m _ Q8 Q8];have:x*16777216≤m ||| x*16777216:=Nat.right_le_or
 omega
theorem a4u {n:Nat} (h:n < 128):n8 n=[(n:Int)]:=by rw [n8,if_pos h]
theorem c1m {bs pre post:List Int} {g:PgR} (hp:s7 g) (hb:bs=pre++(progB g++post)) (hl:bs.length≤20000):(a0V bs ⟨pre.length,false⟩).2.f=true:=by
 have h0:0 < g.n:=hp.sized.1;have hn8:g.n≤8:=hp.sized.2.1;obtain⟨b1,b2,b3,b4,_⟩:=b6g hp h0;have hbd:=hp.sized.bd h0;have hpos:1≤(g.f 0).n:=by omega
 have hpr:∃rest,bs=pre++((g.n:Int)::(((g.f 0).p.toNat:Nat):Int)::(((g.f 0).l.toNat:Nat):Int)::(((g.f 0).n:Nat):Int)::rest):=by
  have e:List.range g.n=0::(List.range (g.n - 1)).map Nat.succ:=by
   conv=>lhs;rw [show g.n=(g.n - 1)+1 by omega]
   exact List.range_succ_eq_map
  refine⟨U6 (g.f 0) (g.f 0).n++((List.range (g.n - 1)).map Nat.succ).flatMap (fun i=>fnB (g.f i))++post,?_⟩;rw[hb];unfold progB a2q;rw[e,List.flatMap_cons];unfold fnB;rw[a4u (show g.n < 128 by omega),a4u (show (g.f 0).p.toNat < 128 by omega),a4u (show (g.f 0).l.toNat < 128 by omega),a4u (show (g.f 0).n < 128 by omega)];simp
 obtain⟨rest,hb⟩:=hpr;have n1:j8 bs ⟨pre.length,false⟩=((g.n:Int),⟨pre.length+1,false⟩):=a4A hb;have n2:j8 bs ⟨pre.length+1,false⟩=((((g.f 0).p.toNat:Nat):Int),⟨pre.length+2,false⟩):=by
  have:=a4A (bs:=bs) (pre:=pre++[(g.n:Int)]) (x:=(((g.f 0).p.toNat:Nat):Int)) (by rw [hb];simp;rfl);simpa using this
 have n3:j8 bs ⟨pre.length+2,false⟩=((((g.f 0).l.toNat:Nat):Int),⟨pre.length+3,false⟩):=by
  have:=a4A (bs:=bs) (pre:=pre++[(g.n:Int),(((g.f 0).p.toNat:Nat):Int)]) (x:=(((g.f 0).l.toNat:Nat):Int)) (by rw [hb];simp;rfl);simpa using this
 have n4:j8 bs ⟨pre.length+3,false⟩=((((g.f 0).n:Nat):Int),⟨pre.length+4,false⟩):=by
  have:=a4A (bs:=bs) (pre:=pre++[(g.n:Int),(((g.f 0).p.toNat:Nat):Int),(((g.f 0).l.toNat:Nat):Int)]) (x:=(((g.f 0).n:Nat):Int)) (by rw [hb];simp;rfl);simpa using this
 have hbig:=b9f (bs:=bs) (s:=⟨pre.length,false⟩) (x:=(g.f 0).n) ⟨_,_,_,n1,n2,n3,n4⟩ hpos Q8;have hps:pre.length≤bs.length:=by rw [hb];simp
 cases hf:(a0V bs ⟨pre.length,false⟩).2.f
 ·exfalso
  have hf':(T5 bs (d8 bs ⟨pre.length,false⟩).1 (d8 bs ⟨pre.length,false⟩).2).2.f=false:=hf;have f1:=noF (M8 (fun s=>(a2H bs s).1) _ _ _ _:Fwd _ (T5 bs (d8 bs ⟨pre.length,false⟩).1 (d8 bs ⟨pre.length,false⟩).2).2) hf';have hcnt:(d8 bs ⟨pre.length,false⟩).1=(A3 bs ⟨pre.length,false⟩).1:=by
   have f1':(i8 (C7 bs ⟨pre.length,false⟩).2 (decide ((C7 bs ⟨pre.length,false⟩).1≤9223372036854775807))).f=false:=f1;show (if (i8 (C7 bs ⟨pre.length,false⟩).2 (decide ((C7 bs ⟨pre.length,false⟩).1≤9223372036854775807))).f then 0 else (C7 bs ⟨pre.length,false⟩).1)=_;rw[f1',if_neg Q7,C7]
  have hw:=a7m (bs:=bs) (rd:=B0 bs) (fun s=>a2H bs s) (fun _ h=>b9X h) (d8 bs ⟨pre.length,false⟩).1 (bs.length+2) [] (d8 bs ⟨pre.length,false⟩).2 (a1s hps) Q8 hf';have hlen:=V7 (B0 bs) (bs.length+2) (d8 bs ⟨pre.length,false⟩).1 [] (d8 bs ⟨pre.length,false⟩).2;rw[hcnt] at hw hlen;simp only[List.length_nil] at hlen;omega
 ·rfl
end Go.Proofs.YtbkmgoffiigdbabGreatDoor
