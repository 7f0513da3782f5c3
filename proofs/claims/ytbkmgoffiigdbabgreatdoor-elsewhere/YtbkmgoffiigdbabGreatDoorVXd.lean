import Derived.Test.YtbkmgoffiigdbabGreatDoorVXc
import Derived.Test.YtbkmgoffiigdbabGreatDoorVUa
namespace Go.Proofs.YtbkmgoffiigdbabGreatDoor
open Go.RowKit Go.Sort
set_option maxHeartbeats 4000000
set_option maxRecDepth 100000
open Classical in
noncomputable def N7 (F:E6) (pc:Nat):Int:=if h:∃b,F.Reach pc b then h.choose else -1
theorem bT {F:E6} (hf:F.Fits) {pc:Nat} {b:Int} (h:F.Reach pc b):N7 F pc=b:=by
 unfold N7;rw[dif_pos ⟨b,h⟩];exact hf.2 pc _ _ (Exists.choose_spec (⟨b,h⟩:∃b,F.Reach pc b)) h
theorem lI {F:E6} {pc:Nat} (h:¬∃b,F.Reach pc b):N7 F pc = -1:=by
 unfold N7;rw[dif_neg h]
theorem E6.reach_shut {F:E6} {H:Nat→Int} (hn:0 < F.n) (h0:H 0=0) (hp:∀a,0≤F.push a) (hs:∀a,a < F.n→0≤H a→F.Shut H a):∀a b,F.Reach a b→a < F.n∧H a=b∧0≤b:=fun a b h=>by
 refine h (fun a b=>a < F.n∧H a=b∧0≤b) ⟨hn,h0,Int.le_refl 0⟩ ?_;rintro a b c ⟨ha,hb,hz⟩ hc;obtain⟨h1,_,h3⟩:=hs a ha Q8;obtain⟨h4,h5⟩:=h3 c hc;have:=hp a;refine⟨h4,by rw [h5,hb],?_⟩;unfold E6.behind;omega
def jY (g:PgR) (f:FnR) (B:Nat) (v:Value) (w':World):Prop :=
 ∃hb,v=.slice (some ⟨hb,0,none⟩) f.n f.n∧B≤hb∧hb < w'.heap.size∧∀a,a < f.n→w'.cell? ⟨hb,a,none⟩=some (.int .i64 (N7 (A7 g f) a)) ∧ -1≤N7 (A7 g f) a∧N7 (A7 g f) a≤10
def iN (g:PgR) (f:FnR) (w:World) (e:Ending) (w':World):Prop :=
 ∃v ok,e=.returned (.tuple #[v,.bool ok])∧(ok=true↔(A7 g f).Fits)∧Below w.heap.size w w'∧(ok=true→jY g f w.heap.size v w')
theorem iV {g:PgR} {f:FnR} {w:World} {e:Ending} {w':World} (v:Value) (ok:Bool) (he:e=.returned (.tuple #[v,.bool ok])) (hs:ok=true↔(A7 g f).Fits) (hw:Below w.heap.size w w') (hr:ok=true→jY g f w.heap.size v w'):iN g f w e w':=⟨v,ok,he,hs,hw,hr⟩
theorem lJ {w wr:World} {g:PgR} {f:FnR} {wb hb base:Nat} {H:Nat→Int} {T:List Nat} {tv:Value} (hwx:K3 wr g f wb hb base H T tv) (hinv:Inv (A7 g f) H T) (hn1:1≤f.n) (h0:H 0=0)
  (hsh:∀a,a < f.n→0≤H a→a∈T∨(A7 g f).Shut H a) (hT:T=[]) (hB:w.heap.size≤hb):jY g f w.heap.size (.slice (some ⟨hb,0,none⟩) f.n f.n) wr:=by
 have hs:∀a,a < (A7 g f).n→0≤H a→(A7 g f).Shut H a:=fun a ha hz=>(hsh a ha hz).elim (fun h=>by rw [hT] at h;cases h) id
 have hp:∀a,0≤(A7 g f).push a:=fun a=>(M7 _).1
 have hfit:=E6.fits_of_shut (F:=A7 g f) (H:=H) (by show 0 < f.n;omega) h0 hp hs;have key:=E6.reach_shut (F:=A7 g f) (H:=H) (by show 0 < f.n;omega) h0 hp hs;refine⟨hb,rfl,hB,Nat.lt_of_lt_of_le hwx.lth hwx.size,fun a ha=>?_⟩;obtain⟨h1,h2,h3⟩:=hinv.1 a ha;have e:N7 (A7 g f) a=H a:=by
  by_cases hz:0≤H a
  ·exact bT hfit (h3 hz)
  ·rw [lI]
   ·omega
   ·rintro ⟨b,hb⟩
    have:=key a b hb;omega
 rw[hwx.row.cell ha,e];exact⟨rfl,h1,h2⟩
theorem wB (B:Nat) (g:PgR) (f:FnR) (w:World) (hB0:0 < B) (hB:B≤w.heap.size) (hg:M3 B w g) (hf:O0 B w f) (hgood:a3x g f) (ht:Tab w) :
  Calls Tryz.prog 128 #[.agg #[.slice g.a g.n g.c],.agg #[.int .i64 f.p,.int .i64 f.l,.slice f.a f.n f.c]] w fun e w'=>iN g f w e w':=by
 have hn1:1≤f.n:=hgood.1;have hn60:f.n≤60:=hgood.2.1;have hmk:=Go.run_make_row' (P:=Tryz.prog) 22 3 (.int .i64 0) 8 Tryz.underlying22 lK rfl .i64 .i64 f.n Q8 Q8;go_enter Tryz.func128,Tryz.ntmps128;go_wp2
 go_region
 ·have hrow0:(((((w.alloc (Obj.cells #[.slice g.a g.n g.c] 27)).alloc (Obj.cells #[.int .i64 f.p,.int .i64 f.l,.slice f.a f.n f.c] 68)).alloc (Obj.cells (madeCells #[Value.int IntKind.i64 0] f.n) 3)).alloc (Obj.cells #[.slice g.a g.n g.c,.slice f.a f.n f.c,.slice (some { block:=(w.heap.size+1+1),off:=0 }) f.n f.n,.slice none 0 0] 188)).drew).rowIs (w.heap.size+1+1) 3 f.n (fun _=>.int .i64 0):=by
   have:=((World.rowIs_made ((w.alloc (Obj.cells #[.slice g.a g.n g.c] 27)).alloc (Obj.cells #[.int .i64 f.p,.int .i64 f.l,.slice f.a f.n f.c] 68)) (.int .i64 0) f.n 3).alloc (Obj.cells #[.slice g.a g.n g.c,.slice f.a f.n f.c,.slice (some { block:=(w.heap.size+1+1),off:=0 }) f.n f.n,.slice none 0 0] 188)).drew;simpa using this
  have d0:(((((w.alloc (Obj.cells #[.slice g.a g.n g.c] 27)).alloc (Obj.cells #[.int .i64 f.p,.int .i64 f.l,.slice f.a f.n f.c] 68)).alloc (Obj.cells (madeCells #[Value.int IntKind.i64 0] f.n) 3)).alloc (Obj.cells #[.slice g.a g.n g.c,.slice f.a f.n f.c,.slice (some { block:=(w.heap.size+1+1),off:=0 }) f.n f.n,.slice none 0 0] 188)).drew).cell? ⟨(w.heap.size+1+1+1),0,none⟩=some (.slice g.a g.n g.c):=by go_simp
  have d1:(((((w.alloc (Obj.cells #[.slice g.a g.n g.c] 27)).alloc (Obj.cells #[.int .i64 f.p,.int .i64 f.l,.slice f.a f.n f.c] 68)).alloc (Obj.cells (madeCells #[Value.int IntKind.i64 0] f.n) 3)).alloc (Obj.cells #[.slice g.a g.n g.c,.slice f.a f.n f.c,.slice (some { block:=(w.heap.size+1+1),off:=0 }) f.n f.n,.slice none 0 0] 188)).drew).cell? ⟨(w.heap.size+1+1+1),1,none⟩=some (.slice f.a f.n f.c):=by go_simp
  have d2:(((((w.alloc (Obj.cells #[.slice g.a g.n g.c] 27)).alloc (Obj.cells #[.int .i64 f.p,.int .i64 f.l,.slice f.a f.n f.c] 68)).alloc (Obj.cells (madeCells #[Value.int IntKind.i64 0] f.n) 3)).alloc (Obj.cells #[.slice g.a g.n g.c,.slice f.a f.n f.c,.slice (some { block:=(w.heap.size+1+1),off:=0 }) f.n f.n,.slice none 0 0] 188)).drew).cell? ⟨(w.heap.size+1+1+1),2,none⟩=some (.slice (some ⟨(w.heap.size+1+1),0,none⟩) f.n f.n):=by go_simp
  have d3:(((((w.alloc (Obj.cells #[.slice g.a g.n g.c] 27)).alloc (Obj.cells #[.int .i64 f.p,.int .i64 f.l,.slice f.a f.n f.c] 68)).alloc (Obj.cells (madeCells #[Value.int IntKind.i64 0] f.n) 3)).alloc (Obj.cells #[.slice g.a g.n g.c,.slice f.a f.n f.c,.slice (some { block:=(w.heap.size+1+1),off:=0 }) f.n f.n,.slice none 0 0] 188)).drew).cell? ⟨(w.heap.size+1+1+1),3,none⟩=some (.slice none 0 0):=by go_simp
  have dz:(((((w.alloc (Obj.cells #[.slice g.a g.n g.c] 27)).alloc (Obj.cells #[.int .i64 f.p,.int .i64 f.l,.slice f.a f.n f.c] 68)).alloc (Obj.cells (madeCells #[Value.int IntKind.i64 0] f.n) 3)).alloc (Obj.cells #[.slice g.a g.n g.c,.slice f.a f.n f.c,.slice (some { block:=(w.heap.size+1+1),off:=0 }) f.n f.n,.slice none 0 0] 188)).drew).frozen? ⟨(w.heap.size+1+1+1),3,none⟩=false:=by go_simp
  have hs0:(((((w.alloc (Obj.cells #[.slice g.a g.n g.c] 27)).alloc (Obj.cells #[.int .i64 f.p,.int .i64 f.l,.slice f.a f.n f.c] 68)).alloc (Obj.cells (madeCells #[Value.int IntKind.i64 0] f.n) 3)).alloc (Obj.cells #[.slice g.a g.n g.c,.slice f.a f.n f.c,.slice (some { block:=(w.heap.size+1+1),off:=0 }) f.n f.n,.slice none 0 0] 188)).drew).heap.size=w.heap.size+4:=by simp
  have hbel0:Below w.heap.size w (((((w.alloc (Obj.cells #[.slice g.a g.n g.c] 27)).alloc (Obj.cells #[.int .i64 f.p,.int .i64 f.l,.slice f.a f.n f.c] 68)).alloc (Obj.cells (madeCells #[Value.int IntKind.i64 0] f.n) 3)).alloc (Obj.cells #[.slice g.a g.n g.c,.slice f.a f.n f.c,.slice (some { block:=(w.heap.size+1+1),off:=0 }) f.n f.n,.slice none 0 0] 188)).drew):=by repeat (first | exact Below.refl _ _ | refine Below.drew ?_ | refine Below.alloc ?_ P6 _)
  generalize (((((w.alloc (Obj.cells #[.slice g.a g.n g.c] 27)).alloc (Obj.cells #[.int .i64 f.p,.int .i64 f.l,.slice f.a f.n f.c] 68)).alloc (Obj.cells (madeCells #[Value.int IntKind.i64 0] f.n) 3)).alloc (Obj.cells #[.slice g.a g.n g.c,.slice f.a f.n f.c,.slice (some { block:=(w.heap.size+1+1),off:=0 }) f.n f.n,.slice none 0 0] 188)).drew)=W1 at *
  obtain⟨wb,hwb⟩:∃wb,wb=(w.heap.size+1+1+1):=⟨_,rfl⟩
  obtain⟨hb,hhb⟩:∃hb,hb=(w.heap.size+1+1):=⟨_,rfl⟩
  have hwalk:K3 W1 g f wb hb (w.heap.size+4) (fun _=>0) [] (.slice none 0 0):=by
   rw[hwb,hhb];exact⟨by omega,by omega,by omega,by omega,d0,d1,d2,d3,dz,hrow0,World.ownsRow_nil _ _ _ _⟩
  rw[← hwb,← hhb];have hwl:w.heap.size≤wb:=by omega
  have hhl:w.heap.size≤hb:=by omega
  clear hrow0 d0 d1 d2 d3 dz hwb hhb hmk;have d2:=hwalk.c2;go_wp2
  clear d2;go_loopw [22] (fun v wr=>∃i:Nat,i≤f.n∧v=.int .i64 i∧K3 wr g f wb hb (w.heap.size+4) (fun j=>if j < i then -1 else 0) [] (.slice none 0 0)∧Below w.heap.size w wr) (fun v _=>f.n - (intOf v).toNat)
  case atStart=>exact ⟨0,Nat.zero_le _,rfl,hwalk,hbel0⟩
  case round =>
   obtain⟨i,hi,rfl,hwr,hbel⟩:=hrel;have hsz:=hwr.size;by_cases hlt:i < f.n
   ·have d2:=hwr.c2
    have kh:=hwr.row.cell hlt;have kf:=hwr.row.frozen i;have hwne:=hwr.ne;go_wp2
    go_roundw
    case rel =>
     go_light
     refine⟨i+1,by omega,by go_num,⟨hwr.ne,hwr.ltw,hwr.lth,by simpa using hwr.size,?_,?_,?_,?_,?_,(hwr.row.set i (.int .i64 (-1))).congr (fun j _=>?_),World.ownsRow_nil _ _ _ _⟩,hbel.setCell hhl _⟩
     ·have:=hwr.c0;go_simp
     ·have:=hwr.c1;go_simp
     ·go_simp
     ·have:=hwr.c3;go_simp
     ·have:=hwr.fz;go_simp
     ·by_cases e:j=i
      ·subst e;rw [if_pos rfl,if_pos Q8]
      ·rw [if_neg e]
       by_cases h1:j < i
       ·rw [if_pos h1,if_pos Q8]
       ·rw [if_neg h1,if_neg Q8]
    case measure=>simp [intOf];omega
   ·have hH:∀j,j < f.n→(if j < i then (-1:Int) else 0) = -1:=fun j hj=>by rw [if_pos Q8]
    have hwr1:K3 wr g f wb hb (w.heap.size+4) (fun _ => -1) [] (.slice none 0 0) :=
     ⟨hwr.ne,hwr.ltw,hwr.lth,hwr.size,hwr.c0,hwr.c1,hwr.c2,hwr.c3,hwr.fz,hwr.row.congr (fun j hj=>by rw [hH j hj]),hwr.own⟩
    clear hwr hH;go_wp2_with fail;have hcome:=cC g f wb hb (w.heap.size+4) (fun _ => -1) [] (.slice none 0 0) 0 0 wr hwr1 Q9;rw[show ((0:Nat):Int)=0 from rfl] at hcome;refine hcome.mono ?_;clear hcome;rintro e w2 ⟨H,T,tv,ok,rfl,hw2,hsay,hbut2⟩;have hbel2:Below w.heap.size w w2:=hbel.trans (hbut2.below Q8 (U7 hwr1 hwl hhl));obtain⟨rfl,rfl,rfl⟩:ok=true∧H=(fun i=>if i=0 then 0 else -1)∧T=[0]:=by
     rcases hsay with ⟨_,h⟩ | ⟨_,_,h,_⟩ | ⟨_,_,h,_⟩ | ⟨h1,_,_,h2,h3⟩
     ·omega
     ·exact absurd rfl h
     ·exact absurd rfl h
     ·exact ⟨h1,h2,h3⟩
    have hgo:fZ g f wb hb (w.heap.size+4) w2 f.n true:=by
     refine Or.inr ⟨rfl,_,_,tv,hw2,⟨fun a ha=>?_,fun t htm=>?_⟩,?_,Nat.le_refl _,by simp,fun a ha hz=>?_⟩
     ·by_cases e:a=0
      ·subst e;simp only [if_pos];exact ⟨by omega,by omega,fun _=>(A7 g f).reach_first⟩
      ·simp only [if_neg e];exact ⟨by omega,by omega,fun h=>by omega⟩
     ·obtain rfl:t=0:=by simpa using htm
      exact⟨hn1,by simp⟩
     ·have h1:=eV (n:=f.n) (H:=fun _ => -1) (c:=0) (v:=0) Q8 Q9 Q8
      have h2:left f.n (fun _ => -1)≤f.n:=by unfold left;exact Nat.le_trans (List.length_filter_le _ _) Q9
      simp only[List.length_cons,List.length_nil];omega
     ·by_cases e:a=0
      ·subst e;exact Or.inl Q9
      ·simp only [if_neg e] at hz;omega
    clear hsay hw2 hbut2 hwr1 hbel hwalk hbel0;go_wp2_with fail;go_loopg [8] f.n (fun k v wx=>∃ok:Bool,v=.bool ok∧fZ g f wb hb (w.heap.size+4) wx k ok∧Below w.heap.size w wx)
    case atStart=>exact ⟨true,rfl,hgo,hbel2⟩
    case round =>
     obtain⟨ok,rfl,hgoing,hbelx⟩:=hrel;rcases hgoing with ⟨rfl,hno⟩ | ⟨rfl,H,T,tv,hwx,hinv,hlen,hgk,hx0,hsh⟩
     ·go_wp2_with fail
      go_ret2;exact iV _ false rfl ⟨fun h=>(by cases h),fun h=>absurd h hno⟩ hbelx (fun h=>by cases h)
     ·have HX0:=(show Hid _ from hx0);clear hx0
      have HSH:=(show Hid _ from hsh);clear hsh;have d2:=hwx.c2;have d3:=hwx.c3;have fz:=hwx.fz;have hwwx:wb < wr.heap.size:=Nat.lt_of_lt_of_le hwx.ltw hwx.size;have hdone:T=[]→iN g f w (.returned (.tuple #[.slice (some ⟨hb,0,none⟩) f.n f.n,.bool true])) wr:=fun hTe =>
       iV _ true rfl ⟨fun _=>E6.fits_of_shut (H:=H) (by show 0 < f.n;omega) HX0.out (fun a=>(M7 _).1) (fun a ha hz=>(HSH.out a ha hz).elim (fun h=>by rw [hTe] at h;cases h) id),fun _=>rfl⟩ hbelx (fun _=>lJ hwx hinv hn1 HX0.out HSH.out hTe hhl)
      have HDONE:=(show Hid _ from hdone);clear hdone;rcases hwx.own.2 with ⟨hv,h0⟩ | ⟨gb,cap,cur,hv,hgb,hheap,hncap,hcap,hcs,htake⟩
      ·obtain rfl:T=[]:=List.length_eq_zero_iff.1 h0
       rw[hv] at d3;clear hv h0;go_wp2_with fail;go_ret2;exact HDONE.out Q9
      ·clear cur hheap hcs htake
       rcases List.eq_nil_or_concat T with rfl | ⟨T0,t,rfl⟩
       ·rw [hv] at d3
        simp only[List.length_nil] at d3;clear hv;go_wp2_with fail;go_ret2;exact HDONE.out Q9
       ·have hl1:(T0.concat t).length=T0.length+1:=by simp
        rw[hl1] at hv hlen hncap;have hown:=hwx.own;rw[hv,hl1] at hown;have htc:wr.cell? ⟨gb,T0.length,none⟩=some (.int .i64 (t:Int)):=by
         have:=hown.cells (g:=gb) rfl T0.length (.int .i64 (t:Int)) (by simp [fP]);rw[Go.WideShapes.add_plain,Nat.zero_add] at this;exact this
        have hown0:wr.ownsRow (w.heap.size+4) 3 1 (.slice (some ⟨gb,0,none⟩) T0.length cap) T0.length (fP T0):=ownsRow_pop (last:=[.int .i64 (t:Int)]) (by simp [fP]) (by simpa [fP] using hown);rw[hv] at d3;have hgbx:gb < wr.heap.size:=(hown.lt gb rfl).2;have hT60:T0.length≤59:=by omega
        obtain⟨htn,htz⟩:=hinv.2 t Q9;have hw0:K3 (wr.setCell ⟨wb,3,none⟩ (.slice (some ⟨gb,0,none⟩) T0.length cap)) g f wb hb (w.heap.size+4) H T0 (.slice (some ⟨gb,0,none⟩) T0.length cap):=by
         have hne:=hwx.ne;refine⟨hwx.ne,hwx.ltw,hwx.lth,by simpa using hwx.size,?_,?_,?_,?_,?_,hwx.row.setOther (by exact hwx.ne.symm) _,ownsRow_setCell_below hown0 (a:=⟨wb,3,none⟩) hwx.ltw _⟩
         ·have:=hwx.c0;go_light;go_simp
         ·have:=hwx.c1;go_light;go_simp
         ·go_light;go_simp
         ·go_light;go_simp
         ·go_light;go_simp
        have hbel0:Below w.heap.size w (wr.setCell ⟨wb,3,none⟩ (.slice (some ⟨gb,0,none⟩) T0.length cap)):=hbelx.setCell hwl _;have hinv0:Inv (A7 g f) H T0:=⟨hinv.1,fun x hx=>hinv.2 x (by simp [hx])⟩;have hleave:=iW w.heap.size g f wb hb (w.heap.size+4) H T0 _ t _ hw0 Q8 hwl hhl ((hg.mono hB).below hbel0) ((hf.mono hB).below hbel0) hgood (ht.below hB0 (hbel0.mono hB)) hT60 htn hinv0 htz
        have HLV:=(show Hid _ from hleave);clear hleave;clear hv hl1 hown hown0 hw0;go_wp2_with fail;refine Calls.mono HLV.out ?_;rintro e w3 ⟨ok,H',T',tv',rfl,hB3,hcase⟩;have hbel3:Below w.heap.size w w3:=hbel0.trans hB3;have hnew:fZ g f wb hb (w.heap.size+4) w3 (gk - 1) ok:=by
         rcases hcase with ⟨rfl,hno⟩ | ⟨rfl,hw3,hi3,hx3,hs3⟩
         ·exact Or.inl ⟨rfl,hno⟩
         ·refine Or.inr ⟨rfl,H',T',tv',hw3,hi3,by have:=hx3.2.2.2;omega,by omega,by rw [hx3.1 0 (by rw [HX0.out];omega)];exact HX0.out,fun a ha hz=>?_⟩
          rcases hx3.2.2.1 a ha hz with hz0 | hm
          ·rcases HSH.out a ha hz0 with hm | hm
           ·by_cases e:a=t
            ·subst e;exact Or.inr hs3
            ·exact Or.inl (hx3.2.1 a (by simpa [e] using hm))
           ·exact Or.inr (hm.ext (M7 _).1 hz0 hx3.1)
          ·exact Or.inl hm
        clear hcase;go_wp2_with fail;go_roundg (gk - 1)
        case measure=>go_light;omega
        case rel=>exact ⟨ok,rfl,hnew,hbel3⟩
 ·have hrow0:(((((w.alloc (Obj.cells #[.slice g.a g.n g.c] 27)).alloc (Obj.cells #[.int .i64 f.p,.int .i64 f.l,.slice f.a f.n f.c] 68)).alloc (Obj.cells #[.slice g.a g.n g.c,.slice f.a f.n f.c,.slice (some { block:=(w.heap.size+1+1+1),off:=0 }) f.n f.n,.slice none 0 0] 188)).alloc (Obj.cells (madeCells #[Value.int IntKind.i64 0] f.n) 3)).drew).rowIs (w.heap.size+1+1+1) 3 f.n (fun _=>.int .i64 0):=by
   have:=(World.rowIs_made (((w.alloc (Obj.cells #[.slice g.a g.n g.c] 27)).alloc (Obj.cells #[.int .i64 f.p,.int .i64 f.l,.slice f.a f.n f.c] 68)).alloc (Obj.cells #[.slice g.a g.n g.c,.slice f.a f.n f.c,.slice (some { block:=(w.heap.size+1+1+1),off:=0 }) f.n f.n,.slice none 0 0] 188)) (.int .i64 0) f.n 3).drew;simpa using this
  have d0:(((((w.alloc (Obj.cells #[.slice g.a g.n g.c] 27)).alloc (Obj.cells #[.int .i64 f.p,.int .i64 f.l,.slice f.a f.n f.c] 68)).alloc (Obj.cells #[.slice g.a g.n g.c,.slice f.a f.n f.c,.slice (some { block:=(w.heap.size+1+1+1),off:=0 }) f.n f.n,.slice none 0 0] 188)).alloc (Obj.cells (madeCells #[Value.int IntKind.i64 0] f.n) 3)).drew).cell? ⟨(w.heap.size+1+1),0,none⟩=some (.slice g.a g.n g.c):=by go_simp
  have d1:(((((w.alloc (Obj.cells #[.slice g.a g.n g.c] 27)).alloc (Obj.cells #[.int .i64 f.p,.int .i64 f.l,.slice f.a f.n f.c] 68)).alloc (Obj.cells #[.slice g.a g.n g.c,.slice f.a f.n f.c,.slice (some { block:=(w.heap.size+1+1+1),off:=0 }) f.n f.n,.slice none 0 0] 188)).alloc (Obj.cells (madeCells #[Value.int IntKind.i64 0] f.n) 3)).drew).cell? ⟨(w.heap.size+1+1),1,none⟩=some (.slice f.a f.n f.c):=by go_simp
  have d2:(((((w.alloc (Obj.cells #[.slice g.a g.n g.c] 27)).alloc (Obj.cells #[.int .i64 f.p,.int .i64 f.l,.slice f.a f.n f.c] 68)).alloc (Obj.cells #[.slice g.a g.n g.c,.slice f.a f.n f.c,.slice (some { block:=(w.heap.size+1+1+1),off:=0 }) f.n f.n,.slice none 0 0] 188)).alloc (Obj.cells (madeCells #[Value.int IntKind.i64 0] f.n) 3)).drew).cell? ⟨(w.heap.size+1+1),2,none⟩=some (.slice (some ⟨(w.heap.size+1+1+1),0,none⟩) f.n f.n):=by go_simp
  have d3:(((((w.alloc (Obj.cells #[.slice g.a g.n g.c] 27)).alloc (Obj.cells #[.int .i64 f.p,.int .i64 f.l,.slice f.a f.n f.c] 68)).alloc (Obj.cells #[.slice g.a g.n g.c,.slice f.a f.n f.c,.slice (some { block:=(w.heap.size+1+1+1),off:=0 }) f.n f.n,.slice none 0 0] 188)).alloc (Obj.cells (madeCells #[Value.int IntKind.i64 0] f.n) 3)).drew).cell? ⟨(w.heap.size+1+1),3,none⟩=some (.slice none 0 0):=by go_simp
  have dz:(((((w.alloc (Obj.cells #[.slice g.a g.n g.c] 27)).alloc (Obj.cells #[.int .i64 f.p,.int .i64 f.l,.slice f.a f.n f.c] 68)).alloc (Obj.cells #[.slice g.a g.n g.c,.slice f.a f.n f.c,.slice (some { block:=(w.heap.size+1+1+1),off:=0 }) f.n f.n,.slice none 0 0] 188)).alloc (Obj.cells (madeCells #[Value.int IntKind.i64 0] f.n) 3)).drew).frozen? ⟨(w.heap.size+1+1),3,none⟩=false:=by go_simp
  have hs0:(((((w.alloc (Obj.cells #[.slice g.a g.n g.c] 27)).alloc (Obj.cells #[.int .i64 f.p,.int .i64 f.l,.slice f.a f.n f.c] 68)).alloc (Obj.cells #[.slice g.a g.n g.c,.slice f.a f.n f.c,.slice (some { block:=(w.heap.size+1+1+1),off:=0 }) f.n f.n,.slice none 0 0] 188)).alloc (Obj.cells (madeCells #[Value.int IntKind.i64 0] f.n) 3)).drew).heap.size=w.heap.size+4:=by simp
  have hbel0:Below w.heap.size w (((((w.alloc (Obj.cells #[.slice g.a g.n g.c] 27)).alloc (Obj.cells #[.int .i64 f.p,.int .i64 f.l,.slice f.a f.n f.c] 68)).alloc (Obj.cells #[.slice g.a g.n g.c,.slice f.a f.n f.c,.slice (some { block:=(w.heap.size+1+1+1),off:=0 }) f.n f.n,.slice none 0 0] 188)).alloc (Obj.cells (madeCells #[Value.int IntKind.i64 0] f.n) 3)).drew):=by repeat (first | exact Below.refl _ _ | refine Below.drew ?_ | refine Below.alloc ?_ P6 _)
  generalize (((((w.alloc (Obj.cells #[.slice g.a g.n g.c] 27)).alloc (Obj.cells #[.int .i64 f.p,.int .i64 f.l,.slice f.a f.n f.c] 68)).alloc (Obj.cells #[.slice g.a g.n g.c,.slice f.a f.n f.c,.slice (some { block:=(w.heap.size+1+1+1),off:=0 }) f.n f.n,.slice none 0 0] 188)).alloc (Obj.cells (madeCells #[Value.int IntKind.i64 0] f.n) 3)).drew)=W1 at *
  obtain⟨wb,hwb⟩:∃wb,wb=(w.heap.size+1+1):=⟨_,rfl⟩
  obtain⟨hb,hhb⟩:∃hb,hb=(w.heap.size+1+1+1):=⟨_,rfl⟩
  have hwalk:K3 W1 g f wb hb (w.heap.size+4) (fun _=>0) [] (.slice none 0 0):=by
   rw[hwb,hhb];exact⟨by omega,by omega,by omega,by omega,d0,d1,d2,d3,dz,hrow0,World.ownsRow_nil _ _ _ _⟩
  rw[← hhb,← hwb];have hwl:w.heap.size≤wb:=by omega
  have hhl:w.heap.size≤hb:=by omega
  clear hrow0 d0 d1 d2 d3 dz hwb hhb hmk;have d2:=hwalk.c2;go_wp2
  clear d2;go_loopw [22] (fun v wr=>∃i:Nat,i≤f.n∧v=.int .i64 i∧K3 wr g f wb hb (w.heap.size+4) (fun j=>if j < i then -1 else 0) [] (.slice none 0 0)∧Below w.heap.size w wr) (fun v _=>f.n - (intOf v).toNat)
  case atStart=>exact ⟨0,Nat.zero_le _,rfl,hwalk,hbel0⟩
  case round =>
   obtain⟨i,hi,rfl,hwr,hbel⟩:=hrel;have hsz:=hwr.size;by_cases hlt:i < f.n
   ·have d2:=hwr.c2
    have kh:=hwr.row.cell hlt;have kf:=hwr.row.frozen i;have hwne:=hwr.ne;go_wp2
    go_roundw
    case rel =>
     go_light
     refine⟨i+1,by omega,by go_num,⟨hwr.ne,hwr.ltw,hwr.lth,by simpa using hwr.size,?_,?_,?_,?_,?_,(hwr.row.set i (.int .i64 (-1))).congr (fun j _=>?_),World.ownsRow_nil _ _ _ _⟩,hbel.setCell hhl _⟩
     ·have:=hwr.c0;go_simp
     ·have:=hwr.c1;go_simp
     ·go_simp
     ·have:=hwr.c3;go_simp
     ·have:=hwr.fz;go_simp
     ·by_cases e:j=i
      ·subst e;rw [if_pos rfl,if_pos Q8]
      ·rw [if_neg e]
       by_cases h1:j < i
       ·rw [if_pos h1,if_pos Q8]
       ·rw [if_neg h1,if_neg Q8]
    case measure=>simp [intOf];omega
   ·have hH:∀j,j < f.n→(if j < i then (-1:Int) else 0) = -1:=fun j hj=>by rw [if_pos Q8]
    have hwr1:K3 wr g f wb hb (w.heap.size+4) (fun _ => -1) [] (.slice none 0 0) :=
     ⟨hwr.ne,hwr.ltw,hwr.lth,hwr.size,hwr.c0,hwr.c1,hwr.c2,hwr.c3,hwr.fz,hwr.row.congr (fun j hj=>by rw [hH j hj]),hwr.own⟩
    clear hwr hH;go_wp2_with fail;have hcome:=cC g f wb hb (w.heap.size+4) (fun _ => -1) [] (.slice none 0 0) 0 0 wr hwr1 Q9;rw[show ((0:Nat):Int)=0 from rfl] at hcome;refine hcome.mono ?_;clear hcome;rintro e w2 ⟨H,T,tv,ok,rfl,hw2,hsay,hbut2⟩;have hbel2:Below w.heap.size w w2:=hbel.trans (hbut2.below Q8 (U7 hwr1 hwl hhl));obtain⟨rfl,rfl,rfl⟩:ok=true∧H=(fun i=>if i=0 then 0 else -1)∧T=[0]:=by
     rcases hsay with ⟨_,h⟩ | ⟨_,_,h,_⟩ | ⟨_,_,h,_⟩ | ⟨h1,_,_,h2,h3⟩
     ·omega
     ·exact absurd rfl h
     ·exact absurd rfl h
     ·exact ⟨h1,h2,h3⟩
    have hgo:fZ g f wb hb (w.heap.size+4) w2 f.n true:=by
     refine Or.inr ⟨rfl,_,_,tv,hw2,⟨fun a ha=>?_,fun t htm=>?_⟩,?_,Nat.le_refl _,by simp,fun a ha hz=>?_⟩
     ·by_cases e:a=0
      ·subst e;simp only [if_pos];exact ⟨by omega,by omega,fun _=>(A7 g f).reach_first⟩
      ·simp only [if_neg e];exact ⟨by omega,by omega,fun h=>by omega⟩
     ·obtain rfl:t=0:=by simpa using htm
      exact⟨hn1,by simp⟩
     ·have h1:=eV (n:=f.n) (H:=fun _ => -1) (c:=0) (v:=0) Q8 Q9 Q8
      have h2:left f.n (fun _ => -1)≤f.n:=by unfold left;exact Nat.le_trans (List.length_filter_le _ _) Q9
      simp only[List.length_cons,List.length_nil];omega
     ·by_cases e:a=0
      ·subst e;exact Or.inl Q9
      ·simp only [if_neg e] at hz;omega
    clear hsay hw2 hbut2 hwr1 hbel hwalk hbel0;go_wp2_with fail;go_loopg [8] f.n (fun k v wx=>∃ok:Bool,v=.bool ok∧fZ g f wb hb (w.heap.size+4) wx k ok∧Below w.heap.size w wx)
    case atStart=>exact ⟨true,rfl,hgo,hbel2⟩
    case round =>
     obtain⟨ok,rfl,hgoing,hbelx⟩:=hrel;rcases hgoing with ⟨rfl,hno⟩ | ⟨rfl,H,T,tv,hwx,hinv,hlen,hgk,hx0,hsh⟩
     ·go_wp2_with fail
      go_ret2;exact iV _ false rfl ⟨fun h=>(by cases h),fun h=>absurd h hno⟩ hbelx (fun h=>by cases h)
     ·have HX0:=(show Hid _ from hx0);clear hx0
      have HSH:=(show Hid _ from hsh);clear hsh;have d2:=hwx.c2;have d3:=hwx.c3;have fz:=hwx.fz;have hwwx:wb < wr.heap.size:=Nat.lt_of_lt_of_le hwx.ltw hwx.size;have hdone:T=[]→iN g f w (.returned (.tuple #[.slice (some ⟨hb,0,none⟩) f.n f.n,.bool true])) wr:=fun hTe =>
       iV _ true rfl ⟨fun _=>E6.fits_of_shut (H:=H) (by show 0 < f.n;omega) HX0.out (fun a=>(M7 _).1) (fun a ha hz=>(HSH.out a ha hz).elim (fun h=>by rw [hTe] at h;cases h) id),fun _=>rfl⟩ hbelx (fun _=>lJ hwx hinv hn1 HX0.out HSH.out hTe hhl)
      have HDONE:=(show Hid _ from hdone);clear hdone;rcases hwx.own.2 with ⟨hv,h0⟩ | ⟨gb,cap,cur,hv,hgb,hheap,hncap,hcap,hcs,htake⟩
      ·obtain rfl:T=[]:=List.length_eq_zero_iff.1 h0
       rw[hv] at d3;clear hv h0;go_wp2_with fail;go_ret2;exact HDONE.out Q9
      ·clear cur hheap hcs htake
       rcases List.eq_nil_or_concat T with rfl | ⟨T0,t,rfl⟩
       ·rw [hv] at d3
        simp only[List.length_nil] at d3;clear hv;go_wp2_with fail;go_ret2;exact HDONE.out Q9
       ·have hl1:(T0.concat t).length=T0.length+1:=by simp
        rw[hl1] at hv hlen hncap;have hown:=hwx.own;rw[hv,hl1] at hown;have htc:wr.cell? ⟨gb,T0.length,none⟩=some (.int .i64 (t:Int)):=by
         have:=hown.cells (g:=gb) rfl T0.length (.int .i64 (t:Int)) (by simp [fP]);rw[Go.WideShapes.add_plain,Nat.zero_add] at this;exact this
        have hown0:wr.ownsRow (w.heap.size+4) 3 1 (.slice (some ⟨gb,0,none⟩) T0.length cap) T0.length (fP T0):=ownsRow_pop (last:=[.int .i64 (t:Int)]) (by simp [fP]) (by simpa [fP] using hown);rw[hv] at d3;have hgbx:gb < wr.heap.size:=(hown.lt gb rfl).2;have hT60:T0.length≤59:=by omega
        obtain⟨htn,htz⟩:=hinv.2 t Q9;have hw0:K3 (wr.setCell ⟨wb,3,none⟩ (.slice (some ⟨gb,0,none⟩) T0.length cap)) g f wb hb (w.heap.size+4) H T0 (.slice (some ⟨gb,0,none⟩) T0.length cap):=by
         have hne:=hwx.ne;refine⟨hwx.ne,hwx.ltw,hwx.lth,by simpa using hwx.size,?_,?_,?_,?_,?_,hwx.row.setOther (by exact hwx.ne.symm) _,ownsRow_setCell_below hown0 (a:=⟨wb,3,none⟩) hwx.ltw _⟩
         ·have:=hwx.c0;go_light;go_simp
         ·have:=hwx.c1;go_light;go_simp
         ·go_light;go_simp
         ·go_light;go_simp
         ·go_light;go_simp
        have hbel0:Below w.heap.size w (wr.setCell ⟨wb,3,none⟩ (.slice (some ⟨gb,0,none⟩) T0.length cap)):=hbelx.setCell hwl _;have hinv0:Inv (A7 g f) H T0:=⟨hinv.1,fun x hx=>hinv.2 x (by simp [hx])⟩;have hleave:=iW w.heap.size g f wb hb (w.heap.size+4) H T0 _ t _ hw0 Q8 hwl hhl ((hg.mono hB).below hbel0) ((hf.mono hB).below hbel0) hgood (ht.below hB0 (hbel0.mono hB)) hT60 htn hinv0 htz
        have HLV:=(show Hid _ from hleave);clear hleave;clear hv hl1 hown hown0 hw0;go_wp2_with fail;refine Calls.mono HLV.out ?_;rintro e w3 ⟨ok,H',T',tv',rfl,hB3,hcase⟩;have hbel3:Below w.heap.size w w3:=hbel0.trans hB3;have hnew:fZ g f wb hb (w.heap.size+4) w3 (gk - 1) ok:=by
         rcases hcase with ⟨rfl,hno⟩ | ⟨rfl,hw3,hi3,hx3,hs3⟩
         ·exact Or.inl ⟨rfl,hno⟩
         ·refine Or.inr ⟨rfl,H',T',tv',hw3,hi3,by have:=hx3.2.2.2;omega,by omega,by rw [hx3.1 0 (by rw [HX0.out];omega)];exact HX0.out,fun a ha hz=>?_⟩
          rcases hx3.2.2.1 a ha hz with hz0 | hm
          ·rcases HSH.out a ha hz0 with hm | hm
           ·by_cases e:a=t
            ·subst e;exact Or.inr hs3
            ·exact Or.inl (hx3.2.1 a (by simpa [e] using hm))
           ·exact Or.inr (hm.ext (M7 _).1 hz0 hx3.1)
          ·exact Or.inl hm
        clear hcase;go_wp2_with fail;go_roundg (gk - 1)
        case measure=>go_light;omega
        case rel=>exact ⟨ok,rfl,hnew,hbel3⟩
abbrev FrL:=Int × List Val × List Val
noncomputable def F3 (bs:List Int) (g:PgR) (fn:Nat) (s:Rs):Int × Rs :=
 ((D7 bs ((g.f fn).n - 1:Nat) (E9 (C0 bs s).2 ((C0 bs s).1 == fn))).1,E9 (D7 bs ((g.f fn).n - 1:Nat) (E9 (C0 bs s).2 ((C0 bs s).1 == fn))).2 (N7 (A7 g (g.f fn)) (D7 bs ((g.f fn).n - 1:Nat) (E9 (C0 bs s).2 ((C0 bs s).1 == fn))).1.toNat != -1))
noncomputable def Z8 (bs:List Int) (l h pc:Int) (s:Rs):FrL × Rs:=((pc,(N9 bs l s).1,(N9 bs h (N9 bs l s).2).1),(N9 bs h (N9 bs l s).2).2)
noncomputable def F9 (bs:List Int) (g:PgR) (fn:Nat) (calls:Bool) (s:Rs):FrL × Rs :=
 if calls then Z8 bs (g.f fn).l (N7 (A7 g (g.f fn)) (F3 bs g fn s).1.toNat - G1 ((g.f fn).op (F3 bs g fn s).1.toNat) (g.f ((g.f fn).ar (F3 bs g fn s).1.toNat).toNat).p) (F3 bs g fn s).1 (E9 (F3 bs g fn s).2 ((g.f fn).op (F3 bs g fn s).1.toNat == 14))
 else Z8 bs (g.f fn).l (N7 (A7 g (g.f fn)) (F3 bs g fn s).1.toNat) (F3 bs g fn s).1 (F3 bs g fn s).2
structure pK (w:World) (A:Nat) (g:PgR) (f:FnR):Prop where
 p0:w.cell? ⟨A,0,none⟩=some (.slice (some ⟨g.b,g.o,none⟩) g.n g.c)
 r0:w.cell? ⟨A+1,0,none⟩=some (.int .i64 0)
 r1:w.cell? ⟨A+1,1,none⟩=some (.int .i64 0)
 r2:w.cell? ⟨A+1,2,none⟩=some (.slice none 0 0)
 r3:w.cell? ⟨A+1,3,none⟩=some (.slice none 0 0)
 z:∀j,w.frozen? ⟨A+1,j,none⟩=false
 f0:w.cell? ⟨A+1+1,0,none⟩=some (.int .i64 f.p)
 f1:w.cell? ⟨A+1+1,1,none⟩=some (.int .i64 f.l)
 f2:w.cell? ⟨A+1+1,2,none⟩=some (.slice f.a f.n f.c)
 lt:A+2 < w.heap.size
theorem pK.kept {w w':World} {A:Nat} {g:PgR} {f:FnR} (h:pK w A g f) (hs:w.heap.size≤w'.heap.size) (hb:∀k,A≤k→k < w.heap.size→w'.heap[k]?=w.heap[k]?):pK w' A g f:=by
 have hl:=h.lt;have e0:=hb A (Nat.le_refl _) Q8;have e1:=hb (A+1) Q8 Q8;have e2:=hb (A+1+1) Q8 Q8;exact⟨(World.cell?_of_block (w:=w) (a:=⟨A,0,none⟩) e0).trans h.p0,(World.cell?_of_block (w:=w) (a:=⟨A+1,0,none⟩) e1).trans h.r0,(World.cell?_of_block (w:=w) (a:=⟨A+1,1,none⟩) e1).trans h.r1,
  (World.cell?_of_block (w:=w) (a:=⟨A+1,2,none⟩) e1).trans h.r2,(World.cell?_of_block (w:=w) (a:=⟨A+1,3,none⟩) e1).trans h.r3,fun j=>(World.frozen?_of_block (w:=w) (a:=⟨A+1,j,none⟩) e1).trans (h.z j),
  (World.cell?_of_block (w:=w) (a:=⟨A+1+1,0,none⟩) e2).trans h.f0,(World.cell?_of_block (w:=w) (a:=⟨A+1+1,1,none⟩) e2).trans h.f1,(World.cell?_of_block (w:=w) (a:=⟨A+1+1,2,none⟩) e2).trans h.f2,Nat.lt_of_lt_of_le hl hs⟩
theorem pK.wrote {w w':World} {A rb:Nat} {g:PgR} {f:FnR} (h:pK w A g f) (hr:rb < A) (hw:A6 rb rb w w'):pK w' A g f:=h.kept hw.size fun k h1 h2=>hw.block k h2 Q8 Q8
theorem pK.below {w w':World} {A:Nat} {g:PgR} {f:FnR} (h:pK w A g f) (hw:Below w.heap.size w w'):pK w' A g f:=h.kept hw.size fun k _ h2=>hw.block k h2
theorem M3.wrote {W V:World} {rb:Nat} {g:PgR} (h:M3 W.heap.size W g) (hrb:∀k,g.blk k→k≠rb) (hw:A6 rb rb W V):M3 V.heap.size V g:=h.held hw.size fun k hk=>hw.block k (h.blk_lt hk) (hrb k hk) (hrb k hk)
structure a0S (W w:World) (rb:Nat) (a:Option Addr) (c:Nat) (bs:List Int) (g:PgR) (f:FnR) (s:Rs):Prop where
 fm:pK w W.heap.size g f
 rd:F7 w rb a c bs s
 wr:A6 rb rb W w
 pg:M3 w.heap.size w g
 tab:Tab w
theorem a0S.next {W w w':World} {rb:Nat} {a:Option Addr} {c:Nat} {bs:List Int} {g:PgR} {f:FnR} {s s':Rs} (h:a0S W w rb a c bs g f s) (hl:rb < W.heap.size) (h0:rb≠0) (hrb:∀k,g.blk k→k≠rb) (hr:F7 w' rb a c bs s') (hw:A6 rb rb w w'):a0S W w' rb a c bs g f s' :=
 ⟨h.fm.wrote hl hw,hr,h.wr.trans hw,h.pg.wrote hrb hw,h.tab.wrote h0 hw⟩
theorem a0S.below {W w w':World} {rb:Nat} {a:Option Addr} {c:Nat} {bs:List Int} {g:PgR} {f:FnR} {s:Rs} (h:a0S W w rb a c bs g f s) (hl:rb < W.heap.size) (h0:rb≠0) (hrb:∀k,g.blk k→k≠rb) (hw:Below w.heap.size w w'):a0S W w' rb a c bs g f s :=
 h.next hl h0 hrb (h.rd.later hw) (A6.of_below hw)
theorem a2s {W:World} {rb c:Nat} {a:Option Addr} {bs:List Int} {s:Rs} (h:F7 W rb a c bs s) {g:PgR} (hg:M3 W.heap.size W g) (hok:F2 g) {fn:Nat} (hfn:fn < g.n) (ht:Tab W) (h0:rb≠0) (hrb:∀k,g.blk k→k≠rb) (calls:Bool) :
  Calls Tryz.prog 116 #[.pointer (some ⟨rb,0,none⟩),.agg #[.slice g.a g.n g.c],.int .i64 (fn:Int),.bool calls] W fun e w'=>∃lv sv,J1 rb a c bs (F9 bs g fn calls s).2 (.agg #[.int .i64 (fn:Int),.int .i64 (F9 bs g fn calls s).1.1,lv,sv]) W e w' ∧
   w'.ownsRow W.heap.size 73 2 lv (F9 bs g fn calls s).1.2.1.length (A5 (F9 bs g fn calls s).1.2.1)∧w'.ownsRow W.heap.size 73 2 sv (F9 bs g fn calls s).1.2.2.length (A5 (F9 bs g fn calls s).1.2.2)∧∀b,lv.ownBlock=some b→sv.ownBlock≠some b:=by
 obtain⟨ha,hgb,hcell⟩:=hg.2.1 Q8;obtain⟨k0,k1,k2⟩:=hcell fn hfn;have hlt:=h.lt;have hgn:=hg.1;have HW:=hid h;have HG:=hid hg;have HT:=hid ht;have HRB:=hid hrb;have HOK:=hid hok;have HA:=hid ha;rw[ha];have hgood:=pC hok.sized hok.legal hfn;have hn1:1≤(g.f fn).n:=hgood.1;have hn60:(g.f fn).n≤60:=hgood.2.1;have HGD:=hid hgood;generalize hf:g.f fn=f at *
 have HF:=hid hf;have HE:Hid (F3 bs g fn s=((D7 bs (f.n - 1:Nat) (E9 (C0 bs s).2 ((C0 bs s).1 == fn))).1,E9 (D7 bs (f.n - 1:Nat) (E9 (C0 bs s).2 ((C0 bs s).1 == fn))).2 (N7 (A7 g f) (D7 bs (f.n - 1:Nat) (E9 (C0 bs s).2 ((C0 bs s).1 == fn))).1.toNat != -1))):=by
  refine hid ?_;unfold F3;rw[HF.out]
 have HR:Hid (F9 bs g fn calls s=if calls then Z8 bs f.l (N7 (A7 g f) (F3 bs g fn s).1.toNat - G1 (f.op (F3 bs g fn s).1.toNat) (g.f (f.ar (F3 bs g fn s).1.toNat).toNat).p) (F3 bs g fn s).1 (E9 (F3 bs g fn s).2 (f.op (F3 bs g fn s).1.toNat == 14)) else Z8 bs f.l (N7 (A7 g f) (F3 bs g fn s).1.toNat) (F3 bs g fn s).1 (F3 bs g fn s).2):=by
  refine hid ?_;unfold F9;rw[HF.out]
 generalize F9 bs g fn calls s=R at *
 generalize F3 bs g fn s=T at *
 have HRNG:=hid HW.out.rng;clear h hg hcell ht hrb hok ha hgood hf;go_enter Tryz.func116,Tryz.ntmps116;go_wp2_with fail;have hB0:Below W.heap.size W (((W.alloc (Obj.cells #[.slice (some ⟨g.b,g.o,none⟩) g.n g.c] 27)).alloc (Obj.cells #[.int .i64 0,.int .i64 0,.slice none 0 0,.slice none 0 0] 83)).alloc (Obj.cells #[.int .i64 f.p,.int .i64 f.l,.slice f.a f.n f.c] 68)):=by
  repeat (first | exact Below.refl _ _ | refine Below.alloc ?_ P7 _)
 have hfm:pK (((W.alloc (Obj.cells #[.slice (some ⟨g.b,g.o,none⟩) g.n g.c] 27)).alloc (Obj.cells #[.int .i64 0,.int .i64 0,.slice none 0 0,.slice none 0 0] 83)).alloc (Obj.cells #[.int .i64 f.p,.int .i64 f.l,.slice f.a f.n f.c] 68)) W.heap.size g f:=by
  refine⟨by go_simp,by go_simp,by go_simp,by go_simp,by go_simp,fun j=>by go_simp,by go_simp,by go_simp,by go_simp,by simp⟩
 have S0:Hid (a0S W (((W.alloc (Obj.cells #[.slice (some ⟨g.b,g.o,none⟩) g.n g.c] 27)).alloc (Obj.cells #[.int .i64 0,.int .i64 0,.slice none 0 0,.slice none 0 0] 83)).alloc (Obj.cells #[.int .i64 f.p,.int .i64 f.l,.slice f.a f.n f.c] 68)) rb a c bs g f s) :=
  hid ⟨hfm,HW.out.later hB0,A6.of_below hB0,HG.out.wrote HRB.out (A6.of_below hB0),HT.out.wrote h0 (A6.of_below hB0)⟩
 generalize ((W.alloc (Obj.cells #[.slice (some ⟨g.b,g.o,none⟩) g.n g.c] 27)).alloc (Obj.cells #[.int .i64 0,.int .i64 0,.slice none 0 0,.slice none 0 0] 83)).alloc (Obj.cells #[.int .i64 f.p,.int .i64 f.l,.slice f.a f.n f.c] 68)=w0 at *
 have HC:Hid (∀V,Below w0.heap.size w0 V→Calls Tryz.prog 114 #[.pointer (some ⟨rb,0,none⟩)] V fun e w'=>J1 rb a c bs (C0 bs s).2 (.int .i64 (C0 bs s).1) V e w'):=hid fun V hV=>aF (S0.out.rd.later hV)
 clear hB0 hfm k0 k1 k2;go_region_with (first | (go_at_call 114;refine (HC.out _ P5).mono ?_;rintro e w1 ⟨rfl,h1,h2⟩;have S1:=hid ((S0.out.below hlt h0 HRB.out P5).next hlt h0 HRB.out h1 h2);clear h1 h2) | (go_at_call 82;refine (M5 S1.out.rd _).mono ?_;rintro e w2 ⟨rfl,h3,h4⟩;have S2:=hid (S1.out.next hlt h0 HRB.out h3 h4);clear h3 h4 S1 S0))
 generalize E9 (C0 bs s).2 ((C0 bs s).1 == fn)=s1 at HE S2;have f2:=S2.out.fm.f2;have l2:=S2.out.fm.lt;have HU:=hid (aY S2.out.rd (f.n - 1) Q8);have hq2:=T6 HRNG.out (most:=((f.n - 1:Nat):Int)) Q8 s1;generalize D7 bs ((f.n - 1:Nat):Int) s1=q2 at *
 rw[show ((f.n - 1:Nat):Int)=(f.n:Int) - 1 by omega] at HU;obtain⟨q21,q22⟩:=q2;simp only at hq2 HE HU;obtain⟨pc,rfl⟩:=Int.eq_ofNat_of_zero_le hq2.1;rw[Int.toNat_natCast] at HE;have hpc:pc < f.n:=by omega
 clear hq2 HC;go_wp2_with fail;refine HU.out.mono ?_;rintro e w3 ⟨rfl,h5,h6⟩;have S3:=hid (S2.out.next hlt h0 HRB.out h5 h6);clear h5 h6 HU f2 l2 S2;have p0:=S3.out.fm.p0;have f0:=S3.out.fm.f0;have f1:=S3.out.fm.f1;have f2:=S3.out.fm.f2;have l2:=S3.out.fm.lt;have HH:=hid (wB w3.heap.size g (g.f fn) w3 Q8 (Nat.le_refl _) S3.out.pg (S3.out.pg.2.2 fn hfn) (by rw [HF.out];exact HGD.out) S3.out.tab)
 rw[HF.out,HA.out] at HH;go_wp2_with fail;refine HH.out.mono ?_;rintro e w4 ⟨v,ok,rfl,hiff,hb4,hrow⟩;have hfit:(A7 g f).Fits:=by have:=HOK.out.fits fn hfn;rw [HF.out] at this;exact this
 obtain rfl:=hiff.2 hfit;obtain⟨hb,rfl,hb1,hb2,hcl⟩:=hrow rfl;obtain⟨kh,hh1,hh2⟩:=hcl pc hpc;have S4:=hid (S3.out.below hlt h0 HRB.out hb4);clear hiff hfit hrow hcl hb4 HH p0 f0 f1 f2 l2 S3;rw[HE.out] at HR;simp only[Int.toNat_natCast] at HR;clear HE;generalize N7 (A7 g f) pc=hh at *
 have HM:=hid (M5 S4.out.rd (hh != -1));go_wp2_with fail;refine HM.out.mono ?_;rintro e w5 ⟨rfl,h7,h8⟩;have S5:=hid (S4.out.next hlt h0 HRB.out h7 h8);have hbd:=HOK.out.sized.bd hfn;rw[HF.out] at hbd;have hl9:f.l≤9223372036854775807:=by omega
 clear h7 h8 HM kh S4 hbd
 cases calls
 ·have f1:=S5.out.fm.f1
  have l2:=S5.out.fm.lt;have HV:=hid (cI S5.out.rd f.l hl9);have HR0:=HR.out;rw[if_neg Q7] at HR0;have HR:=hid HR0;clear HR0;unfold Z8 at HR;generalize N9 bs f.l (E9 q22 (hh != -1))=q3 at *
  obtain⟨q31,q32⟩:=q3;simp only at HV HR;go_wp2_with fail;refine HV.out.mono ?_;rintro e w6 ⟨lv,⟨rfl,h9,h10⟩,hrl⟩;obtain⟨la,lc,rfl⟩:=B0 hrl;have S6:=hid (S5.out.next hlt h0 HRB.out h9 h10);have HRL:=hid hrl;have HV2:=hid (cI h9 hh Q8);generalize N9 bs hh q32=q4 at *
  obtain⟨q41,q42⟩:=q4;simp only at HV2 HR;have HB6:=hid h10.size;have HL5:=hid S5.out.fm.lt;clear h9 h10 hrl f1 l2 HV S5;go_wp2_with fail;refine HV2.out.mono ?_;rintro e w7 ⟨sv,⟨rfl,h11,h12⟩,hrs⟩;obtain⟨sa,sc,rfl⟩:=B0 hrs;have S7:=hid (S6.out.next hlt h0 HRB.out h11 h12);have hrl7:w7.ownsRow w5.heap.size 73 2 (.slice la q31.length lc) q31.length (A5 q31):=A2 HRL.out fun b hb=>h12.block b (HRL.out.lt b hb).2 (by have:=(HRL.out.lt b hb).1;have:=HL5.out;omega) (by have:=(HRL.out.lt b hb).1;have:=HL5.out;omega)
  have hapart:∀b,(Value.slice la q31.length lc).ownBlock=some b→(Value.slice sa q41.length sc).ownBlock≠some b:=fun b hb e=>by
   have h1:=(HRL.out.lt b hb).2;have h2:=(hrs.lt b e).1;omega
  have b67:w5.heap.size≤w6.heap.size:=HB6.out;have HRL7:=hid hrl7;have HRS:=hid hrs;have HAP:=hid hapart;have r0:=S7.out.fm.r0;have r1:=S7.out.fm.r1;have r2:=S7.out.fm.r2;have r3:=S7.out.fm.r3;have z0:=S7.out.fm.z 0;have z1:=S7.out.fm.z 1;have z2:=S7.out.fm.z 2;have z3:=S7.out.fm.z 3;have l7:=S7.out.fm.lt;have l5:W.heap.size+2 < w5.heap.size:=HL5.out;clear h11 h12 hrs hrl7 hapart HV2 HRL S6;go_wp2_with fail
  refine bodyPost_ret (v:=.agg #[.int .i64 (fn:Int),.int .i64 (pc:Int),.slice la q31.length lc,.slice sa q41.length sc]) (by simp [results,Tryz.results116,go_sem,r0,r1,r2,r3]) rfl ?_;rw[HR.out];refine⟨.slice la q31.length lc,.slice sa q41.length sc,⟨rfl,?_,?_⟩,?_,?_,HAP.out⟩
  ·repeat (first | exact S7.out.rd | refine HW.out.setNew ?_ Q8 _ _)
  ·repeat (first | exact S7.out.wr | refine A6.setNew ?_ Q8 _ _)
  ·refine C5 ?_ (show W.heap.size≤w5.heap.size by omega)
   repeat (first | exact HRL7.out | refine ownsRow_setCell_other ?_ (by intro hb;have:=(HRL7.out.lt _ hb).1;simp at this;omega) _)
  ·refine C5 ?_ (show W.heap.size≤w6.heap.size by omega)
   repeat (first | exact HRS.out | refine ownsRow_setCell_other ?_ (by intro hb;have:=(HRS.out.lt _ hb).1;simp at this;omega) _)
 ·have HR0:=HR.out
  rw[if_pos rfl] at HR0;have HR:=hid HR0;clear HR0;have hci:=S5.out.pg.2.2 fn hfn;rw[HF.out] at hci;obtain⟨fa,fb,fc⟩:=hci.2 Q8;obtain⟨d0,d1⟩:=fc pc hpc;have f2:=S5.out.fm.f2;rw[fa] at f2;have l5:=S5.out.fm.lt;have hleg:=HGD.out.2.2.2 pc hpc;have hop:=dD hleg;have HLC:Hid (f.op pc=14→0≤f.ar pc∧f.ar pc < g.n):=hid fun e=>L9 hleg e
  clear hci fc fa hleg;generalize hfo:f.op pc=op at *
  generalize hfr:f.ar pc=ar at *
  clear hfo hfr;go_wp2_with fail;have hB5:Below w5.heap.size w5 (w5.alloc (Obj.cells #[.int .i64 op,.int .i64 ar] 62)):=Below.alloc (Below.refl _ _) (Nat.le_refl _) _;have S6:=hid (S5.out.below hlt h0 HRB.out hB5);have u0:(w5.alloc (Obj.cells #[.int .i64 op,.int .i64 ar] 62)).cell? ⟨w5.heap.size,0,none⟩=some (.int .i64 op):=by go_simp
  have u1:(w5.alloc (Obj.cells #[.int .i64 op,.int .i64 ar] 62)).cell? ⟨w5.heap.size,1,none⟩=some (.int .i64 ar):=by go_simp
  have l56:w5.heap.size < (w5.alloc (Obj.cells #[.int .i64 op,.int .i64 ar] 62)).heap.size:=by simp
  generalize w5.alloc (Obj.cells #[.int .i64 op,.int .i64 ar] 62)=w6 at *
  clear hB5 d0 d1 f2 S5 fb;go_region_with (go_at_call 82;refine (M5 (S6.out.below hlt h0 HRB.out P5).rd _).mono ?_;rintro e w7 ⟨rfl,h9,h10⟩;have S7:=hid ((S6.out.below hlt h0 HRB.out P5).next hlt h0 HRB.out h9 h10);have H10:=hid h10;clear h9 h10)
  have v0:w7.cell? ⟨w5.heap.size,0,none⟩=some (.int .i64 op):=H10.out.cell (by simpa using l56) Q8 Q8 Q6;have v1:w7.cell? ⟨w5.heap.size,1,none⟩=some (.int .i64 ar):=H10.out.cell (by simpa using l56) Q8 Q8 Q6;have p0:=S7.out.fm.p0;have l7:=S7.out.fm.lt;have l57:w5.heap.size < w7.heap.size:=by have:=H10.out.size;simp at this;omega
  have hpb:0≤G1 op (g.f ar.toNat).p∧G1 op (g.f ar.toNat).p≤8:=pF op _ fun e=>by
   have h1:=HLC.out e;have h2:=HGD.out.2.2.1 ar.toNat Q8;exact h2
  have HP:Hid (Calls Tryz.prog 66 #[.agg #[.slice (some ⟨g.b,g.o,none⟩) g.n g.c],.agg #[.int .i64 op,.int .i64 ar]] w7 fun e w'=>e=.returned (.int .i64 (G1 op (g.f ar.toNat).p))∧Below w7.heap.size w7 w'):=by
   refine hid ?_;obtain⟨k,rfl⟩:=Int.eq_ofNat_of_zero_le hop.1;have:=kN w7.heap.size g k ar w7 (Nat.le_refl _) S7.out.pg S7.out.tab Q8 (fun e=>HLC.out e);rw[HA.out] at this;exact this
  generalize G1 op (g.f ar.toNat).p=pp at *
  clear u0 u1 l56 H10 S6 hop;go_wp2_with fail;refine HP.out.mono ?_;rintro e w9 ⟨rfl,hb9⟩;have S9:=hid (S7.out.below hlt h0 HRB.out hb9);clear hb9 HP v0 v1 p0 l7 l57 S7;have hx9:hh - pp≤9223372036854775807:=by omega
  have f1:=S9.out.fm.f1;have l2:=S9.out.fm.lt;have HV:=hid (cI S9.out.rd f.l hl9);unfold Z8 at HR;generalize N9 bs f.l (E9 (E9 q22 (hh != -1)) (op == 14))=q3 at *
  obtain⟨q31,q32⟩:=q3;simp only at HV HR;go_wp2_with fail;refine HV.out.mono ?_;rintro e w6 ⟨lv,⟨rfl,h9,h10⟩,hrl⟩;obtain⟨la,lc,rfl⟩:=B0 hrl;have S6:=hid (S9.out.next hlt h0 HRB.out h9 h10);have HRL:=hid hrl;have HV2:=hid (cI h9 (hh - pp) hx9);generalize N9 bs (hh - pp) q32=q4 at *
  obtain⟨q41,q42⟩:=q4;simp only at HV2 HR;have HB6:=hid h10.size;have HL9:=hid S9.out.fm.lt;clear h9 h10 hrl f1 l2 HV S9;go_wp2_with fail;refine HV2.out.mono ?_;rintro e w7 ⟨sv,⟨rfl,h11,h12⟩,hrs⟩;obtain⟨sa,sc,rfl⟩:=B0 hrs;have S7:=hid (S6.out.next hlt h0 HRB.out h11 h12);have hrl7:w7.ownsRow w9.heap.size 73 2 (.slice la q31.length lc) q31.length (A5 q31):=A2 HRL.out fun b hb=>h12.block b (HRL.out.lt b hb).2 (by have:=(HRL.out.lt b hb).1;have:=HL9.out;omega) (by have:=(HRL.out.lt b hb).1;have:=HL9.out;omega)
  have hapart:∀b,(Value.slice la q31.length lc).ownBlock=some b→(Value.slice sa q41.length sc).ownBlock≠some b:=fun b hb e=>by
   have h1:=(HRL.out.lt b hb).2;have h2:=(hrs.lt b e).1;omega
  have b67:w9.heap.size≤w6.heap.size:=HB6.out;have HRL7:=hid hrl7;have HRS:=hid hrs;have HAP:=hid hapart;have r0:=S7.out.fm.r0;have r1:=S7.out.fm.r1;have r2:=S7.out.fm.r2;have r3:=S7.out.fm.r3;have z0:=S7.out.fm.z 0;have z1:=S7.out.fm.z 1;have z2:=S7.out.fm.z 2;have z3:=S7.out.fm.z 3;have l7:=S7.out.fm.lt;have l5:W.heap.size+2 < w9.heap.size:=HL9.out;clear h11 h12 hrs hrl7 hapart HV2 HRL S6;go_wp2_with fail
  refine bodyPost_ret (v:=.agg #[.int .i64 (fn:Int),.int .i64 (pc:Int),.slice la q31.length lc,.slice sa q41.length sc]) (by simp [results,Tryz.results116,go_sem,r0,r1,r2,r3]) rfl ?_;rw[HR.out];refine⟨.slice la q31.length lc,.slice sa q41.length sc,⟨rfl,?_,?_⟩,?_,?_,HAP.out⟩
  ·repeat (first | exact S7.out.rd | refine HW.out.setNew ?_ Q8 _ _)
  ·repeat (first | exact S7.out.wr | refine A6.setNew ?_ Q8 _ _)
  ·refine C5 ?_ (show W.heap.size≤w9.heap.size by omega)
   repeat (first | exact HRL7.out | refine ownsRow_setCell_other ?_ (by intro hb;have:=(HRL7.out.lt _ hb).1;simp at this;omega) _)
  ·refine C5 ?_ (show W.heap.size≤w6.heap.size by omega)
   repeat (first | exact HRS.out | refine ownsRow_setCell_other ?_ (by intro hb;have:=(HRS.out.lt _ hb).1;simp at this;omega) _)
noncomputable def dH (bs:List Int) (g:PgR):Nat→Int→List FrA→Rs→List FrA × Rs
 | 0,_,acc,s=>(acc,s)
 | n+1,fn,acc,s=>if s.f=true then (acc,s) else
  dH bs g n ((g.f fn.toNat).ar (F9 bs g fn.toNat (decide ((1:Int) < ((n+1:Nat):Int))) s).1.1.toNat) (acc++[⟨fn.toNat,(F9 bs g fn.toNat (decide ((1:Int) < ((n+1:Nat):Int))) s).1.1.toNat,(F9 bs g fn.toNat (decide ((1:Int) < ((n+1:Nat):Int))) s).1.2.1,(F9 bs g fn.toNat (decide ((1:Int) < ((n+1:Nat):Int))) s).1.2.2⟩]) (F9 bs g fn.toNat (decide ((1:Int) < ((n+1:Nat):Int))) s).2
theorem pG {bs:List Int} {g:PgR} {n:Nat} (hn:n≠0) (fn:Nat) (acc:List FrA) {s:Rs} (hf:s.f=false) {pc:Int} {loc stk:List Val} {s2:Rs} (hr:F9 bs g fn (decide ((1:Int) < (n:Int))) s=((pc,loc,stk),s2)) :
  dH bs g n fn acc s=dH bs g (n - 1) ((g.f fn).ar pc.toNat) (acc++[⟨fn,pc.toNat,loc,stk⟩]) s2:=by
 cases n with
 | zero=>exact absurd rfl hn
 | succ m =>
  rw[dH,if_neg (by rw [hf];decide),Int.toNat_natCast,hr];rfl
noncomputable def bV (bs:List Int) (g:PgR) (s:Rs):List FrA × Rs:=dH bs g (D7 bs 12 s).1.toNat 0 [] (D7 bs 12 s).2
theorem nH {bs:List Int} (hr:∀x,x∈bs→0≤x∧x < 256) {g:PgR} {fn:Nat} (hn:1≤(g.f fn).n) (calls:Bool) (s:Rs):0≤(F9 bs g fn calls s).1.1∧(F9 bs g fn calls s).1.1 < (g.f fn).n:=by
 have h:=T6 hr (most:=(((g.f fn).n - 1:Nat):Int)) Q8 (E9 (C0 bs s).2 ((C0 bs s).1 == fn));have e:(F9 bs g fn calls s).1.1=(D7 bs ((g.f fn).n - 1:Nat) (E9 (C0 bs s).2 ((C0 bs s).1 == fn))).1:=by
  unfold F9;split <;> rfl
 rw[e];omega
theorem a6W {s:Rs} {b:Bool} (h:(E9 s b).f=false):b=true:=by
 cases b
 ·exact absurd h (by unfold E9;simp)
 ·rfl
theorem oD {bs:List Int} {g:PgR} {fn:Nat} {s:Rs} (h:(F9 bs g fn true s).2.f=false):(g.f fn).op (F9 bs g fn true s).1.1.toNat=14:=by
 have e:(F9 bs g fn true s).1.1=(F3 bs g fn s).1:=rfl;rw[e];have h2:(F9 bs g fn true s).2=(N9 bs (N7 (A7 g (g.f fn)) (F3 bs g fn s).1.toNat - G1 ((g.f fn).op (F3 bs g fn s).1.toNat) (g.f ((g.f fn).ar (F3 bs g fn s).1.toNat).toNat).p) (N9 bs (g.f fn).l (E9 (F3 bs g fn s).2 ((g.f fn).op (F3 bs g fn s).1.toNat == 14))).2).2:=rfl;rw[h2] at h;have f1:=(rG bs (g.f fn).l (E9 (F3 bs g fn s).2 ((g.f fn).op (F3 bs g fn s).1.toNat == 14))).trans (rG bs (N7 (A7 g (g.f fn)) (F3 bs g fn s).1.toNat - G1 ((g.f fn).op (F3 bs g fn s).1.toNat) (g.f ((g.f fn).ar (F3 bs g fn s).1.toNat).toNat).p) _)
 have h3:(E9 (F3 bs g fn s).2 ((g.f fn).op (F3 bs g fn s).1.toNat == 14)).f=false:=by
  cases e:(E9 (F3 bs g fn s).2 ((g.f fn).op (F3 bs g fn s).1.toNat == 14)).f
  ·rfl
  ·rw [f1.f e] at h
   cases h
 simpa using a6W h3
def FrR.lst (f:FrR) (t:Bool):List Val:=if t then f.stk else f.loc
structure a0T (w:World) (B:Nat) (vl:Value) (acc:List FrR):Prop where
 row:w.ownsRow B 83 4 vl acc.length (acc.flatMap FrR.cells)
 val:∀x,x∈acc→∀t,w.ownsRow B 73 2 (x.val t) (x.lst t).length (A5 (x.lst t))∧∀b,vl.ownBlock=some b→(x.val t).ownBlock≠some b
 dis:∀(k k':Nat) (t t':Bool) (f f':FrR) (b:Nat),(k < k'∨(k=k'∧t≠t'))→acc[k]?=some f→acc[k']?=some f'→(f.val t).ownBlock=some b→(f'.val t').ownBlock=some b→False
theorem a1C {acc:List FrR} {x:FrR} {B:Nat} (h:∀(k k':Nat) (t t':Bool) (f f':FrR) (b:Nat),(k < k'∨(k=k'∧t≠t'))→acc[k]?=some f→acc[k']?=some f'→(f.val t).ownBlock=some b→(f'.val t').ownBlock=some b→False)
  (h1:∀o,o∈acc→∀t b,(o.val t).ownBlock=some b→b < B) (h2:∀t b,(x.val t).ownBlock=some b→B≤b) (h3:∀t t' b,t≠t'→(x.val t).ownBlock=some b→(x.val t').ownBlock=some b→False) :
  ∀(k k':Nat) (t t':Bool) (f f':FrR) (b:Nat),(k < k'∨(k=k'∧t≠t'))→(acc++[x])[k]?=some f→(acc++[x])[k']?=some f'→(f.val t).ownBlock=some b→(f'.val t').ownBlock=some b→False:=by
 intro i j t t' o o' b hij hi hj ho ho';have hjl:j < (acc++[x]).length:=(List.getElem?_eq_some_iff.1 hj).1;rw[List.length_append] at hjl;simp at hjl;by_cases hj2:j < acc.length
 ·rw [List.getElem?_append_left hj2] at hj
  rw[List.getElem?_append_left Q8] at hi;exact h i j t t' o o' b hij hi hj ho ho'
 ·obtain rfl:j=acc.length:=by omega
  rw[List.getElem?_append_right (Nat.le_refl _)] at hj;simp at hj;subst hj;by_cases hi2:i < acc.length
  ·rw [List.getElem?_append_left hi2] at hi
   have:=h1 o (List.mem_of_getElem? hi) t b ho;have:=h2 t' b ho';omega
  ·obtain rfl:i=acc.length:=by omega
   rw[List.getElem?_append_right (Nat.le_refl _)] at hi;simp at hi;subst hi;rcases hij with hij | ⟨_,hij⟩
   ·omega
   ·exact h3 t t' b hij ho ho'
structure a3w (W V:World) (rb:Nat) (a:Option Addr) (c:Nat) (bs:List Int) (g:PgR) (acc:List FrR) (vl:Value) (s:Rs):Prop where
 rows:a0T V W.heap.size vl acc
 rd:F7 V rb a c bs s
 wr:A6 rb rb W V
 p0:V.cell? ⟨W.heap.size,0,none⟩=some (.slice (some ⟨g.b,g.o,none⟩) g.n g.c)
 lt:W.heap.size < V.heap.size
 ne:∀b,vl.ownBlock=some b→W.heap.size < b
theorem a3w.drew {W V:World} {rb:Nat} {a:Option Addr} {c:Nat} {bs:List Int} {g:PgR} {acc:List FrR} {vl:Value} {s:Rs} (h:a3w W V rb a c bs g acc vl s):a3w W V.drew rb a c bs g acc vl s :=
 ⟨⟨h.rows.row.drew,fun x hx t=>⟨(h.rows.val x hx t).1.drew,(h.rows.val x hx t).2⟩,h.rows.dis⟩,h.rd.later (Below.drew (Below.refl _ _)),h.wr.trans (A6.of_below (Below.drew (Below.refl _ _))),h.p0,h.lt,h.ne⟩
theorem a0B {W:World} {rb c:Nat} {a:Option Addr} {bs:List Int} {s:Rs} (h:F7 W rb a c bs s) {g:PgR} (hg:M3 W.heap.size W g) (hok:F2 g) (ht:Tab W) (h0:rb≠0) (hrb:∀k,g.blk k→k≠rb) :
  Calls Tryz.prog 81 #[.pointer (some ⟨rb,0,none⟩),.agg #[.slice g.a g.n g.c]] W fun e w'=>∃v fl,J1 rb a c bs (bV bs g s).2 v W e w'∧a0T w' W.heap.size v fl∧fl.map FrR.abs=(bV bs g s).1:=by
 obtain⟨i83,hi,hz,hsz,hby⟩:=info_parts wE;have HI:=hid hi;have HZ:=hid hz;have HSZ:=hid hsz;have HBY:=hid hby;have hgn1:1≤g.n:=hok.sized.1;have hgn8:g.n≤8:=hok.sized.2.1;obtain⟨ha,hgb,hcell⟩:=hg.2.1 Q8;have hlt:=h.lt;have HW:=hid h;have HG:=hid hg;have HT:=hid ht;have HRB:=hid hrb;have HOK:=hid hok;have HA:=hid ha;have HRNG:=hid h.rng;rw[ha];have hB0:Below W.heap.size W (W.alloc (.cells #[.slice (some ⟨g.b,g.o,none⟩) g.n g.c] 27)):=Below.alloc (Below.refl _ _) (Nat.le_refl _) _
 have HB0:=hid hB0;have HU:=hid (aY (h.later hB0) 12 Q7);have hq:=T6 h.rng (most:=12) Q7 s;have HE:Hid (bV bs g s=dH bs g (D7 bs 12 s).1.toNat 0 [] (D7 bs 12 s).2):=hid rfl;generalize bV bs g s=R at *
 simp only[show ((12:Nat):Int)=12 from rfl] at HU;generalize D7 bs 12 s=q1 at *
 obtain⟨q11,q12⟩:=q1;simp only at hq HE HU;obtain⟨n0,rfl⟩:=Int.eq_ofNat_of_zero_le hq.1;rw[Int.toNat_natCast] at HE;have hn12:n0≤12:=by omega
 clear h hg hok ht hrb ha hB0 hi hz hsz hby hq hcell;go_enter Tryz.func81,Tryz.ntmps81;go_wp2_with fail;refine HU.out.mono ?_;rintro e w1 ⟨rfl,h1,h2⟩;have y0:w1.cell? ⟨W.heap.size,0,none⟩=some (.slice (some ⟨g.b,g.o,none⟩) g.n g.c):=h2.cell Q9 Q8 Q8 Q6;have lw1:W.heap.size < w1.heap.size:=by have:=h2.size;simp at this;omega
 have S1:Hid (a3w W w1 rb a c bs g [] (.slice none 0 0) q12):=hid ⟨⟨World.ownsRow_nil _ _ _ _,(fun x hx=>by cases hx),(fun k k' t t' f f' b _ h=>by simp at h)⟩,h1,(A6.of_below HB0.out).trans h2,y0,lw1,fun b hb=>by cases hb⟩;clear h1 h2 HU HB0 y0;go_wp2_with fail;go_loopw [5,6,7] (fun vl vf vn wr=>∃(acc:List FrR) (la:Option Addr) (lc:Nat) (s':Rs) (fn:Int) (n:Nat),vl=.slice la acc.length lc∧vf=.int .i64 fn∧vn=.int .i64 (n:Int)∧a3w W wr rb a c bs g acc vl s'∧(s'.f=true∨n=0∨(0≤fn∧fn < g.n))∧acc.length+n≤12∧dH bs g n0 0 [] q12=dH bs g n fn (acc.map FrR.abs) s') (fun _ _ vn _=>(intOf vn).toNat)
 case atStart=>exact ⟨[],none,0,q12,0,n0,rfl,rfl,rfl,S1.out,Or.inr (Or.inr ⟨Int.le_refl 0,by omega⟩),by simpa using hn12,rfl⟩
 case round =>
  obtain⟨acc,la,lc,s',fn,n,rfl,rfl,rfl,hst,hfv,hl12,heq⟩:=hrel;have HST:=hid hst;have c2:=hst.rd.c2;have p0:=hst.p0;have lwr:=hst.lt;have hlr:=hst.rd.lt;by_cases hgo:n≠0∧s'.f=false
  ·obtain ⟨hn0,hf⟩:=hgo
   rw[hf] at c2;have hnp:0 < n:=by omega
   obtain⟨k,rfl⟩:∃k:Nat,fn=k:=Int.eq_ofNat_of_zero_le (by rcases hfv with e | e | e;(rw [hf] at e;cases e);exact absurd e hn0;exact e.1)
   have hk:k < g.n:=by rcases hfv with e | e | e;(rw [hf] at e;cases e);exact absurd e hn0;omega
   have hn1:1≤(g.f k).n:=(HOK.out.sized.bd hk).1;have hpg:=HG.out.wrote HRB.out hst.wr;have HFR:=hid (a2s hst.rd hpg HOK.out hk (HT.out.wrote h0 hst.wr) h0 HRB.out (decide ((1:Int) < (n:Int))));rw[HA.out] at HFR;have hpc:=nH HRNG.out hn1 (decide ((1:Int) < (n:Int))) s';have HCL:Hid ((1:Int) < n→(F9 bs g k (decide ((1:Int) < (n:Int))) s').2.f=false→(g.f k).op (F9 bs g k (decide ((1:Int) < (n:Int))) s').1.1.toNat=14):=hid fun e=>by
    rw[decide_eq_true e];exact oD
   have HGO:Hid (∀pc loc stk s2,F9 bs g k (decide ((1:Int) < (n:Int))) s'=((pc,loc,stk),s2)→dH bs g n k (acc.map FrR.abs) s'=dH bs g (n - 1) ((g.f k).ar pc.toNat) (acc.map FrR.abs++[⟨k,pc.toNat,loc,stk⟩]) s2):=hid fun pc loc stk s2 e=>pG hn0 k _ hf e
   generalize F9 bs g k (decide ((1:Int) < (n:Int))) s'=r at *
   obtain⟨⟨pc,loc,stk⟩,s2⟩:=r;simp only at hpc HCL HFR;obtain⟨pcn,rfl⟩:=Int.eq_ofNat_of_zero_le hpc.1;have hpcn:pcn < (g.f k).n:=by omega
   have HEQ:=hid (heq.trans (HGO.out _ _ _ _ rfl));rw[Int.toNat_natCast] at HCL HEQ;have HLEG:Hid (1 < n→s2.f=false→0≤(g.f k).ar pcn∧(g.f k).ar pcn < g.n):=hid fun e1 e2=>L9 (HOK.out.legal k hk pcn hpcn) (HCL.out Q8 e2)
   clear hst hfv heq hpc HGO HCL hpg;generalize hkl:acc.length=q at *
   have HKL:=hid hkl;clear hkl;go_wp2_with fail;refine HFR.out.mono ?_;rintro e w2 ⟨lv,sv,⟨rfl,h3,h4⟩,hlv,hsv,hap⟩;obtain⟨va,vc,rfl⟩:=B0 hlv;obtain⟨ua,uc,rfl⟩:=B0 hsv;have keep:∀b,W.heap.size≤b→b < wr.heap.size→w2.heap[b]?=wr.heap[b]?:=fun b h1 h2=>h4.block b h2 Q8 Q8
   have hz2:wr.heap.size≤w2.heap.size:=h4.size;have hB2:Below w2.heap.size w2 (w2.alloc (.cells #[.int .i64 (k:Int),.int .i64 (pcn:Int),.slice va loc.length vc,.slice ua stk.length uc] 83)):=Below.alloc (Below.refl _ _) (Nat.le_refl _) _;have hr2:(w2.alloc (.cells #[.int .i64 (k:Int),.int .i64 (pcn:Int),.slice va loc.length vc,.slice ua stk.length uc] 83)).ownsRow W.heap.size 83 4 (.slice la q lc) q (acc.flatMap FrR.cells):=by
    have:=HST.out.rows.row;rw[HKL.out] at this;exact (A2 this fun b hb=>keep b (this.lt b hb).1 (this.lt b hb).2).alloc _
   have HR2:=hid hr2;have H3:=hid h3;have H4:=hid h4;have HLV:=hid hlv;have HSV:=hid hsv;have HAP:=hid hap;have HB2:=hid hB2;clear h3 h4 hlv hsv hap keep hr2 hB2 HFR;go_wp2_with (at_builtin;go_must (refine C8 _ rfl (.tmp 29) (.tmp 31) 47 rfl W.heap.size 83 i83 _ 4 64 Tryz.underlying47 HI.out HZ.out HSZ.out HBY.out rfl Q7 (.slice la q lc) q (acc.flatMap FrR.cells) rfl (HR2.out.alloc _) (some ⟨w2.heap.size+1,0,none⟩) 1 1 [.int .i64 (k:Int),.int .i64 (pcn:Int),.slice va loc.length vc,.slice ua stk.length uc] rfl rfl (fun _=>⟨_,rfl,World.news_of_block (cs:=#[.int .i64 (k:Int),.int .i64 (pcn:Int),.slice va loc.length vc,.slice ua stk.length uc]) (t:=83) (fr:=(0,0)) (D8 Q9)⟩) (by intro u hu;simp at hu;rcases hu with rfl | rfl | rfl | rfl <;> rfl) Q0 Q8 Q5 ?_))
   intro v5 w5 hown5 hgrow5 hwhere;obtain⟨a5,c5,rfl⟩:=B0 hown5;have hsz5:w2.heap.size+1≤w5.heap.size:=by have:=hgrow5.size;simp at this;omega
   have blk:∀b,b < w2.heap.size→(Value.slice la q lc).ownBlock≠some b→w5.heap[b]?=w2.heap[b]?:=fun b h1 h2=>by
    rw[hgrow5.block b Q5 (fun e=>h2 e.symm)];exact (Below.alloc HB2.out Q9 _).block b h1
   have blk2:w5.heap[w2.heap.size]?=(w2.alloc (.cells #[.int .i64 (k:Int),.int .i64 (pcn:Int),.slice va loc.length vc,.slice ua stk.length uc] 83)).heap[w2.heap.size]?:=by
    have hrl:=HST.out.rows.row;rw[HKL.out] at hrl;rw[hgrow5.block w2.heap.size Q5 (fun e=>by have:=(hrl.lt _ e.symm).2;omega)];exact (Below.alloc (Below.refl (w2.heap.size+1) (w2.alloc (.cells #[.int .i64 (k:Int),.int .i64 (pcn:Int),.slice va loc.length vc,.slice ua stk.length uc] 83))) Q9 _).block _ Q8
   have hlow:=cT HR2.out Q5 hgrow5;have hst5:a3w W w5 rb a c bs g (acc++[⟨k,pcn,.slice va loc.length vc,.slice ua stk.length uc,loc,stk⟩]) (.slice a5 (q+1) c5) s2:=by
    have hrl:=HST.out.rows.row;rw[HKL.out] at hrl;have hrlt:∀b,(Value.slice la q lc).ownBlock=some b→W.heap.size < b∧b < wr.heap.size:=fun b hb=>⟨HST.out.ne b hb,(hrl.lt b hb).2⟩
    refine⟨⟨?_,fun x hx t=>?_,a1C (B:=wr.heap.size) HST.out.rows.dis (fun o ho t b hb=>((HST.out.rows.val o ho t).1.lt b hb).2) (fun t b hb=>?_) (fun t t' b htt h1 h2=>?_)⟩,HW.out.low (H3.out.later HB2.out) hlow.1 hlow.2.1,((HST.out.wr.trans H4.out).trans (A6.of_below HB2.out)).low hlow,?_,by omega,fun b hb=>?_⟩
    ·rw [List.length_append,HKL.out,List.flatMap_append]
     exact hown5
    ·rcases List.mem_append.1 hx with hx | hx
     ·obtain ⟨q1,q2⟩:=HST.out.rows.val x hx t
      have hb1:∀b,(x.val t).ownBlock=some b→W.heap.size≤b∧b < wr.heap.size:=fun b hb=>q1.lt b hb
      refine⟨A2 q1 fun b hb=>?_,fun b hb e=>?_⟩
      ·rw [blk b (by have:=hb1 b hb;omega) (fun e=>q2 b e hb)]
       exact H4.out.block b (hb1 b hb).2 (by have:=hb1 b hb;omega) (by have:=hb1 b hb;omega)
      ·rcases hwhere b hb with e' | e'
       ·exact q2 b e' e
       ·have:=hb1 b e
        omega
     ·rw [List.mem_singleton] at hx
      subst hx;have hrow:w2.ownsRow wr.heap.size 73 2 (FrR.val ⟨k,pcn,.slice va loc.length vc,.slice ua stk.length uc,loc,stk⟩ t) (FrR.lst ⟨k,pcn,.slice va loc.length vc,.slice ua stk.length uc,loc,stk⟩ t).length (A5 (FrR.lst ⟨k,pcn,.slice va loc.length vc,.slice ua stk.length uc,loc,stk⟩ t)):=by
       cases t
       ·exact HLV.out
       ·exact HSV.out
      refine⟨C5 (A2 hrow fun b hb=>?_) Q8,fun b hb e=>?_⟩
      ·exact blk b (hrow.lt b hb).2 (fun e=>by have:=hrlt b e;have:=(hrow.lt b hb).1;omega)
      ·have h1:=hrow.lt b e
       rcases hwhere b hb with e' | e'
       ·have:=hrlt b e'
        omega
       ·omega
    ·cases t
     ·exact (HLV.out.lt b hb).1
     ·exact (HSV.out.lt b hb).1
    ·cases t <;> cases t'
     ·exact htt rfl
     ·exact HAP.out b h1 h2
     ·exact HAP.out b h2 h1
     ·exact htt rfl
    ·rw [World.cell?_of_block (w:=w2) (a:=⟨W.heap.size,0,none⟩) (blk W.heap.size Q8 (fun e=>by have:=hrlt _ e;omega))]
     exact H4.out.cell lwr Q8 Q8 HST.out.p0
    ·rcases hwhere b hb with e' | e'
     ·exact (hrlt b e').1
     ·omega
   have HS5:=hid hst5;have x0:=hst5.p0;have hpg5:=HG.out.wrote HRB.out hst5.wr;obtain⟨-,gb5,gc5⟩:=hpg5.2.1 Q8;have x1:=(gc5 k hk).2.2;obtain⟨fa5,fb5,fc5⟩:=(hpg5.2.2 k hk).2 Q8;have x3:=(fc5 pcn hpcn).2;rw[fa5] at x1;have x2:w5.cell? ⟨w2.heap.size,1,none⟩=some (.int .i64 (pcn:Int)):=by
    rw[World.cell?_of_block (w:=w2.alloc (.cells #[.int .i64 (k:Int),.int .i64 (pcn:Int),.slice va loc.length vc,.slice ua stk.length uc] 83)) (a:=⟨w2.heap.size,1,none⟩) blk2];go_simp
   have hfn60:=(HOK.out.sized.bd hk).2.1;clear hown5 hgrow5 hlow hst5 hwhere blk blk2 hpg5 gc5 fc5 fa5 HST HLV HSV HAP HB2 HR2 H3 H4;generalize hfr:(g.f k).ar pcn=ar at *
   generalize hff:g.f k=f at *
   clear hfr hff;go_wp2_with fail;go_region
   all_goals
    go_wp2_with fail;go_roundw
    case rel =>
     refine⟨acc++[⟨k,pcn,.slice va loc.length vc,.slice ua stk.length uc,loc,stk⟩],a5,c5,s2,ar,n - 1,by rw [List.length_append,HKL.out];rfl,rfl,by rw [show ((n - 1:Nat):Int)=(n:Int) - 1 by omega],HS5.out.drew,?_,by rw [List.length_append,HKL.out];simp;omega,by rw [List.map_append];exact HEQ.out⟩;by_cases e1:1 < n
     ·cases e2:s2.f
      ·exact Or.inr (Or.inr (HLEG.out e1 e2))
      ·exact Or.inl rfl
     ·exact Or.inr (Or.inl Q8)
    case measure=>simp [intOf];omega
  ·have HP:Hid (∀v,v=.slice la acc.length lc→∃fl,J1 rb a c bs R.2 v W (.returned v) wr∧a0T wr W.heap.size v fl∧fl.map FrR.abs=R.1):=hid fun v hv=>by
    have e:dH bs g n fn (acc.map FrR.abs) s'=(acc.map FrR.abs,s'):=by
     cases n with
     | zero=>rfl
     | succ m =>
      cases hf:s'.f
      ·exact absurd ⟨by omega,hf⟩ hgo
      ·rw [dH,if_pos hf]
    rw[HE.out,heq,e,hv];exact⟨acc,⟨rfl,HST.out.rd,HST.out.wr⟩,HST.out.rows,rfl⟩
   clear hst heq;by_cases hn0:n=0
   ·subst hn0
    clear hgo hfv;go_wp2_with fail;go_ret;obtain⟨fl,hq⟩:=HP.out _ rfl
    first | exact ⟨_,fl,hq⟩ | exact ⟨_,hq.1,fl,hq.2⟩
   ·have hf:s'.f=true:=by
     cases e:s'.f
     ·exact absurd ⟨hn0,e⟩ hgo
     ·rfl
    rw[hf] at c2;have hnp:0 < n:=by omega
    clear hgo hfv hn0;go_wp2_with fail;go_ret;obtain⟨fl,hq⟩:=HP.out _ rfl
    first | exact ⟨_,fl,hq⟩ | exact ⟨_,hq.1,fl,hq.2⟩
end Go.Proofs.YtbkmgoffiigdbabGreatDoor
