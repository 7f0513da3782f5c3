import Derived.Test.YtbkmgoffiigdbabGreatDoorWL
import Derived.Test.YtbkmgoffiigdbabGreatDoorWI
import Derived.RegionTactic
import Derived.BigRegion
import Derived.WalkSmall
namespace Go.Proofs.YtbkmgoffiigdbabGreatDoor
open Go.RowKit Go.Sort
set_option maxHeartbeats 4000000
set_option maxRecDepth 100000
theorem E6.Shut.ext {F:E6} {H H':Nat→Int} {a:Nat} (h:F.Shut H a) (hp:0≤F.push a) (ha:0≤H a) (hx:∀a,0≤H a→H' a=H a):F.Shut H' a:=by
 obtain⟨h1,h2,h3⟩:=h;have he:=hx a ha;refine⟨by rw [he];exact h1,by rw [he];exact h2,fun c hc=>?_⟩;obtain⟨h4,h5⟩:=h3 c hc;refine⟨h4,?_⟩;rw[he,hx c (by rw [h5];unfold E6.behind;omega),h5]
def fZ (g:PgR) (f:FnR) (wb hb base:Nat) (w:World) (k:Nat) (ok:Bool):Prop :=
 (ok=false∧¬(A7 g f).Fits)∨(ok=true∧∃H T tv,K3 w g f wb hb base H T tv∧Inv (A7 g f) H T∧T.length+left f.n H≤k∧k≤f.n∧H 0=0∧∀a,a < f.n→0≤H a→a∈T∨(A7 g f).Shut H a)
theorem tI (B:Nat) (g:PgR) (f:FnR) (w:World) (hB0:0 < B) (hB:B≤w.heap.size) (hg:M3 B w g) (hf:O0 B w f) (hgood:a3x g f) (ht:Tab w) :
  Calls Tryz.prog 128 #[.agg #[.slice g.a g.n g.c],.agg #[.int .i64 f.p,.int .i64 f.l,.slice f.a f.n f.c]] w fun e w'=>bZ g f w e w':=by
 have hn1:1≤f.n:=hgood.1;have hn60:f.n≤60:=hgood.2.1;have hmk:=Go.run_make_row' (P:=Tryz.prog) 22 3 (.int .i64 0) 8 Tryz.underlying22 lK rfl .i64 .i64 f.n Q8 Q8;go_enter Tryz.func128,Tryz.ntmps128;go_wp2
 go_region
 ·have hrow0:(((((w.alloc (Obj.cells #[.slice g.a g.n g.c] 27)).alloc (Obj.cells #[.int .i64 f.p,.int .i64 f.l,.slice f.a f.n f.c] 68)).alloc (Obj.cells (madeCells #[Value.int IntKind.i64 0] f.n) 3)).alloc (Obj.cells #[.slice g.a g.n g.c,.slice f.a f.n f.c,.slice (some { block:=(w.heap.size+1+1),off:=0 }) f.n f.n,.slice none 0 0] 188)).drew).rowIs (w.heap.size+1+1) 3 f.n (fun _=>.int .i64 0):=by
   have:=((World.rowIs_made ((w.alloc (Obj.cells #[.slice g.a g.n g.c] 27)).alloc (Obj.cells #[.int .i64 f.p,.int .i64 f.l,.slice f.a f.n f.c] 68)) (.int .i64 0) f.n 3).alloc (Obj.cells #[.slice g.a g.n g.c,.slice f.a f.n f.c,.slice (some { block:=(w.heap.size+1+1),off:=0 }) f.n f.n,.slice none 0 0] 188)).drew;simpa using this
  have d0:(((((w.alloc (Obj.cells #[.slice g.a g.n g.c] 27)).alloc (Obj.cells #[.int .i64 f.p,.int .i64 f.l,.slice f.a f.n f.c] 68)).alloc (Obj.cells (madeCells #[Value.int IntKind.i64 0] f.n) 3)).alloc (Obj.cells #[.slice g.a g.n g.c,.slice f.a f.n f.c,.slice (some { block:=(w.heap.size+1+1),off:=0 }) f.n f.n,.slice none 0 0] 188)).drew).cell? ⟨(w.heap.size+1+1+1),0,none⟩=some (.slice g.a g.n g.c):=by go_simp
  have d1:(((((w.alloc (Obj.cells #[.slice g.a g.n g.c] 27)).alloc (Obj.cells #[.int .i64 f.p,.int .i64 f.l,.slice f.a f.n f.c] 68)).alloc (Obj.cells (madeCells #[Value.int IntKind.i64 0] f.n) 3)).alloc (Obj.cells #[.slice g.a g.n g.c,.slice f.a f.n f.c,.slice (some { block:=(w.heap.size+1+1),off:=0 }) f.n f.n,.slice none 0 0] 188)).drew).cell? ⟨(w.heap.size+1+1+1),1,none⟩=some (.slice f.a f.n f.c):=by go_simp
  have d2:(((((w.alloc (Obj.cells #[.slice g.a g.n g.c] 27)).alloc (Obj.cells #[.int .i64 f.p,.int .i64 f.l,.slice f.a f.n f.c] 68)).alloc (Obj.cells (madeCells #[Value.int IntKind.i64 0] f.n) 3)).alloc (Obj.cells #[.slice g.a g.n g.c,.slice f.a f.n f.c,.slice (some { block:=(w.heap.size+1+1),off:=0 }) f.n f.n,.slice none 0 0] 188)).drew).cell? ⟨(w.heap.size+1+1+1),2,none⟩=some (.slice (some ⟨(w.heap.size+1+1),0,none⟩) f.n f.n):=by go_simp
  have d3:(((((w.alloc (Obj.cells #[.slice g.a g.n g.c] 27)).alloc (Obj.cells #[.int .i64 f.p,.int .i64 f.l,.slice f.a f.n f.c] 68)).alloc (Obj.cells (madeCells #[Value.int IntKind.i64 0] f.n) 3)).alloc (Obj.cells #[.slice g.a g.n g.c,.slice f.a f.n f.c,.slice (some { block:=(w.heap.size+1+1),off:=0 }) f.n f.n,.slice none 0 0] 188)).drew).cell? ⟨(w.heap.size+1+1+1),3,none⟩=some (.slice none 0 0):=by go_simp
  have dz:(((((w.alloc (Obj.cells #[.slice g.a g.n g.c] 27)).alloc (Obj.cells #[.int .i64 f.p,.int .i64 f.l,.slice f.a f.n f.c] 68)).alloc (Obj.cells (madeCells #[Value.int IntKind.i64 0] f.n) 3)).alloc (Obj.cells #[.slice g.a g.n g.c,.slice f.a f.n f.c,.slice (some { block:=(w.heap.size+1+1),off:=0 }) f.n f.n,.slice none 0 0] 188)).drew).frozen? ⟨(w.heap.size+1+1+1),3,none⟩=false:=by go_simp
  have hs0:(((((w.alloc (Obj.cells #[.slice g.a g.n g.c] 27)).alloc (Obj.cells #[.int .i64 f.p,.int .i64 f.l,.slice f.a f.n f.c] 68)).alloc (Obj.cells (madeCells #[Value.int IntKind.i64 0] f.n) 3)).alloc (Obj.cells #[.slice g.a g.n g.c,.slice f.a f.n f.c,.slice (some { block:=(w.heap.size+1+1),off:=0 }) f.n f.n,.slice none 0 0] 188)).drew).heap.size=w.heap.size+4:=by simp
  have hbel0:Below w.heap.size w (((((w.alloc (Obj.cells #[.slice g.a g.n g.c] 27)).alloc (Obj.cells #[.int .i64 f.p,.int .i64 f.l,.slice f.a f.n f.c] 68)).alloc (Obj.cells (madeCells #[Value.int IntKind.i64 0] f.n) 3)).alloc (Obj.cells #[.slice g.a g.n g.c,.slice f.a f.n f.c,.slice (some { block:=(w.heap.size+1+1),off:=0 }) f.n f.n,.slice none 0 0] 188)).drew):=by repeat (first | exact Below.refl _ _ | refine Below.drew ?_ | refine Below.alloc ?_ P6 _)
  generalize (((((w.alloc (Obj.cells #[.slice g.a g.n g.c] 27)).alloc (Obj.cells #[.int .i64 f.p,.int .i64 f.l,.slice f.a f.n f.c] 68)).alloc (Obj.cells (madeCells #[Value.int IntKind.i64 0] f.n) 3)).alloc (Obj.cells #[.slice g.a g.n g.c,.slice f.a f.n f.c,.slice (some { block:=(w.heap.size+1+1),off:=0 }) f.n f.n,.slice none 0 0] 188)).drew)=W1 at *
  obtain⟨wb,hwb⟩:∃wb,wb=(w.heap.size+1+1+1):=⟨_,rfl⟩
  obtain⟨hb,hhb⟩:∃hb,hb=(w.heap.size+1+1):=⟨_,rfl⟩
  have hwalk:K3 W1 g f wb hb (w.heap.size+4) (fun _=>0) [] (.slice none 0 0):=by
   rw[hwb,hhb];exact⟨by omega,by omega,by omega,by omega,d0,d1,d2,d3,dz,hrow0,World.ownsRow_nil _ _ _ _⟩
  rw[← hwb,← hhb];have hwl:w.heap.size≤wb:=by omega
  have hhl:w.heap.size≤hb:=by omega
  clear hrow0 d0 d1 d2 d3 dz hwb hhb hmk;have d2:=hwalk.c2;go_wp2
  clear d2;go_loopw [22] (fun v wr=>∃i:Nat,i≤f.n∧v=.int .i64 i∧K3 wr g f wb hb (w.heap.size+4) (fun j=>if j < i then -1 else 0) [] (.slice none 0 0)∧Below w.heap.size w wr) (fun v _=>f.n - (intOf v).toNat)
  case atStart=>exact ⟨0,Nat.zero_le _,rfl,hwalk,hbel0⟩
  case round =>
   obtain⟨i,hi,rfl,hwr,hbel⟩:=hrel;have hsz:=hwr.size;by_cases hlt:i < f.n
   ·have d2:=hwr.c2
    have kh:=hwr.row.cell hlt;have kf:=hwr.row.frozen i;have hwne:=hwr.ne;go_wp2
    go_roundw
    case rel =>
     go_light
     refine⟨i+1,by omega,by go_num,⟨hwr.ne,hwr.ltw,hwr.lth,by simpa using hwr.size,?_,?_,?_,?_,?_,(hwr.row.set i (.int .i64 (-1))).congr (fun j _=>?_),World.ownsRow_nil _ _ _ _⟩,hbel.setCell hhl _⟩
     ·have:=hwr.c0;go_simp
     ·have:=hwr.c1;go_simp
     ·go_simp
     ·have:=hwr.c3;go_simp
     ·have:=hwr.fz;go_simp
     ·by_cases e:j=i
      ·subst e;rw [if_pos rfl,if_pos Q8]
      ·rw [if_neg e]
       by_cases h1:j < i
       ·rw [if_pos h1,if_pos Q8]
       ·rw [if_neg h1,if_neg Q8]
    case measure=>simp [intOf];omega
   ·have hH:∀j,j < f.n→(if j < i then (-1:Int) else 0) = -1:=fun j hj=>by rw [if_pos Q8]
    have hwr1:K3 wr g f wb hb (w.heap.size+4) (fun _ => -1) [] (.slice none 0 0) :=
     ⟨hwr.ne,hwr.ltw,hwr.lth,hwr.size,hwr.c0,hwr.c1,hwr.c2,hwr.c3,hwr.fz,hwr.row.congr (fun j hj=>by rw [hH j hj]),hwr.own⟩
    clear hwr hH;go_wp2_with fail;have hcome:=cC g f wb hb (w.heap.size+4) (fun _ => -1) [] (.slice none 0 0) 0 0 wr hwr1 Q9;rw[show ((0:Nat):Int)=0 from rfl] at hcome;refine hcome.mono ?_;clear hcome;rintro e w2 ⟨H,T,tv,ok,rfl,hw2,hsay,hbut2⟩;have hbel2:Below w.heap.size w w2:=hbel.trans (hbut2.below Q8 (U7 hwr1 hwl hhl));obtain⟨rfl,rfl,rfl⟩:ok=true∧H=(fun i=>if i=0 then 0 else -1)∧T=[0]:=by
     rcases hsay with ⟨_,h⟩ | ⟨_,_,h,_⟩ | ⟨_,_,h,_⟩ | ⟨h1,_,_,h2,h3⟩
     ·omega
     ·exact absurd rfl h
     ·exact absurd rfl h
     ·exact ⟨h1,h2,h3⟩
    have hgo:fZ g f wb hb (w.heap.size+4) w2 f.n true:=by
     refine Or.inr ⟨rfl,_,_,tv,hw2,⟨fun a ha=>?_,fun t htm=>?_⟩,?_,Nat.le_refl _,by simp,fun a ha hz=>?_⟩
     ·by_cases e:a=0
      ·subst e;simp only [if_pos];exact ⟨by omega,by omega,fun _=>(A7 g f).reach_first⟩
      ·simp only [if_neg e];exact ⟨by omega,by omega,fun h=>by omega⟩
     ·obtain rfl:t=0:=by simpa using htm
      exact⟨hn1,by simp⟩
     ·have h1:=eV (n:=f.n) (H:=fun _ => -1) (c:=0) (v:=0) Q8 Q9 Q8
      have h2:left f.n (fun _ => -1)≤f.n:=by unfold left;exact Nat.le_trans (List.length_filter_le _ _) Q9
      simp only[List.length_cons,List.length_nil];omega
     ·by_cases e:a=0
      ·subst e;exact Or.inl Q9
      ·simp only [if_neg e] at hz;omega
    clear hsay hw2 hbut2 hwr1 hbel hwalk hbel0;go_wp2_with fail;go_loopg [8] f.n (fun k v wx=>∃ok:Bool,v=.bool ok∧fZ g f wb hb (w.heap.size+4) wx k ok∧Below w.heap.size w wx)
    case atStart=>exact ⟨true,rfl,hgo,hbel2⟩
    case round =>
     obtain⟨ok,rfl,hgoing,hbelx⟩:=hrel;rcases hgoing with ⟨rfl,hno⟩ | ⟨rfl,H,T,tv,hwx,hinv,hlen,hgk,hx0,hsh⟩
     ·go_wp2_with fail
      go_ret2;exact dU _ false rfl ⟨fun h=>(by cases h),fun h=>absurd h hno⟩ hbelx
     ·have HX0:=(show Hid _ from hx0);clear hx0
      have HSH:=(show Hid _ from hsh);clear hsh;have d2:=hwx.c2;have d3:=hwx.c3;have fz:=hwx.fz;have hwwx:wb < wr.heap.size:=Nat.lt_of_lt_of_le hwx.ltw hwx.size;have hdone:T=[]→bZ g f w (.returned (.tuple #[.slice (some ⟨hb,0,none⟩) f.n f.n,.bool true])) wr:=fun hTe =>
       dU _ true rfl ⟨fun _=>E6.fits_of_shut (H:=H) (by show 0 < f.n;omega) HX0.out (fun a=>(M7 _).1) (fun a ha hz=>(HSH.out a ha hz).elim (fun h=>by rw [hTe] at h;cases h) id),fun _=>rfl⟩ hbelx
      have HDONE:=(show Hid _ from hdone);clear hdone;rcases hwx.own.2 with ⟨hv,h0⟩ | ⟨gb,cap,cur,hv,hgb,hheap,hncap,hcap,hcs,htake⟩
      ·obtain rfl:T=[]:=List.length_eq_zero_iff.1 h0
       rw[hv] at d3;clear hv h0;go_wp2_with fail;go_ret2;exact HDONE.out Q9
      ·clear cur hheap hcs htake
       rcases List.eq_nil_or_concat T with rfl | ⟨T0,t,rfl⟩
       ·rw [hv] at d3
        simp only[List.length_nil] at d3;clear hv;go_wp2_with fail;go_ret2;exact HDONE.out Q9
       ·have hl1:(T0.concat t).length=T0.length+1:=by simp
        rw[hl1] at hv hlen hncap;have hown:=hwx.own;rw[hv,hl1] at hown;have htc:wr.cell? ⟨gb,T0.length,none⟩=some (.int .i64 (t:Int)):=by
         have:=hown.cells (g:=gb) rfl T0.length (.int .i64 (t:Int)) (by simp [fP]);rw[Go.WideShapes.add_plain,Nat.zero_add] at this;exact this
        have hown0:wr.ownsRow (w.heap.size+4) 3 1 (.slice (some ⟨gb,0,none⟩) T0.length cap) T0.length (fP T0):=ownsRow_pop (last:=[.int .i64 (t:Int)]) (by simp [fP]) (by simpa [fP] using hown);rw[hv] at d3;have hgbx:gb < wr.heap.size:=(hown.lt gb rfl).2;have hT60:T0.length≤59:=by omega
        obtain⟨htn,htz⟩:=hinv.2 t Q9;have hw0:K3 (wr.setCell ⟨wb,3,none⟩ (.slice (some ⟨gb,0,none⟩) T0.length cap)) g f wb hb (w.heap.size+4) H T0 (.slice (some ⟨gb,0,none⟩) T0.length cap):=by
         have hne:=hwx.ne;refine⟨hwx.ne,hwx.ltw,hwx.lth,by simpa using hwx.size,?_,?_,?_,?_,?_,hwx.row.setOther (by exact hwx.ne.symm) _,ownsRow_setCell_below hown0 (a:=⟨wb,3,none⟩) hwx.ltw _⟩
         ·have:=hwx.c0;go_light;go_simp
         ·have:=hwx.c1;go_light;go_simp
         ·go_light;go_simp
         ·go_light;go_simp
         ·go_light;go_simp
        have hbel0:Below w.heap.size w (wr.setCell ⟨wb,3,none⟩ (.slice (some ⟨gb,0,none⟩) T0.length cap)):=hbelx.setCell hwl _;have hinv0:Inv (A7 g f) H T0:=⟨hinv.1,fun x hx=>hinv.2 x (by simp [hx])⟩;have hleave:=iW w.heap.size g f wb hb (w.heap.size+4) H T0 _ t _ hw0 Q8 hwl hhl ((hg.mono hB).below hbel0) ((hf.mono hB).below hbel0) hgood (ht.below hB0 (hbel0.mono hB)) hT60 htn hinv0 htz
        have HLV:=(show Hid _ from hleave);clear hleave;clear hv hl1 hown hown0 hw0;go_wp2_with fail;refine Calls.mono HLV.out ?_;rintro e w3 ⟨ok,H',T',tv',rfl,hB3,hcase⟩;have hbel3:Below w.heap.size w w3:=hbel0.trans hB3;have hnew:fZ g f wb hb (w.heap.size+4) w3 (gk - 1) ok:=by
         rcases hcase with ⟨rfl,hno⟩ | ⟨rfl,hw3,hi3,hx3,hs3⟩
         ·exact Or.inl ⟨rfl,hno⟩
         ·refine Or.inr ⟨rfl,H',T',tv',hw3,hi3,by have:=hx3.2.2.2;omega,by omega,by rw [hx3.1 0 (by rw [HX0.out];omega)];exact HX0.out,fun a ha hz=>?_⟩
          rcases hx3.2.2.1 a ha hz with hz0 | hm
          ·rcases HSH.out a ha hz0 with hm | hm
           ·by_cases e:a=t
            ·subst e;exact Or.inr hs3
            ·exact Or.inl (hx3.2.1 a (by simpa [e] using hm))
           ·exact Or.inr (hm.ext (M7 _).1 hz0 hx3.1)
          ·exact Or.inl hm
        clear hcase;go_wp2_with fail;go_roundg (gk - 1)
        case measure=>go_light;omega
        case rel=>exact ⟨ok,rfl,hnew,hbel3⟩
 ·have hrow0:(((((w.alloc (Obj.cells #[.slice g.a g.n g.c] 27)).alloc (Obj.cells #[.int .i64 f.p,.int .i64 f.l,.slice f.a f.n f.c] 68)).alloc (Obj.cells #[.slice g.a g.n g.c,.slice f.a f.n f.c,.slice (some { block:=(w.heap.size+1+1+1),off:=0 }) f.n f.n,.slice none 0 0] 188)).alloc (Obj.cells (madeCells #[Value.int IntKind.i64 0] f.n) 3)).drew).rowIs (w.heap.size+1+1+1) 3 f.n (fun _=>.int .i64 0):=by
   have:=(World.rowIs_made (((w.alloc (Obj.cells #[.slice g.a g.n g.c] 27)).alloc (Obj.cells #[.int .i64 f.p,.int .i64 f.l,.slice f.a f.n f.c] 68)).alloc (Obj.cells #[.slice g.a g.n g.c,.slice f.a f.n f.c,.slice (some { block:=(w.heap.size+1+1+1),off:=0 }) f.n f.n,.slice none 0 0] 188)) (.int .i64 0) f.n 3).drew;simpa using this
  have d0:(((((w.alloc (Obj.cells #[.slice g.a g.n g.c] 27)).alloc (Obj.cells #[.int .i64 f.p,.int .i64 f.l,.slice f.a f.n f.c] 68)).alloc (Obj.cells #[.slice g.a g.n g.c,.slice f.a f.n f.c,.slice (some { block:=(w.heap.size+1+1+1),off:=0 }) f.n f.n,.slice none 0 0] 188)).alloc (Obj.cells (madeCells #[Value.int IntKind.i64 0] f.n) 3)).drew).cell? ⟨(w.heap.size+1+1),0,none⟩=some (.slice g.a g.n g.c):=by go_simp
  have d1:(((((w.alloc (Obj.cells #[.slice g.a g.n g.c] 27)).alloc (Obj.cells #[.int .i64 f.p,.int .i64 f.l,.slice f.a f.n f.c] 68)).alloc (Obj.cells #[.slice g.a g.n g.c,.slice f.a f.n f.c,.slice (some { block:=(w.heap.size+1+1+1),off:=0 }) f.n f.n,.slice none 0 0] 188)).alloc (Obj.cells (madeCells #[Value.int IntKind.i64 0] f.n) 3)).drew).cell? ⟨(w.heap.size+1+1),1,none⟩=some (.slice f.a f.n f.c):=by go_simp
  have d2:(((((w.alloc (Obj.cells #[.slice g.a g.n g.c] 27)).alloc (Obj.cells #[.int .i64 f.p,.int .i64 f.l,.slice f.a f.n f.c] 68)).alloc (Obj.cells #[.slice g.a g.n g.c,.slice f.a f.n f.c,.slice (some { block:=(w.heap.size+1+1+1),off:=0 }) f.n f.n,.slice none 0 0] 188)).alloc (Obj.cells (madeCells #[Value.int IntKind.i64 0] f.n) 3)).drew).cell? ⟨(w.heap.size+1+1),2,none⟩=some (.slice (some ⟨(w.heap.size+1+1+1),0,none⟩) f.n f.n):=by go_simp
  have d3:(((((w.alloc (Obj.cells #[.slice g.a g.n g.c] 27)).alloc (Obj.cells #[.int .i64 f.p,.int .i64 f.l,.slice f.a f.n f.c] 68)).alloc (Obj.cells #[.slice g.a g.n g.c,.slice f.a f.n f.c,.slice (some { block:=(w.heap.size+1+1+1),off:=0 }) f.n f.n,.slice none 0 0] 188)).alloc (Obj.cells (madeCells #[Value.int IntKind.i64 0] f.n) 3)).drew).cell? ⟨(w.heap.size+1+1),3,none⟩=some (.slice none 0 0):=by go_simp
  have dz:(((((w.alloc (Obj.cells #[.slice g.a g.n g.c] 27)).alloc (Obj.cells #[.int .i64 f.p,.int .i64 f.l,.slice f.a f.n f.c] 68)).alloc (Obj.cells #[.slice g.a g.n g.c,.slice f.a f.n f.c,.slice (some { block:=(w.heap.size+1+1+1),off:=0 }) f.n f.n,.slice none 0 0] 188)).alloc (Obj.cells (madeCells #[Value.int IntKind.i64 0] f.n) 3)).drew).frozen? ⟨(w.heap.size+1+1),3,none⟩=false:=by go_simp
  have hs0:(((((w.alloc (Obj.cells #[.slice g.a g.n g.c] 27)).alloc (Obj.cells #[.int .i64 f.p,.int .i64 f.l,.slice f.a f.n f.c] 68)).alloc (Obj.cells #[.slice g.a g.n g.c,.slice f.a f.n f.c,.slice (some { block:=(w.heap.size+1+1+1),off:=0 }) f.n f.n,.slice none 0 0] 188)).alloc (Obj.cells (madeCells #[Value.int IntKind.i64 0] f.n) 3)).drew).heap.size=w.heap.size+4:=by simp
  have hbel0:Below w.heap.size w (((((w.alloc (Obj.cells #[.slice g.a g.n g.c] 27)).alloc (Obj.cells #[.int .i64 f.p,.int .i64 f.l,.slice f.a f.n f.c] 68)).alloc (Obj.cells #[.slice g.a g.n g.c,.slice f.a f.n f.c,.slice (some { block:=(w.heap.size+1+1+1),off:=0 }) f.n f.n,.slice none 0 0] 188)).alloc (Obj.cells (madeCells #[Value.int IntKind.i64 0] f.n) 3)).drew):=by repeat (first | exact Below.refl _ _ | refine Below.drew ?_ | refine Below.alloc ?_ P6 _)
  generalize (((((w.alloc (Obj.cells #[.slice g.a g.n g.c] 27)).alloc (Obj.cells #[.int .i64 f.p,.int .i64 f.l,.slice f.a f.n f.c] 68)).alloc (Obj.cells #[.slice g.a g.n g.c,.slice f.a f.n f.c,.slice (some { block:=(w.heap.size+1+1+1),off:=0 }) f.n f.n,.slice none 0 0] 188)).alloc (Obj.cells (madeCells #[Value.int IntKind.i64 0] f.n) 3)).drew)=W1 at *
  obtain⟨wb,hwb⟩:∃wb,wb=(w.heap.size+1+1):=⟨_,rfl⟩
  obtain⟨hb,hhb⟩:∃hb,hb=(w.heap.size+1+1+1):=⟨_,rfl⟩
  have hwalk:K3 W1 g f wb hb (w.heap.size+4) (fun _=>0) [] (.slice none 0 0):=by
   rw[hwb,hhb];exact⟨by omega,by omega,by omega,by omega,d0,d1,d2,d3,dz,hrow0,World.ownsRow_nil _ _ _ _⟩
  rw[← hhb,← hwb];have hwl:w.heap.size≤wb:=by omega
  have hhl:w.heap.size≤hb:=by omega
  clear hrow0 d0 d1 d2 d3 dz hwb hhb hmk;have d2:=hwalk.c2;go_wp2
  clear d2;go_loopw [22] (fun v wr=>∃i:Nat,i≤f.n∧v=.int .i64 i∧K3 wr g f wb hb (w.heap.size+4) (fun j=>if j < i then -1 else 0) [] (.slice none 0 0)∧Below w.heap.size w wr) (fun v _=>f.n - (intOf v).toNat)
  case atStart=>exact ⟨0,Nat.zero_le _,rfl,hwalk,hbel0⟩
  case round =>
   obtain⟨i,hi,rfl,hwr,hbel⟩:=hrel;have hsz:=hwr.size;by_cases hlt:i < f.n
   ·have d2:=hwr.c2
    have kh:=hwr.row.cell hlt;have kf:=hwr.row.frozen i;have hwne:=hwr.ne;go_wp2
    go_roundw
    case rel =>
     go_light
     refine⟨i+1,by omega,by go_num,⟨hwr.ne,hwr.ltw,hwr.lth,by simpa using hwr.size,?_,?_,?_,?_,?_,(hwr.row.set i (.int .i64 (-1))).congr (fun j _=>?_),World.ownsRow_nil _ _ _ _⟩,hbel.setCell hhl _⟩
     ·have:=hwr.c0;go_simp
     ·have:=hwr.c1;go_simp
     ·go_simp
     ·have:=hwr.c3;go_simp
     ·have:=hwr.fz;go_simp
     ·by_cases e:j=i
      ·subst e;rw [if_pos rfl,if_pos Q8]
      ·rw [if_neg e]
       by_cases h1:j < i
       ·rw [if_pos h1,if_pos Q8]
       ·rw [if_neg h1,if_neg Q8]
    case measure=>simp [intOf];omega
   ·have hH:∀j,j < f.n→(if j < i then (-1:Int) else 0) = -1:=fun j hj=>by rw [if_pos Q8]
    have hwr1:K3 wr g f wb hb (w.heap.size+4) (fun _ => -1) [] (.slice none 0 0) :=
     ⟨hwr.ne,hwr.ltw,hwr.lth,hwr.size,hwr.c0,hwr.c1,hwr.c2,hwr.c3,hwr.fz,hwr.row.congr (fun j hj=>by rw [hH j hj]),hwr.own⟩
    clear hwr hH;go_wp2_with fail;have hcome:=cC g f wb hb (w.heap.size+4) (fun _ => -1) [] (.slice none 0 0) 0 0 wr hwr1 Q9;rw[show ((0:Nat):Int)=0 from rfl] at hcome;refine hcome.mono ?_;clear hcome;rintro e w2 ⟨H,T,tv,ok,rfl,hw2,hsay,hbut2⟩;have hbel2:Below w.heap.size w w2:=hbel.trans (hbut2.below Q8 (U7 hwr1 hwl hhl));obtain⟨rfl,rfl,rfl⟩:ok=true∧H=(fun i=>if i=0 then 0 else -1)∧T=[0]:=by
     rcases hsay with ⟨_,h⟩ | ⟨_,_,h,_⟩ | ⟨_,_,h,_⟩ | ⟨h1,_,_,h2,h3⟩
     ·omega
     ·exact absurd rfl h
     ·exact absurd rfl h
     ·exact ⟨h1,h2,h3⟩
    have hgo:fZ g f wb hb (w.heap.size+4) w2 f.n true:=by
     refine Or.inr ⟨rfl,_,_,tv,hw2,⟨fun a ha=>?_,fun t htm=>?_⟩,?_,Nat.le_refl _,by simp,fun a ha hz=>?_⟩
     ·by_cases e:a=0
      ·subst e;simp only [if_pos];exact ⟨by omega,by omega,fun _=>(A7 g f).reach_first⟩
      ·simp only [if_neg e];exact ⟨by omega,by omega,fun h=>by omega⟩
     ·obtain rfl:t=0:=by simpa using htm
      exact⟨hn1,by simp⟩
     ·have h1:=eV (n:=f.n) (H:=fun _ => -1) (c:=0) (v:=0) Q8 Q9 Q8
      have h2:left f.n (fun _ => -1)≤f.n:=by unfold left;exact Nat.le_trans (List.length_filter_le _ _) Q9
      simp only[List.length_cons,List.length_nil];omega
     ·by_cases e:a=0
      ·subst e;exact Or.inl Q9
      ·simp only [if_neg e] at hz;omega
    clear hsay hw2 hbut2 hwr1 hbel hwalk hbel0;go_wp2_with fail;go_loopg [8] f.n (fun k v wx=>∃ok:Bool,v=.bool ok∧fZ g f wb hb (w.heap.size+4) wx k ok∧Below w.heap.size w wx)
    case atStart=>exact ⟨true,rfl,hgo,hbel2⟩
    case round =>
     obtain⟨ok,rfl,hgoing,hbelx⟩:=hrel;rcases hgoing with ⟨rfl,hno⟩ | ⟨rfl,H,T,tv,hwx,hinv,hlen,hgk,hx0,hsh⟩
     ·go_wp2_with fail
      go_ret2;exact dU _ false rfl ⟨fun h=>(by cases h),fun h=>absurd h hno⟩ hbelx
     ·have HX0:=(show Hid _ from hx0);clear hx0
      have HSH:=(show Hid _ from hsh);clear hsh;have d2:=hwx.c2;have d3:=hwx.c3;have fz:=hwx.fz;have hwwx:wb < wr.heap.size:=Nat.lt_of_lt_of_le hwx.ltw hwx.size;have hdone:T=[]→bZ g f w (.returned (.tuple #[.slice (some ⟨hb,0,none⟩) f.n f.n,.bool true])) wr:=fun hTe =>
       dU _ true rfl ⟨fun _=>E6.fits_of_shut (H:=H) (by show 0 < f.n;omega) HX0.out (fun a=>(M7 _).1) (fun a ha hz=>(HSH.out a ha hz).elim (fun h=>by rw [hTe] at h;cases h) id),fun _=>rfl⟩ hbelx
      have HDONE:=(show Hid _ from hdone);clear hdone;rcases hwx.own.2 with ⟨hv,h0⟩ | ⟨gb,cap,cur,hv,hgb,hheap,hncap,hcap,hcs,htake⟩
      ·obtain rfl:T=[]:=List.length_eq_zero_iff.1 h0
       rw[hv] at d3;clear hv h0;go_wp2_with fail;go_ret2;exact HDONE.out Q9
      ·clear cur hheap hcs htake
       rcases List.eq_nil_or_concat T with rfl | ⟨T0,t,rfl⟩
       ·rw [hv] at d3
        simp only[List.length_nil] at d3;clear hv;go_wp2_with fail;go_ret2;exact HDONE.out Q9
       ·have hl1:(T0.concat t).length=T0.length+1:=by simp
        rw[hl1] at hv hlen hncap;have hown:=hwx.own;rw[hv,hl1] at hown;have htc:wr.cell? ⟨gb,T0.length,none⟩=some (.int .i64 (t:Int)):=by
         have:=hown.cells (g:=gb) rfl T0.length (.int .i64 (t:Int)) (by simp [fP]);rw[Go.WideShapes.add_plain,Nat.zero_add] at this;exact this
        have hown0:wr.ownsRow (w.heap.size+4) 3 1 (.slice (some ⟨gb,0,none⟩) T0.length cap) T0.length (fP T0):=ownsRow_pop (last:=[.int .i64 (t:Int)]) (by simp [fP]) (by simpa [fP] using hown);rw[hv] at d3;have hgbx:gb < wr.heap.size:=(hown.lt gb rfl).2;have hT60:T0.length≤59:=by omega
        obtain⟨htn,htz⟩:=hinv.2 t Q9;have hw0:K3 (wr.setCell ⟨wb,3,none⟩ (.slice (some ⟨gb,0,none⟩) T0.length cap)) g f wb hb (w.heap.size+4) H T0 (.slice (some ⟨gb,0,none⟩) T0.length cap):=by
         have hne:=hwx.ne;refine⟨hwx.ne,hwx.ltw,hwx.lth,by simpa using hwx.size,?_,?_,?_,?_,?_,hwx.row.setOther (by exact hwx.ne.symm) _,ownsRow_setCell_below hown0 (a:=⟨wb,3,none⟩) hwx.ltw _⟩
         ·have:=hwx.c0;go_light;go_simp
         ·have:=hwx.c1;go_light;go_simp
         ·go_light;go_simp
         ·go_light;go_simp
         ·go_light;go_simp
        have hbel0:Below w.heap.size w (wr.setCell ⟨wb,3,none⟩ (.slice (some ⟨gb,0,none⟩) T0.length cap)):=hbelx.setCell hwl _;have hinv0:Inv (A7 g f) H T0:=⟨hinv.1,fun x hx=>hinv.2 x (by simp [hx])⟩;have hleave:=iW w.heap.size g f wb hb (w.heap.size+4) H T0 _ t _ hw0 Q8 hwl hhl ((hg.mono hB).below hbel0) ((hf.mono hB).below hbel0) hgood (ht.below hB0 (hbel0.mono hB)) hT60 htn hinv0 htz
        have HLV:=(show Hid _ from hleave);clear hleave;clear hv hl1 hown hown0 hw0;go_wp2_with fail;refine Calls.mono HLV.out ?_;rintro e w3 ⟨ok,H',T',tv',rfl,hB3,hcase⟩;have hbel3:Below w.heap.size w w3:=hbel0.trans hB3;have hnew:fZ g f wb hb (w.heap.size+4) w3 (gk - 1) ok:=by
         rcases hcase with ⟨rfl,hno⟩ | ⟨rfl,hw3,hi3,hx3,hs3⟩
         ·exact Or.inl ⟨rfl,hno⟩
         ·refine Or.inr ⟨rfl,H',T',tv',hw3,hi3,by have:=hx3.2.2.2;omega,by omega,by rw [hx3.1 0 (by rw [HX0.out];omega)];exact HX0.out,fun a ha hz=>?_⟩
          rcases hx3.2.2.1 a ha hz with hz0 | hm
          ·rcases HSH.out a ha hz0 with hm | hm
           ·by_cases e:a=t
            ·subst e;exact Or.inr hs3
            ·exact Or.inl (hx3.2.1 a (by simpa [e] using hm))
           ·exact Or.inr (hm.ext (M7 _).1 hz0 hx3.1)
          ·exact Or.inl hm
        clear hcase;go_wp2_with fail;go_roundg (gk - 1)
        case measure=>go_light;omega
        case rel=>exact ⟨ok,rfl,hnew,hbel3⟩
end Go.Proofs.YtbkmgoffiigdbabGreatDoor
