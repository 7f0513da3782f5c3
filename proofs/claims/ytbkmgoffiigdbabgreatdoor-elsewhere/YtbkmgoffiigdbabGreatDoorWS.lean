import Derived.Test.YtbkmgoffiigdbabGreatDoorVA
import Derived.Deep.AppendLies
import Derived.Deep.RegionHeldLaw
namespace Go.Proofs.YtbkmgoffiigdbabGreatDoor
open Go.RowKit
def lH (n:Nat) (a b:Nat→Value):List Value:=(List.range n).flatMap fun j=>[a j,b j]
theorem qT (n:Nat) (a b:Nat→Value):lH (n+1) a b=lH n a b++[a n,b n]:=by simp [lH,List.range_succ]
theorem V1 (n:Nat) (a b:Nat→Value):(lH n a b).length=n*2:=by
 induction n with
 | zero=>rfl
 | succ n ih=>rw [qT,List.length_append,ih];simp;omega
theorem uJ {n:Nat} {a b:Nat→Value} {j:Nat} (h:j < n):(lH n a b)[j*2]?=some (a j)∧(lH n a b)[j*2+1]?=some (b j):=by
 induction n with
 | zero=>omega
 | succ n ih =>
  rw[qT];by_cases e:j=n
  ·subst e
   rw[List.getElem?_append_right (by rw [V1];omega),List.getElem?_append_right (by rw [V1];omega),V1];simp
  ·obtain ⟨h1,h2⟩:=ih Q8
   rw[List.getElem?_append_left (by rw [V1];omega),List.getElem?_append_left (by rw [V1];omega)];exact⟨h1,h2⟩
theorem a3Z {n:Nat} {a b:Nat→Int} : ∀u∈lH n (fun j=>.int .i64 (a j)) (fun j=>.int .i64 (b j)),u.oneCell'=true:=by
 intro u hu;simp only[lH,List.mem_flatMap,List.mem_range,List.mem_cons,List.not_mem_nil,or_false] at hu;obtain⟨j,_,rfl | rfl⟩:=hu <;> rfl
theorem C5 {w:World} {base base':Nat} {e:TypeId} {size:Nat} {v:Value} {n:Nat} {xs:List Value} (h:w.ownsRow base e size v n xs) (hb:base'≤base):w.ownsRow base' e size v n xs :=
 ⟨h.1,h.2.imp id fun ⟨g,cap,cur,h1,h2,h3⟩=>⟨g,cap,cur,h1,Nat.le_trans hb h2,h3⟩⟩
def lL (f:FnR):List Value:=lH f.n (fun j=>.int .i64 (f.op j)) (fun j=>.int .i64 (f.ar j))
def a9K (g:PgR):Prop:=g.n*40≤140737488351232∧∀i,i < g.n→(g.f i).n*16≤140737488351232∧((g.f i).a=none→(g.f i).n=0∧(g.f i).c=0)
end Go.Proofs.YtbkmgoffiigdbabGreatDoor
