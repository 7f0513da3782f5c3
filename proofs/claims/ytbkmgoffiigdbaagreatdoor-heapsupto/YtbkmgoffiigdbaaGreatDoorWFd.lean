import Derived.Test.YtbkmgoffiigdbaaGreatDoorWAc
import Derived.Deep.RegionWith
import Derived.WalkLawsBesides
namespace Go.Proofs.YtbkmgoffiigdbaaGreatDoor
open Go.RowKit
def X6 (B:Nat) (w:World) (g:PgR) (Bk C:Nat->Nat) (cb cc:Nat):Prop :=
 w.ownsRow B 163 3 (.slice (some ⟨cb,0,none⟩) (g.n+1) cc) (g.n+1) (E1 g Bk C g.n++[.int .i64 (-7070),.int .i64 0,.slice none 0 0]) /\
  (∀j,j < g.n->U5 B w (g.f j) (Bk j) (C j))/\∀i j,i < g.n->j < g.n->Bk i=Bk j->i=j
theorem zC {B:Nat} {w:World} {g:PgR} {Bk C:Nat->Nat} {cb cc:Nat} (h:X6 B w g Bk C cb cc):∃F,w.rowIs cb 163 (cc*3) F/\g.n+1<=cc /\
  (∀t,t < g.n->F (t*3)=.int .i64 (g.f t).p/\F (t*3+1)=.int .i64 (g.f t).l/\F (t*3+2)=.slice (some ⟨Bk t,0,none⟩) (g.f t).n (C t)) /\
  F (g.n*3)=.int .i64 (-7070)/\F (g.n*3+1)=.int .i64 0/\F (g.n*3+2)=.slice none 0 0:=by
 rcases h.1.2 with ⟨h0,_⟩ | ⟨gb,xc,xb,hv,_,hh,hn,_,hs,ht⟩
 ·cases h0
 ·cases hv
  have xa:∀k,k < (g.n+1)*3->xb[k]?=(E1 g Bk C g.n++[.int .i64 (-7070),.int .i64 0,.slice none 0 0])[k]?:=fun k hk=>by
   rw[<- ht,List.getElem?_take,if_pos hk];simp
  have hl:(E1 g Bk C g.n).length=g.n*3:=L3 _ _ _ _;refine⟨fun k=>xb.getD k (.int .i64 0),⟨xb,hh,hs,fun k hk=>?_⟩,hn,fun t htn=>?_,?_,?_,?_⟩
  ·simp only [Array.getD_eq_getD_getElem?];rw [Array.getElem?_eq_getElem R4];rfl
  ·simp only [Array.getD_eq_getD_getElem?]
   rw[xa (t*3) R4,xa (t*3+1) R4,xa (t*3+2) R4,List.getElem?_append_left R4,List.getElem?_append_left R4,List.getElem?_append_left R4];unfold E1;obtain⟨h1,h2,h3⟩:=oF (a:=fun j=>.int .i64 (g.f j).p) (b:=fun j=>.int .i64 (g.f j).l) (c:=fun j=>.slice (some ⟨Bk j,0,none⟩) (g.f j).n (C j)) htn;rw[h1,h2,h3];exact⟨rfl,rfl,rfl⟩
  all_goals
   simp only[Array.getD_eq_getD_getElem?];rw[xa _ R4,List.getElem?_append_right R4,hl]
  ·rw [show g.n*3 - g.n*3=0 by omega];rfl
  ·rw [show g.n*3+1 - g.n*3=1 by omega];rfl
  ·rw [show g.n*3+2 - g.n*3=2 by omega];rfl
end Go.Proofs.YtbkmgoffiigdbaaGreatDoor
