import Derived.Test.YtbkmgoffiigdbaaGreatDoorCards
import Derived.Test.YtbkmgoffiigdbaaGreatDoorTie
import Derived.Test.YtbkmgoffiigdbaaGreatDoorYDd
import Derived.Deep.DeepHandedRow
import Derived.Deep.DeepWitnessRowRef
namespace Go.Proofs.YtbkmgoffiigdbaaGreatDoor
open Go.ChangeShapes Go.WideShapes Go.ChangeAt Go.RowKit Go.Proofs.Tryz
set_option maxRecDepth 100000
theorem own:ownKnob prog.godebug=none:=by kernel_rfl
theorem a4J:laidOutB prog=true:=by kernel_rfl
theorem xJ:prog.readableRec 22=true:=by kernel_rfl
theorem a6U:22 < prog.types.size:=of_decide_eq_true Q7
theorem a2p (H:Type) (enc:TypeId × Value->H) (W:World) (base:Nat) (args:Array Value) (ds gs:List (DataW H)) (before:List MemPlace)
  (hval:∀(j:Nat) t v,Tryz.f4.params[j]?=some t->args[j]?=some v->Value.okWide prog W .any base t v)
  (hW:DataW.Whole enc prog Tryz.f4.params.toList Rows.heapsSpec.vars false W args.toList ds gs before)
  (hk:Rows.uptoSmall H (ds++gs)=true)
  (hsz:(DataW.weightsEach prog (Tryz.f4.params.toList++(Rows.OpenSpec.upto Rows.heapsSpec).bare.plain.varTypes prog) (ds++gs)).all (·<=reachBytes)=true)
  (hL:laidMetH prog Rows.heapsUptoRow.laid W) :
  Calls prog 4 args W fun e W'=>∃v,e=.returned v/\Rows.heapsSpec.post enc prog Tryz.f4 false true false false W args v W':=by
 have xf:=hW;have xi:=hW.lt;obtain⟨p,q,xh,hV,rfl,xo,xm⟩:=hW;have hA:DataW.TrodAll enc prog W 0 (fun _=>true) true Tryz.f4.params.toList args.toList ds p:=xh;rw[params4] at hA hval hsz;obtain⟨v0,xn,d0,xp,p0,q0,xg,rfl,rfl,h0,r0⟩:=trodAll_cons hA;obtain⟨rfl,rfl,rfl⟩:=trodAll_nil r0;obtain rfl:args=#[v0]:=by cases args;simp_all
 obtain⟨rfl,rfl⟩:=trodVars_none hV;clear xh;obtain⟨a0,xd,xb,rfl⟩:=okWide_slice underlying22 (hval 0 22 v0 rfl rfl);have xe:=h0;obtain⟨xj,hf⟩:=h0;have xa:Rows.uptoBulk d0<=1048576:=by
  have:=of_decide_eq_true hk;simp only[List.append_nil,Rows.uptoBulkAll] at this;omega
 obtain⟨a,c,l,hc,hs,hn,xk⟩:=qE hf (fun y hm=>by
  have xc:y∈DataW.weightsEach prog (#[22].toList++(Rows.OpenSpec.upto Rows.heapsSpec).bare.plain.varTypes prog) ([d0]++[]):=by
   simp only[List.cons_append,List.nil_append,DataW.weightsEach,List.mem_append];exact L4a hm
  have:=a4w hsz xc;simpa [reachBytes] using this) xa
 have xl:Value.slice a0 xd xb=.slice a l.length c:=by simpa [Value.cells] using hc
 rw[xl] at xe xf ⊢;refine (a0z (uC hL) hs hn xk).mono fun e W' ⟨he,hb⟩=>?_
 subst he;refine⟨_,rfl,[d0],[],p0++[]++[],[],p0++[],[],xf,?_,?_,rfl,hb.frame _,fun h=>by cases h⟩
 ·exact trodAll_cons_mk (shut_bool underlying4 _) trodAll_mk0
 ·exact trodAll_cons_mk (Below.trod a4J xJ a6U xe hb (fun x hx=>xi x (by simpa using hx))) trodAll_mk0
theorem a2x (os:Os) (args:Array Value):laidMetH prog Rows.heapsUptoRow.laid ((World.doorLaid prog 42 os).forCall (fun _ _=>0) ⟨#[],args,[]⟩).memory :=
 laidMetH_of_parts3 (fuel:=8) (laidMet_of_run' 8 Q7 Q7) Q7 Q7
theorem a6T (os:Os) {H:Type} (enc:TypeId × Value->H):∃places,DataW.whole enc prog ((World.doorLaid prog 42 os).forCall (fun _ _=>0) ⟨#[],#[.slice none 0 0],[]⟩).memory Tryz.f4.params.toList Rows.heapsSpec.vars false #[Value.slice none 0 0].toList 8=some ([.nil],[],places) :=
 ⟨[],by kernel_rfl⟩
theorem wF (os:Os) (started:os.Started) (H:Type) (enc:TypeId × Value->H) (F:Stop.Interp) :
  ReturnsInHanded {} Tryz.checked os 4 .any ((Rows.OpenSpec.upto Rows.heapsSpec).preRow enc prog Tryz.f4 Rows.heapsUptoRow.domain false Rows.heapsUptoRow.laid) (((Rows.OpenSpec.upto Rows.heapsSpec).at F).post enc prog Tryz.f4 false true false false):=by
 obtain⟨xa,hx⟩:=a6T os enc;refine returnsInHanded_of_row (C:=Tryz.checked) (s:=Rows.OpenSpec.upto Rows.heapsSpec) own started Q7 func4
  (witness_row_atRef (enc:=enc) (C:=Tryz.checked) false (World.doorLaid prog 42 os) #[.slice none 0 0] rfl Q7 Q7 Q7
   (OpenSpec.preRow_of_cond 8 hx Q7 (fun k hk=>by cases hk;kernel_rfl) Q7 (a2x os _))) ?_
 intro W base args ds gs before hval hW _ hcond hsz hL _ _;exact a2p H enc W base args ds gs before hval hW (hcond _ rfl) hsz hL
theorem a3w:Rows.HeapsUptoSaid :=
 OpenClaim.holds_of_cond 4 Tryz.f4 rfl rfl rfl rfl rfl rfl rfl ⟨rfl,rfl,rfl,rfl,rfl⟩ rfl rfl rfl rfl rfl Q7 func4 Q7
  (of_decide_eq_true Q7) (by unfold Func.isWrapper;first | (rw [if_pos (by decide +kernel)];kernel_rfl) | (rw [if_neg (by decide +kernel)];exact ⟨rfl,rfl⟩))
  (fun os started H enc _ F=>by rw [OpenClaim.pre_eq_preRow];exact wF os started H enc F)
theorem plain (f : FuncId) (fn : Func) (hf : Tryz.pinned.checked.prog.funcNamed "slumber/slumberlaw.Heaps" = some f) (hfn : Tryz.pinned.checked.prog.funcs[f]? = some fn) :
  false=Tryz.pinned.checked.prog.looks []/\∀(j:Nat) t,fn.params[j]?=some t->Tryz.pinned.checked.prog.wantsStandIn t=false:=by
 obtain rfl : f = 4 := L5b ((show prog.funcNamed "slumber/slumberlaw.Heaps" = some 4 by kernel_rfl).symm.trans hf) |>.symm
 obtain rfl:fn=Tryz.f4:=(L5b (func4.symm.trans hfn)).symm;refine⟨by kernel_rfl,fun j t ht=>?_⟩;rw[params4] at ht;obtain rfl:t=22:=by simpa using Array.mem_of_getElem? ht
 exact (show prog.wantsStandIn 22=false by kernel_rfl)
theorem heaps_cardUpto:Rows.HeapsUptoCardSaid :=
 Claim7.holds_tied_plain_at .later [] _ _ _ _ a3w (fun _ h=>by cases h) Q7 (fun _ h=>by cases h) heapsUpto_row_tie rfl ⟨rfl,rfl⟩ Q7 rfl plain Q7
end Go.Proofs.YtbkmgoffiigdbaaGreatDoor
