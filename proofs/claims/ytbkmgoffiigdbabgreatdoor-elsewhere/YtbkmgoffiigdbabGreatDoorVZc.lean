import Derived.Test.YtbkmgoffiigdbabGreatDoorVZb
import Derived.Test.YtbkmgoffiigdbabGreatDoorVH
namespace Go.Proofs.YtbkmgoffiigdbabGreatDoor
open Go.ChangeShapes Go.WideShapes Go.ChangeAt Go.RowKit
set_option maxRecDepth 100000
theorem gW:Tryz.prog.readableRec 3=true:=by kernel_rfl
theorem a1w:3 < Tryz.prog.types.size:=of_decide_eq_true Q4
theorem a1u (H:Type) (enc:TypeId × Value→H) (W:World) (base:Nat) (args:Array Value) (ds gs:List (DataW H)) (before:List MemPlace)
  (hval:∀(j:Nat) t v,Tryz.f4.params[j]?=some t→args[j]?=some v→Value.okWide Tryz.prog W .any base t v)
  (hW:DataW.Whole enc Tryz.prog Tryz.f4.params.toList Rows.elsewhereSpec.vars false W args.toList ds gs before)
  (hsz:(DataW.weightsEach Tryz.prog (Tryz.f4.params.toList++(OpenSpec.ofChange Rows.elsewhereSpec).bare.plain.varTypes Tryz.prog) (ds++gs)).all (·≤reachBytes)=true)
  (hL:laidMetH Tryz.prog Rows.elsewhereRow.laid W) :
  Calls Tryz.prog 4 args W fun e W'=>∃v,e=.returned v∧Rows.elsewhereSpec.post enc Tryz.prog Tryz.f4 false true false false W args v W':=by
 have hW':=hW;have hlt:=hW.lt;obtain⟨p,q,hA0,hV,rfl,hfz,hnd⟩:=hW;have hA:DataW.TrodAll enc Tryz.prog W 0 (fun _=>true) true Tryz.f4.params.toList args.toList ds p:=hA0;rw[Tryz.params4] at hA hval hsz;obtain⟨v0,vs0,d0,ds0,p0,q0,hargs,rfl,rfl,h0,r0⟩:=trodAll_cons hA;obtain⟨v1,vs1,d1,ds1,p1,q1,rfl,rfl,rfl,h1,r1⟩:=trodAll_cons r0;obtain⟨v2,vs2,d2,ds2,p2,q2,rfl,rfl,rfl,h2,r2⟩:=trodAll_cons r1;obtain⟨v3,vs3,d3,ds3,p3,q3,rfl,rfl,rfl,h3,r3⟩:=trodAll_cons r2
 obtain⟨v4,vs4,d4,ds4,p4,q4,rfl,rfl,rfl,h4,r4⟩:=trodAll_cons r3;obtain⟨v5,vs5,d5,ds5,p5,q5,rfl,rfl,rfl,h5,r5⟩:=trodAll_cons r4;obtain⟨rfl,rfl,rfl⟩:=trodAll_nil r5;obtain rfl:args=#[v0,v1,v2,v3,v4,v5]:=by cases args;simp_all
 obtain⟨rfl,rfl⟩:=trodVars_none hV;clear hA0;obtain⟨a',n',c',rfl⟩:=okWide_slice Tryz.underlying22 (hval 0 22 v0 rfl rfl);have h1':=h1;obtain⟨again,rfl,hd1,hp1⟩:=open_bool Tryz.underlying4 (hval 1 4 v1 rfl rfl) h1;have h2':=h2;obtain⟨room,rfl,hd2,hp2,hwf⟩:=open_int Tryz.underlying3 (hval 2 3 v2 rfl rfl) h2;obtain⟨hr1,hr2⟩:=vF hwf;have h3':=h3;obtain⟨steps,rfl,hd3,hp3,hwf3⟩:=open_int Tryz.underlying3 (hval 3 3 v3 rfl rfl) h3
 obtain⟨hs1,hs2⟩:=vF hwf3;have h4':=h4;obtain⟨other,rfl,hd4,hp4,hwf4⟩:=open_int Tryz.underlying3 (hval 4 3 v4 rfl rfl) h4;obtain⟨ho1,ho2⟩:=vF hwf4;obtain⟨xa',xn',xc',rfl⟩:=okWide_slice Tryz.underlying22 (hval 5 22 v5 rfl rfl);have h0':=h0;obtain⟨fuel,hf⟩:=h0;have h5':=h5;obtain⟨fuel5,hf5⟩:=h5;obtain⟨a,n,c,b,o,R,hc,hraw,hnc⟩:=hY hf (fun y hm=>by
  have hmem:y∈DataW.weightsEach Tryz.prog (#[22,4,3,3,3,22].toList++(OpenSpec.ofChange Rows.elsewhereSpec).bare.plain.varTypes Tryz.prog) ([d0,d1,d2,d3,d4,d5]++[]):=by
   simp only[List.cons_append,List.nil_append,DataW.weightsEach,List.mem_append];exact Or.inl hm
  have:=hE hsz hmem;simpa [reachBytes] using this)
 obtain⟨xa,xn,xc,xb,xo,XR,hxc,hxraw,hxnc⟩:=hY hf5 (fun y hm=>by
  have hmem:y∈DataW.weightsEach Tryz.prog (#[22,4,3,3,3,22].toList++(OpenSpec.ofChange Rows.elsewhereSpec).bare.plain.varTypes Tryz.prog) ([d0,d1,d2,d3,d4,d5]++[]):=by
   simp only[List.cons_append,List.nil_append,DataW.weightsEach,List.mem_append];exact Or.inr (Or.inr (Or.inr (Or.inr (Or.inr (Or.inl hm)))))
  have:=hE hsz hmem;simpa [reachBytes] using this)
 obtain⟨rfl,rfl,rfl⟩:a'=a∧n'=n∧c'=c:=by simpa [Value.cells] using hc
 obtain⟨rfl,rfl,rfl⟩:xa'=xa∧xn'=xn∧xc'=xc:=by simpa [Value.cells] using hxc
 refine (tG a' n' c' b o R again room steps other xa' xn' xc' xb xo XR W hraw hnc hr1 hr2 hs1 hs2 ho1 ho2 ⟨hxraw.1,hxraw.2.1⟩ hxnc (oF hL)).mono fun e W' ⟨he,hb⟩=>?_
 subst he;refine⟨_,rfl,[d0,d1,d2,d3,d4,d5],[],p0++(p1++(p2++(p3++(p4++(p5++[])))))++[],[],p0++(p1++(p2++(p3++(p4++(p5++[]))))),[],hW',?_,?_,rfl,hb.frame _,fun h=>by cases h⟩
 ·exact trodAll_cons_mk (shut_bool Tryz.underlying4 _) trodAll_mk0
 ·exact trodAll_cons_mk (Below.trod V8 cF rU h0' hb (fun x hx=>hlt x (by simp [hx]))) (trodAll_cons_mk (Below.trod V8 rT a8M h1' hb (fun x hx=>hlt x (by simp [hx]))) (trodAll_cons_mk (Below.trod V8 gW a1w h2' hb (fun x hx=>hlt x (by simp [hx]))) (trodAll_cons_mk (Below.trod V8 gW a1w h3' hb (fun x hx=>hlt x (by simp [hx]))) (trodAll_cons_mk (Below.trod V8 gW a1w h4' hb (fun x hx=>hlt x (by simp [hx]))) (trodAll_cons_mk (Below.trod V8 cF rU h5' hb (fun x hx=>hlt x (by simp [hx]))) trodAll_mk0)))))
theorem a1v (os:Os) (args:Array Value):laidMetH Tryz.prog Rows.elsewhereRow.laid ((World.doorLaid Tryz.prog 42 os).forCall (fun _ _=>0) ⟨#[],args,[]⟩).memory :=
 laidMetH_of_parts3 (fuel:=8) (laidMet_of_run' 8 Q4 Q4) Q4 Q4
theorem a7N (os:Os) {H:Type} (enc:TypeId × Value→H):∃places,DataW.whole enc Tryz.prog ((World.doorLaid Tryz.prog 42 os).forCall (fun _ _=>0) ⟨#[],#[.slice none 0 0,.bool false,.int .i64 0,.int .i64 0,.int .i64 0,.slice none 0 0],[]⟩).memory Tryz.f4.params.toList Rows.elsewhereSpec.vars false #[Value.slice none 0 0,.bool false,.int .i64 0,.int .i64 0,.int .i64 0,.slice none 0 0].toList 8=some ([.nil,.lit (.bool false),.lit (.int .i64 0),.lit (.int .i64 0),.lit (.int .i64 0),.nil],[],places) :=
 ⟨[],by kernel_rfl⟩
theorem a6d (os:Os) (started:os.Started) (H:Type) (enc:TypeId × Value→H) (F:Stop.Interp) :
  ReturnsInHanded {} Tryz.checked os 4 .any ((OpenSpec.ofChange Rows.elsewhereSpec).preRow enc Tryz.prog Tryz.f4 Rows.elsewhereRow.domain false Rows.elsewhereRow.laid) (((OpenSpec.ofChange Rows.elsewhereSpec).at F).post enc Tryz.prog Tryz.f4 false true false false):=by
 obtain⟨places,hx⟩:=a7N os enc;refine returnsInHanded_of_row (C:=Tryz.checked) (s:=OpenSpec.ofChange Rows.elsewhereSpec) a9z started Q4 Tryz.func4
  (witness_row_atRef (enc:=enc) (C:=Tryz.checked) false (World.doorLaid Tryz.prog 42 os) #[.slice none 0 0,.bool false,.int .i64 0,.int .i64 0,.int .i64 0,.slice none 0 0] rfl Q4 Q4 Q4
   (OpenSpec.preRow_of_cond 8 hx Q4 (fun k hk=>by cases hk) Q4 (a1v os _))) ?_
 intro W base args ds gs before hval hW _ _ hsz hL _ _;exact a1u H enc W base args ds gs before hval hW hsz hL
theorem a9a:Rows.ElsewhereSaid :=
 OpenClaim.holds_of_cond 4 Tryz.f4 rfl rfl rfl rfl rfl rfl rfl ⟨rfl,rfl,rfl,rfl,rfl⟩ rfl rfl rfl rfl rfl Q4 Tryz.func4 Q4
  (of_decide_eq_true Q4) (by unfold Func.isWrapper;first | (rw [if_pos (by decide +kernel)];kernel_rfl) | (rw [if_neg (by decide +kernel)];exact ⟨rfl,rfl⟩))
  (fun os started H enc _ F=>by rw [OpenClaim.pre_eq_preRow];exact a6d os started H enc F)
theorem a7M (f : FuncId) (fn : Func) (hf : Tryz.pinned.checked.prog.funcNamed "slumber/slumberkeep.Elsewhere" = some f) (hfn : Tryz.pinned.checked.prog.funcs[f]? = some fn) :
  false=Tryz.pinned.checked.prog.looks []∧∀(j:Nat) t,fn.params[j]?=some t→Tryz.pinned.checked.prog.wantsStandIn t=false:=by
 obtain rfl : f = 4 := Option.some.inj ((show Tryz.prog.funcNamed "slumber/slumberkeep.Elsewhere" = some 4 by kernel_rfl).symm.trans hf) |>.symm
 obtain rfl:fn=Tryz.f4:=(Option.some.inj (Tryz.func4.symm.trans hfn)).symm;refine⟨by kernel_rfl,fun j t ht=>?_⟩;rw[Tryz.params4] at ht;have hm:t=22∨t=4∨t=3:=by
  have:=Array.mem_of_getElem? ht;simp at this;rcases this with rfl | rfl | rfl | rfl | rfl | rfl
  all_goals first | exact Or.inl rfl | exact Or.inr (Or.inl rfl) | exact Or.inr (Or.inr rfl)
 rcases hm with rfl | rfl | rfl
 ·exact (show Tryz.prog.wantsStandIn 22=false by kernel_rfl)
 ·exact (show Tryz.prog.wantsStandIn 4=false by kernel_rfl)
 ·exact (show Tryz.prog.wantsStandIn 3=false by kernel_rfl)
theorem elsewhere_card:Rows.ElsewhereCardSaid :=
 Claim7.holds_tied_plain_at .later [] _ _ _ _ a9a (fun _ h=>by cases h) Q4 (fun _ h=>by cases h) elsewhere_row_tie rfl ⟨rfl,rfl⟩ Q4 rfl a7M Q4
end Go.Proofs.YtbkmgoffiigdbabGreatDoor
