import Derived.Test.YtiejbnfjdobpcaaDoorCards
import Derived.Test.YtiejbnfjdobpcaaDoorTie
import Derived.Test.YtiejbnfjdobpcaaDoorOL
import Derived.Test.YtiejbnfjdobpcaaDoorTb
import Derived.WalkKit
import Derived.ProofKit
import Derived.OpenShut
import Derived.Deep.DeepHandedRow
import Derived.Deep.DeepWitnessRowRef
import Derived.LaidMore
namespace Go.Proofs.YtiejbnfjdobpcaaDoor
open Go.ChangeShapes Go.WideShapes Go.ChangeAt Go.RowKit

theorem lmown : ownKnob Tryd.prog.godebug = none := by kernel_rfl
theorem lmlaidOut : laidOutB Tryd.prog = true := by kernel_rfl
theorem lmreadable31 : Tryd.prog.readableRec 31 = true := by kernel_rfl
theorem lmrow31 : 31 < Tryd.prog.types.size := of_decide_eq_true (by kernel_rfl)
theorem lmcells3 : Tryd.prog.cellsOf 3 = 1 := by kernel_rfl
theorem lmbytes3 : Tryd.prog.bytesOf 3 = 8 := by kernel_rfl

set_option maxRecDepth 100000 in
theorem open_rawl {H : Type} {enc : TypeId × Value → H} {W : World} {fuel : Nat} {cs : List Value} {x : DataW H × List MemPlace} (h : DataW.trod enc Tryd.prog W 0 (fun _ => true) true fuel 31 cs = some x) (hw : ∀ y ∈ x.1.weights Tryd.prog 31, y ≤ 140737488351232) :
    ∃ a n c b o R, cs = [.slice a n c] ∧ RawL W.heap.size W a n b o R ∧ n ≤ c := by
  rcases open_ints Tryd.underlying31 Tryd.underlying3 lmcells3 h with ⟨hcs, _⟩ | ⟨a, len, cap, zs, hcs, _, hlc, hm, hz, hx, hcell, hwf⟩
  · exact ⟨none, 0, 0, 0, 0, fun _ => 0, hcs, ⟨by omega, fun hn => absurd hn (by omega)⟩, Nat.le_refl _⟩
  · simp only [if_true] at hz
    have hwl : cap * 8 ≤ 140737488351232 := by
      have hmem : (len + (cap - len)) * 8 ∈ x.1.weights Tryd.prog 31 := by
        rw [hx]
        simp [DataW.weights, Tryd.underlying31, lmbytes3, lits, hz]
        try omega
      have := hw _ hmem
      rwa [show len + (cap - len) = cap by omega] at this
    refine ⟨some a, len, cap, a.block, a.off, fun i => zs.getD i 0, hcs, ⟨by omega, fun hn => ?_⟩, hlc⟩
    have c0 := hcell 0 (by omega)
    have hadd : a.add 0 = a := by simp [Addr.add]
    rw [hadd] at c0
    obtain ⟨b, o, spot⟩ := a
    have hspot : spot = none := World.cell?_spot c0
    subst hspot
    refine ⟨rfl, World.block_lt_of_cell? _ _ c0, fun i hi => ?_⟩
    have := hcell i (by omega)
    rwa [add_plain] at this

theorem lmall_mem {l : List Nat} {b : Nat} (h : l.all (· ≤ b) = true) {x : Nat} (hx : x ∈ l) : x ≤ b := by
  have := List.all_eq_true.1 h x hx
  simpa using this

set_option maxRecDepth 100000 in
theorem lmcontract (H : Type) (enc : TypeId × Value → H) (W : World) (base : Nat) (args : Array Value) (ds gs : List (DataW H)) (before : List MemPlace)
    (hval : ∀ (j : Nat) t v, Tryd.f7.params[j]? = some t → args[j]? = some v → Value.okWide Tryd.prog W .any base t v)
    (hW : DataW.Whole enc Tryd.prog Tryd.f7.params.toList Rows.listsSpec.vars false W args.toList ds gs before)
    (hsz : (DataW.weightsEach Tryd.prog (Tryd.f7.params.toList ++ (OpenSpec.ofChange Rows.listsSpec).bare.plain.varTypes Tryd.prog) (ds ++ gs)).all (· ≤ reachBytes) = true)
    (hL : laidMetH Tryd.prog Rows.listsRow.laid W) :
    Calls Tryd.prog 7 args W fun e W' => ∃ v, e = .returned v ∧ Rows.listsSpec.post enc Tryd.prog Tryd.f7 false true false false W args v W' := by
  have hW' := hW
  have hlt := hW.lt
  obtain ⟨p, q, hA0, hV, rfl, hfz, hnd⟩ := hW
  have hA : DataW.TrodAll enc Tryd.prog W 0 (fun _ => true) true Tryd.f7.params.toList args.toList ds p := hA0
  rw [Tryd.params7] at hA hval hsz
  obtain ⟨v0, vs0, d0, ds0, p0, q0, hargs, rfl, rfl, h0, r0⟩ := trodAll_cons hA
  obtain ⟨rfl, rfl, rfl⟩ := trodAll_nil r0
  obtain rfl : args = #[v0] := by cases args; simp_all
  obtain ⟨rfl, rfl⟩ := trodVars_none hV
  clear hA0
  obtain ⟨a', n', c', rfl⟩ := okWide_slice Tryd.underlying31 (hval 0 31 v0 rfl rfl)
  have h0' := h0
  obtain ⟨fuel, hf⟩ := h0
  obtain ⟨a, n, c, b, o, R, hc, hraw, hnc⟩ := open_rawl hf (fun y hm => by
    have hmem : y ∈ DataW.weightsEach Tryd.prog (#[31].toList ++ (OpenSpec.ofChange Rows.listsSpec).bare.plain.varTypes Tryd.prog) ([d0] ++ []) := by
      simp only [List.cons_append, List.nil_append, DataW.weightsEach, List.mem_append]
      exact Or.inl hm
    have := lmall_mem hsz hmem
    simpa [reachBytes] using this)
  obtain ⟨rfl, rfl, rfl⟩ : a' = a ∧ n' = n ∧ c' = c := by simpa [Value.cells] using hc
  refine (lists_any a' n' c' b o R W hraw hnc (tab_of_laid hL)).mono fun e W' ⟨he, hb⟩ => ?_
  subst he
  refine ⟨_, rfl, [d0], [], p0 ++ [] ++ [], [], p0 ++ [], [], hW', ?_, ?_, rfl, hb.frame _, fun h => by cases h⟩
  · exact trodAll_cons_mk (shut_bool Tryd.underlying4 _) trodAll_mk0
  · exact trodAll_cons_mk (Below.trod lmlaidOut lmreadable31 lmrow31 h0' hb (fun x hx => hlt x (by simp [hx]))) trodAll_mk0

theorem lmdoor_met (os : Os) (args : Array Value) : laidMetH Tryd.prog Rows.listsRow.laid ((World.doorLaid Tryd.prog 42 os).forCall (fun _ _ => 0) ⟨#[], args, []⟩).memory :=
  laidMetH_of_parts3 (fuel := 8) (laidMet_of_run' 8 (by kernel_rfl) (by kernel_rfl)) (by kernel_rfl) (by kernel_rfl)

theorem lmreads (os : Os) {H : Type} (enc : TypeId × Value → H) : ∃ places, DataW.whole enc Tryd.prog ((World.doorLaid Tryd.prog 42 os).forCall (fun _ _ => 0) ⟨#[], #[.slice none 0 0], []⟩).memory Tryd.f7.params.toList Rows.listsSpec.vars false #[Value.slice none 0 0].toList 8 = some ([.nil], [], places) :=
  ⟨[], by kernel_rfl⟩

set_option maxRecDepth 100000 in
theorem lmlifted (os : Os) (started : os.Started) (H : Type) (enc : TypeId × Value → H) (F : Stop.Interp) :
    ReturnsInHanded {} Tryd.checked os 7 .any ((OpenSpec.ofChange Rows.listsSpec).preRow enc Tryd.prog Tryd.f7 Rows.listsRow.domain false Rows.listsRow.laid) (((OpenSpec.ofChange Rows.listsSpec).at F).post enc Tryd.prog Tryd.f7 false true false false) := by
  obtain ⟨places, hx⟩ := lmreads os enc
  refine returnsInHanded_of_row (C := Tryd.checked) (s := OpenSpec.ofChange Rows.listsSpec) lmown started (by kernel_rfl) Tryd.func7
    (witness_row_atRef (enc := enc) (C := Tryd.checked) false (World.doorLaid Tryd.prog 42 os) #[.slice none 0 0] rfl (by kernel_rfl) (by kernel_rfl) (by kernel_rfl)
      (OpenSpec.preRow_of_cond 8 hx (by kernel_rfl) (fun k hk => by cases hk) (by kernel_rfl) (lmdoor_met os _))) ?_
  intro W base args ds gs before hval hW _ _ hsz hL _ _
  exact lmcontract H enc W base args ds gs before hval hW hsz hL

theorem lmsaid : Rows.ListsSaid :=
  OpenClaim.holds_of_cond 7 Tryd.f7 rfl rfl rfl rfl rfl rfl rfl ⟨rfl, rfl, rfl, rfl, rfl⟩ rfl rfl rfl rfl rfl (by kernel_rfl) Tryd.func7 (by kernel_rfl)
    (of_decide_eq_true (by kernel_rfl)) (by unfold Func.isWrapper; first | (rw [if_pos (by decide +kernel)]; kernel_rfl) | (rw [if_neg (by decide +kernel)]; exact ⟨rfl, rfl⟩))
    (fun os started H enc _ F => by rw [OpenClaim.pre_eq_preRow]; exact lmlifted os started H enc F)

theorem lmplain (f : FuncId) (fn : Func) (hf : Tryd.pinned.checked.prog.funcNamed "slumber/slumberkeep.Lists" = some f) (hfn : Tryd.pinned.checked.prog.funcs[f]? = some fn) :
    false = Tryd.pinned.checked.prog.looks [] ∧ ∀ (j : Nat) t, fn.params[j]? = some t → Tryd.pinned.checked.prog.wantsStandIn t = false := by
  obtain rfl : f = 7 := Option.some.inj ((show Tryd.prog.funcNamed "slumber/slumberkeep.Lists" = some 7 by kernel_rfl).symm.trans hf) |>.symm
  obtain rfl : fn = Tryd.f7 := (Option.some.inj (Tryd.func7.symm.trans hfn)).symm
  refine ⟨by kernel_rfl, fun j t ht => ?_⟩
  rw [Tryd.params7] at ht
  have hm : t = 31 := by simpa using Array.mem_of_getElem? ht
  subst hm
  exact (show Tryd.prog.wantsStandIn 31 = false by kernel_rfl)

theorem lists_card : Rows.ListsCardSaid :=
  Claim7.holds_tied_plain_at .later [] _ _ _ _ lmsaid (fun _ h => by cases h) (by kernel_rfl) (fun _ h => by cases h) lists_row_tie rfl ⟨rfl, rfl⟩ (by kernel_rfl) rfl lmplain (by kernel_rfl)

end Go.Proofs.YtiejbnfjdobpcaaDoor
