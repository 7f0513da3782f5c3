import Derived.Test.YtbkmgoffiigdbaaDoorCards
import Derived.Test.YtbkmgoffiigdbaaDoorTie
import Derived.Test.YtbkmgoffiigdbaaDoorVM
import Derived.Test.YtbkmgoffiigdbaaDoorTb
import Derived.WalkKit
import Derived.ProofKit
import Derived.OpenShut
import Derived.Deep.DeepHandedRow
import Derived.Deep.DeepWitnessRowRef
import Derived.LaidMore
namespace Go.Proofs.YtbkmgoffiigdbaaDoor
open Go.ChangeShapes Go.WideShapes Go.ChangeAt Go.RowKit

theorem mown : ownKnob Tryd.prog.godebug = none := by kernel_rfl
theorem mlaidOut : laidOutB Tryd.prog = true := by kernel_rfl
theorem mreadable31 : Tryd.prog.readableRec 31 = true := by kernel_rfl
theorem mrow31 : 31 < Tryd.prog.types.size := of_decide_eq_true (by kernel_rfl)
theorem mreadable4 : Tryd.prog.readableRec 4 = true := by kernel_rfl
theorem mrow4 : 4 < Tryd.prog.types.size := of_decide_eq_true (by kernel_rfl)
theorem mcells3 : Tryd.prog.cellsOf 3 = 1 := by kernel_rfl
theorem mbytes3 : Tryd.prog.bytesOf 3 = 8 := by kernel_rfl

theorem wf_bd {n : Int} (h : (Lit.int .i64 n).wf = true) : -9223372036854775808 ≤ n ∧ n ≤ 9223372036854775807 := by
  have h' := h
  simp only [Lit.wf, Bool.and_eq_true, decide_eq_true_eq] at h'
  exact h'

set_option maxRecDepth 100000 in
theorem open_raw {H : Type} {enc : TypeId × Value → H} {W : World} {fuel : Nat} {cs : List Value} {x : DataW H × List MemPlace} (h : DataW.trod enc Tryd.prog W 0 (fun _ => true) true fuel 31 cs = some x) (hw : ∀ y ∈ x.1.weights Tryd.prog 31, y ≤ 140737488351232) :
    ∃ a n c b o R, cs = [.slice a n c] ∧ RawIn W.heap.size W a n b o R ∧ n ≤ c := by
  rcases open_ints Tryd.underlying31 Tryd.underlying3 mcells3 h with ⟨hcs, _⟩ | ⟨a, len, cap, zs, hcs, _, hlc, hm, hz, hx, hcell, hwf⟩
  · exact ⟨none, 0, 0, 0, 0, fun _ => 0, hcs, ⟨by omega, fun hn => absurd hn (by omega), fun _ => ⟨(show (-9223372036854775808 : Int) ≤ 0 by decide), (show (0 : Int) ≤ 9223372036854775807 by decide)⟩⟩, Nat.le_refl _⟩
  · simp only [if_true] at hz
    have hwl : cap * 8 ≤ 140737488351232 := by
      have hmem : (len + (cap - len)) * 8 ∈ x.1.weights Tryd.prog 31 := by
        rw [hx]
        simp [DataW.weights, Tryd.underlying31, mbytes3, lits, hz]
        try omega
      have := hw _ hmem
      rwa [show len + (cap - len) = cap by omega] at this
    refine ⟨some a, len, cap, a.block, a.off, fun i => zs.getD i 0, hcs, ⟨by omega, fun hn => ?_, fun i => ?_⟩, hlc⟩
    · have c0 := hcell 0 (by omega)
      have hadd : a.add 0 = a := by simp [Addr.add]
      rw [hadd] at c0
      obtain ⟨b, o, spot⟩ := a
      have hspot : spot = none := World.cell?_spot c0
      subst hspot
      refine ⟨rfl, World.block_lt_of_cell? _ _ c0, fun i hi => ?_⟩
      have := hcell i (by omega)
      rwa [add_plain] at this
    · by_cases e : i < zs.length
      · refine wf_bd (hwf _ ?_)
        show zs.getD i 0 ∈ zs
        rw [List.getD_eq_getElem?_getD, List.getElem?_eq_getElem e]
        exact List.getElem_mem e
      · show -9223372036854775808 ≤ zs.getD i 0 ∧ zs.getD i 0 ≤ 9223372036854775807
        rw [List.getD_eq_getElem?_getD, List.getElem?_eq_none (by omega)]
        exact ⟨by decide, by decide⟩

theorem mall_mem {l : List Nat} {b : Nat} (h : l.all (· ≤ b) = true) {x : Nat} (hx : x ∈ l) : x ≤ b := by
  have := List.all_eq_true.1 h x hx
  simpa using this

set_option maxRecDepth 100000 in
theorem mcontract (H : Type) (enc : TypeId × Value → H) (W : World) (base : Nat) (args : Array Value) (ds gs : List (DataW H)) (before : List MemPlace)
    (hval : ∀ (j : Nat) t v, Tryd.f4.params[j]? = some t → args[j]? = some v → Value.okWide Tryd.prog W .any base t v)
    (hW : DataW.Whole enc Tryd.prog Tryd.f4.params.toList Rows.madeSpec.vars false W args.toList ds gs before)
    (hsz : (DataW.weightsEach Tryd.prog (Tryd.f4.params.toList ++ (OpenSpec.ofChange Rows.madeSpec).bare.plain.varTypes Tryd.prog) (ds ++ gs)).all (· ≤ reachBytes) = true)
    (hL : laidMetH Tryd.prog Rows.madeRow.laid W) :
    Calls Tryd.prog 4 args W fun e W' => ∃ v, e = .returned v ∧ Rows.madeSpec.post enc Tryd.prog Tryd.f4 false true false false W args v W' := by
  have hW' := hW
  have hlt := hW.lt
  obtain ⟨p, q, hA0, hV, rfl, hfz, hnd⟩ := hW
  have hA : DataW.TrodAll enc Tryd.prog W 0 (fun _ => true) true Tryd.f4.params.toList args.toList ds p := hA0
  rw [Tryd.params4] at hA hval hsz
  obtain ⟨v0, vs0, d0, ds0, p0, q0, hargs, rfl, rfl, h0, r0⟩ := trodAll_cons hA
  obtain ⟨v1, vs1, d1, ds1, p1, q1, rfl, rfl, rfl, h1, r1⟩ := trodAll_cons r0
  obtain ⟨rfl, rfl, rfl⟩ := trodAll_nil r1
  obtain rfl : args = #[v0, v1] := by cases args; simp_all
  obtain ⟨rfl, rfl⟩ := trodVars_none hV
  clear hA0
  obtain ⟨a', n', c', rfl⟩ := okWide_slice Tryd.underlying31 (hval 0 31 v0 rfl rfl)
  have h1' := h1
  obtain ⟨again, rfl, hd1, hp1⟩ := open_bool Tryd.underlying4 (hval 1 4 v1 rfl rfl) h1
  have h0' := h0
  obtain ⟨fuel, hf⟩ := h0
  obtain ⟨a, n, c, b, o, R, hc, hraw, hnc⟩ := open_raw hf (fun y hm => by
    have hmem : y ∈ DataW.weightsEach Tryd.prog (#[31, 4].toList ++ (OpenSpec.ofChange Rows.madeSpec).bare.plain.varTypes Tryd.prog) ([d0, d1] ++ []) := by
      simp only [List.cons_append, List.nil_append, DataW.weightsEach, List.mem_append]
      exact Or.inl hm
    have := mall_mem hsz hmem
    simpa [reachBytes] using this)
  obtain ⟨rfl, rfl, rfl⟩ : a' = a ∧ n' = n ∧ c' = c := by simpa [Value.cells] using hc
  refine (made_any a' n' c' b o R again W hraw hnc (tab_of_laid hL)).mono fun e W' ⟨he, hb⟩ => ?_
  subst he
  refine ⟨_, rfl, [d0, d1], [], p0 ++ (p1 ++ []) ++ [], [], p0 ++ (p1 ++ []), [], hW', ?_, ?_, rfl, hb.frame _, fun h => by cases h⟩
  · exact trodAll_cons_mk (shut_bool Tryd.underlying4 _) trodAll_mk0
  · exact trodAll_cons_mk (Below.trod mlaidOut mreadable31 mrow31 h0' hb (fun x hx => hlt x (by simp [hx]))) (trodAll_cons_mk (Below.trod mlaidOut mreadable4 mrow4 h1' hb (fun x hx => hlt x (by simp [hx]))) trodAll_mk0)

theorem mdoor_met (os : Os) (args : Array Value) : laidMetH Tryd.prog Rows.madeRow.laid ((World.doorLaid Tryd.prog 42 os).forCall (fun _ _ => 0) ⟨#[], args, []⟩).memory :=
  laidMetH_of_parts3 (fuel := 8) (laidMet_of_run' 8 (by kernel_rfl) (by kernel_rfl)) (by kernel_rfl) (by kernel_rfl)

theorem mreads (os : Os) {H : Type} (enc : TypeId × Value → H) : ∃ places, DataW.whole enc Tryd.prog ((World.doorLaid Tryd.prog 42 os).forCall (fun _ _ => 0) ⟨#[], #[.slice none 0 0, .bool false], []⟩).memory Tryd.f4.params.toList Rows.madeSpec.vars false #[Value.slice none 0 0, .bool false].toList 8 = some ([.nil, .lit (.bool false)], [], places) :=
  ⟨[], by kernel_rfl⟩

set_option maxRecDepth 100000 in
theorem mlifted (os : Os) (started : os.Started) (H : Type) (enc : TypeId × Value → H) (F : Stop.Interp) :
    ReturnsInHanded {} Tryd.checked os 4 .any ((OpenSpec.ofChange Rows.madeSpec).preRow enc Tryd.prog Tryd.f4 Rows.madeRow.domain false Rows.madeRow.laid) (((OpenSpec.ofChange Rows.madeSpec).at F).post enc Tryd.prog Tryd.f4 false true false false) := by
  obtain ⟨places, hx⟩ := mreads os enc
  refine returnsInHanded_of_row (C := Tryd.checked) (s := OpenSpec.ofChange Rows.madeSpec) mown started (by kernel_rfl) Tryd.func4
    (witness_row_atRef (enc := enc) (C := Tryd.checked) false (World.doorLaid Tryd.prog 42 os) #[.slice none 0 0, .bool false] rfl (by kernel_rfl) (by kernel_rfl) (by kernel_rfl)
      (OpenSpec.preRow_of_cond 8 hx (by kernel_rfl) (fun k hk => by cases hk) (by kernel_rfl) (mdoor_met os _))) ?_
  intro W base args ds gs before hval hW _ _ hsz hL _ _
  exact mcontract H enc W base args ds gs before hval hW hsz hL

theorem msaid : Rows.MadeSaid :=
  OpenClaim.holds_of_cond 4 Tryd.f4 rfl rfl rfl rfl rfl rfl rfl ⟨rfl, rfl, rfl, rfl, rfl⟩ rfl rfl rfl rfl rfl (by kernel_rfl) Tryd.func4 (by kernel_rfl)
    (of_decide_eq_true (by kernel_rfl)) (by unfold Func.isWrapper; first | (rw [if_pos (by decide +kernel)]; kernel_rfl) | (rw [if_neg (by decide +kernel)]; exact ⟨rfl, rfl⟩))
    (fun os started H enc _ F => by rw [OpenClaim.pre_eq_preRow]; exact mlifted os started H enc F)

theorem mplain (f : FuncId) (fn : Func) (hf : Tryd.pinned.checked.prog.funcNamed "slumber/slumberkeep.Made" = some f) (hfn : Tryd.pinned.checked.prog.funcs[f]? = some fn) :
    false = Tryd.pinned.checked.prog.looks [] ∧ ∀ (j : Nat) t, fn.params[j]? = some t → Tryd.pinned.checked.prog.wantsStandIn t = false := by
  obtain rfl : f = 4 := Option.some.inj ((show Tryd.prog.funcNamed "slumber/slumberkeep.Made" = some 4 by kernel_rfl).symm.trans hf) |>.symm
  obtain rfl : fn = Tryd.f4 := (Option.some.inj (Tryd.func4.symm.trans hfn)).symm
  refine ⟨by kernel_rfl, fun j t ht => ?_⟩
  rw [Tryd.params4] at ht
  have hm : t = 31 ∨ t = 4 := by simpa using Array.mem_of_getElem? ht
  rcases hm with rfl | rfl
  · exact (show Tryd.prog.wantsStandIn 31 = false by kernel_rfl)
  · exact (show Tryd.prog.wantsStandIn 4 = false by kernel_rfl)

theorem made_card : Rows.MadeCardSaid :=
  Claim7.holds_tied_plain_at .later [] _ _ _ _ msaid (fun _ h => by cases h) (by kernel_rfl) (fun _ h => by cases h) made_row_tie rfl ⟨rfl, rfl⟩ (by kernel_rfl) rfl mplain (by kernel_rfl)

end Go.Proofs.YtbkmgoffiigdbaaDoor
