import Derived.Test.YtiejbnfjdobpcaaDoorOD
import Derived.Handy
namespace Go.Proofs.YtiejbnfjdobpcaaDoor
open Go.RowKit Go.Sort

set_option maxHeartbeats 1000000 in
theorem full_any {own : Own} {mb : Nat} {g : PgR} {R : McR} {w : World} (h : MachAt w own mb g R) (hpos : 0 < R.obs.length) (hn : R.obs.length ≤ 1000) :
    Calls Tryd.prog 155 #[.pointer (some ⟨mb, 4, none⟩)] w fun e w' => e = .returned (.bool (taken R.obs == R.obs.length)) ∧ Below w.heap.size w w' := by
  have hmb : mb < w.heap.size := h.lt mb _ h.me
  obtain ⟨hb, hc, e, _, hlt⟩ := h.slots.1.form hpos
  have c4 := h.c4
  rw [e] at c4
  have htl := taken_le R.obs
  have HTK : Hid (∀ W, Below w.heap.size w W → Calls Tryd.prog 41 #[.pointer (some ⟨mb, 4, none⟩)] W fun e w' => e = .returned (.int .i64 (taken R.obs : Int)) ∧ Below W.heap.size W w') := fun W hW => taken_any (h.same hW.size fun k hk => hW.block k hk) hpos hn
  clear h e
  go_enter Tryd.func155, Tryd.ntmps155
  go_wp2_with fail
  go_region_with (first | (go_at_call 41; refine (HTK.out _ ?_).mono ?_; exact (by repeat (first | exact Below.refl _ _ | refine Below.drew ?_ | refine Below.drewQ ?_ _ | refine Below.alloc ?_ (by first | (simp; done) | (simp; omega)) _)); rintro e w2 ⟨rfl, hb2⟩; have HB2 : Hid (Below w.heap.size w w2) := below_via' hb2 (by repeat (first | exact Below.refl _ _ | refine Below.drew ?_ | refine Below.drewQ ?_ _ | refine Below.alloc ?_ (by first | (simp; done) | (simp; omega)) _)); clear hb2; have r4 := (HB2.out.cell (p := ⟨mb, 4, none⟩) hmb).trans c4))
  all_goals
    go_wp2_with fail
    go_ret
    refine ⟨congrArg (fun b => Ending.returned (Value.bool b)) ?_, HB2.out⟩
    rw [Bool.eq_iff_iff]; simp only [beq_iff_eq]; omega

set_option maxHeartbeats 1000000 in
theorem isFree_any (k : Int) (fa : Option Addr) (n fc : Nat) (w : World) : Calls Tryd.prog 82 #[.agg #[.int .u8 k, .slice fa n fc]] w fun e w' => e = .returned (.bool (k == 0)) ∧ ∃ o, w' = w.alloc o := by
  go_enter Tryd.func82, Tryd.ntmps82
  go_wp2
  go_ret
  exact ⟨rfl, _, rfl⟩

/-- The first slot that is free. -/
def FirstFree (l : List ObR) (j : Nat) : Prop := (∃ o, l[j]? = some o ∧ o.kind = 0) ∧ ∀ i o, i < j → l[i]? = some o → o.kind ≠ 0

set_option maxRecDepth 100000 in
set_option maxHeartbeats 2000000 in
theorem indexFree_any {own : Own} {mb : Nat} {g : PgR} {R : McR} {w : World} (h : MachAt w own mb g R) (j : Nat) (hj : FirstFree R.obs j) (hn : R.obs.length ≤ 1000) (hb hc : Nat) (he : R.hv = .slice (some ⟨hb, 0, none⟩) R.obs.length hc) :
    Calls Tryd.prog 162 #[.slice (some ⟨hb, 0, none⟩) R.obs.length hc, .func (.func 82) #[] #[]] w fun e w' => e = .returned (.int .i64 (j : Int)) ∧ Below w.heap.size w w' := by
  have hjl : j < R.obs.length := by obtain ⟨⟨o, ho, _⟩, _⟩ := hj; exact (List.getElem?_eq_some_iff.1 ho).1
  have hrow := h.slots.1
  rw [he] at hrow
  have hlt := (owns_cap hrow).2
  have HROW := hid hrow
  have HH := hid h
  have HJ := hid hj
  clear h he hrow hj
  go_enter Tryd.func162, Tryd.ntmps162
  go_wp2_with fail
  go_loopw [8] (fun v wr => ∃ i : Nat, i ≤ j ∧ v = .int .i64 i ∧ Below w.heap.size w wr) (fun v _ => R.obs.length - (intOf v).toNat)
  case atStart => exact ⟨0, Nat.zero_le _, rfl, Below.refl _ _⟩
  case round =>
    obtain ⟨i, hi, rfl, hbel⟩ := hrel
    have hil : i < R.obs.length := by omega
    obtain ⟨o, ho⟩ : ∃ o, R.obs[i]? = some o := ⟨_, List.getElem?_eq_getElem hil⟩
    have hcell : ∀ t, t < 2 → wr.cell? ⟨hb, i * 2 + t, none⟩ = o.cells[t]? := fun t ht => by
      rw [hbel.cell (p := ⟨hb, _, none⟩) hlt, HROW.out.cellAt _ (by omega)]; exact flat_get ObR.cells_len ho ht
    obtain ⟨fa, fc, hfv⟩ := row_form (HH.out.fld i o ho)
    have k0 : wr.cell? ⟨hb, i * 2, none⟩ = some (.int .u8 o.kind) := hcell 0 (by omega)
    have k1 : wr.cell? ⟨hb, i * 2 + 1, none⟩ = some o.fv := hcell 1 (by omega)
    rw [hfv] at k1
    have hlw : hb < wr.heap.size := Nat.lt_of_lt_of_le hlt hbel.size
    have HBEL := hid hbel
    by_cases hij : i = j
    · have hk : (o.kind == 0) = true := by
        obtain ⟨⟨o', ho', hk'⟩, _⟩ := HJ.out
        rw [hij, ho'] at ho
        obtain rfl := Option.some.inj ho
        exact beq_iff_eq.2 hk'
      have HIJ := hid hij
      clear hcell hfv hbel ho hij
      go_wp2_with (go_at_call 82; refine (isFree_any _ _ _ _ _).mono ?_; rintro e w' ⟨rfl, o4, rfl⟩)
      go_ret
      exact ⟨by rw [HIJ.out]; rfl, Below.alloc HBEL.out HBEL.out.size _⟩
    · have hk : (o.kind == 0) = false := beq_eq_false_iff_ne.2 (HJ.out.2 i o (by omega) ho)
      clear hcell hfv hbel ho
      go_wp2_with (go_at_call 82; refine (isFree_any _ _ _ _ _).mono ?_; rintro e w' ⟨rfl, o4, rfl⟩)
      go_roundw
      case rel => exact ⟨i + 1, by omega, by go_num, Below.alloc HBEL.out HBEL.out.size _⟩
      case measure => simp [intOf]; omega

end Go.Proofs.YtiejbnfjdobpcaaDoor
