import Derived.Test.YtbkmgoffiigdbabDoorWQa
import Derived.Test.YtbkmgoffiigdbabDoorWPc
import Derived.Test.YtbkmgoffiigdbabDoorWPa
import Derived.Test.YtbkmgoffiigdbabDoorWPd
import Derived.Test.YtbkmgoffiigdbabDoorWM
namespace Go.Proofs.YtbkmgoffiigdbabDoor
open Go.RowKit Go.Sort

/-! The slots, copied with what lies in them. -/

/-- A list of objects in memory. -/
def ObsAt (W : World) (a : Option Addr) (obs : List Ob) : Prop :=
  0 < obs.length → ∃ b, a = some ⟨b, 0, none⟩ ∧ b < W.heap.size ∧ ∀ (i : Nat) (o : Ob), obs[i]? = some o → W.cell? ⟨b, i * 2, none⟩ = some (.int .u8 o.1) ∧ ∃ fa fc, W.cell? ⟨b, i * 2 + 1, none⟩ = some (.slice fa o.2.length fc) ∧ ValsIn W W.heap.size fa o.2

theorem ValsIn.later {w W : World} {a : Option Addr} {l : List Val} (h : ValsIn w w.heap.size a l) (hB : Below w.heap.size w W) : ValsIn W W.heap.size a l := fun h0 => by
  obtain ⟨b, e, hb, hc⟩ := h h0
  exact ⟨b, e, Nat.lt_of_lt_of_le hb hB.size, fun i x hx => ⟨(hB.cell (p := ⟨b, _, none⟩) hb).trans (hc i x hx).1, (hB.cell (p := ⟨b, _, none⟩) hb).trans (hc i x hx).2⟩⟩

theorem ObsAt.later {w W : World} {a : Option Addr} {obs : List Ob} (h : ObsAt w a obs) (hB : Below w.heap.size w W) : ObsAt W a obs := fun h0 => by
  obtain ⟨b, e, hb, hc⟩ := h h0
  refine ⟨b, e, Nat.lt_of_lt_of_le hb hB.size, fun i o ho => ?_⟩
  obtain ⟨h1, fa, fc, h2, h3⟩ := hc i o ho
  exact ⟨(hB.cell (p := ⟨b, _, none⟩) hb).trans h1, fa, fc, (hB.cell (p := ⟨b, _, none⟩) hb).trans h2, h3.later hB⟩

def SlotsPost (obs : List Ob) (w : World) (e : Ending) (w' : World) : Prop := (∃ a c, e = .returned (.slice a obs.length c) ∧ ObsAt w' a obs) ∧ Below w.heap.size w w'

/-- A list of values of its own, away from a block. -/
structure Apart (W : World) (B gb : Nat) (v : Value) (l : List Val) : Prop where
  row : W.ownsRow B 73 2 v l.length (vflat l)
  ne : v.ownBlock ≠ some gb

theorem Apart.later {w W : World} {B gb : Nat} {v : Value} {l : List Val} (h : Apart w B gb v l) (hB : Below w.heap.size w W) : Apart W B gb v l :=
  ⟨ownsRow_of_block h.row fun b hb => hB.block b (h.row.lt b hb).2, h.ne⟩
theorem Apart.set {w : World} {B gb i : Nat} {v u : Value} {l : List Val} (h : Apart w B gb v l) : Apart (w.setCell ⟨gb, i, none⟩ u) B gb v l :=
  ⟨ownsRow_setCell_other h.row (a := ⟨gb, i, none⟩) h.ne _, h.ne⟩
theorem Apart.of_copy {w W : World} {gb n : Nat} {v : Value} {l : List Val} (h : W.ownsRow w.heap.size 73 2 v n (vflat l)) (hn : n = l.length) (hg : gb < w.heap.size) {B : Nat} (hB : B ≤ w.heap.size) : Apart W B gb v l := by
  subst hn
  exact ⟨owns_base h hB, fun e => by have := (h.lt gb e).1; omega⟩

set_option maxRecDepth 100000 in
set_option maxHeartbeats 1000000 in
theorem cloneO_some (d : Addr) (n c : Nat) (xs : List Value) (w : World) (hm : n ≤ 100000) (hl : xs.length = n * 2) (hx : ∀ W, Below w.heap.size w W → ∀ j u, xs[j]? = some u → W.cell? (d.add j) = some u) (h1 : ∀ u ∈ xs, u.oneCell' = true) :
    Calls Tryd.prog 35 #[.slice (some d) n c] w fun e w' => CopyPost 71 2 n xs w e w' := by
  have HX := hid hx
  have HL := hid hl
  have H1 := hid h1
  clear hx hl h1
  go_enter Tryd.func35, Tryd.ntmps35
  have heq : ∀ W : World, (binOp .eql 35 (.slice (some d) n c) (.slice none 0 0)).run Tryd.prog W = .ok (.bool false) W := fun W => Go.Lib.run_eql_slice_nil W 35 71 _ n c 0 0 Tryd.underlying35
  obtain ⟨i, hi, hz, hsz, hby⟩ := info_parts info94
  have HI := hid hi
  have HZ := hid hz
  have HSZ := hid hsz
  have HBY := hid hby
  clear hi hz hsz hby
  go_wp2_with (at_builtin; go_must (refine wpList_append_any _ rfl (.tmp 5) (.tmp 6) 35 rfl w.heap.size 71 i _ 2 32 Tryd.underlying35 HI.out HZ.out HSZ.out HBY.out rfl (by decide) (.slice (some ⟨w.heap.size, 0, none⟩) 0 0) 0 [] rfl (World.ownsRow_made w #[] 0 (Nat.le_refl _) (Nat.zero_le _) rfl) (some d) n c xs rfl HL.out (fun _ => ⟨d, rfl, HX.out _ (Below.alloc (Below.refl _ _) (Nat.le_refl _) _)⟩) H1.out (by unfold maxLen; omega) (by omega) (by simp) ?_))
  intro v' w5 hown hgrow _
  have HB : Hid (Below w.heap.size w w5) := grown_below (v := .slice (some ⟨w.heap.size, 0, none⟩) 0 0) (Below.alloc (Below.refl _ _) (Nat.le_refl _) _) rfl (Nat.le_refl _) hgrow
  have ho : w5.ownsRow w.heap.size 71 2 v' n xs := by simpa using hown
  have HO := hid ho
  clear hown hgrow ho
  go_wp2_with fail
  go_ret
  exact ⟨v', rfl, HO.out, HB.out⟩

set_option maxHeartbeats 1000000 in
theorem cloneO_nil (n c : Nat) (w : World) : Calls Tryd.prog 35 #[.slice none n c] w fun e w' => CopyPost 71 2 0 [] w e w' := by
  have heq : ∀ W : World, (binOp .eql 35 (.slice none n c) (.slice none 0 0)).run Tryd.prog W = .ok (.bool true) W := fun W => Go.Lib.run_eql_slice_nil W 35 71 none n c 0 0 Tryd.underlying35
  go_enter Tryd.func35, Tryd.ntmps35
  go_wp2_with fail
  go_ret
  exact ⟨_, rfl, World.ownsRow_nil _ _ _ _, Below.refl _ _⟩

theorem slotCells_one {own : Own} {mb : Nat} {g : PgR} {R : McR} {w : World} (h : MachAt w own mb g R) : ∀ u ∈ R.obs.flatMap ObR.cells, u.oneCell' = true := by
  intro u hu
  obtain ⟨o, ho, hu⟩ := List.mem_flatMap.1 hu
  obtain ⟨i, hi⟩ := List.mem_iff_getElem?.1 ho
  obtain ⟨fa, fc, hfv⟩ := row_form (h.fld i o hi)
  simp only [ObR.cells, List.mem_cons, List.not_mem_nil, or_false] at hu
  rcases hu with rfl | rfl
  · rfl
  · rw [hfv]; rfl

theorem cloneO_any {own : Own} {mb : Nat} {g : PgR} {R : McR} {w W : World} (h : MachAt w own mb g R) (hB : Below w.heap.size w W) (hn : R.obs.length ≤ 1000) {a : Option Addr} {c : Nat} (hv : R.hv = .slice a R.obs.length c) :
    Calls Tryd.prog 35 #[.slice a R.obs.length c] W fun e w' => CopyPost 71 2 R.obs.length (R.obs.flatMap ObR.cells) W e w' := by
  cases a with
  | none =>
    have h0 : R.obs.length = 0 := by
      rcases h.slots.1.2 with ⟨_, e⟩ | ⟨_, _, _, e, _⟩
      · exact e
      · rw [hv] at e; cases e
    have h00 := List.length_eq_zero_iff.1 h0
    rw [h00]
    exact cloneO_nil _ _ _
  | some d =>
    refine cloneO_some d R.obs.length c _ W (by omega) (flat_len ObR.cells_len _) (fun V hV j u hu => ?_) (slotCells_one h)
    have hj := (List.getElem?_eq_some_iff.1 hu).1
    rw [flat_len ObR.cells_len] at hj
    obtain ⟨b, c', e, _, hb⟩ := h.slots.1.form (by omega)
    have hrow := h.slots.1
    rw [hv] at e
    cases e
    rw [hv] at hrow
    rw [addr_add, (below_via' hV hB).cell (p := ⟨b, j, none⟩) hb, hrow.cellAt j hj]
    exact hu

/-- How far the copying has come. -/
structure Copied (W : World) (B gb i : Nat) (obs ol : List ObR) : Prop where
  len : ol.length = obs.length
  old : ∀ k, i ≤ k → ol[k]? = obs[k]?
  new : ∀ k o, k < i → obs[k]? = some o → ∃ v, ol[k]? = some { o with fv := v } ∧ Apart W B gb v o.fl

theorem Copied.next {w3 : World} {B gb i : Nat} {obs ol : List ObR} {o : ObR} {v : Value} (h : Copied w3 B gb i obs ol) (ho : obs[i]? = some o) (hv : Apart w3 B gb v o.fl) (j : Nat) : Copied (w3.setCell ⟨gb, j, none⟩ v) B gb (i + 1) obs (ol.set i { o with fv := v }) := by
  have hi : i < ol.length := by rw [h.len]; exact (List.getElem?_eq_some_iff.1 ho).1
  refine ⟨by rw [List.length_set]; exact h.len, fun k hk => by rw [List.getElem?_set_ne (by omega)]; exact h.old k (by omega), fun k p hk hp => ?_⟩
  by_cases e : k = i
  · subst e
    rw [ho] at hp
    cases hp
    exact ⟨v, by rw [List.getElem?_set_self hi], hv.set⟩
  · obtain ⟨u, h1, h2⟩ := h.new k p (by omega) hp
    exact ⟨u, by rw [List.getElem?_set_ne (Ne.symm e)]; exact h1, h2.set⟩

theorem Copied.later {w W : World} {B gb i : Nat} {obs ol : List ObR} (h : Copied w B gb i obs ol) (hB : Below w.heap.size w W) : Copied W B gb i obs ol :=
  ⟨h.len, h.old, fun k o hk ho => by obtain ⟨v, h1, h2⟩ := h.new k o hk ho; exact ⟨v, h1, h2.later hB⟩⟩

theorem Copied.whole {W : World} {B gb c : Nat} {obs ol : List ObR} (h : Copied W B gb obs.length obs ol) (hr : W.ownsRow B 71 2 (.slice (some ⟨gb, 0, none⟩) obs.length c) obs.length (ol.flatMap ObR.cells)) : ObsAt W (some ⟨gb, 0, none⟩) (obs.map ObR.abs) := fun _ => by
  refine ⟨gb, rfl, (hr.lt gb rfl).2, fun i p hp => ?_⟩
  rw [List.getElem?_map] at hp
  obtain ⟨o, ho, rfl⟩ := Option.map_eq_some_iff.1 hp
  have hi := (List.getElem?_eq_some_iff.1 ho).1
  obtain ⟨v, h1, h2⟩ := h.new i o hi ho
  have hcell : ∀ j, j < 2 → W.cell? ⟨gb, i * 2 + j, none⟩ = ({ o with fv := v } : ObR).cells[j]? := fun j hj => by
    rw [hr.cellAt _ (by omega)]; exact flat_get ObR.cells_len h1 hj
  obtain ⟨fa, fc, rfl, hin⟩ := ValsIn.of_owns h2.row (Nat.le_refl _)
  exact ⟨hcell 0 (by omega), fa, fc, hcell 1 (by omega), hin⟩

set_option maxRecDepth 100000 in
set_option maxHeartbeats 2000000 in
theorem copySlots_any {own : Own} {mb : Nat} {g : PgR} {R : McR} {w : World} (h : MachAt w own mb g R) (hn : R.obs.length ≤ 1000) (h0 : 0 < R.obs.length) (hf : ∀ o, o ∈ R.obs → o.fl.length ≤ 1000) :
    Calls Tryd.prog 25 #[.pointer (some ⟨mb, 4, none⟩)] w fun e w' => SlotsPost (R.obs.map ObR.abs) w e w' := by
  have c4 := h.c4
  obtain ⟨ca, cc, hcv⟩ := row_form h.slots
  rw [hcv] at c4
  have hmb : mb < w.heap.size := h.lt mb _ h.me
  have HCL : Hid (∀ W, Below w.heap.size w W → Calls Tryd.prog 35 #[.slice ca R.obs.length cc] W fun e w' => CopyPost 71 2 R.obs.length (R.obs.flatMap ObR.cells) W e w') := fun W hW => cloneO_any h hW hn hcv
  have HH := hid h
  have HF := hid hf
  clear h hf hcv
  go_enter Tryd.func25, Tryd.ntmps25
  go_wp2_with (go_at_call 35; refine (HCL.out _ ?_).mono ?_; exact (by repeat (first | exact Below.refl _ _ | refine Below.drew ?_ | refine Below.drewQ ?_ _ | refine Below.alloc ?_ (by first | (simp; done) | (simp; omega)) _)); rintro e w2 ⟨v2, rfl, hv2, hb2⟩; obtain ⟨gb, c2, rfl, hgB, hgb⟩ := hv2.form h0; have HV2 : Hid (w2.ownsRow w.heap.size 71 2 (.slice (some ⟨gb, 0, none⟩) R.obs.length c2) R.obs.length (R.obs.flatMap ObR.cells)) := owns_base hv2 (by first | exact Nat.le_refl _ | simp); have HB2 : Hid (Below w.heap.size w w2) := below_via' hb2 (by repeat (first | exact Below.refl _ _ | refine Below.drew ?_ | refine Below.drewQ ?_ _ | refine Below.alloc ?_ (by first | (simp; done) | (simp; omega)) _)); have hgB : w.heap.size ≤ gb := Nat.le_trans (by first | exact Nat.le_refl _ | simp) hgB; clear hv2 hb2)
  go_loopw [12] (fun vi wr => ∃ (i : Nat) (ol : List ObR), i ≤ R.obs.length ∧ vi = .int .i64 i ∧ Copied wr w.heap.size gb i R.obs ol ∧ wr.ownsRow w.heap.size 71 2 (.slice (some ⟨gb, 0, none⟩) R.obs.length c2) R.obs.length (ol.flatMap ObR.cells) ∧ Below w.heap.size w wr) (fun vi _ => R.obs.length - (intOf vi).toNat)
  case atStart => exact ⟨0, R.obs, Nat.zero_le _, rfl, ⟨rfl, fun _ _ => rfl, fun k o hk => by omega⟩, HV2.out, HB2.out⟩
  case round =>
    obtain ⟨i, ol, hi, rfl, hcop, hrow, hbel⟩ := hrel
    clear HV2 HB2
    by_cases hlti : i < R.obs.length
    · obtain ⟨o, hoi⟩ : ∃ o, R.obs[i]? = some o := ⟨_, List.getElem?_eq_getElem hlti⟩
      have hol : ol[i]? = some o := (hcop.old i (Nat.le_refl _)).trans hoi
      have hgw : gb < wr.heap.size := (hrow.lt gb rfl).2
      have hcell : ∀ j, j < 2 → wr.cell? ⟨gb, i * 2 + j, none⟩ = o.cells[j]? := fun j hj => by
        rw [hrow.cellAt _ (by omega)]; exact flat_get ObR.cells_len hol hj
      obtain ⟨fa, fc, hfv⟩ := row_form (HH.out.fld i o hoi)
      have k1 : wr.cell? ⟨gb, i * 2 + 1, none⟩ = some o.fv := hcell 1 (by omega)
      rw [hfv] at k1
      have z1 := hrow.frozenAt (i * 2 + 1)
      have HCL1 : Hid (∀ W, Below w.heap.size w W → Calls Tryd.prog 36 #[.slice fa o.fl.length fc] W fun e w' => CopyPost 73 2 o.fl.length (vflat o.fl) W e w') := fun W hW => cloneV_any (HH.out.fld i o hoi) hfv hW (HF.out o (List.mem_of_getElem? hoi))
      have HBEL := hid hbel
      have HROW := hid hrow
      have HCOP := hid hcop
      have HOL := hid hol
      have HOI := hid hoi
      have hws := hbel.size
      clear hcell hrow hbel hcop hfv hol hoi c4
      go_wp2_with fail
      refine (HCL1.out _ HBEL.out).mono ?_
      rintro e w3 ⟨v3, rfl, hv3, hb3⟩
      obtain ⟨a3, c3, rfl⟩ := owns_form hv3
      have m1 := (hb3.cell (p := ⟨gb, i * 2 + 1, none⟩) hgw).trans k1
      have y1 := (hb3.frozen (p := ⟨gb, i * 2 + 1, none⟩) hgw).trans z1
      have hg3 : gb < w3.heap.size := Nat.lt_of_lt_of_le hgw hb3.size
      have hR3 : w3.ownsRow w.heap.size 71 2 (.slice (some ⟨gb, 0, none⟩) R.obs.length c2) R.obs.length (ol.flatMap ObR.cells) := ownsRow_of_block HROW.out fun b hb' => by
        obtain rfl : gb = b := by simpa [Value.ownBlock] using hb'
        exact hb3.block _ hgw
      have hR3' := (World.ownsRow.stored hR3 (i * 2 + 1) (.slice a3 o.fl.length c3)).1
      have e1 := flat_set (c := ObR.cells) ObR.cells_len (l := ol) (i := i) (j := 1) (x := o) (y := { o with fv := .slice a3 o.fl.length c3 }) (u := .slice a3 o.fl.length c3) HOL.out (by omega) rfl
      rw [← e1] at hR3'
      have HR3 := hid hR3'
      have HB3 := hid (Below.setCell (below_via' hb3 HBEL.out) (p := ⟨gb, i * 2 + 1, none⟩) hgB (.slice a3 o.fl.length c3))
      have HC3 := hid ((HCOP.out.later hb3).next HOI.out (Apart.of_copy hv3 rfl hgw hws) (i * 2 + 1))
      clear hv3 hb3 hR3 hR3' e1 k1 z1
      go_wp2_with fail
      go_roundw
      case rel => exact ⟨i + 1, _, by omega, by go_num, HC3.out, HR3.out, HB3.out⟩
      case measure => simp [intOf]; omega
    · obtain rfl : i = R.obs.length := by omega
      have HBEL := hid hbel
      have HW := hid (hcop.whole hrow)
      clear hbel hrow hcop
      go_wp2_with fail
      go_ret
      refine ⟨⟨some ⟨gb, 0, none⟩, c2, ?_, HW.out⟩, HBEL.out⟩
      rw [List.length_map]
      rfl

end Go.Proofs.YtbkmgoffiigdbabDoor

namespace Go.Proofs.YtbkmgoffiigdbabDoor
open Go.RowKit Go.Sort

/-! The frames, copied with what lies in them. -/

/-- A list of frames in memory. -/
def FrsAt (W : World) (a : Option Addr) (frs : List FrA) : Prop :=
  0 < frs.length → ∃ b, a = some ⟨b, 0, none⟩ ∧ b < W.heap.size ∧ ∀ (i : Nat) (f : FrA), frs[i]? = some f → ∃ la lc sa sc, W.cell? ⟨b, i * 4 + 2, none⟩ = some (.slice la f.loc.length lc) ∧ W.cell? ⟨b, i * 4 + 3, none⟩ = some (.slice sa f.stk.length sc) ∧ ValsIn W W.heap.size la f.loc ∧ ValsIn W W.heap.size sa f.stk

theorem FrsAt.later {w W : World} {a : Option Addr} {frs : List FrA} (h : FrsAt w a frs) (hB : Below w.heap.size w W) : FrsAt W a frs := fun h0 => by
  obtain ⟨b, e, hb, hc⟩ := h h0
  refine ⟨b, e, Nat.lt_of_lt_of_le hb hB.size, fun i f hf => ?_⟩
  obtain ⟨la, lc, sa, sc, h1, h2, h3, h4⟩ := hc i f hf
  exact ⟨la, lc, sa, sc, (hB.cell (p := ⟨b, _, none⟩) hb).trans h1, (hB.cell (p := ⟨b, _, none⟩) hb).trans h2, h3.later hB, h4.later hB⟩

def FrsPost (frs : List FrA) (w : World) (e : Ending) (w' : World) : Prop := (∃ a c, e = .returned (.slice a frs.length c) ∧ FrsAt w' a frs) ∧ Below w.heap.size w w'

structure CopiedF (W : World) (B gb i : Nat) (frs fl : List FrR) : Prop where
  len : fl.length = frs.length
  old : ∀ k, i ≤ k → fl[k]? = frs[k]?
  new : ∀ k f, k < i → frs[k]? = some f → ∃ lv sv, fl[k]? = some { f with lv := lv, sv := sv } ∧ Apart W B gb lv f.loc ∧ Apart W B gb sv f.stk

theorem CopiedF.later {w W : World} {B gb i : Nat} {frs fl : List FrR} (h : CopiedF w B gb i frs fl) (hB : Below w.heap.size w W) : CopiedF W B gb i frs fl :=
  ⟨h.len, h.old, fun k f hk hf => by obtain ⟨lv, sv, h1, h2, h3⟩ := h.new k f hk hf; exact ⟨lv, sv, h1, h2.later hB, h3.later hB⟩⟩
theorem CopiedF.set {w : World} {B gb i j : Nat} {u : Value} {frs fl : List FrR} (h : CopiedF w B gb i frs fl) : CopiedF (w.setCell ⟨gb, j, none⟩ u) B gb i frs fl :=
  ⟨h.len, h.old, fun k f hk hf => by obtain ⟨lv, sv, h1, h2, h3⟩ := h.new k f hk hf; exact ⟨lv, sv, h1, h2.set, h3.set⟩⟩
theorem CopiedF.next {W : World} {B gb i : Nat} {frs fl : List FrR} {f : FrR} {lv sv : Value} (h : CopiedF W B gb i frs fl) (hf : frs[i]? = some f) (hl : Apart W B gb lv f.loc) (hs : Apart W B gb sv f.stk) : CopiedF W B gb (i + 1) frs (fl.set i { f with lv := lv, sv := sv }) := by
  have hi : i < fl.length := by rw [h.len]; exact (List.getElem?_eq_some_iff.1 hf).1
  refine ⟨by rw [List.length_set]; exact h.len, fun k hk => by rw [List.getElem?_set_ne (by omega)]; exact h.old k (by omega), fun k p hk hp => ?_⟩
  by_cases e : k = i
  · subst e
    rw [hf] at hp
    cases hp
    exact ⟨lv, sv, by rw [List.getElem?_set_self hi], hl, hs⟩
  · obtain ⟨u, v, h1, h2⟩ := h.new k p (by omega) hp
    exact ⟨u, v, by rw [List.getElem?_set_ne (Ne.symm e)]; exact h1, h2⟩

theorem CopiedF.whole {W : World} {B gb c : Nat} {frs fl : List FrR} (h : CopiedF W B gb frs.length frs fl) (hr : W.ownsRow B 76 4 (.slice (some ⟨gb, 0, none⟩) frs.length c) frs.length (fl.flatMap FrR.cells)) : FrsAt W (some ⟨gb, 0, none⟩) (frs.map FrR.abs) := fun _ => by
  refine ⟨gb, rfl, (hr.lt gb rfl).2, fun i p hp => ?_⟩
  rw [List.getElem?_map] at hp
  obtain ⟨f, hf, rfl⟩ := Option.map_eq_some_iff.1 hp
  have hi := (List.getElem?_eq_some_iff.1 hf).1
  obtain ⟨lv, sv, h1, h2, h3⟩ := h.new i f hi hf
  have hcell : ∀ j, j < 4 → W.cell? ⟨gb, i * 4 + j, none⟩ = ({ f with lv := lv, sv := sv } : FrR).cells[j]? := fun j hj => by
    rw [hr.cellAt _ (by omega)]; exact flat_get FrR.cells_len h1 hj
  obtain ⟨la, lc, rfl, hl⟩ := ValsIn.of_owns h2.row (Nat.le_refl _)
  obtain ⟨sa, sc, rfl, hs⟩ := ValsIn.of_owns h3.row (Nat.le_refl _)
  exact ⟨la, lc, sa, sc, hcell 2 (by omega), hcell 3 (by omega), hl, hs⟩

set_option maxRecDepth 100000 in
set_option maxHeartbeats 2000000 in
theorem copyFrames_some {own : Own} {mb : Nat} {g : PgR} {R : McR} {w : World} (h : MachAt w own mb g R) (h0 : 0 < R.frs.length) (hn : R.frs.length ≤ 1000) (hf : ∀ f, f ∈ R.frs → f.loc.length ≤ 1000 ∧ f.stk.length ≤ 1000) :
    Calls Tryd.prog 27 #[.pointer (some ⟨mb, 3, none⟩)] w fun e w' => FrsPost (R.frs.map FrR.abs) w e w' := by
  have c3 := h.c3
  obtain ⟨ca, cc, hcv⟩ := row_form h.called
  rw [hcv] at c3
  have hmb : mb < w.heap.size := h.lt mb _ h.me
  have HCL : Hid (∀ W, Below w.heap.size w W → Calls Tryd.prog 37 #[.slice ca R.frs.length cc] W fun e w' => CopyPost 76 4 R.frs.length (R.frs.flatMap FrR.cells) W e w') := fun W hW => cloneF_any h hW hn hcv
  have HH := hid h
  have HF := hid hf
  clear h hf hcv
  go_enter Tryd.func27, Tryd.ntmps27
  go_wp2_with (go_at_call 37; refine (HCL.out _ ?_).mono ?_; exact (by repeat (first | exact Below.refl _ _ | refine Below.drew ?_ | refine Below.drewQ ?_ _ | refine Below.alloc ?_ (by first | (simp; done) | (simp; omega)) _)); rintro e w2 ⟨v2, rfl, hv2, hb2⟩; obtain ⟨gb, c2, rfl, hgB, hgb⟩ := hv2.form h0; have HV2 : Hid (w2.ownsRow w.heap.size 76 4 (.slice (some ⟨gb, 0, none⟩) R.frs.length c2) R.frs.length (R.frs.flatMap FrR.cells)) := owns_base hv2 (by first | exact Nat.le_refl _ | simp); have HB2 : Hid (Below w.heap.size w w2) := below_via' hb2 (by repeat (first | exact Below.refl _ _ | refine Below.drew ?_ | refine Below.drewQ ?_ _ | refine Below.alloc ?_ (by first | (simp; done) | (simp; omega)) _)); have hgB : w.heap.size ≤ gb := Nat.le_trans (by first | exact Nat.le_refl _ | simp) hgB; clear hv2 hb2)
  go_loopw [12] (fun vi wr => ∃ (i : Nat) (fl : List FrR), i ≤ R.frs.length ∧ vi = .int .i64 i ∧ CopiedF wr w.heap.size gb i R.frs fl ∧ wr.ownsRow w.heap.size 76 4 (.slice (some ⟨gb, 0, none⟩) R.frs.length c2) R.frs.length (fl.flatMap FrR.cells) ∧ Below w.heap.size w wr) (fun vi _ => R.frs.length - (intOf vi).toNat)
  case atStart => exact ⟨0, R.frs, Nat.zero_le _, rfl, ⟨rfl, fun _ _ => rfl, fun k o hk => by omega⟩, HV2.out, HB2.out⟩
  case round =>
    obtain ⟨i, fl, hi, rfl, hcop, hrow, hbel⟩ := hrel
    clear HV2 HB2
    by_cases hlti : i < R.frs.length
    · obtain ⟨f, hfi⟩ : ∃ f, R.frs[i]? = some f := ⟨_, List.getElem?_eq_getElem hlti⟩
      have hfl : fl[i]? = some f := (hcop.old i (Nat.le_refl _)).trans hfi
      have hgw : gb < wr.heap.size := (hrow.lt gb rfl).2
      have hcell : ∀ j, j < 4 → wr.cell? ⟨gb, i * 4 + j, none⟩ = f.cells[j]? := fun j hj => by
        rw [hrow.cellAt _ (by omega)]; exact flat_get FrR.cells_len hfl hj
      obtain ⟨la, lc, hlv⟩ := row_form (HH.out.loc i f hfi)
      obtain ⟨sa, sc, hsv⟩ := row_form (HH.out.stk i f hfi)
      have k2 : wr.cell? ⟨gb, i * 4 + 2, none⟩ = some f.lv := hcell 2 (by omega)
      have k3 : wr.cell? ⟨gb, i * 4 + 3, none⟩ = some f.sv := hcell 3 (by omega)
      rw [hlv] at k2
      rw [hsv] at k3
      have z2 := hrow.frozenAt (i * 4 + 2)
      have z3 := hrow.frozenAt (i * 4 + 3)
      have hm := HF.out f (List.mem_of_getElem? hfi)
      have HCL1 : Hid (∀ W, Below w.heap.size w W → Calls Tryd.prog 36 #[.slice la f.loc.length lc] W fun e w' => CopyPost 73 2 f.loc.length (vflat f.loc) W e w') := fun W hW => cloneV_any (HH.out.loc i f hfi) hlv hW hm.1
      have HCL2 : Hid (∀ W, Below w.heap.size w W → Calls Tryd.prog 36 #[.slice sa f.stk.length sc] W fun e w' => CopyPost 73 2 f.stk.length (vflat f.stk) W e w') := fun W hW => cloneV_any (HH.out.stk i f hfi) hsv hW hm.2
      have hws := hbel.size
      have HBEL := hid hbel
      have HROW := hid hrow
      have HCOP := hid hcop
      have HFL := hid hfl
      have HFI := hid hfi
      clear hcell hrow hbel hcop hlv hsv hfl hfi c3
      go_wp2_with fail
      refine (HCL1.out _ HBEL.out).mono ?_
      rintro e w3 ⟨v3, rfl, hv3, hb3⟩
      obtain ⟨a3, c3, rfl⟩ := owns_form hv3
      have m2 := (hb3.cell (p := ⟨gb, i * 4 + 2, none⟩) hgw).trans k2
      have m3 := (hb3.cell (p := ⟨gb, i * 4 + 3, none⟩) hgw).trans k3
      have y2 := (hb3.frozen (p := ⟨gb, i * 4 + 2, none⟩) hgw).trans z2
      have y3 := (hb3.frozen (p := ⟨gb, i * 4 + 3, none⟩) hgw).trans z3
      have hg3 : gb < w3.heap.size := Nat.lt_of_lt_of_le hgw hb3.size
      have hB3 : Below w.heap.size w w3 := below_via' hb3 HBEL.out
      have hR3 : w3.ownsRow w.heap.size 76 4 (.slice (some ⟨gb, 0, none⟩) R.frs.length c2) R.frs.length (fl.flatMap FrR.cells) := ownsRow_of_block HROW.out fun b hb' => by
        obtain rfl : gb = b := by simpa [Value.ownBlock] using hb'
        exact hb3.block _ hgw
      have hR3' := (World.ownsRow.stored hR3 (i * 4 + 2) (.slice a3 f.loc.length c3)).1
      have hB3' : Below w.heap.size w (w3.setCell ⟨gb, i * 4 + 2, none⟩ (.slice a3 f.loc.length c3)) := Below.setCell hB3 hgB _
      have HR3 := hid hR3'
      have HB3 := hid hB3'
      have HA3 : Hid (Apart (w3.setCell ⟨gb, i * 4 + 2, none⟩ (.slice a3 f.loc.length c3)) w.heap.size gb (.slice a3 f.loc.length c3) f.loc) := (Apart.of_copy hv3 rfl hgw hws).set
      have HC3 : Hid (CopiedF (w3.setCell ⟨gb, i * 4 + 2, none⟩ (.slice a3 f.loc.length c3)) w.heap.size gb i R.frs fl) := (HCOP.out.later hb3).set
      clear hv3 hb3 hB3 hR3 hR3' hB3' k2 k3 z2 z3
      go_wp2_with fail
      refine (HCL2.out _ HB3.out).mono ?_
      rintro e w4 ⟨v4, rfl, hv4, hb4⟩
      obtain ⟨a4, c4, rfl⟩ := owns_form hv4
      have hg4' : gb < (w3.setCell ⟨gb, i * 4 + 2, none⟩ (.slice a3 f.loc.length c3)).heap.size := by simpa using hg3
      have x3 : w4.cell? ⟨gb, i * 4 + 3, none⟩ = some (.slice sa f.stk.length sc) := (hb4.cell (p := ⟨gb, i * 4 + 3, none⟩) hg4').trans (by go_simp)
      have u3 : w4.frozen? ⟨gb, i * 4 + 3, none⟩ = false := (hb4.frozen (p := ⟨gb, i * 4 + 3, none⟩) hg4').trans (by go_simp)
      have hg4 : gb < w4.heap.size := Nat.lt_of_lt_of_le hg4' hb4.size
      have hB4 : Below w.heap.size w w4 := below_via' hb4 HB3.out
      have hR4 : w4.ownsRow w.heap.size 76 4 (.slice (some ⟨gb, 0, none⟩) R.frs.length c2) R.frs.length ((fl.flatMap FrR.cells).set (i * 4 + 2) (.slice a3 f.loc.length c3)) := ownsRow_of_block HR3.out fun b hb' => by
        obtain rfl : gb = b := by simpa [Value.ownBlock] using hb'
        exact hb4.block _ hg4'
      have hR4' := (World.ownsRow.stored hR4 (i * 4 + 3) (.slice a4 f.stk.length c4)).1
      have e1 := flat_set (c := FrR.cells) FrR.cells_len (l := fl) (i := i) (j := 2) (x := f) (y := { f with lv := .slice a3 f.loc.length c3 }) (u := .slice a3 f.loc.length c3) HFL.out (by omega) rfl
      have hil : i < fl.length := by rw [HC3.out.len]; exact hlti
      have e2 := flat_set (c := FrR.cells) FrR.cells_len (l := fl.set i { f with lv := .slice a3 f.loc.length c3 }) (i := i) (j := 3) (x := { f with lv := .slice a3 f.loc.length c3 }) (y := { f with lv := .slice a3 f.loc.length c3, sv := .slice a4 f.stk.length c4 }) (u := .slice a4 f.stk.length c4) (by rw [List.getElem?_set_self hil]) (by omega) rfl
      rw [← e1, ← e2, List.set_set] at hR4'
      have HR4 := hid hR4'
      have HB4 := hid (Below.setCell hB4 (p := ⟨gb, i * 4 + 3, none⟩) hgB (.slice a4 f.stk.length c4))
      have hws4 : w.heap.size ≤ (w3.setCell ⟨gb, i * 4 + 2, none⟩ (.slice a3 f.loc.length c3)).heap.size := HB3.out.size
      have HC4 : Hid (CopiedF (w4.setCell ⟨gb, i * 4 + 3, none⟩ (.slice a4 f.stk.length c4)) w.heap.size gb (i + 1) R.frs (fl.set i { f with lv := .slice a3 f.loc.length c3, sv := .slice a4 f.stk.length c4 })) := ((HC3.out.later hb4).set).next HFI.out ((HA3.out.later hb4).set) ((Apart.of_copy hv4 rfl hg4' hws4).set)
      clear hv4 hb4 hB4 hR4 hR4' e1 e2 m2 m3 y2 y3 HC3 HA3
      go_wp2_with fail
      go_roundw
      case rel => exact ⟨i + 1, _, by omega, by go_num, HC4.out, HR4.out, HB4.out⟩
      case measure => simp [intOf]; omega
    · obtain rfl : i = R.frs.length := by omega
      have HBEL := hid hbel
      have HW := hid (hcop.whole hrow)
      clear hbel hrow hcop
      go_wp2_with fail
      go_ret
      refine ⟨⟨some ⟨gb, 0, none⟩, c2, ?_, HW.out⟩, HBEL.out⟩
      rw [List.length_map]
      rfl

theorem copyFrames_full {own : Own} {mb : Nat} {g : PgR} {R : McR} {w : World} (h : MachAt w own mb g R) (hn : R.frs.length ≤ 1000) (hf : ∀ f, f ∈ R.frs → f.loc.length ≤ 1000 ∧ f.stk.length ≤ 1000) :
    Calls Tryd.prog 27 #[.pointer (some ⟨mb, 3, none⟩)] w fun e w' => FrsPost (R.frs.map FrR.abs) w e w' := by
  rcases Nat.eq_zero_or_pos R.frs.length with h0 | h0
  · refine (copyFrames_any h hn hf).mono ?_
    rintro e w' ⟨⟨a, c, rfl⟩, hb⟩
    exact ⟨⟨a, c, by rw [List.length_map], fun h1 => by rw [List.length_map] at h1; omega⟩, hb⟩
  · exact copyFrames_some h h0 hn hf

end Go.Proofs.YtbkmgoffiigdbabDoor

namespace Go.Proofs.YtbkmgoffiigdbabDoor
open Go.RowKit Go.Sort

/-! PLAIN: what is reached is just what is led to; tidying up twice. -/

inductive Lead (obs : List Ob) (l : List Val) : Nat → Prop
  | root (v : Val) (hv : v ∈ l) (h2 : v.1 = 2) : Lead obs l v.2.toNat
  | field (j : Nat) (o : Ob) (v : Val) (hj : Lead obs l j) (ho : obs[j]? = some o) (h3 : o.1 ≠ 3) (hv : v ∈ o.2) (h2 : v.1 = 2) : Lead obs l v.2.toNat

theorem Reached.of_lead {obs : List Ob} {l : List Val} {met : List Nat} (h : Reached obs l met) {j : Nat} (hl : Lead obs l j) : j ∈ met := by
  induction hl with
  | root v hv h2 => exact h.roots v hv h2
  | field j o v _ ho h3 hv h2 ih => exact h.shut j ih o ho h3 v hv h2

theorem meetA_lead {obs : List Ob} {l k : List Val} {met : List Nat} (hm : ∀ j, j ∈ met → Lead obs l j) (hk : ∀ v, v ∈ k → v.1 = 2 → Lead obs l v.2.toNat) : ∀ j, j ∈ meetA met k → Lead obs l j := by
  intro j hj
  rcases (meetA_mem k met j).1 hj with h | ⟨v, h1, h2, rfl⟩
  · exact hm j h
  · exact hk v h1 h2

theorem walkA_lead {obs : List Ob} {l : List Val} : ∀ (n i : Nat) (met : List Nat), (∀ j, j ∈ met → Lead obs l j) → ∀ j, j ∈ walkA obs n i met → Lead obs l j
  | 0, _, _, hm => hm
  | n + 1, i, met, hm => by
    rw [walkA]
    cases hi : met[i]? with
    | none => exact hm
    | some k =>
      cases ho : obs[k]? with
      | none => simp only [ho]; exact hm
      | some o =>
        simp only [ho]
        refine walkA_lead n (i + 1) _ ?_
        by_cases h3 : o.1 = 3
        · rw [if_pos h3]; exact hm
        · rw [if_neg h3]
          exact meetA_lead hm fun v hv h2 => Lead.field k o v (hm k (List.mem_of_getElem? hi)) ho h3 hv h2

theorem reachedA_lead {obs : List Ob} {l : List Val} : ∀ j, j ∈ reachedA obs l → Lead obs l j :=
  walkA_lead _ _ _ (meetA_lead (by simp) fun v hv h2 => Lead.root v hv h2)

theorem nodup_le : ∀ {a b : List Nat}, a.Nodup → (∀ j, j ∈ a → j ∈ b) → a.length ≤ b.length
  | [], _, _, _ => Nat.zero_le _
  | x :: a, b, h, hs => by
    obtain ⟨h1, h2⟩ := List.nodup_cons.1 h
    have hx := hs x (by simp)
    have := nodup_le (b := b.erase x) h2 fun j hj => (List.mem_erase_of_ne (fun e => h1 (by rw [← e]; exact hj))).2 (hs j (by simp [hj]))
    have hp := List.length_pos_of_mem hx
    rw [List.length_erase_of_mem hx] at this
    simp only [List.length_cons]
    omega

theorem nodup_same {a b : List Nat} (ha : a.Nodup) (hb : b.Nodup) (h : ∀ j, j ∈ a ↔ j ∈ b) : a.length = b.length :=
  Nat.le_antisymm (nodup_le ha fun j hj => (h j).1 hj) (nodup_le hb fun j hj => (h j).2 hj)

/-- Two lists that are reached are as long as one another. -/
theorem Reached.same {obs : List Ob} {l : List Val} {a b : List Nat} (ha : Reached obs l a) (hb : Reached obs l b) (hla : ∀ j, j ∈ a → Lead obs l j) (hlb : ∀ j, j ∈ b → Lead obs l j) : a.length = b.length :=
  nodup_same ha.nodup hb.nodup fun _ => ⟨fun h => hb.of_lead (hla _ h), fun h => ha.of_lead (hlb _ h)⟩

theorem takenA_range (obs : List Ob) : takenA obs = ((List.range obs.length).filter fun j => ((obs[j]?).map fun o => o.1 != 0).getD false).length := by
  unfold takenA
  induction obs with
  | nil => rfl
  | cons o l ih =>
    rw [List.length_cons, List.range_succ_eq_map, List.filter_cons, List.filter_cons, List.filter_map, List.getElem?_cons_zero]
    have e : ((fun j => (((o :: l)[j]?).map fun o => o.1 != 0).getD false) ∘ Nat.succ) = fun j => ((l[j]?).map fun o => o.1 != 0).getD false := by funext j; simp
    rw [e]
    cases h : (o.1 != 0) <;> simp [h, ih]

theorem alive_nonfree {g : PgR} {s : McA} (h : InvA g s) {j : Nat} (hj : j ∈ aliveA s) : ∃ o, s.obs[j]? = some o ∧ o.1 ≠ 0 := by
  have := reachedA_lead j hj
  cases this with
  | root v hv h2 =>
    obtain ⟨f, hf, hv⟩ := mem_valuesA.1 hv
    exact ((h.vals f hf v hv).ref h2).2
  | field k o v _ ho h3 hv h2 => exact (((h.obs o (List.mem_of_getElem? ho)).vals hv).ref h2).2

theorem taken_collect {g : PgR} {s : McA} (h : InvA g s) : takenA (collectA s).obs = (aliveA s).length := by
  rw [takenA_range]
  refine nodup_same (List.nodup_range.filter _) h.alive.nodup fun j => ?_
  rw [List.mem_filter, List.mem_range]
  have e : (collectA s).obs[j]? = (s.obs[j]?).map fun o => forget1 (sweep1 s.obs (aliveA s)) (if j ∈ aliveA s then o else (0, [])) := sweepA_get _ _ _
  constructor
  · rintro ⟨_, h2⟩
    rw [e] at h2
    refine Decidable.byContradiction fun hn => ?_
    cases ho : s.obs[j]? with
    | none => rw [ho] at h2; simp at h2
    | some o => rw [ho, Option.map_some, if_neg hn] at h2; simp [forget1_kind] at h2
  · intro hj
    obtain ⟨o, ho, hne⟩ := alive_nonfree h hj
    have hl := (List.getElem?_eq_some_iff.1 ho).1
    refine ⟨by show j < (sweepA _ _).length; rw [sweepA_len]; exact hl, ?_⟩
    rw [e, ho, Option.map_some, if_pos hj]
    simp [forget1_kind, hne]

theorem lead_collect {g : PgR} {s : McA} (h : InvA g s) (j : Nat) : Lead (collectA s).obs (valuesA s.frs) j ↔ Lead s.obs (valuesA s.frs) j := by
  have e : ∀ j, (collectA s).obs[j]? = (s.obs[j]?).map fun o => forget1 (sweep1 s.obs (aliveA s)) (if j ∈ aliveA s then o else (0, [])) := fun j => sweepA_get _ _ _
  have keep : ∀ {o : Ob}, o.1 ≠ 3 → forget1 (sweep1 s.obs (aliveA s)) o = o := fun h3 => by unfold forget1; rw [if_neg (fun hc => h3 hc.1)]
  constructor
  · intro hl
    induction hl with
    | root v hv h2 => exact Lead.root v hv h2
    | field k o v _ ho h3 hv h2 ih =>
      rw [e] at ho
      obtain ⟨p, hp, rfl⟩ := Option.map_eq_some_iff.1 ho
      rw [if_pos (h.alive.of_lead ih)] at h3 hv
      rw [forget1_kind] at h3
      rw [keep h3] at hv
      exact Lead.field k p v ih hp h3 hv h2
  · intro hl
    induction hl with
    | root v hv h2 => exact Lead.root v hv h2
    | field k o v hk ho h3 hv h2 ih =>
      refine Lead.field k o v ih ?_ h3 hv h2
      rw [e, ho, Option.map_some, if_pos (h.alive.of_lead hk), keep h3]

theorem alive_collect {g : PgR} {s : McA} (h : InvA g s) : (aliveA (collectA s)).length = (aliveA s).length := by
  have h2 := inv_collect h
  exact nodup_same h2.alive.nodup h.alive.nodup fun j => ⟨fun hj => h.alive.of_lead ((lead_collect h j).1 (reachedA_lead j hj)), fun hj => h2.alive.of_lead ((lead_collect h j).2 (reachedA_lead j hj))⟩

/-- Values that stand in a row; those behind the first ones have been looked at. -/
structure Queue (obs : List Ob) (l : List Val) (i : Nat) (met : List Nat) (q : List Val) : Prop where
  nodup : met.Nodup
  lt : ∀ j, j ∈ met → j < obs.length
  lead : ∀ j, j ∈ met → Lead obs l j
  qlead : ∀ v, v ∈ q → v.1 = 2 → Lead obs l v.2.toNat
  pre : ∀ v, v ∈ l → v ∈ q
  done : ∀ k v, k < i → q[k]? = some v → v.1 = 2 → v.2.toNat ∈ met
  fields : ∀ j, j ∈ met → ∀ o, obs[j]? = some o → o.1 ≠ 3 → ∀ v, v ∈ o.2 → v ∈ q
  len : q.length ≤ l.length + met.length * 12

theorem Queue.begin (obs : List Ob) (l : List Val) : Queue obs l 0 [] l :=
  ⟨List.nodup_nil, by simp, by simp, fun v hv h2 => Lead.root v hv h2, fun _ h => h, fun k v hk => by omega, by simp, by simp⟩

theorem Queue.skip {obs : List Ob} {l : List Val} {i : Nat} {met : List Nat} {q : List Val} (h : Queue obs l i met q) {v : Val} (hv : q[i]? = some v) (hm : v.1 = 2 → v.2.toNat ∈ met) : Queue obs l (i + 1) met q :=
  ⟨h.nodup, h.lt, h.lead, h.qlead, h.pre, fun k u hk hu h2 => by
    by_cases e : k = i
    · subst e; rw [hv] at hu; cases hu; exact hm h2
    · exact h.done k u (by omega) hu h2, h.fields, h.len⟩

theorem Queue.meet {obs : List Ob} {l : List Val} {i : Nat} {met : List Nat} {q : List Val} (h : Queue obs l i met q) {v : Val} (hv : q[i]? = some v) (h2 : v.1 = 2) (hn : v.2.toNat ∉ met) {o : Ob} (ho : obs[v.2.toNat]? = some o) (h12 : o.2.length ≤ 12) :
    Queue obs l (i + 1) (met ++ [v.2.toNat]) (q ++ if o.1 = 3 then [] else o.2) := by
  have hvq : v ∈ q := List.mem_of_getElem? hv
  have hlv := h.qlead v hvq h2
  refine ⟨?_, fun j hj => ?_, fun j hj => ?_, fun u hu hu2 => ?_, fun u hu => by simp [h.pre u hu], fun k u hk hu hu2 => ?_, fun j hj p hp h3 u hu => ?_, ?_⟩
  · rw [List.nodup_append]
    exact ⟨h.nodup, by simp, fun a ha b hb => by rw [List.mem_singleton] at hb; rintro rfl; exact hn (hb ▸ ha)⟩
  · rcases List.mem_append.1 hj with hj | hj
    · exact h.lt j hj
    · rw [List.mem_singleton] at hj; subst hj; exact (List.getElem?_eq_some_iff.1 ho).1
  · rcases List.mem_append.1 hj with hj | hj
    · exact h.lead j hj
    · rw [List.mem_singleton] at hj; subst hj; exact hlv
  · rcases List.mem_append.1 hu with hu | hu
    · exact h.qlead u hu hu2
    · split at hu
      · simp at hu
      · rename_i h3; exact Lead.field _ o u hlv ho h3 hu hu2
  · have hil := (List.getElem?_eq_some_iff.1 hv).1
    rw [List.getElem?_append_left (by omega)] at hu
    by_cases e : k = i
    · subst e; rw [hv] at hu; cases hu; simp
    · exact List.mem_append.2 (Or.inl (h.done k u (by omega) hu hu2))
  · rcases List.mem_append.1 hj with hj | hj
    · exact List.mem_append.2 (Or.inl (h.fields j hj p hp h3 u hu))
    · rw [List.mem_singleton] at hj
      subst hj
      rw [ho] at hp
      cases hp
      rw [if_neg h3]
      exact List.mem_append.2 (Or.inr hu)
  · have := h.len
    have h1 : (if o.1 = 3 then [] else o.2 : List Val).length ≤ 12 := by
      split
      · simp
      · exact h12
    simp only [List.length_append, List.length_cons, List.length_nil]
    omega

theorem Queue.whole {obs : List Ob} {l : List Val} {met : List Nat} {q : List Val} (hw : Within obs) (hl : ∀ v, v ∈ l → v.1 = 2 → v.2.toNat < obs.length) (h : Queue obs l q.length met q) : met.length = (reachedA obs l).length := by
  have inq : ∀ v, v ∈ q → v.1 = 2 → v.2.toNat ∈ met := fun v hv h2 => by
    obtain ⟨k, hk⟩ := List.mem_iff_getElem?.1 hv
    exact h.done k v (List.getElem?_eq_some_iff.1 hk).1 hk h2
  refine Reached.same ⟨h.nodup, h.lt, fun j hj o ho h3 v hv h2 => inq v (h.fields j hj o ho h3 v hv) h2, fun v hv h2 => inq v (h.pre v hv) h2⟩ (reachedA_ok hw hl) h.lead (reachedA_lead ·)

theorem room_len (s : McA) : (roomA s).obs.length = s.obs.length := by
  unfold roomA
  split
  · exact sweepA_len _ _
  · rfl
theorem new_len (s : McA) (fs : List FrA) (f : FrA) (rest : List Val) (kind : Int) (fl : List Val) : (newA s fs f rest kind fl).obs.length = s.obs.length := by
  unfold newA
  split
  · exact room_len s
  · split
    · rfl
    · rw [List.length_set, room_len]
theorem get_len (s : McA) (fs : List FrA) (f : FrA) (rest : List Val) (v : Val) (kind : Int) (ix : Val) : (getE s fs f rest v kind ix).obs.length = s.obs.length := by unfold getE; split <;> rfl
theorem set_len (s : McA) (fs : List FrA) (f : FrA) (rest : List Val) (v : Val) (kind : Int) (ix y : Val) : (setE s fs f rest v kind ix y).obs.length = s.obs.length := by
  unfold setE
  split
  · exact List.length_set
  · rfl
theorem reckon_len (s : McA) (fs : List FrA) (f : FrA) (rest : List Val) (x y : Val) (z : Int) : (reckonA s fs f rest x y z).obs.length = s.obs.length := by unfold reckonA; split <;> rfl
theorem call_len (g : PgR) (a : Int) (s : McA) (fs : List FrA) (f : FrA) (rest args : List Val) : (callA g a s fs f rest args).obs.length = s.obs.length := by unfold callA; split <;> rfl
theorem return_len (s : McA) (fs : List FrA) (x : Val) : (returnA s fs x).obs.length = s.obs.length := by unfold returnA; split <;> rfl

theorem do_len (g : PgR) (k : Nat) (a : Int) (s : McA) (fs : List FrA) (f : FrA) (rest args : List Val) : (doA g k a s fs f rest args).obs.length = s.obs.length := by
  unfold doA
  split <;> first | rfl | exact reckon_len .. | exact call_len .. | exact return_len .. | exact new_len .. | exact get_len .. | exact set_len .. | (split <;> first | rfl | exact new_len .. | (split <;> first | rfl | exact new_len ..))

theorem step_len (g : PgR) (s : McA) : (stepA g s).obs.length = s.obs.length := by
  unfold stepA
  split
  · rfl
  · exact do_len ..

theorem run_len (g : PgR) : ∀ (n : Nat) (s : McA), (runA g n s).obs.length = s.obs.length
  | 0, _ => rfl
  | n + 1, s => by
    rw [runA]
    split
    · rw [run_len g n, step_len]
    · rfl

end Go.Proofs.YtbkmgoffiigdbabDoor

namespace Go.Proofs.YtbkmgoffiigdbabDoor
open Go.RowKit Go.Sort

/-! The law's own walks: all values of frames, in a list of their own. -/

theorem ValsIn.src {W : World} {B : Nat} {a : Option Addr} {l : List Val} (h : ValsIn W B a l) : 0 < l.length → ∃ d, a = some d ∧ ∀ j u, (vflat l)[j]? = some u → W.cell? (d.add j) = some u := fun h0 => by
  obtain ⟨b, rfl, hb, hc⟩ := h h0
  refine ⟨_, rfl, fun j u hu => ?_⟩
  have hj := (List.getElem?_eq_some_iff.1 hu).1
  rw [vflat_len] at hj
  obtain ⟨x, hx⟩ : ∃ x, l[j / 2]? = some x := ⟨_, List.getElem?_eq_getElem (by omega)⟩
  have hg := flat_get vcells_len hx (show j % 2 < 2 by omega)
  rw [show j / 2 * 2 + j % 2 = j by omega] at hg
  obtain ⟨c0, c1⟩ := hc _ x hx
  have hu' : (vcells x)[j % 2]? = some u := hg.symm.trans hu
  rw [addr_add]
  rcases Nat.mod_two_eq_zero_or_one j with e | e
  · rw [e] at hu'
    rw [show j = j / 2 * 2 by omega, c0]
    exact hu'
  · rw [e] at hu'
    rw [show j = j / 2 * 2 + 1 by omega, c1]
    exact hu'

theorem valuesA_len (l : List FrA) (k : Nat) (h : ∀ f, f ∈ l → f.loc.length ≤ k ∧ f.stk.length ≤ k) : (valuesA l).length ≤ l.length * (2 * k) := by
  induction l with
  | nil => simp [valuesA]
  | cons f l ih =>
    have h1 := ih fun x hx => h x (by simp [hx])
    have h2 := h f (by simp)
    unfold valuesA at h1 ⊢
    simp only [List.flatMap_cons, List.length_append, List.length_cons]
    rw [Nat.add_mul]
    omega
theorem valuesA_take {l : List FrA} {i : Nat} {f : FrA} (h : l[i]? = some f) : valuesA (l.take (i + 1)) = valuesA (l.take i) ++ f.loc ++ f.stk := by
  have e : l.take (i + 1) = l.take i ++ [f] := by rw [List.take_add_one, h]; rfl
  rw [e]
  simp [valuesA, List.append_assoc]

set_option maxRecDepth 100000 in
set_option maxHeartbeats 4000000 in
theorem roots_any (a : Option Addr) (c : Nat) (frs : List FrA) (w : World) (hn : frs.length ≤ 1000) (hf : ∀ f, f ∈ frs → f.loc.length ≤ 1000 ∧ f.stk.length ≤ 1000) (hs : FrsAt w a frs) :
    Calls Tryd.prog 15 #[.slice a frs.length c] w fun e w' => ValsPost (valuesA frs) w e w' := by
  obtain ⟨i101, hi, hz, hsz, hby⟩ := info_parts info101
  have HI := hid hi
  have HZ := hid hz
  have HSZ := hid hsz
  have HBY := hid hby
  have HS := hid hs
  have HF := hid hf
  clear hs hf hi hz hsz hby
  go_enter Tryd.func15, Tryd.ntmps15
  go_wp2_with fail
  go_loopw [3, 4] (fun vl vi wr => ∃ i : Nat, i ≤ frs.length ∧ vi = .int .i64 i ∧ wr.ownsRow w.heap.size 73 2 vl (valuesA (frs.take i)).length (vflat (valuesA (frs.take i))) ∧ Below w.heap.size w wr) (fun _ vi _ => frs.length - (intOf vi).toNat)
  case atStart => exact ⟨0, Nat.zero_le _, rfl, World.ownsRow_nil _ _ _ _, Below.refl _ _⟩
  case round =>
    obtain ⟨i, hi, rfl, hrow, hbel⟩ := hrel
    have HBEL := hid hbel
    have HROW := hid hrow
    by_cases hlt : i < frs.length
    · obtain ⟨f, hf⟩ : ∃ f, frs[i]? = some f := ⟨_, List.getElem?_eq_getElem hlt⟩
      obtain ⟨cb, rfl, hcb, hcs⟩ := HS.out (by omega)
      obtain ⟨la, lc, sa, sc, k2, k3, hl, hs⟩ := hcs i f hf
      have HLS := hid ((hl.later HBEL.out).src)
      have HSS : Hid (∀ W, Below w.heap.size w W → (0 < f.stk.length → ∃ d, sa = some d ∧ ∀ j u, (vflat f.stk)[j]? = some u → W.cell? (d.add j) = some u)) := fun W hW => (hs.later hW).src
      have HK3 := hid k3
      rw [← hbel.cell (p := ⟨cb, _, none⟩) hcb] at k2 k3
      have hlw : cb < wr.heap.size := Nat.lt_of_lt_of_le hcb hbel.size
      have hm := HF.out f (List.mem_of_getElem? hf)
      have hvl := valuesA_len (frs.take i) 1000 fun x hx => HF.out x (List.mem_of_mem_take hx)
      rw [List.length_take] at hvl
      have hvl' : (valuesA (frs.take i)).length ≤ 2000000 := by
        have : min i frs.length * (2 * 1000) ≤ 1000 * (2 * 1000) := Nat.mul_le_mul_right _ (by omega)
        omega
      have HTK := hid (valuesA_take hf)
      clear hrow hbel hf hvl hcs hl hs
      have hwz : w.heap.size ≤ wr.heap.size := HBEL.out.size
      go_wp2_with (at_builtin; go_must (refine wpList_append_any _ rfl (.tmp 11) (.tmp 16) 44 rfl w.heap.size 73 i101 _ 2 16 Tryd.underlying44 HI.out HZ.out HSZ.out HBY.out rfl (by decide) _ (valuesA (frs.take i)).length (vflat (valuesA (frs.take i))) rfl HROW.out la f.loc.length lc (vflat f.loc) rfl (vflat_len _) HLS.out (vflat_one _) (by unfold maxLen; omega) (by omega) (by omega) ?_))
      intro v1 w1 hown1 hgrow1 _
      have hB1 := below_grown HBEL.out HROW.out hgrow1
      have r3 := (hB1.cell (p := ⟨cb, i * 4 + 3, none⟩) hcb).trans HK3.out
      have hw1 : cb < w1.heap.size := Nat.lt_of_lt_of_le hcb hB1.size
      have hz1 : w.heap.size ≤ w1.heap.size := hB1.size
      have HB1 := hid hB1
      have HO1 := hid hown1
      clear hB1 hown1 hgrow1 k2 k3
      go_wp2_with (at_builtin; go_must (refine wpList_append_any _ rfl (.tmp 18) (.tmp 23) 44 rfl w.heap.size 73 i101 _ 2 16 Tryd.underlying44 HI.out HZ.out HSZ.out HBY.out rfl (by decide) _ ((valuesA (frs.take i)).length + f.loc.length) (vflat (valuesA (frs.take i)) ++ vflat f.loc) rfl HO1.out sa f.stk.length sc (vflat f.stk) rfl (vflat_len _) (HSS.out _ HB1.out) (vflat_one _) (by unfold maxLen; omega) (by omega) (by omega) ?_))
      intro v2 w2 hown2 hgrow2 _
      have HB2 := hid (below_grown HB1.out HO1.out hgrow2)
      have HO2 := hid hown2
      clear hown2 hgrow2 r3
      go_wp2_with fail
      go_roundw
      case rel => exact ⟨i + 1, by omega, by go_num, by
        rw [HTK.out, vflat_append, vflat_append, List.length_append, List.length_append, List.append_assoc]
        exact HO2.out, HB2.out⟩
      case measure => simp [intOf]; omega
    · obtain rfl : i = frs.length := by omega
      rw [List.take_length] at HROW
      clear hbel hrow
      go_wp2_with fail
      go_ret
      exact ⟨_, rfl, HROW.out, HBEL.out⟩

end Go.Proofs.YtbkmgoffiigdbabDoor

namespace Go.Proofs.YtbkmgoffiigdbabDoor
open Go.RowKit Go.Sort

/-! How many objects are reached. -/

theorem grown_under {w0 W w' : World} {v : Value} {e size n : Nat} {xs : List Value} (hB : Below w0.heap.size w0 W) (ho : W.ownsRow w0.heap.size e size v n xs) (hg : W.grownBy w' v.ownBlock) : Below w0.heap.size w0 w' := below_grown hB ho hg

set_option maxRecDepth 100000 in
set_option maxHeartbeats 4000000 in
theorem lreach_any (a : Option Addr) (c : Nat) (obs : List Ob) (v : Value) (l : List Val) (w0 w : World) (h0 : 0 < obs.length) (hn : obs.length ≤ 40) (hs : ObsAt w0 a obs) (hB0 : Below w0.heap.size w0 w) (hok : ∀ o, o ∈ obs → OOk obs o) (hl : l.length ≤ 30000) (hlv : ∀ u, u ∈ l → VOk obs u) (hrow : w.ownsRow w0.heap.size 73 2 v l.length (vflat l)) :
    Calls Tryd.prog 14 #[.slice a obs.length c, v] w fun e w' => e = .returned (.int .i64 ((reachedA obs l).length : Int)) ∧ Below w0.heap.size w0 w' := by
  obtain ⟨i101, hi, hz, hsz, hby⟩ := info_parts info101
  have HI := hid hi
  have HZ := hid hz
  have HSZ := hid hsz
  have HBY := hid hby
  obtain ⟨ab, rfl, hab, hcs⟩ := hs h0
  have HCS := hid hcs
  have HOK := hid hok
  have HLV := hid hlv
  have HB0 := hid hB0
  have HROW0 := hid hrow
  obtain ⟨va, vc, rfl⟩ := owns_form hrow
  have hw0 : w0.heap.size ≤ w.heap.size := hB0.size
  have hvb : ∀ b, (Value.slice va l.length vc).ownBlock = some b → b < w.heap.size := fun b hb => (hrow.lt b hb).2
  have HVB := hid hvb
  obtain ⟨i4, hi4, hz4, hs4, hb4⟩ := info_parts info4
  have HMK : Hid (∀ W : World, (Instr.makeSlice 74 (.int .i64 (obs.length : Int)) (.int .i64 (obs.length : Int))).run Tryd.prog W = .ok (.slice (some ⟨W.heap.size, 0, none⟩) obs.length obs.length) (W.alloc (.cells (madeCells #[.bool false] obs.length) 4))) := fun W => by
    have hr := run_make (P := Tryd.prog) W 74 4 i4 _ Tryd.underlying74 hi4 hz4 .i64 .i64 obs.length obs.length (by omega) (Int.le_refl _) (by rw [hb4]; omega) (by omega)
    simpa [hs4, Value.cells] using hr
  have hkn : (w.alloc (.cells (madeCells #[.bool false] obs.length) 4)).ownsRow w0.heap.size 4 1 (.slice (some ⟨w.heap.size, 0, none⟩) obs.length obs.length) obs.length (knownV obs.length []) := by
    have := World.ownsRow_lit (base := w0.heap.size) (e := 4) (size := 1) w (madeCells #[.bool false] obs.length) obs.length hw0 (by unfold maxLen; omega) (by rw [size_madeCells]; simp)
    rw [made_known] at this
    simpa using this
  have HKN := hid hkn
  have hmk := HMK.out
  obtain ⟨rb, hrb⟩ : ∃ rb, rb = w.heap.size := ⟨_, rfl⟩
  clear hs hcs hok hlv hrow hB0 hi hz hsz hby hvb hi4 hz4 hs4 hb4 hkn HMK
  go_enter Tryd.func14, Tryd.ntmps14
  go_wp2_with fail
  go_loopw [1, 6, 7] (fun vr vn vi wr => ∃ (i : Nat) (met : List Nat) (q : List Val), vi = .int .i64 i ∧ vn = .int .i64 (met.length : Int) ∧ i ≤ q.length ∧ Queue obs l i met q ∧ (∀ u, u ∈ q → VOk obs u) ∧ wr.ownsRow w0.heap.size 73 2 vr q.length (vflat q) ∧ vr.ownBlock ≠ some w.heap.size ∧ wr.ownsRow w0.heap.size 4 1 (.slice (some ⟨w.heap.size, 0, none⟩) obs.length obs.length) obs.length (knownV obs.length met) ∧ Below w0.heap.size w0 wr) (fun _ _ vi _ => 40000 - (intOf vi).toNat)
  case atStart => exact ⟨0, [], l, rfl, rfl, Nat.zero_le _, Queue.begin _ _, HLV.out, HROW0.out.alloc _, fun e => Nat.lt_irrefl _ (HVB.out _ e), HKN.out, Below.alloc HB0.out hw0 _⟩
  case round =>
    obtain ⟨i, met, q, rfl, rfl, hiq, hq, hvq, hrow, hne, hkn, hbel⟩ := hrel
    clear hmk HKN HROW0 HVB HB0
    have hml := nodup_len hq.nodup hq.lt
    have hql := hq.len
    have hq3 : q.length ≤ 30500 := by omega
    obtain ⟨ra, rc, rfl⟩ := owns_form hrow
    by_cases hlt : i < q.length
    · obtain ⟨x, hx⟩ : ∃ x, q[i]? = some x := ⟨_, List.getElem?_eq_getElem hlt⟩
      obtain ⟨qb, qc, e, hqB, hqb⟩ := hrow.form (by omega)
      cases e
      have hcell : ∀ j, j < 2 → wr.cell? ⟨qb, i * 2 + j, none⟩ = (vcells x)[j]? := fun j hj => by
        rw [hrow.cellAt _ (by omega)]; exact flat_get vcells_len hx hj
      have x0 : wr.cell? ⟨qb, i * 2, none⟩ = some (.int .u8 x.1) := hcell 0 (by omega)
      have x1 : wr.cell? ⟨qb, i * 2 + 1, none⟩ = some (.int .i64 x.2) := hcell 1 (by omega)
      have hvx := hvq x (List.mem_of_getElem? hx)
      have hwr : w0.heap.size ≤ wr.heap.size := hbel.size
      have HQ := hid hq
      have HVQ := hid hvq
      have HROW := hid hrow
      have HNE := hid hne
      have HKN := hid hkn
      have HBEL := hid hbel
      have HX := hid hx
      by_cases h2 : x.1 = 2
      · obtain ⟨q0, o, ho, hno⟩ := hvx.ref h2
        obtain ⟨j, hj⟩ := Int.eq_ofNat_of_zero_le q0
        have hjt : x.2.toNat = j := by rw [hj]; rfl
        rw [hjt] at ho
        have hjN : j < obs.length := (List.getElem?_eq_some_iff.1 ho).1
        rw [h2] at x0
        rw [hj] at x1
        have kc : wr.cell? ⟨w.heap.size, j, none⟩ = some (.bool (decide (j ∈ met))) := by
          rw [hkn.cellAt j (by omega)]
          unfold knownV
          rw [List.getElem?_map, List.getElem?_range hjN]
          rfl
        have kz := hkn.frozenAt j
        have hrw : w.heap.size < wr.heap.size := (hkn.lt _ rfl).2
        have hqn : qb ≠ w.heap.size := fun e => hne (by rw [← e]; rfl)
        have hok := HOK.out o (List.mem_of_getElem? ho)
        have h12 : o.2.length ≤ 12 := by
          rcases hok with ⟨_, e⟩ | ⟨_, e, _⟩ | ⟨_, e, _⟩ | ⟨_, u, e, _⟩
          · rw [e]; simp
          · omega
          · exact e
          · rw [e]; simp
        have HOKV : Hid (∀ u, u ∈ o.2 → VOk obs u) := fun u hu => hok.vals hu
        by_cases hin : j ∈ met
        · have hd : decide (j ∈ met) = true := decide_eq_true hin
          rw [hd] at kc
          have HSK := hid (hq.skip hx fun _ => by rw [hjt]; exact hin)
          clear hq hvq hrow hne hkn hbel hx hcell hvx
          go_wp2_with fail
          go_roundw
          case rel => exact ⟨i + 1, met, q, by go_num, rfl, by omega, HSK.out, HVQ.out, HROW.out.alloc _, HNE.out, HKN.out.alloc _, Below.alloc HBEL.out hwr _⟩
          case measure => simp [intOf]; omega
        · have hd : decide (j ∈ met) = false := decide_eq_false hin
          rw [hd] at kc
          obtain ⟨k0, fa, fc, k1, hfl⟩ := HCS.out j o ho
          have ab0 := (hbel.cell (p := ⟨ab, _, none⟩) hab).trans k0
          have ab1 := (hbel.cell (p := ⟨ab, _, none⟩) hab).trans k1
          have haw : ab < wr.heap.size := Nat.lt_of_lt_of_le hab hwr
          have habn : ab ≠ w.heap.size := by omega
          have HMT := hid (hq.meet hx h2 (by rw [hjt]; exact hin) (by rw [hjt]; exact ho) h12)
          rw [hjt] at HMT
          have hK1 : ((wr.setCell ⟨w.heap.size, j, none⟩ (.bool true)).alloc (.cells #[.int .u8 2, .int .i64 (j : Int)] 73)).ownsRow w0.heap.size 4 1 (.slice (some ⟨w.heap.size, 0, none⟩) obs.length obs.length) obs.length (knownV obs.length (met ++ [j])) := by
            have h1 := (World.ownsRow.stored hkn j (.bool true)).1
            rw [knownV_set hjN] at h1
            exact h1.alloc _
          have hR1 : ((wr.setCell ⟨w.heap.size, j, none⟩ (.bool true)).alloc (.cells #[.int .u8 2, .int .i64 (j : Int)] 73)).ownsRow w0.heap.size 73 2 (.slice (some ⟨qb, 0, none⟩) q.length rc) q.length (vflat q) := (ownsRow_setCell_other hrow (a := ⟨w.heap.size, j, none⟩) hne _).alloc _
          have hB1 : Below w0.heap.size w0 ((wr.setCell ⟨w.heap.size, j, none⟩ (.bool true)).alloc (.cells #[.int .u8 2, .int .i64 (j : Int)] 73)) := Below.alloc (Below.setCell hbel (p := ⟨w.heap.size, j, none⟩) hw0 _) (by simpa using hwr) _
          have HSRC := hid ((hfl.later hB1).src)
          have HK1 := hid hK1
          have HR1 := hid hR1
          have HB1 := hid hB1
          clear hq hvq hrow hne hkn hbel hx hcell hvx hfl hK1 hR1 hB1 k0 k1
          by_cases h3 : o.1 = 3
          · rw [if_pos h3, List.append_nil] at HMT
            rw [h3] at ab0
            go_wp2_with fail
            go_roundw
            case rel => exact ⟨i + 1, met ++ [j], q, by go_num, by rw [List.length_append]; go_num, by omega, HMT.out, HVQ.out, HR1.out, HNE.out, HK1.out, HB1.out⟩
            case measure => simp [intOf]; omega
          · rw [if_neg h3] at HMT
            go_wp2_with (at_builtin; go_must (refine wpList_append_any _ rfl (.tmp 57) (.tmp 63) 44 rfl w0.heap.size 73 i101 _ 2 16 Tryd.underlying44 HI.out HZ.out HSZ.out HBY.out rfl (by decide) _ q.length (vflat q) rfl HR1.out fa o.2.length fc (vflat o.2) rfl (vflat_len _) HSRC.out (vflat_one _) (by unfold maxLen; omega) (by omega) (by simp; omega) ?_))
            intro v2 w2 hown2 hgrow2 hat2
            have HB2 := hid (grown_under HB1.out HR1.out hgrow2)
            have HO2 := hid hown2
            have HK2 : Hid (w2.ownsRow w0.heap.size 4 1 (.slice (some ⟨w.heap.size, 0, none⟩) obs.length obs.length) obs.length (knownV obs.length (met ++ [j]))) := HK1.out.kept hgrow2 (Or.inr (fun e => HNE.out e.symm))
            have HN2 : Hid (v2.ownBlock ≠ some w.heap.size) := fun e => by
              rcases hat2 _ e with h | h
              · exact HNE.out h
              · first | omega | (simp at h; omega)
            clear hown2 hgrow2 hat2
            go_wp2_with fail
            go_roundw
            case rel => exact ⟨i + 1, met ++ [j], q ++ o.2, by go_num, by rw [List.length_append]; go_num, by rw [List.length_append]; omega, HMT.out, fun u hu => (List.mem_append.1 hu).elim (HVQ.out u) (HOKV.out u), by rw [List.length_append, vflat_append]; exact HO2.out, HN2.out, HK2.out, HB2.out⟩
            case measure => simp [intOf]; omega
      · have HSK := hid (hq.skip hx fun e => absurd e h2)
        clear hq hvq hrow hne hkn hbel hx hcell hvx
        go_wp2_with fail
        go_roundw
        case rel => exact ⟨i + 1, met, q, by go_num, rfl, by omega, HSK.out, HVQ.out, HROW.out.alloc _, HNE.out, HKN.out.alloc _, Below.alloc HBEL.out hwr _⟩
        case measure => simp [intOf]; omega
    · obtain rfl : i = q.length := by omega
      have hwh := hq.whole (fun o ho _ hv h2 => ((HOK.out o ho).vals hv).lt h2) (fun u hu h2 => (HLV.out u hu).lt h2)
      have HBEL := hid hbel
      clear hq hvq hrow hne hkn hbel
      rw [hwh]
      go_wp2_with fail
      go_ret
      exact ⟨rfl, HBEL.out⟩

end Go.Proofs.YtbkmgoffiigdbabDoor

namespace Go.Proofs.YtbkmgoffiigdbabDoor
open Go.RowKit Go.Sort

/-! Whether all references of a heap lead to objects. -/

theorem takenA_take {obs : List Ob} {i : Nat} {o : Ob} (h : obs[i]? = some o) : takenA (obs.take (i + 1)) = takenA (obs.take i) + if o.1 = 0 then 0 else 1 := by
  have e : obs.take (i + 1) = obs.take i ++ [o] := by rw [List.take_add_one, h]; rfl
  unfold takenA
  rw [e, List.filter_append, List.length_append]
  by_cases h0 : o.1 = 0
  · simp [h0]
  · simp [h0]
theorem takenA_le (obs : List Ob) : takenA obs ≤ obs.length := List.length_filter_le _ _

set_option maxRecDepth 100000 in
set_option maxHeartbeats 4000000 in
theorem sound_any (a : Option Addr) (c : Nat) (obs : List Ob) (w : World) (h0 : 0 < obs.length) (hn : obs.length ≤ 40) (hs : ObsAt w a obs) (hok : ∀ o, o ∈ obs → OOk obs o) :
    Calls Tryd.prog 11 #[.slice a obs.length c] w fun e w' => e = .returned (.tuple #[.int .i64 (takenA obs : Int), .bool true]) ∧ Below w.heap.size w w' := by
  obtain ⟨ab, rfl, hab, hcs⟩ := hs h0
  have HOK := hid hok
  have HCS := hid hcs
  clear hs hcs hok
  go_enter Tryd.func11, Tryd.ntmps11
  go_wp2_with fail
  go_loopw [4, 5] (fun vn vi wr => ∃ i : Nat, i ≤ obs.length ∧ vi = .int .i64 i ∧ vn = .int .i64 (takenA (obs.take i) : Int) ∧ Below w.heap.size w wr) (fun _ vi _ => obs.length - (intOf vi).toNat)
  case atStart => exact ⟨0, Nat.zero_le _, rfl, rfl, Below.refl _ _⟩
  case round =>
    obtain ⟨i, hi, rfl, rfl, hbel⟩ := hrel
    by_cases hlt : i < obs.length
    · obtain ⟨o, ho⟩ : ∃ o, obs[i]? = some o := ⟨_, List.getElem?_eq_getElem hlt⟩
      obtain ⟨k0, fa, fc, k1, hfl⟩ := HCS.out i o ho
      have HK0 := hid k0
      have HK1 := hid k1
      rw [← hbel.cell (p := ⟨ab, _, none⟩) hab] at k0 k1
      have haw : ab < wr.heap.size := Nat.lt_of_lt_of_le hab hbel.size
      have HTK := hid (takenA_take ho)
      have htl : takenA (obs.take i) ≤ 40 := Nat.le_trans (takenA_le _) (by rw [List.length_take]; omega)
      have hok := HOK.out o (List.mem_of_getElem? ho)
      have HBEL := hid hbel
      have HFL := hid hfl
      have hwr := hbel.size
      by_cases hz : o.1 = 0
      · have he : o.2.length = 0 := by
          rcases hok with ⟨_, e⟩ | ⟨e, _⟩ | ⟨e, _⟩ | ⟨e, _⟩
          · rw [e]; rfl
          · omega
          · omega
          · omega
        rw [hz] at k0
        rw [he] at k1
        rw [if_pos hz] at HTK
        clear hbel hfl hok ho
        go_wp2_with fail
        go_roundw
        case rel => exact ⟨i + 1, by omega, by go_num, by rw [HTK.out]; rfl, HBEL.out⟩
        case measure => simp [intOf]; omega
      · rw [if_neg hz] at HTK
        have HOV : Hid (∀ u, u ∈ o.2 → VOk obs u) := fun u hu => hok.vals hu
        have hol : o.2.length ≤ 12 := by
          rcases hok with ⟨_, e⟩ | ⟨_, e, _⟩ | ⟨_, e, _⟩ | ⟨_, u, e, _⟩
          · rw [e]; simp
          · omega
          · exact e
          · rw [e]; simp
        clear hbel hfl hok ho
        generalize takenA (obs.take i) = t at *
        go_wp2_with fail
        clear hz
        generalize (o.1 == 0) = bz
        go_loopw [6] (fun vk wr2 => ∃ k : Nat, k ≤ o.2.length ∧ vk = .int .i64 k ∧ Below w.heap.size w wr2) (fun vk _ => o.2.length - (intOf vk).toNat)
        case atStart => exact ⟨0, Nat.zero_le _, rfl, HBEL.out⟩
        case round =>
          obtain ⟨k, hk, rfl, hbel2⟩ := hrel
          clear k0 k1 haw hwr
          have k0 := (hbel2.cell (p := ⟨ab, _, none⟩) hab).trans HK0.out
          have k1 := (hbel2.cell (p := ⟨ab, _, none⟩) hab).trans HK1.out
          have haw : ab < wr.heap.size := Nat.lt_of_lt_of_le hab hbel2.size
          have HB2 := hid hbel2
          have hw2 := hbel2.size
          by_cases hkl : k < o.2.length
          · obtain ⟨v, hv⟩ : ∃ v, o.2[k]? = some v := ⟨_, List.getElem?_eq_getElem hkl⟩
            obtain ⟨fb, rfl, hfb, hcs⟩ := HFL.out (by omega)
            obtain ⟨v0, v1⟩ := hcs k v hv
            rw [← hbel2.cell (p := ⟨fb, _, none⟩) hfb] at v0 v1
            have hfw : fb < wr.heap.size := Nat.lt_of_lt_of_le hfb hbel2.size
            have hvo := HOV.out v (List.mem_of_getElem? hv)
            clear hbel2 hcs hv
            by_cases h2 : v.1 = 2
            · obtain ⟨q0, o', ho', hne'⟩ := hvo.ref h2
              obtain ⟨j, hj⟩ := Int.eq_ofNat_of_zero_le q0
              have hjt : v.2.toNat = j := by rw [hj]; rfl
              rw [hjt] at ho'
              have hjN : j < obs.length := (List.getElem?_eq_some_iff.1 ho').1
              rw [h2] at v0
              rw [hj] at v1
              have m0 := (HB2.out.cell (p := ⟨ab, _, none⟩) hab).trans (HCS.out j o' ho').1
              have hbf : (o'.1 == 0) = false := by simpa using hne'
              clear hvo ho' hjt q0
              go_wp2_with fail
              go_roundw
              case rel => exact ⟨k + 1, by omega, by go_num, Below.alloc HB2.out hw2 _⟩
              case measure => simp [intOf]; omega
            · clear hvo
              go_wp2_with fail
              go_roundw
              case rel => exact ⟨k + 1, by omega, by go_num, Below.alloc HB2.out hw2 _⟩
              case measure => simp [intOf]; omega
          · clear hbel2
            go_wp2_with fail
            go_roundw
            case rel => exact ⟨i + 1, by omega, by go_num, by rw [HTK.out]; go_num, HB2.out⟩
            case measure => simp [intOf]; omega
    · obtain rfl : i = obs.length := by omega
      have HBEL := hid hbel
      clear hbel
      rw [List.take_length]
      go_wp2_with fail
      go_ret2
      exact ⟨rfl, HBEL.out⟩

end Go.Proofs.YtbkmgoffiigdbabDoor

namespace Go.Proofs.YtbkmgoffiigdbabDoor
open Go.RowKit Go.Sort

/-! Draw, Collect. -/

def DrawPost (own : Own) (mb : Nat) (g : PgR) (R : McR) (l : List Int) (w : World) (e : Ending) (w' : World) : Prop :=
  ∃ own' dv, e = .returned (.int .i64 0) ∧ MachAt w' own' mb g { R with dv := dv, dr := R.dr ++ l } ∧ Touched own w own' w'

theorem draws_end {own : Own} {mb : Nat} {g : PgR} {R : McR} {l : List Int} {w W w5 : World} {v : Value} (hm : MachAt w own mb g R) (hB : Below w.heap.size w W) (hgrow : W.grownBy w5 R.dv.ownBlock)
    (hown : w5.ownsRow 0 3 1 v (R.dr.length + l.length) ((R.dr.map fun n => .int .i64 n) ++ l.map fun n => .int .i64 n)) (hat : ∀ gb, v.ownBlock = some gb → R.dv.ownBlock = some gb ∨ gb = W.heap.size) :
    w5.frozen? ⟨mb, 5, none⟩ = false ∧ w5.cell? ⟨mb, 5, none⟩ = some R.dv ∧ mb < w5.heap.size ∧ DrawPost own mb g R l w (.returned (.int .i64 0)) (w5.setCell ⟨mb, 5, none⟩ v) := by
  have hmb : mb < w.heap.size := hm.lt mb _ hm.me
  have hob : ∀ b, R.dv.ownBlock = some b → own b = some .draws := hm.draws.2
  have hnm : R.dv.ownBlock ≠ some mb := fun e => by have := hob mb e; rw [hm.me] at this; cases this
  have hgm : v.ownBlock ≠ some mb := fun e => by
    rcases hat mb e with h1 | h1
    · exact hnm h1
    · have := hB.size; omega
  have hsz : w.heap.size ≤ w5.heap.size := Nat.le_trans hB.size hgrow.size
  have hon : OldOrNew w own v .draws := fun b hb => by
    rcases hat b hb with h1 | h1
    · exact Or.inl (hob b h1)
    · exact Or.inr (by have := hB.size; omega)
  have hblk : ∀ k, k < w.heap.size → own k ≠ some .draws → w5.heap[k]? = w.heap[k]? := fun k hk ho => by
    rw [hgrow.block k (Nat.lt_of_lt_of_le hk hB.size) (fun e => ho (hob k e.symm)), hB.block k hk]
  have hmblk := hblk mb hmb (by rw [hm.me]; simp)
  have hfz : ∀ j, w5.frozen? ⟨mb, j, none⟩ = false := fun j => by rw [World.frozen?_of_block (w := w) (a := ⟨mb, j, none⟩) hmblk]; exact hm.fz j
  have hc5 : w5.cell? ⟨mb, 5, none⟩ = some R.dv := by rw [World.cell?_of_block (w := w) (a := ⟨mb, 5, none⟩) hmblk]; exact hm.c5
  have hmb5 : mb < w5.heap.size := by omega
  have hM : MachAt (w5.setCell ⟨mb, 5, none⟩ v) (own.upd v.ownBlock .draws) mb g { R with dv := v, dr := R.dr ++ l } := by
    refine MachAt.setDraws (v := v) (l := R.dr ++ l) hm (by simpa using hsz) (fun k hk h1 h2 => ?_) (fun j hj => ?_) ?_ (fun j => ?_) ?_ hon
    · rw [heap_setCell_other _ _ _ _ h1]; exact hblk k hk h2
    · rw [← World.cell?_of_block (w := w) (w' := w5) (a := ⟨mb, j, none⟩) hmblk]
      go_simp
    · go_simp
    · have := hfz j
      go_simp
    · have := ownsRow_setCell_other hown (a := ⟨mb, 5, none⟩) hgm v
      simpa using this
  refine ⟨hfz 5, hc5, hmb5, own.upd v.ownBlock .draws, v, rfl, hM, ⟨?_, ?_, ?_, by simpa using hsz, fun k hk hno => ?_, fun k hk => Own.upd_old hon hk⟩⟩
  · exact hgrow.os.trans hB.os
  · exact hgrow.tape.trans hB.tape
  · exact hgrow.output.trans hB.output
  · rw [heap_setCell_other _ _ _ _ (fun e => by rw [e, hm.me] at hno; cases hno)]
    exact hblk k hk (by rw [hno]; simp)

/-- Numbers in memory, at some place. -/
def NumsE (w : World) (a : Option Addr) (l : List Int) : Prop := 0 < l.length → ∃ b o, a = some ⟨b, o, none⟩ ∧ b < w.heap.size ∧ ∀ (i : Nat) (x : Int), l[i]? = some x → w.cell? ⟨b, o + i, none⟩ = some (.int .i64 x)

set_option maxRecDepth 100000 in
set_option maxHeartbeats 2000000 in
theorem addDraws_any {own : Own} {mb : Nat} {g : PgR} {R : McR} {w : World} (h : MachAt w own mb g R) (a : Option Addr) (c : Nat) (l : List Int) (hl : NumsE w a l) (hn : R.dr.length + l.length ≤ 200) :
    Calls Tryd.prog 23 #[.pointer (some ⟨mb, 4, none⟩), .slice a l.length c] w fun e w' => DrawPost own mb g R l w e w' := by
  have c5 := h.c5
  have hmb : mb < w.heap.size := h.lt mb _ h.me
  have hlen : ∃ va' cc, R.dv = .slice va' R.dr.length cc := by
    rcases h.draws.1.2 with ⟨e, e0⟩ | ⟨gb, cap, _, e, _⟩
    · exact ⟨none, 0, by rw [e, e0]⟩
    · exact ⟨_, _, e⟩
  obtain ⟨va', cc, hdv⟩ := hlen
  have HO := hid h.draws.1
  rw [hdv] at c5
  have HDV := hid hdv
  have HH := hid h
  have HNEWS : Hid (∀ W, Below w.heap.size w W → 0 < l.length → ∃ d, a = some d ∧ ∀ j u, (l.map fun n => Value.int .i64 n)[j]? = some u → W.cell? (d.add j) = some u) := fun W hW h0 => by
    obtain ⟨b, o, h1, h2, h3⟩ := hl h0
    refine ⟨_, h1, fun j u hu => ?_⟩
    rw [List.getElem?_map] at hu
    obtain ⟨x, hx, rfl⟩ := Option.map_eq_some_iff.1 hu
    have := (hW.cell (p := ⟨b, o + j, none⟩) h2).trans (h3 j x hx)
    cases j with
    | zero => simpa [Addr.add] using this
    | succ j => simpa [Addr.add] using this
  have hn' : ¬ (200 : Int) < (R.dr.length : Int) + (l.length : Int) := by omega
  have hwr : IntKind.i64.wrap ((R.dr.length : Int) + (l.length : Int)) = (R.dr.length : Int) + (l.length : Int) := Go.IntWalk.i64_in _ (by omega)
  clear h hdv hl
  obtain ⟨i3, hi, hz, hsz, hby⟩ := info_parts info3
  have HI := hid hi
  have HZ := hid hz
  have HSZ := hid hsz
  have HBY := hid hby
  clear hi hz hsz hby
  go_enter Tryd.func23, Tryd.ntmps23
  go_wp2_with (at_builtin; go_must (refine wpList_append_any _ rfl (.tmp 18) (.tmp 19) 22 rfl 0 3 i3 _ 1 8 Tryd.underlying22 HI.out HZ.out HSZ.out HBY.out rfl (by decide) R.dv R.dr.length (R.dr.map fun n => .int .i64 n) (by rw [HDV.out]; rfl) HO.out a l.length c (l.map fun n => .int .i64 n) rfl (by simp) (HNEWS.out _ (Below.refl _ _)) (by intro u hu; obtain ⟨n, _, rfl⟩ := List.mem_map.1 hu; rfl) (by unfold maxLen; omega) (by omega) (Nat.zero_le _) ?_))
  intro v' w5 hown5 hgrow5 hat5
  obtain ⟨y0, y1, y2, hP⟩ := draws_end HH.out (Below.refl _ _) hgrow5 hown5 hat5
  have HP := hid hP
  rw [HDV.out] at y1
  obtain ⟨va5, cc5, hv5⟩ : ∃ va5 cc5, v' = .slice va5 (R.dr.length + l.length) cc5 := by
    rcases hown5.2 with ⟨e, e0⟩ | ⟨gb, cap, _, e, _⟩
    · exact ⟨none, 0, by rw [e, e0]⟩
    · exact ⟨_, _, e⟩
  subst hv5
  clear hown5 hgrow5 hat5 hP
  go_wp2_with fail
  go_ret
  exact HP.out

set_option maxHeartbeats 1000000 in
theorem Draw_any {own : Own} {mb : Nat} {g : PgR} {R : McR} {w : World} (h : MachAt w own mb g R) (a : Option Addr) (c : Nat) (l : List Int) (hl : NumsE w a l) (hn : R.dr.length + l.length ≤ 200) :
    Calls Tryd.prog 6 #[.pointer (some ⟨mb, 0, none⟩), .slice a l.length c] w fun e w' => DrawPost own mb g R l w e w' := by
  have HA := hid (addDraws_any h a c l hl hn)
  have hmb : mb < w.heap.size := h.lt mb _ h.me
  clear h hl
  go_enter Tryd.func6, Tryd.ntmps6
  go_wp2_with (go_at_call 23; refine HA.out.mono ?_; rintro e w2 ⟨own', dv, rfl, hm, ht⟩)
  go_ret
  exact ⟨own', dv, rfl, hm, ht⟩

set_option maxHeartbeats 1000000 in
theorem Collect_any {own : Own} {mb : Nat} {g : PgR} {R : McR} {w : World} (h : MachAt w own mb g R) (ho : HeapOk R) (hal : (aliveA R.abs).length ≤ 1000) :
    Calls Tryd.prog 17 #[.pointer (some ⟨mb, 0, none⟩)] w fun e w' => CollectPost own mb g R w e w' := by
  have HA := hid (collect_any h ho hal)
  have hmb : mb < w.heap.size := h.lt mb _ h.me
  clear h
  go_enter Tryd.func17, Tryd.ntmps17
  go_wp2_with (go_at_call 28; refine HA.out.mono ?_; rintro e w2 ⟨rfl, hm, ht⟩)
  go_ret
  exact ⟨rfl, hm, ht⟩

end Go.Proofs.YtbkmgoffiigdbabDoor

namespace Go.Proofs.YtbkmgoffiigdbabDoor
open Go.RowKit Go.Sort

/-! What Tidy calls. -/

/-- A list of numbers in memory. -/
def RawL (B : Nat) (w : World) (a : Option Addr) (n b o : Nat) (R : Nat → Int) : Prop :=
  n ≤ 1152921504606846976 ∧ (0 < n → a = some ⟨b, o, none⟩ ∧ b < B ∧ ∀ i, i < n → w.cell? ⟨b, o + i, none⟩ = some (.int .i64 (R i)))

set_option maxHeartbeats 1000000 in
theorem some200_few (a : Option Addr) (n c : Nat) (w : World) (h : ¬ 200 < n) : Calls Tryd.prog 7 #[.slice a n c, .int .i64 200] w fun e w' => e = .returned (.slice a n c) ∧ w' = w := by
  have h' : ¬ (200 : Int) < (n : Int) := by omega
  go_enter Tryd.func7, Tryd.ntmps7
  go_wp2
  go_ret
  exact ⟨rfl, rfl⟩

set_option maxHeartbeats 1000000 in
theorem some200_many (b o n c : Nat) (w : World) (h : 200 < n) (hc : n ≤ c) : Calls Tryd.prog 7 #[.slice (some ⟨b, o, none⟩) n c, .int .i64 200] w fun e w' => e = .returned (.slice (some ⟨b, o, none⟩) 200 c) ∧ w' = w := by
  have h' : (200 : Int) < (n : Int) := by omega
  have h6 : 200 ≤ c := by omega
  go_enter Tryd.func7, Tryd.ntmps7
  go_wp2
  go_ret
  exact ⟨rfl, rfl⟩

/-- The first two hundred numbers. -/
theorem some200_any {B : Nat} {w : World} {a : Option Addr} {n c b o : Nat} {R : Nat → Int} (hr : RawL B w a n b o R) (hB : B ≤ w.heap.size) (hc : n ≤ c) :
    ∃ l : List Int, l.length = min n 200 ∧ NumsE w a l ∧ ∀ W, Calls Tryd.prog 7 #[.slice a n c, .int .i64 200] W fun e w' => e = .returned (.slice a l.length c) ∧ w' = W := by
  refine ⟨(List.range (min n 200)).map R, by simp, fun h0 => ?_, fun W => ?_⟩
  · have h0' : 0 < n := by simp at h0; omega
    obtain ⟨h1, h2, h3⟩ := hr.2 h0'
    refine ⟨b, o, h1, by omega, fun i x hx => ?_⟩
    have hi := (List.getElem?_eq_some_iff.1 hx).1
    simp at hi
    rw [List.getElem?_map, List.getElem?_range (by omega)] at hx
    cases hx
    exact h3 i (by omega)
  · rw [List.length_map, List.length_range]
    by_cases h : 200 < n
    · obtain ⟨rfl, _⟩ := hr.2 (by omega)
      rw [show min n 200 = 200 by omega]
      exact some200_many b o n c W h hc
    · rw [show min n 200 = n by omega]
      exact some200_few a n c W h

/-- Draws more, as the plain machine has it. -/
theorem Draw_is {own : Own} {mb : Nat} {g : PgR} {R : McR} {s : McA} {w : World} (h : MachAt w own mb g R) (his : Is g s R) (a : Option Addr) (c : Nat) (l : List Int) (hl : NumsE w a l) (hn : s.dr.length + l.length ≤ 200) :
    Calls Tryd.prog 6 #[.pointer (some ⟨mb, 0, none⟩), .slice a l.length c] w fun e w' => ∃ own' R', e = .returned (.int .i64 0) ∧ MachAt w' own' mb g R' ∧ Is g { s with dr := s.dr ++ l } R' ∧ Touched own w own' w' := by
  obtain ⟨rfl, hq⟩ := his
  refine (Draw_any h a c l hl hn).mono ?_
  rintro e w' ⟨own', dv, he, hm, ht⟩
  exact ⟨own', _, he, hm, ⟨rfl, hq⟩, ht⟩

theorem Collect_is {own : Own} {mb : Nat} {g : PgR} {R : McR} {s : McA} {w : World} (hp : PgOk g) (h : MachAt w own mb g R) (his : Is g s R) (hi : InvA g s) :
    Calls Tryd.prog 17 #[.pointer (some ⟨mb, 0, none⟩)] w fun e w' => ∃ (R' : McR), e = .returned (.int .i64 ((takenA s.obs : Int) - (takenA (collectA s).obs : Int))) ∧ MachAt w' own mb g R' ∧ Is g (collectA s) R' ∧ Touched own w own w' := by
  obtain ⟨rfl, hq⟩ := his
  refine (Collect_any h (hi.heapOk hp) hi.alive_len).mono ?_
  rintro e w' ⟨he, hm, ht⟩
  have e1 : taken R.obs = takenA R.abs.obs := taken_abs R.obs
  have e2 : taken (sweepR R.obs (aliveA R.abs)) = takenA (collectA R.abs).obs := by
    rw [← swept_abs R]
    exact taken_abs (swept R).obs
  rw [e1, e2] at he
  exact ⟨swept R, he, hm, ⟨swept_abs R, hq⟩, ht.touched⟩

end Go.Proofs.YtbkmgoffiigdbabDoor

namespace Go.Proofs.YtbkmgoffiigdbabDoor
open Go.RowKit Go.Sort

/-! A machine that stands, and what is asked of it, in one piece. -/

structure HM (w0 w : World) (own : Own) (ma : Nat) (g : PgR) (R : McR) (s : McA) : Prop where
  m : MachAt w own ma g R
  is : Is g s R
  inv : InvA g s
  no : ∀ k t, own k = some t → w0.heap.size ≤ k
  bel : Below w0.heap.size w0 w

theorem HM.later {w0 w W : World} {own : Own} {ma : Nat} {g : PgR} {R : McR} {s : McA} (h : HM w0 w own ma g R s) (hB : Below w.heap.size w W) : HM w0 W own ma g R s :=
  ⟨h.m.same hB.size fun k hk => hB.block k hk, h.is, h.inv, h.no, below_via' hB h.bel⟩

theorem HM.touched {w0 w w' : World} {own own' : Own} {ma : Nat} {g : PgR} {R R' : McR} {s s' : McA} (h : HM w0 w own ma g R s) (hm : MachAt w' own' ma g R') (his : Is g s' R') (hi : InvA g s') (ht : Touched own w own' w') : HM w0 w' own' ma g R' s' := by
  refine ⟨hm, his, hi, fun k t hk => ?_, h.bel.trans (ht.below h.bel.size fun k hk => ?_)⟩
  · rcases Nat.lt_or_ge k w.heap.size with hl | hl
    · rw [ht.old k hl] at hk; exact h.no k t hk
    · exact Nat.le_trans h.bel.size hl
  · cases e : own k with
    | none => rfl
    | some t => have := h.no k t e; omega

/-- What is left alone: what lay there and is not the machine's. -/
def Spared (own : Own) (w w' : World) : Prop := w.heap.size ≤ w'.heap.size ∧ ∀ k, k < w.heap.size → own k = none → w'.heap[k]? = w.heap[k]?

theorem HM.run {w0 w : World} {own : Own} {ma : Nat} {g : PgR} {R : McR} {s : McA} (h : HM w0 w own ma g R s) (hp : PgOk g) (f : Nat) (hf : f ≤ 10000) :
    Calls Tryd.prog 8 #[.pointer (some ⟨ma, 0, none⟩), .int .i64 (f : Int)] w fun e w' => e = .returned (.tuple #[.int .i64 (stepsA g f s : Int), .int .i64 0]) ∧ (∃ own' R', HM w0 w' own' ma g R' (runA g f s)) ∧ Spared own w w' := by
  refine (run_total hp h.inv h.is h.m f hf).mono ?_
  rintro e w' ⟨own', R', rfl, hm, his, ht⟩
  exact ⟨rfl, ⟨own', R', h.touched hm his (inv_run hp f h.inv) ht⟩, ht.size, ht.block⟩

theorem HM.status {w0 w : World} {own : Own} {ma : Nat} {g : PgR} {R : McR} {s : McA} (h : HM w0 w own ma g R s) :
    Calls Tryd.prog 12 #[.pointer (some ⟨ma, 0, none⟩)] w fun e w' => e = .returned (.agg #[.int .i64 s.st, .int .i64 (takenA s.obs : Int), .int .i64 (s.dr.length : Int)]) ∧ Below w.heap.size w w' := by
  obtain ⟨rfl, _⟩ := h.is
  have hl : R.abs.obs.length = R.obs.length := by simp [McR.abs]
  have hcp := h.inv.cap
  have := Status_any h.m (by omega) (by omega)
  rw [taken_abs] at this
  exact this

theorem HM.output {w0 w : World} {own : Own} {ma : Nat} {g : PgR} {R : McR} {s : McA} (h : HM w0 w own ma g R s) :
    Calls Tryd.prog 29 #[.pointer (some ⟨ma, 0, none⟩)] w fun e w' => (∃ a c, e = .returned (.slice a s.out.length c) ∧ IntsAt w' a s.out) ∧ Below w.heap.size w w' := by
  obtain ⟨rfl, hnil⟩ := h.is
  have ho := h.inv.out
  have e : R.abs.out = R.out := rfl
  rw [e] at ho
  exact (Output_any h.m (by omega) hnil).mono fun _ _ h => outPost_ints h

theorem HM.collect {w0 w : World} {own : Own} {ma : Nat} {g : PgR} {R : McR} {s : McA} (h : HM w0 w own ma g R s) (hp : PgOk g) :
    Calls Tryd.prog 17 #[.pointer (some ⟨ma, 0, none⟩)] w fun e w' => e = .returned (.int .i64 ((takenA s.obs : Int) - (takenA (collectA s).obs : Int))) ∧ (∃ R', HM w0 w' own ma g R' (collectA s)) ∧ Spared own w w' := by
  refine (Collect_is hp h.m h.is h.inv).mono ?_
  rintro e w' ⟨R', rfl, hm, his, ht⟩
  exact ⟨rfl, ⟨R', h.touched hm his (inv_collect h.inv) ht⟩, ht.size, ht.block⟩

theorem HM.draw {w0 w : World} {own : Own} {ma : Nat} {g : PgR} {R : McR} {s : McA} (h : HM w0 w own ma g R s) (a : Option Addr) (c : Nat) (l : List Int) (hl : NumsE w a l) (hn : s.dr.length + l.length ≤ 200) :
    Calls Tryd.prog 6 #[.pointer (some ⟨ma, 0, none⟩), .slice a l.length c] w fun e w' => e = .returned (.int .i64 0) ∧ ∃ own' R', HM w0 w' own' ma g R' { s with dr := s.dr ++ l } := by
  refine (Draw_is h.m h.is a c l hl hn).mono ?_
  rintro e w' ⟨own', R', rfl, hm, his, ht⟩
  have hi := h.inv
  exact ⟨rfl, own', R', h.touched hm his ⟨hi.run, hi.frs, hi.depth, hi.vals, hi.obs, hi.cap, hi.out, by simpa using hn⟩ ht⟩

theorem NumsE.later {w W : World} {a : Option Addr} {l : List Int} (h : NumsE w a l) (hB : Below w.heap.size w W) : NumsE W a l := fun h0 => by
  obtain ⟨b, o, e, hb, hc⟩ := h h0
  exact ⟨b, o, e, Nat.lt_of_lt_of_le hb hB.size, fun i x hx => (hB.cell (p := ⟨b, o + i, none⟩) hb).trans (hc i x hx)⟩

theorem Spared.cell {own : Own} {w w' : World} (h : Spared own w w') {b i : Nat} {v : Value} (hb : b < w.heap.size) (ho : own b = none) (hc : w.cell? ⟨b, i, none⟩ = some v) : w'.cell? ⟨b, i, none⟩ = some v := by
  rw [World.cell?_of_block (w := w) (a := ⟨b, i, none⟩) (h.2 b hb ho)]; exact hc

theorem Is.of_begun {g g' : PgR} {cap : Nat} {R : McR} (hb : Begun g cap R) (l : Nat) (hl : (g.f 0).l = l) : Is g' ⟨0, [], [⟨0, 0, List.replicate l (0, 0), []⟩], List.replicate cap (0, []), []⟩ R := by
  have := begun_is hb
  rw [hl, Int.toNat_natCast] at this
  exact ⟨this.1, this.2⟩

theorem inv_of_begun {g : PgR} (hp : PgOk g) {cap : Nat} (h1 : 1 ≤ cap) (h40 : cap ≤ 40) (l : Nat) (hl : (g.f 0).l = l) : InvA g ⟨0, [], [⟨0, 0, List.replicate l (0, 0), []⟩], List.replicate cap (0, []), []⟩ := by
  have := inv_begin hp h1 h40
  rw [hl, Int.toNat_natCast] at this
  exact this

end Go.Proofs.YtbkmgoffiigdbabDoor

namespace Go.Proofs.YtbkmgoffiigdbabDoor
open Go.RowKit Go.Sort

/-- The program that is made, and that Check takes it. -/
def MadeProg (w : World) (e : Ending) (w' : World) : Prop :=
  ∃ g : PgR, e = .returned (.agg #[.slice g.a g.n g.c]) ∧ PgIn w'.heap.size w' g ∧ CheckIs g 0 0 ∧ Below w.heap.size w w'

theorem made_prog (a : Option Addr) (n c b o : Nat) (R : Nat → Int) (again : Bool) (w : World) (hr : RawIn w.heap.size w a n b o R) (hc : n ≤ c) :
    Calls Tryd.prog 5 #[.slice a n c, .bool again] w fun e w' => MadeProg w e w' := by
  have hs1 := seg_body R (min (n / 2) 6)
  have hs2 := seg_body (fun i => R (n / 2 + i)) (min (n - n / 2) 6)
  have hl1 := bodyTo_len R (min (n / 2) 6)
  have hl2 := bodyTo_len (fun i => R (n / 2 + i)) (min (n - n / 2) 6)
  refine (program_any a n c b o R again w hr hc).mono ?_
  rintro e w' ⟨pb, b1, c1, sb, b2, c2, he, hP, k1, k2, k3, k4, k5, _, _, k8, k9⟩
  obtain ⟨H1, hS1⟩ := hs1
  obtain ⟨H2, hS2⟩ := hs2
  exact ⟨_, he, hP, made_taken hS1 (by omega) hS2 (by omega) again, k9⟩

end Go.Proofs.YtbkmgoffiigdbabDoor
