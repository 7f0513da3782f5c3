import Derived.Test.YtiejbnfjdobpcaaDoorOE
import Derived.Lib.SliceRun
namespace Go.Proofs.YtiejbnfjdobpcaaDoor
open Go.RowKit Go.Sort

/-! Draws: rest, slices.Delete, choose. -/

theorem tmod_rest (d : Int) {n : Nat} (hn : 0 < n) : (d.tmod (n : Int) + (n : Int)).tmod (n : Int) = d % (n : Int) := by
  have hn' : (0 : Int) < (n : Int) := by omega
  have h1 : 0 ≤ d.tmod (n : Int) + (n : Int) := by have := Int.lt_tmod_of_pos d hn'; omega
  rw [Int.tmod_eq_emod_of_nonneg h1, Int.add_emod_right]
  have h2 := Int.mul_tdiv_add_tmod d (n : Int)
  have h3 : d.tmod (n : Int) = d - (n : Int) * d.tdiv (n : Int) := by omega
  rw [h3, Int.sub_mul_emod_self_left]
theorem tmod_rest' (d : Int) {n : Nat} (hn : 0 < n) : (d.tmod (n : Int) + (n : Int)) % (n : Int) = d % (n : Int) := by
  have h1 : 0 ≤ d.tmod (n : Int) + (n : Int) := by have := Int.lt_tmod_of_pos d (show (0 : Int) < (n : Int) by omega); omega
  rw [← Int.tmod_eq_emod_of_nonneg h1]
  exact tmod_rest d hn

def setL {α : Type} : List α → Nat → List α → List α
  | xs, _, [] => xs
  | xs, o, v :: vs => setL (xs.set o v) (o + 1) vs

theorem setL_len {α : Type} : ∀ (vs xs : List α) (o : Nat), (setL xs o vs).length = xs.length
  | [], _, _ => rfl
  | v :: vs, xs, o => by rw [setL, setL_len vs]; simp

theorem setL_at {α : Type} : ∀ (vs pre ys : List α), vs.length ≤ ys.length → setL (pre ++ ys) pre.length vs = pre ++ vs ++ ys.drop vs.length
  | [], pre, ys, _ => by simp [setL]
  | v :: vs, pre, [], h => by simp at h
  | v :: vs, pre, y :: ys, h => by
    have e : (pre ++ y :: ys).set pre.length v = (pre ++ [v]) ++ ys := by simp
    have := setL_at vs (pre ++ [v]) ys (by simpa using h)
    rw [setL, e, show pre.length + 1 = (pre ++ [v]).length by simp, this]
    simp

theorem owns_setCells {e n b cap : Nat} : ∀ (vs xs : List Value) (o : Nat) (w : World), w.ownsRow 0 e 1 (.slice (some ⟨b, 0, none⟩) n cap) n xs → (w.setCells b o vs).ownsRow 0 e 1 (.slice (some ⟨b, 0, none⟩) n cap) n (setL xs o vs)
  | [], _, _, _, h => h
  | v :: vs, _, o, _, h => owns_setCells vs _ (o + 1) _ (World.ownsRow.stored h o v).1

theorem size_setCells' (b : Nat) : ∀ (vs : List Value) (o : Nat) (w : World), (w.setCells b o vs).heap.size = w.heap.size
  | [], _, _ => rfl
  | v :: vs, o, w => by
    show ((w.setCell ⟨b, o, none⟩ v).setCells b (o + 1) vs).heap.size = _
    rw [size_setCells' b vs]; simp
theorem heap_setCells' (b : Nat) : ∀ (vs : List Value) (o : Nat) (w : World) (k : Nat), k ≠ b → (w.setCells b o vs).heap[k]? = w.heap[k]?
  | [], _, _, _, _ => rfl
  | v :: vs, o, w, k, h => by
    show ((w.setCell ⟨b, o, none⟩ v).setCells b (o + 1) vs).heap[k]? = _
    rw [heap_setCells' b vs _ _ _ h, heap_setCell_other _ _ _ _ h]
theorem rest_setCells' (b : Nat) : ∀ (vs : List Value) (o : Nat) (w : World), (w.setCells b o vs).os = w.os ∧ (w.setCells b o vs).tape = w.tape ∧ (w.setCells b o vs).output = w.output
  | [], _, _ => ⟨rfl, rfl, rfl⟩
  | v :: vs, o, w => by
    show ((w.setCell ⟨b, o, none⟩ v).setCells b (o + 1) vs).os = _ ∧ ((w.setCell ⟨b, o, none⟩ v).setCells b (o + 1) vs).tape = _ ∧ ((w.setCell ⟨b, o, none⟩ v).setCells b (o + 1) vs).output = _
    exact rest_setCells' b vs (o + 1) (w.setCell ⟨b, o, none⟩ v)

set_option maxHeartbeats 1000000 in
theorem rest_any (d : Int) (n : Nat) (h1 : 1 ≤ n) (h2 : n ≤ 1000) (w : World) :
    Calls Tryd.prog 160 #[.int .i64 d, .int .i64 (n : Int)] w fun e w' => e = .returned (.int .i64 (d % (n : Int))) ∧ ∃ m, w' = w.drewN m := by
  have hb1 := Int.lt_tmod_of_pos d (show (0 : Int) < (n : Int) by omega)
  have hb2 := Int.tmod_lt_of_pos d (show (0 : Int) < (n : Int) by omega)
  have hr := tmod_rest' d h1
  have hb3 := Int.emod_nonneg d (show (n : Int) ≠ 0 by omega)
  have hb4 := Int.emod_lt_of_pos d (show (0 : Int) < (n : Int) by omega)
  have HR := hid hr
  clear hr
  go_enter Tryd.func160, Tryd.ntmps160
  go_wp2
  all_goals go_ret
  all_goals exact ⟨congrArg (fun x => Ending.returned (Value.int .i64 x)) HR.out, 0, rfl⟩

/-- A number is taken off the front. -/
def DelPost (b cap : Nat) (xs : List Value) (w : World) (e : Ending) (w' : World) : Prop :=
  e = .returned (.slice (some ⟨b, 0, none⟩) xs.length cap) ∧ w'.ownsRow 0 3 1 (.slice (some ⟨b, 0, none⟩) xs.length cap) xs.length xs ∧ w'.heap.size = w.heap.size ∧ (∀ k, k ≠ b → w'.heap[k]? = w.heap[k]?) ∧ w'.os = w.os ∧ w'.tape = w.tape ∧ w'.output = w.output

theorem zero3 : Tryd.t3.zero = some (.int .i64 0) := by kernel_rfl
theorem info3z : ∀ w : World, (zeroValue 3).run Tryd.prog w = .ok (.int .i64 0) w := fun w => by simp [zeroValue, zero3]

set_option maxHeartbeats 4000000 in
set_option maxRecDepth 1000000 in
theorem delete_any (b cap : Nat) (x : Value) (xs : List Value) (w : World) (h : w.ownsRow 0 3 1 (.slice (some ⟨b, 0, none⟩) (xs.length + 1) cap) (xs.length + 1) (x :: xs)) (h1 : ∀ u ∈ xs, u.oneCell' = true) (hn : xs.length ≤ 1000) :
    Calls Tryd.prog 161 #[.slice (some ⟨b, 0, none⟩) (xs.length + 1) cap, .int .i64 0, .int .i64 1] w fun e w' => DelPost b cap xs w e w' := by
  obtain ⟨i3, hi, hz, hsz, hby⟩ := info_parts info3
  obtain ⟨hcap, hlt⟩ := owns_cap h
  have hmax : cap ≤ maxLen := by
    rcases h.2 with ⟨h0, _⟩ | ⟨g', cap', cur, hv, _, _, _, h4, _⟩
    · cases h0
    · cases hv; exact h4
  have hmax' : cap ≤ 9223372036854775807 := by unfold maxLen at hmax; exact hmax
  have hcell : ∀ j u, (x :: xs)[j]? = some u → w.cell? ⟨b, j, none⟩ = some u := fun j u hu => by
    have hj := (List.getElem?_eq_some_iff.1 hu).1
    rw [h.cellAt j (by simpa using hj)]; exact hu
  obtain ⟨A, hA, hsrc⟩ : ∃ A : Addr, (if cap = 1 then some (⟨b, 0, none⟩ : Addr) else some ⟨b, 1, none⟩) = some A ∧ Hid (∀ t u, xs[t]? = some u → w.drew.cell? (A.add t) = some u) := by
    by_cases hc : cap = 1
    · refine ⟨⟨b, 0, none⟩, by simp [hc], fun t u hu => ?_⟩
      have h0 : xs.length = 0 := by omega
      rw [List.length_eq_zero_iff.1 h0] at hu
      simp at hu
    · refine ⟨⟨b, 1, none⟩, by simp [hc], fun t u hu => ?_⟩
      have e : (⟨b, 1, none⟩ : Addr).add t = ⟨b, 1 + t, none⟩ := by unfold Addr.add; split <;> simp_all
      rw [e]
      exact hcell (1 + t) u (by rw [Nat.add_comm]; simpa using hu)
  have s1 : Hid (xs.length = xs.length * 1) := (Nat.mul_one _).symm
  have s2 : Hid (∀ u ∈ xs, u.oneCell' = true) := h1
  have s3 : Hid (∀ t, t < xs.length → (w.drew.cell? ⟨b, 0 + 0 * 1 + t, none⟩).isSome = true ∧ w.drew.frozen? ⟨b, 0 + 0 * 1 + t, none⟩ = false) := fun t ht => by
    rw [show 0 + 0 * 1 + t = t by omega]
    refine ⟨?_, h.frozenAt t⟩
    show (w.cell? _).isSome = true
    rw [hcell t _ (List.getElem?_eq_getElem (by simp; omega))]
    rfl
  have o1 : (w.drew.setCells b (0 + 0 * 1) xs).ownsRow 0 3 1 (.slice (some ⟨b, 0, none⟩) (xs.length + 1) cap) (xs.length + 1) (setL (x :: xs) (0 + 0 * 1) xs) := owns_setCells xs _ _ _ h.drew
  obtain ⟨y, hy⟩ : ∃ y, setL (x :: xs) (0 + 0 * 1) xs = xs ++ [y] := by
    have e := setL_at xs [] (x :: xs) (by simp)
    rw [show 0 + 0 * 1 = ([] : List Value).length from rfl]
    rw [List.nil_append] at e
    rw [e]
    obtain ⟨y, hy⟩ : ∃ y, (x :: xs).drop xs.length = [y] := List.length_eq_one_iff.1 (by simp)
    exact ⟨y, by rw [hy]; simp⟩
  rw [hy] at o1
  have hs1 := size_setCells' b xs (0 + 0 * 1) w.drew
  have hk1 := heap_setCells' b xs (0 + 0 * 1) w.drew
  have hr1 := rest_setCells' b xs (0 + 0 * 1) w.drew
  obtain ⟨W1, hW1⟩ : ∃ W1, W1 = w.drew.setCells b (0 + 0 * 1) xs := ⟨_, rfl⟩
  rw [← hW1] at o1 hs1 hk1 hr1
  have hcl : ∀ ty, (Builtin.clear_ #[31] ty #[.slice (some ⟨b, xs.length, none⟩) 1 (cap - xs.length)]).run Tryd.prog W1 = .ok (.tuple #[]) (W1.setCells b xs.length [.int .i64 0]) :=
    fun ty => Lib.run_clear_slice W1 31 3 ty _ Tryd.underlying31 info3z rfl rfl b xs.length _ _ (by omega) (fun t ht => by
      obtain rfl : t = 0 := by omega
      rw [o1.cellAt _ (by omega)]; simp) (fun t ht => o1.frozenAt _)
  have hW : Hid (W1 = w.drew.setCells b (0 + 0 * 1) xs) := hW1
  have hPOST : Hid (DelPost b cap xs w (.returned (.slice (some ⟨b, 0, none⟩) xs.length cap)) (W1.setCells b xs.length [.int .i64 0])) := by
    have o2 := owns_setCells [.int .i64 0] _ xs.length _ o1
    rw [setL_at [Value.int .i64 0] xs [y] (by simp)] at o2
    have o3 := owns_cut o2 (m := xs.length) (by omega)
    refine ⟨rfl, ?_, ?_, fun k hk => ?_, ?_⟩
    · simpa using o3
    · rw [size_setCells', hs1]; rfl
    · rw [heap_setCells' b _ _ _ _ hk]; exact hk1 k hk
    · obtain ⟨r1, r2, r3⟩ := rest_setCells' b [Value.int .i64 0] xs.length W1
      exact ⟨r1.trans hr1.1, r2.trans hr1.2.1, r3.trans hr1.2.2⟩
  have h11 : (1 : Int) ≤ (xs.length : Int) + 1 := by omega
  clear hW1 hs1 hk1 hr1 o1 h hcell h1 hmax
  go_enter Tryd.func161, Tryd.ntmps161
  go_wp2_with fail
  go_region_law (refine step_append_room rfl (.tmp 22) (.tmp 25) 31 rfl 3 i3 1 Tryd.underlying31 hi hsz b 0 0 cap (by simp [Act.eval, Act.put]) A xs.length (cap - 1) xs (by simp [Act.eval, Act.put]) s1.out hsrc.out s2.out (by omega) s3.out ?_; rw [← hW.out])
  all_goals go_wp2
  all_goals go_ret
  all_goals exact hPOST.out

/-- Where a new object is laid, and which draws are left. -/
def Picks (l : List ObR) (dr : List Int) (j : Nat) (ds : List Int) : Prop :=
  match dr with
  | [] => ds = [] ∧ FirstFree l j
  | d :: r => ds = r ∧ ∃ o, l[(d % (l.length : Int)).toNat]? = some o ∧ ((o.kind = 0 ∧ j = (d % (l.length : Int)).toNat) ∨ (o.kind ≠ 0 ∧ FirstFree l j))

theorem Picks.free {l : List ObR} {dr ds : List Int} {j : Nat} (h : Picks l dr j ds) : ∃ o, l[j]? = some o ∧ o.kind = 0 := by
  cases dr with
  | nil => exact h.2.1
  | cons d r =>
    obtain ⟨_, o, ho, ⟨hk, rfl⟩ | ⟨_, hf⟩⟩ := h
    · exact ⟨o, ho, hk⟩
    · exact hf.1

theorem taken_notFull {l : List ObR} {j : Nat} {o : ObR} (ho : l[j]? = some o) (hk : o.kind = 0) : taken l ≠ l.length := by
  intro e
  have := (List.filter_sublist (p := fun o : ObR => o.kind != 0) (l := l)).eq_of_length e
  have hm : o ∈ l.filter fun o => o.kind != 0 := by rw [this]; exact List.mem_of_getElem? ho
  simp [hk] at hm

/-- The draws are others. -/
theorem MachAt.setDraws {w w' : World} {own : Own} {mb : Nat} {g : PgR} {R : McR} {v : Value} {l : List Int} (h : MachAt w own mb g R) (hsize : w.heap.size ≤ w'.heap.size)
    (hk : ∀ k, k < w.heap.size → k ≠ mb → own k ≠ some .draws → w'.heap[k]? = w.heap[k]?)
    (hc : ∀ j, j ≠ 5 → w'.cell? ⟨mb, j, none⟩ = w.cell? ⟨mb, j, none⟩) (hc5 : w'.cell? ⟨mb, 5, none⟩ = some v) (hfz : ∀ j, w'.frozen? ⟨mb, j, none⟩ = false)
    (hrow : w'.ownsRow 0 3 1 v l.length (l.map fun n => .int .i64 n)) (hon : OldOrNew w own v .draws) :
    MachAt w' (own.upd v.ownBlock .draws) mb g { R with dv := v, dr := l } := by
  have hlt := h.lt
  have keep : ∀ t, t ≠ .mach → t ≠ .draws → ∀ k, own k = some t → w'.heap[k]? = w.heap[k]? := fun t h1 h2 k hk' =>
    hk k (hlt k t hk') (fun e => by rw [e, h.me] at hk'; exact h1 (Option.some.inj hk').symm) (by rw [hk']; exact fun e => h2 (Option.some.inj e))
  have hro : ∀ k, k < w.heap.size → own k = none → w'.heap[k]? = w.heap[k]? := fun k hk1 hk2 => hk k hk1 (fun e => by rw [e, h.me] at hk2; cases hk2) (by rw [hk2]; simp)
  refine ⟨Own.upd_lt hlt hsize hrow, ?_, ?_, ?_, ?_, ?_, ?_, hfz, h.out.upd hlt hon (keep _ (by simp) (by simp)), h.called.upd hlt hon (keep _ (by simp) (by simp)), h.slots.upd hlt hon (keep _ (by simp) (by simp)),
    fun i x hx => (h.loc i x hx).upd hlt hon (keep _ (by simp) (by simp)), fun i x hx => (h.stk i x hx).upd hlt hon (keep _ (by simp) (by simp)), fun j o ho => (h.fld j o ho).upd hlt hon (keep _ (by simp) (by simp)), ?_, ?_, ?_, ?_, hc5, ⟨hrow, fun b hb => by simp [Own.upd, hb]⟩⟩
  · rw [Own.upd_old hon (hlt mb _ h.me)]; exact h.me
  · rw [hc 0 (by omega)]; exact h.c0
  · rw [hc 1 (by omega)]; exact h.c1
  · rw [hc 2 (by omega)]; exact h.c2
  · rw [hc 3 (by omega)]; exact h.c3
  · rw [hc 4 (by omega)]; exact h.c4
  · exact h.pg.held hsize fun k hb => hro k (h.pg.blk_lt hb) (h.ro k hb)
  · intro k hb; rw [Own.upd_old hon (h.pg.blk_lt hb)]; exact h.ro k hb
  · exact h.tab.held hsize (hro 0 h.tab.1 h.ro0)
  · rw [Own.upd_old hon h.tab.1]; exact h.ro0

def ChoosePost (own : Own) (mb : Nat) (g : PgR) (R : McR) (j : Nat) (ds : List Int) (w : World) (e : Ending) (w' : World) : Prop :=
  ∃ dv, e = .returned (.int .i64 (j : Int)) ∧ MachAt w' own mb g { R with dv := dv, dr := ds } ∧ Touched own w own w' ∧ ∀ k, k < w.heap.size → k ≠ mb → own k ≠ some .draws → w'.heap[k]? = w.heap[k]?

end Go.Proofs.YtiejbnfjdobpcaaDoor
namespace Go.Proofs.YtiejbnfjdobpcaaDoor
open Go.RowKit Go.Sort

set_option maxRecDepth 100000 in
set_option maxHeartbeats 2000000 in
theorem choose_none {own : Own} {mb : Nat} {g : PgR} {R : McR} {w : World} (h : MachAt w own mb g R) (hd : R.dr = []) (j : Nat) (hj : FirstFree R.obs j) (hn : R.obs.length ≤ 1000) :
    Calls Tryd.prog 159 #[.pointer (some ⟨mb, 4, none⟩)] w fun e w' => e = .returned (.int .i64 (j : Int)) ∧ Below w.heap.size w w' := by
  obtain ⟨o, ho, _⟩ := id hj.1
  obtain ⟨hb, hc, fa, fc, he, hohb, hlt, _, _, _⟩ := h.slot ho
  have c4 := h.c4
  rw [he] at c4
  obtain ⟨da, dc, hdv⟩ := row_form h.draws
  have c5 := h.c5
  rw [hdv, hd, List.length_nil] at c5
  have hmb : mb < w.heap.size := h.lt mb _ h.me
  have HIX : Hid (∀ U, Below w.heap.size w U → Calls Tryd.prog 162 #[.slice (some ⟨hb, 0, none⟩) R.obs.length hc, .func (.func 82) #[] #[]] U fun e w' => e = .returned (.int .i64 (j : Int)) ∧ Below U.heap.size U w') := fun U hU => indexFree_any (h.same hU.size fun k hk => hU.block k hk) j hj hn hb hc he
  clear h hj ho he hohb hdv hd
  go_enter Tryd.func159, Tryd.ntmps159
  go_wp2_with (go_at_call 162; refine (HIX.out _ ?_).mono ?_; exact (by repeat (first | exact Below.refl _ _ | refine Below.drew ?_ | refine Below.drewQ ?_ _ | refine Below.alloc ?_ (by first | (simp; done) | (simp; omega)) _)); rintro e w2 ⟨rfl, hb2⟩; have HB2 : Hid (Below w.heap.size w w2) := below_via' hb2 (by repeat (first | exact Below.refl _ _ | refine Below.drew ?_ | refine Below.drewQ ?_ _ | refine Below.alloc ?_ (by first | (simp; done) | (simp; omega)) _)); clear hb2)
  go_ret
  exact ⟨rfl, HB2.out⟩

/-- Behind slices.Delete: the draws' cell is stored. -/
theorem draw_end {own : Own} {mb : Nat} {g : PgR} {R : McR} {w U w2 : World} (h : MachAt w own mb g R) (hU : Below w.heap.size w U) {r : List Int} {db dc : Nat} (hdv : R.dv = .slice (some ⟨db, 0, none⟩) (r.length + 1) dc) {e : Ending} (hp : DelPost db dc (r.map fun n => .int .i64 n) U e w2) :
    (∀ k, k < w.heap.size → own k ≠ some .draws → w2.heap[k]? = w.heap[k]?) ∧ w.heap.size ≤ w2.heap.size ∧ (w2.frozen? ⟨mb, 5, none⟩ = false ∧ w2.cell? ⟨mb, 5, none⟩ = some R.dv) ∧
      MachAt (w2.setCell ⟨mb, 5, none⟩ (.slice (some ⟨db, 0, none⟩) r.length dc)) own mb g { R with dv := .slice (some ⟨db, 0, none⟩) r.length dc, dr := r } ∧
      Touched own w own (w2.setCell ⟨mb, 5, none⟩ (.slice (some ⟨db, 0, none⟩) r.length dc)) ∧
      ∀ k, k < w.heap.size → k ≠ mb → own k ≠ some .draws → (w2.setCell ⟨mb, 5, none⟩ (.slice (some ⟨db, 0, none⟩) r.length dc)).heap[k]? = w.heap[k]? := by
  obtain ⟨_, hrow, hsz, hblk, hos, htape, hout⟩ := hp
  have hodb : own db = some .draws := h.draws.2 db (by rw [hdv]; rfl)
  have hne : db ≠ mb := fun e => by rw [e, h.me] at hodb; cases hodb
  have hkeep : ∀ k, k < w.heap.size → own k ≠ some .draws → w2.heap[k]? = w.heap[k]? := fun k hk hn =>
    (hblk k (fun e => hn (by rw [e]; exact hodb))).trans (hU.block k hk)
  have hmb := h.lt mb _ h.me
  have hmbk := hkeep mb hmb (by rw [h.me]; simp)
  have hs2 : w.heap.size ≤ w2.heap.size := by have := hU.size; omega
  have hfz : ∀ j, w2.frozen? ⟨mb, j, none⟩ = false := fun j => by rw [World.frozen?_of_block (w := w) (a := ⟨mb, j, none⟩) hmbk]; exact h.fz j
  have hc5 : w2.cell? ⟨mb, 5, none⟩ = some R.dv := by rw [World.cell?_of_block (w := w) (a := ⟨mb, 5, none⟩) hmbk]; exact h.c5
  have hmb2 : mb < w2.heap.size := by omega
  have hcells : ∀ j, j ≠ 5 → (w2.setCell ⟨mb, 5, none⟩ (.slice (some ⟨db, 0, none⟩) r.length dc)).cell? ⟨mb, j, none⟩ = w.cell? ⟨mb, j, none⟩ := fun j hj => by
    rw [← World.cell?_of_block (w := w) (w' := w2) (a := ⟨mb, j, none⟩) hmbk]
    go_simp
  have hon : OldOrNew w own (.slice (some ⟨db, 0, none⟩) r.length dc) .draws := fun b hb => by
    obtain rfl : db = b := by simpa [Value.ownBlock] using hb
    exact Or.inl hodb
  have hother : ∀ k, k < w.heap.size → k ≠ mb → own k ≠ some .draws → (w2.setCell ⟨mb, 5, none⟩ (.slice (some ⟨db, 0, none⟩) r.length dc)).heap[k]? = w.heap[k]? := fun k hk h1 h2 => by
    rw [heap_setCell_other _ _ _ _ h1]; exact hkeep k hk h2
  rw [List.length_map] at hrow
  have hM := MachAt.setDraws (v := .slice (some ⟨db, 0, none⟩) r.length dc) (l := r) h (w' := w2.setCell ⟨mb, 5, none⟩ (.slice (some ⟨db, 0, none⟩) r.length dc)) (by simpa using hs2) hother hcells (by go_simp) (fun j => by have := hfz j; go_simp) (ownsRow_setCell_other hrow (by simpa [Value.ownBlock] using hne) _) hon
  rw [show (Value.slice (some ⟨db, 0, none⟩) r.length dc).ownBlock = some db from rfl, Own.upd_same hodb] at hM
  refine ⟨hkeep, hs2, ⟨hfz 5, hc5⟩, hM, ⟨hos.trans hU.os, htape.trans hU.tape, hout.trans hU.output, by simpa using hs2, fun k hk hno => ?_, fun _ _ => rfl⟩, hother⟩
  exact hother k hk (fun e => by rw [e, h.me] at hno; cases hno) (by rw [hno]; simp)

end Go.Proofs.YtiejbnfjdobpcaaDoor
namespace Go.Proofs.YtiejbnfjdobpcaaDoor
open Go.RowKit Go.Sort

set_option maxRecDepth 100000 in
set_option maxHeartbeats 4000000 in
theorem choose_some {own : Own} {mb : Nat} {g : PgR} {R : McR} {w : World} (h : MachAt w own mb g R) {d : Int} {r : List Int} (hd : R.dr = d :: r) (j : Nat) (hp : Picks R.obs R.dr j r) (hn : R.obs.length ≤ 1000) (hdn : R.dr.length ≤ 1000) :
    Calls Tryd.prog 159 #[.pointer (some ⟨mb, 4, none⟩)] w fun e w' => ChoosePost own mb g R j r w e w' := by
  obtain ⟨o, ho, hcase⟩ : ∃ o, R.obs[(d % (R.obs.length : Int)).toNat]? = some o ∧ ((o.kind = 0 ∧ j = (d % (R.obs.length : Int)).toNat) ∨ (o.kind ≠ 0 ∧ FirstFree R.obs j)) := by
    rw [hd] at hp; exact hp.2
  have hol := (List.getElem?_eq_some_iff.1 ho).1
  have hpos : 0 < R.obs.length := by omega
  obtain ⟨k, hk⟩ := Int.eq_ofNat_of_zero_le (Int.emod_nonneg d (show (R.obs.length : Int) ≠ 0 by omega))
  rw [hk, Int.toNat_natCast] at ho hcase hol
  obtain ⟨hb, hc, fa, fc, he, hohb, hlt, _, k0, k1⟩ := h.slot ho
  have c4 := h.c4
  rw [he] at c4
  have hdl : R.dr.length = r.length + 1 := by rw [hd]; rfl
  obtain ⟨db, dc, hdv, _, hdlt⟩ := h.draws.1.form (by omega)
  rw [hdl] at hdv
  have hodb : own db = some .draws := h.draws.2 db (by rw [hdv]; rfl)
  have hdrow := h.draws.1
  rw [hdv, hd, List.length_cons, List.map_cons] at hdrow
  have c5 := h.c5
  rw [hdv] at c5
  have hmb : mb < w.heap.size := h.lt mb _ h.me
  have d0 : w.cell? ⟨db, 0, none⟩ = some (.int .i64 d) := by rw [hdrow.cellAt 0 (by omega)]; rfl
  have HREST : Hid (∀ U : World, Calls Tryd.prog 160 #[.int .i64 d, .int .i64 (R.obs.length : Int)] U fun e w' => e = .returned (.int .i64 (k : Int)) ∧ ∃ m, w' = U.drewN m) := fun U => by
    rw [← hk]; exact rest_any d R.obs.length (by omega) hn U
  have HDEL : Hid (∀ U : World, Below w.heap.size w U → Calls Tryd.prog 161 #[.slice (some ⟨db, 0, none⟩) (r.length + 1) dc, .int .i64 0, .int .i64 1] U fun e w' => DelPost db dc (r.map fun n => .int .i64 n) U e w') := by
    intro U hU
    have hrU : U.ownsRow 0 3 1 (.slice (some ⟨db, 0, none⟩) (r.length + 1) dc) (r.length + 1) (.int .i64 d :: r.map fun n => .int .i64 n) := ownsRow_of_block hdrow fun b hb' => by
      obtain rfl : db = b := by simpa [Value.ownBlock] using hb'
      exact hU.block _ hdlt
    have := delete_any db dc (.int .i64 d) (r.map fun n => .int .i64 n) U (by simpa using hrU) (by
      intro u hu
      obtain ⟨n, _, rfl⟩ := List.mem_map.1 hu
      rfl) (by simp; omega)
    simpa using this
  have HEND : Hid (∀ U w2 e, Below w.heap.size w U → DelPost db dc (r.map fun n => .int .i64 n) U e w2 → _) := fun U w2 e hU hp => draw_end h hU hdv hp
  have HIX : Hid (o.kind ≠ 0 → ∀ V U, MachAt V own mb g { R with dv := .slice (some ⟨db, 0, none⟩) r.length dc, dr := r } → Below V.heap.size V U → Calls Tryd.prog 162 #[.slice (some ⟨hb, 0, none⟩) R.obs.length hc, .func (.func 82) #[] #[]] U fun e w' => e = .returned (.int .i64 (j : Int)) ∧ Below U.heap.size U w') := fun hne V U hV hU => by
    rcases hcase with ⟨h0, _⟩ | ⟨_, hf⟩
    · exact absurd h0 hne
    · exact indexFree_any (R := { R with dv := .slice (some ⟨db, 0, none⟩) r.length dc, dr := r }) (hV.same hU.size fun k hk => hU.block k hk) j hf hn hb hc he
  have HJ : Hid ((o.kind == 0) = true → j = k) := fun h0 => by
    rcases hcase with ⟨_, hj⟩ | ⟨hne, _⟩
    · exact hj
    · exact absurd (beq_iff_eq.1 h0) hne
  have hohb' : own hb ≠ some .draws := by rw [hohb]; simp
  have homb' : own mb ≠ some .draws := by rw [h.me]; simp
  have hhm : hb ≠ mb := fun e => by rw [e, h.me] at hohb; cases hohb
  have HDV := hid hdv
  clear h hp hd hcase he hdrow hdv hodb ho hk
  go_enter Tryd.func159, Tryd.ntmps159
  go_wp2_with fail
  go_region_with (first | (go_at_call 160; refine (HREST.out _).mono ?_; rintro e w1 ⟨rfl, m1, rfl⟩))
  all_goals
    go_wp2_with (go_at_call 161; refine (HDEL.out _ ?_).mono ?_; exact (by repeat (first | exact Below.refl _ _ | refine Below.drew ?_ | refine Below.drewQ ?_ _ | refine Below.alloc ?_ (by first | (simp; done) | (simp; omega)) _)); intro e w2 hdel; obtain ⟨hk2, hs2, ⟨z5, q5⟩, hM, hT, hO⟩ := HEND.out _ w2 _ (by repeat (first | exact Below.refl _ _ | refine Below.drew ?_ | refine Below.drewQ ?_ _ | refine Below.alloc ?_ (by first | (simp; done) | (simp; omega)) _)) hdel; have he := hdel.1; rw [List.length_map] at he; subst he; rw [HDV.out] at q5; have hmb2 : mb < w2.heap.size := Nat.lt_of_lt_of_le hmb hs2; have hhb2 : hb < w2.heap.size := Nat.lt_of_lt_of_le hlt hs2; have m4 := (World.cell?_of_block (w := w) (a := ⟨mb, 4, none⟩) (hk2 mb hmb homb')).trans c4; have n0 := (World.cell?_of_block (w := w) (a := ⟨hb, k * 2, none⟩) (hk2 hb hlt hohb')).trans k0; have n1 := (World.cell?_of_block (w := w) (a := ⟨hb, k * 2 + 1, none⟩) (hk2 hb hlt hohb')).trans k1; have HM := hid hM; have HT := hid hT; have HO := hid hO; clear hdel hk2 hs2 hM hT hO c4 c5 k0 k1 d0 HEND HDEL HREST)
    cases hkk : (o.kind == 0)
    · go_wp2_with (first | (go_at_call 82; refine (isFree_any _ _ _ _ _).mono ?_; rintro e w' ⟨rfl, o4, rfl⟩) | (go_at_call 162; refine (HIX.out (fun e => by rw [e] at hkk; cases hkk) _ _ HM.out ?_).mono ?_; exact (by repeat (first | exact Below.refl _ _ | refine Below.drew ?_ | refine Below.drewQ ?_ _ | refine Below.alloc ?_ (by first | (simp; done) | (simp; omega)) _)); rintro e w3 ⟨rfl, hb3⟩; have HB3 : Hid (Below _ (w2.setCell ⟨mb, 5, none⟩ (.slice (some ⟨db, 0, none⟩) r.length dc)) w3) := below_via' hb3 (by repeat (first | exact Below.refl _ _ | refine Below.drew ?_ | refine Below.drewQ ?_ _ | refine Below.alloc ?_ (by first | (simp; done) | (simp; omega)) _)); clear hb3))
      go_ret
      exact ⟨_, rfl, HM.out.same HB3.out.size fun k hk => HB3.out.block k hk, HT.out.trans (Touched.of_below HB3.out), fun k hk h1 h2 => (HB3.out.block k (Nat.lt_of_lt_of_le hk HT.out.size)).trans (HO.out k hk h1 h2)⟩
    · go_wp2_with (first | (go_at_call 82; refine (isFree_any _ _ _ _ _).mono ?_; rintro e w' ⟨rfl, o4, rfl⟩))
      go_ret
      have hB3 : Below (w2.setCell ⟨mb, 5, none⟩ (.slice (some ⟨db, 0, none⟩) r.length dc)).heap.size (w2.setCell ⟨mb, 5, none⟩ (.slice (some ⟨db, 0, none⟩) r.length dc)) ((w2.setCell ⟨mb, 5, none⟩ (.slice (some ⟨db, 0, none⟩) r.length dc)).alloc o4) := Below.alloc (Below.refl _ _) (Nat.le_refl _) _
      exact ⟨_, by rw [HJ.out hkk]; rfl, HM.out.same hB3.size fun k hk => hB3.block k hk, HT.out.trans (Touched.of_below hB3), fun k hk h1 h2 => (hB3.block k (Nat.lt_of_lt_of_le hk HT.out.size)).trans (HO.out k hk h1 h2)⟩

theorem choose_any {own : Own} {mb : Nat} {g : PgR} {R : McR} {w : World} (h : MachAt w own mb g R) (j : Nat) (ds : List Int) (hp : Picks R.obs R.dr j ds) (hn : R.obs.length ≤ 1000) (hdn : R.dr.length ≤ 1000) :
    Calls Tryd.prog 159 #[.pointer (some ⟨mb, 4, none⟩)] w fun e w' => ChoosePost own mb g R j ds w e w' := by
  cases hd : R.dr with
  | nil =>
    obtain ⟨rfl, hf⟩ : ds = [] ∧ FirstFree R.obs j := by rw [hd] at hp; exact hp
    refine (choose_none h hd j hf hn).mono ?_
    rintro e w' ⟨rfl, hb⟩
    refine ⟨R.dv, rfl, ?_, Touched.of_below hb, fun k hk _ _ => hb.block k hk⟩
    have := h.same hb.size fun k hk => hb.block k hk
    rw [← hd]
    exact this
  | cons d r =>
    obtain rfl : ds = r := by rw [hd] at hp; exact hp.1
    exact choose_some h hd j hp hn hdn

end Go.Proofs.YtiejbnfjdobpcaaDoor
namespace Go.Proofs.YtiejbnfjdobpcaaDoor
open Go.RowKit Go.Sort

theorem obs_set {l : List ObR} {j : Nat} {o p : ObR} (h : l[j]? = some o) : (l.set j p).flatMap ObR.cells = ((l.flatMap ObR.cells).set (j * 2) (.int .u8 p.kind)).set (j * 2 + 1) p.fv := by
  have h1 := flat_set (c := ObR.cells) ObR.cells_len (l := l) (i := j) (j := 0) (x := o) (y := ⟨p.kind, o.fv, o.fl⟩) (u := .int .u8 p.kind) h (by omega) rfl
  have hlt := (List.getElem?_eq_some_iff.1 h).1
  have h2 := flat_set (c := ObR.cells) ObR.cells_len (l := l.set j ⟨p.kind, o.fv, o.fl⟩) (i := j) (j := 1) (x := ⟨p.kind, o.fv, o.fl⟩) (y := p) (u := p.fv) (List.getElem?_set_self hlt) (by omega) rfl
  rw [List.set_set] at h2
  rw [h2, h1, Nat.add_zero]

/-- Blocks that are nobody's. -/
def Nobody (own : Own) (g : PgR) (v : Value) : Prop := ∀ b, v.ownBlock = some b → own b = none ∧ (∀ k, g.blk k → k ≠ b) ∧ b ≠ 0

theorem Nobody.upd {own : Own} {g : PgR} {v : Value} {t : Tag} (h : Nobody own g v) {k : Nat} {s : Tag} (hk : own k = some s) : own.upd v.ownBlock t k = own k := by
  unfold Own.upd
  split
  · rename_i e; rw [(h k e).1] at hk; cases hk
  · rfl

/-- An object is laid into a slot. -/
theorem MachAt.layOb {w W : World} {own : Own} {mb : Nat} {g : PgR} {R : McR} {j : Nat} {o p : ObR} {hb hc : Nat} (h : MachAt w own mb g R) (hB : Below w.heap.size w W) (hj : R.obs[j]? = some o) (he : R.hv = .slice (some ⟨hb, 0, none⟩) R.obs.length hc) (hnb : Nobody own g p.fv) (hrow : W.ownsRow 0 101 2 p.fv p.fl.length (vflat p.fl)) :
    MachAt ((W.setCell ⟨hb, j * 2, none⟩ (.int .u8 p.kind)).setCell ⟨hb, j * 2 + 1, none⟩ p.fv) (own.upd p.fv.ownBlock (.fld j)) mb g { R with obs := R.obs.set j p } ∧
      ∀ k, k < w.heap.size → own k ≠ some .slots → ((W.setCell ⟨hb, j * 2, none⟩ (.int .u8 p.kind)).setCell ⟨hb, j * 2 + 1, none⟩ p.fv).heap[k]? = w.heap[k]? := by
  have hlt := h.lt
  have hohb : own hb = some .slots := h.slots.2 hb (by rw [he]; rfl)
  have hhb : hb < w.heap.size := hlt hb _ hohb
  have hblk : ∀ k, k < w.heap.size → k ≠ hb → ((W.setCell ⟨hb, j * 2, none⟩ (.int .u8 p.kind)).setCell ⟨hb, j * 2 + 1, none⟩ p.fv).heap[k]? = w.heap[k]? := fun k hk hn => by
    rw [heap_setCell_other _ _ _ _ hn, heap_setCell_other _ _ _ _ hn]; exact hB.block k hk
  have keep : ∀ t, t ≠ .slots → ∀ k, own k = some t → ((W.setCell ⟨hb, j * 2, none⟩ (.int .u8 p.kind)).setCell ⟨hb, j * 2 + 1, none⟩ p.fv).heap[k]? = w.heap[k]? ∧ own.upd p.fv.ownBlock (.fld j) k = some t := fun t ht k hk => ⟨hblk k (hlt k t hk) (fun e => by rw [e, hohb] at hk; exact ht (Option.some.inj hk).symm), (hnb.upd hk).trans hk⟩
  have hmb := (keep .mach (by simp) mb h.me).1
  have hsz : w.heap.size ≤ ((W.setCell ⟨hb, j * 2, none⟩ (.int .u8 p.kind)).setCell ⟨hb, j * 2 + 1, none⟩ p.fv).heap.size := by have := hB.size; simpa using this
  have hnhb : p.fv.ownBlock ≠ some hb := fun e => by have := (hnb hb e).1; rw [hohb] at this; cases this
  have hrow' : ((W.setCell ⟨hb, j * 2, none⟩ (.int .u8 p.kind)).setCell ⟨hb, j * 2 + 1, none⟩ p.fv).ownsRow 0 101 2 p.fv p.fl.length (vflat p.fl) := ownsRow_setCell_other (ownsRow_setCell_other hrow hnhb _) hnhb _
  have hslots : ((W.setCell ⟨hb, j * 2, none⟩ (.int .u8 p.kind)).setCell ⟨hb, j * 2 + 1, none⟩ p.fv).ownsRow 0 94 2 R.hv R.obs.length ((R.obs.set j p).flatMap ObR.cells) := by
    have hs := h.slots.1
    rw [he] at hs ⊢
    have hsW : W.ownsRow 0 94 2 (.slice (some ⟨hb, 0, none⟩) R.obs.length hc) R.obs.length (R.obs.flatMap ObR.cells) := ownsRow_of_block hs fun b hb' => by
      obtain rfl : hb = b := by simpa [Value.ownBlock] using hb'
      exact hB.block _ hhb
    have := (World.ownsRow.stored (World.ownsRow.stored hsW (j * 2) (.int .u8 p.kind)).1 (j * 2 + 1) p.fv).1
    rwa [← obs_set hj] at this
  have hro : ∀ k, k < w.heap.size → own k = none → ((W.setCell ⟨hb, j * 2, none⟩ (.int .u8 p.kind)).setCell ⟨hb, j * 2 + 1, none⟩ p.fv).heap[k]? = w.heap[k]? := fun k hk hn => hblk k hk (fun e => by rw [e, hohb] at hn; cases hn)
  have hjl := (List.getElem?_eq_some_iff.1 hj).1
  refine ⟨⟨Own.upd_lt hlt hsz hrow', ?_, ?_, ?_, ?_, ?_, ?_, ?_, h.out.kept (keep _ (by simp)), h.called.kept (keep _ (by simp)), ⟨by simpa using hslots, fun b hb' => ?_⟩, fun i x hx => (h.loc i x hx).kept (keep _ (by simp)), fun i x hx => (h.stk i x hx).kept (keep _ (by simp)), fun i x hx => ?_, ?_, ?_, ?_, ?_, ?_, h.draws.kept (keep _ (by simp))⟩, fun k hk hn => hblk k hk (fun e => hn (by rw [e]; exact hohb))⟩
  · exact (hnb.upd h.me).trans h.me
  · rw [World.cell?_of_block (w := w) (a := ⟨mb, 0, none⟩) hmb]; exact h.c0
  · rw [World.cell?_of_block (w := w) (a := ⟨mb, 1, none⟩) hmb]; exact h.c1
  · rw [World.cell?_of_block (w := w) (a := ⟨mb, 2, none⟩) hmb]; exact h.c2
  · rw [World.cell?_of_block (w := w) (a := ⟨mb, 3, none⟩) hmb]; exact h.c3
  · rw [World.cell?_of_block (w := w) (a := ⟨mb, 4, none⟩) hmb]; exact h.c4
  · intro i; rw [World.frozen?_of_block (w := w) (a := ⟨mb, i, none⟩) hmb]; exact h.fz i
  · have := h.slots.2 b hb'
    exact (hnb.upd this).trans this
  · by_cases e : i = j
    · subst e
      obtain rfl : p = x := by
        have : (R.obs.set i p)[i]? = some x := hx
        rw [List.getElem?_set_self hjl] at this; exact Option.some.inj this
      exact ⟨hrow', fun b hb' => by simp [Own.upd, hb']⟩
    · have : (R.obs.set j p)[i]? = some x := hx
      rw [List.getElem?_set_ne (Ne.symm e)] at this
      exact (h.fld i x this).kept (keep _ (by simp))
  · exact h.pg.held hsz fun k hb' => hro k (h.pg.blk_lt hb') (h.ro k hb')
  · intro k hb'
    unfold Own.upd
    rw [if_neg (fun e => (hnb k e).2.1 k hb' rfl)]
    exact h.ro k hb'
  · exact h.tab.held hsz (hro 0 h.tab.1 h.ro0)
  · unfold Own.upd
    rw [if_neg (fun e => (hnb 0 e).2.2 rfl)]
    exact h.ro0
  · rw [World.cell?_of_block (w := w) (a := ⟨mb, 5, none⟩) hmb]; exact h.c5

/-- What laying an object touches. -/
structure LaidBut (own : Own) (mb : Nat) (w w' : World) : Prop where
  os : w'.os = w.os
  tape : w'.tape = w.tape
  output : w'.output = w.output
  size : w.heap.size ≤ w'.heap.size
  block : ∀ k, k < w.heap.size → k ≠ mb → own k ≠ some .draws → own k ≠ some .slots → w'.heap[k]? = w.heap[k]?

def LayPost (own : Own) (mb : Nat) (g : PgR) (R : McR) (j : Nat) (ds : List Int) (p : ObR) (w : World) (e : Ending) (w' : World) : Prop :=
  ∃ dv, e = .returned (.int .i64 (j : Int)) ∧ MachAt w' (own.upd p.fv.ownBlock (.fld j)) mb g { R with dv := dv, dr := ds, obs := R.obs.set j p } ∧ LaidBut own mb w w'

set_option maxRecDepth 100000 in
set_option maxHeartbeats 2000000 in
theorem lay_any {own : Own} {mb : Nat} {g : PgR} {R : McR} {w : World} (h : MachAt w own mb g R) (j : Nat) (ds : List Int) (hj : Picks R.obs R.dr j ds) (hn : R.obs.length ≤ 1000) (hdn : R.dr.length ≤ 1000) (p : ObR) (nb nc : Nat) (hfv : p.fv = .slice (some ⟨nb, 0, none⟩) p.fl.length nc) (hnb : Nobody own g p.fv) (hrow : w.ownsRow 0 101 2 p.fv p.fl.length (vflat p.fl)) :
    Calls Tryd.prog 157 #[.pointer (some ⟨mb, 4, none⟩), .agg #[.int .u8 p.kind, p.fv]] w fun e w' => LayPost own mb g R j ds p w e w' := by
  obtain ⟨o, ho, hok⟩ := hj.free
  have hjl := (List.getElem?_eq_some_iff.1 ho).1
  obtain ⟨hb, hc, _, _, he, hohb, hlt, _, _, _⟩ := h.slot ho
  have hmb : mb < w.heap.size := h.lt mb _ h.me
  have HCH : Hid (∀ U, Below w.heap.size w U → Calls Tryd.prog 159 #[.pointer (some ⟨mb, 4, none⟩)] U fun e w' => ChoosePost own mb g R j ds U e w') := fun U hU => choose_any (h.same hU.size fun k hk => hU.block k hk) j ds hj hn hdn
  have HAT : Hid (∀ U w2 dv, Below w.heap.size w U → MachAt w2 own mb g { R with dv := dv, dr := ds } → Touched own U own w2 → (∀ k, k < U.heap.size → k ≠ mb → own k ≠ some .draws → w2.heap[k]? = U.heap[k]?) →
      ((w2.cell? ⟨mb, 4, none⟩ = some (.slice (some ⟨hb, 0, none⟩) R.obs.length hc) ∧ w2.frozen? ⟨hb, j * 2, none⟩ = false ∧ w2.frozen? ⟨hb, j * 2 + 1, none⟩ = false ∧ w2.cell? ⟨hb, j * 2, none⟩ = some (.int .u8 o.kind) ∧ (∃ v, w2.cell? ⟨hb, j * 2 + 1, none⟩ = some v)) ∧ mb < w2.heap.size ∧ hb < w2.heap.size) ∧
      ∀ V, Below w2.heap.size w2 V → LayPost own mb g R j ds p w (.returned (.int .i64 (j : Int))) ((V.setCell ⟨hb, j * 2, none⟩ (.int .u8 p.kind)).setCell ⟨hb, j * 2 + 1, none⟩ p.fv)) := by
    intro U w2 dv hU hm2 ht2 hk2
    have c4 := hm2.c4
    obtain ⟨hb', hc', fa, fc, he', _, hl2, _, k0, k1⟩ := hm2.slot (R := { R with dv := dv, dr := ds }) (j := j) (o := o) ho
    have he'' : R.hv = .slice (some ⟨hb', 0, none⟩) R.obs.length hc' := he'
    rw [he] at he''
    cases he''
    have hs2 : w2.ownsRow 0 94 2 R.hv R.obs.length (R.obs.flatMap ObR.cells) := hm2.slots.1
    rw [he] at hs2
    have c4' : w2.cell? ⟨mb, 4, none⟩ = some R.hv := c4
    rw [he] at c4'
    refine ⟨⟨⟨c4', hs2.frozenAt _, hs2.frozenAt _, k0, _, k1⟩, hm2.lt mb _ hm2.me, hl2⟩, fun V hV => ?_⟩
    have hrow2 : V.ownsRow 0 101 2 p.fv p.fl.length (vflat p.fl) := ownsRow_of_block hrow fun b hb' => by
      have hbl := (hrow.lt b hb').2
      have h1 := (hnb b hb').1
      rw [hV.block b (Nat.lt_of_lt_of_le (Nat.lt_of_lt_of_le hbl hU.size) ht2.size), hk2 b (Nat.lt_of_lt_of_le hbl hU.size) (fun e => by rw [e, h.me] at h1; cases h1) (by rw [h1]; simp), hU.block b hbl]
    obtain ⟨hm3, hb3⟩ := hm2.layOb (R := { R with dv := dv, dr := ds }) (p := p) hV ho he hnb hrow2
    refine ⟨dv, rfl, hm3, ⟨hV.os.trans (ht2.os.trans hU.os), hV.tape.trans (ht2.tape.trans hU.tape), hV.output.trans (ht2.output.trans hU.output), ?_, fun k hk h1 h2 h3 => ?_⟩⟩
    · have := hU.size; have := ht2.size; have := hV.size
      simp; omega
    · rw [hb3 k (Nat.lt_of_lt_of_le (Nat.lt_of_lt_of_le hk hU.size) ht2.size) h3, hk2 k (Nat.lt_of_lt_of_le hk hU.size) h1 h2, hU.block k hk]
  have HFV := hid hfv
  rw [hfv] at HAT ⊢
  have hN : own w.heap.size ≠ some .draws := by rw [h.new (Nat.le_refl _)]; simp
  have hNm : w.heap.size ≠ mb := by omega
  clear h hj ho hok he hohb hrow hfv hnb
  go_enter Tryd.func157, Tryd.ntmps157
  go_wp2_with (go_at_call 159; refine (HCH.out _ ?_).mono ?_; exact (by repeat (first | exact Below.refl _ _ | refine Below.drew ?_ | refine Below.drewQ ?_ _ | refine Below.alloc ?_ (by first | (simp; done) | (simp; omega)) _)); rintro e w2 ⟨dv, rfl, hm2, ht2, hk2⟩; obtain ⟨⟨⟨c4, z0, z1, k0, v1, k1⟩, hmb2, hhb2⟩, hfin⟩ := HAT.out _ w2 dv (by repeat (first | exact Below.refl _ _ | refine Below.drew ?_ | refine Below.drewQ ?_ _ | refine Below.alloc ?_ (by first | (simp; done) | (simp; omega)) _)) hm2 ht2 hk2; have hbx := hk2 w.heap.size (by simp) hNm hN; have b0 := (World.cell?_of_block (a := ⟨w.heap.size, 0, none⟩) hbx).trans (show _ = some (Value.int .u8 p.kind) by go_simp); have b1 := (World.cell?_of_block (a := ⟨w.heap.size, 1, none⟩) hbx).trans (show _ = some (Value.slice (some ⟨nb, 0, none⟩) p.fl.length nc) by go_simp); have hsz2 : w.heap.size < w2.heap.size := Nat.lt_of_lt_of_le (by simp) ht2.size; have HF := hid hfin; clear hfin hm2 ht2 hk2 hbx)
  go_region
  all_goals
    have HQ := hid (HF.out w2.drew (Below.drew (Below.refl _ _)))
    clear HF HAT HCH
    go_wp2_with fail
    go_ret
    exact HQ.out

set_option maxHeartbeats 400000 in
theorem reference_any (n : Int) (w : World) : Calls Tryd.prog 156 #[.int .i64 n] w fun e w' => e = .returned (.agg #[.int .u8 2, .int .i64 n]) ∧ ∃ o, w' = w.alloc o := by
  go_enter Tryd.func156, Tryd.ntmps156
  go_wp2
  exact bodyPost_ret (v := .agg #[.int .u8 2, .int .i64 n]) (by simp [results, Tryd.results156, go_sem]) rfl ⟨rfl, _, rfl⟩

def NewOb (R : McR) (fs : List FrR) (f : FrR) (rest : List Val) (j : Nat) (ds : List Int) (p : ObR) (R' : McR) : Prop := ∃ sv' dv', R' = { R with dv := dv', dr := ds, obs := R.obs.set j p, frs := fs ++ [{ f with pc := f.pc + 1, sv := sv', stk := rest ++ [(2, (j : Int))] }] }

theorem AtOp.laid {own own' : Own} {mb : Nat} {g : PgR} {R R1 : McR} {fs : List FrR} {f : FrR} {rest args : List Val} {va : Option Addr} {sb : Nat} {w w' : World} (h : AtOp w own mb g R fs f rest args va sb) (hm : MachAt w' own' mb g R1) (hf : R1.frs = R.frs) (ho : ∀ k i, own k = some (.stk i) → own' k = own k) (hk : ∀ k i, own k = some (.stk i) → w'.heap[k]? = w.heap[k]?) : AtOp w' own' mb g R1 fs f rest args va sb :=
  ⟨hm, hf.trans h.hf, h.hst, fun h0 => by
    obtain ⟨q1, q2, q3⟩ := h.hva h0
    have e := hk sb _ q2
    refine ⟨q1, (ho sb _ q2).trans q2, fun i x hx => ?_⟩
    rw [World.cell?_of_block (w := w) (a := ⟨sb, _, none⟩) e, World.cell?_of_block (w := w) (a := ⟨sb, _, none⟩) e]
    exact q3 i x hx, h.hn, h.hs, h.hpc⟩

/-- A new block of the call's own. -/
theorem MachAt.nobody {own : Own} {mb : Nat} {g : PgR} {R : McR} {w : World} (h : MachAt w own mb g R) {v : Value} {nb : Nat} (hv : v.ownBlock = some nb) (hnew : w.heap.size ≤ nb) : Nobody own g v := fun b hb => by
  rw [hv] at hb
  cases hb
  exact ⟨h.new hnew, fun k hk => by have := h.pg.blk_lt hk; omega, by have := h.tab.1; omega⟩

/-- The rest of a new object's making, when there is a slot. -/
theorem AtOp.lay {own : Own} {mb : Nat} {g : PgR} {R : McR} {fs : List FrR} {f : FrR} {rest args : List Val} {va : Option Addr} {sb : Nat} {w W : World} (h : AtOp w own mb g R fs f rest args va sb) (hB : Below w.heap.size w W) {j : Nat} {ds : List Int} {p : ObR} {e : Ending} {w' : World} (hnew : ∀ b, p.fv.ownBlock = some b → w.heap.size ≤ b) (hl : LayPost own mb g R j ds p W e w') :
    ∃ dv, e = .returned (.int .i64 (j : Int)) ∧ AtOp w' (own.upd p.fv.ownBlock (.fld j)) mb g { R with dv := dv, dr := ds, obs := R.obs.set j p } fs f rest args va sb ∧ Touched own w (own.upd p.fv.ownBlock (.fld j)) w' := by
  obtain ⟨dv, he, hm, hb⟩ := hl
  have hold : ∀ k, k < w.heap.size → own.upd p.fv.ownBlock (.fld j) k = own k := fun k hk => by
    unfold Own.upd
    split
    · rename_i e; have := hnew k e; omega
    · rfl
  have hno : ∀ k, k < w.heap.size → k ≠ mb → own k ≠ some .draws → own k ≠ some .slots → w'.heap[k]? = w.heap[k]? := fun k hk h1 h2 h3 => (hb.block k (Nat.lt_of_lt_of_le hk hB.size) h1 h2 h3).trans (hB.block k hk)
  refine ⟨dv, he, h.laid hm rfl (fun k i hk => hold k (h.m.lt k _ hk)) (fun k i hk => hno k (h.m.lt k _ hk) (fun e => by rw [e, h.m.me] at hk; cases hk) (by rw [hk]; simp) (by rw [hk]; simp)), ⟨hb.os.trans hB.os, hb.tape.trans hB.tape, hb.output.trans hB.output, Nat.le_trans hB.size hb.size, fun k hk hn => hno k hk (fun e => by rw [e, h.m.me] at hn; cases hn) (by rw [hn]; simp) (by rw [hn]; simp), hold⟩⟩

set_option maxRecDepth 100000 in
set_option maxHeartbeats 2000000 in
theorem answerNew_ok {own : Own} {mb : Nat} {g : PgR} {R : McR} {fs : List FrR} {f : FrR} {rest args : List Val} {va : Option Addr} {sb : Nat} {w W : World} (h : AtOp w own mb g R fs f rest args va sb) (hB : Below w.heap.size w W) (j : Nat) (ds : List Int) (hj : Picks R.obs R.dr j ds) (hn : R.obs.length ≤ 1000) (hdn : R.dr.length ≤ 1000) (p : ObR) (nb nc : Nat) (hfv : p.fv = .slice (some ⟨nb, 0, none⟩) p.fl.length nc) (hnew : w.heap.size ≤ nb) (hrow : W.ownsRow 0 101 2 p.fv p.fl.length (vflat p.fl)) (k : Nat) (hk : args.length = k) (vc : Nat) :
    Calls Tryd.prog 149 #[.pointer (some ⟨mb, 0, none⟩), .slice va k vc, .int .u8 p.kind, .slice (some ⟨nb, 0, none⟩) p.fl.length nc] W fun e w' => DoPost own mb g (NewOb R fs f rest j ds p) 0 w e w' := by
  obtain ⟨o, ho, hok⟩ := hj.free
  have hpos : 0 < R.obs.length := by have := (List.getElem?_eq_some_iff.1 ho).1; omega
  have hff : (taken R.obs == R.obs.length) = false := beq_eq_false_iff_ne.2 (taken_notFull ho hok)
  have HFU : Hid (∀ U, Below W.heap.size W U → Calls Tryd.prog 155 #[.pointer (some ⟨mb, 4, none⟩)] U fun e w' => e = .returned (.bool false) ∧ Below U.heap.size U w') := by
    intro U hU
    have hBU := below_via' hU hB
    have := full_any (h.m.same hBU.size fun k hk => hBU.block k hk) hpos hn
    rw [hff] at this
    exact this
  have hvb : p.fv.ownBlock = some nb := by rw [hfv]; rfl
  have HLAY : Hid (∀ U, Below W.heap.size W U → Calls Tryd.prog 157 #[.pointer (some ⟨mb, 4, none⟩), .agg #[.int .u8 p.kind, .slice (some ⟨nb, 0, none⟩) p.fl.length nc]] U fun e w' => ∃ dv, e = .returned (.int .i64 (j : Int)) ∧ AtOp w' (own.upd p.fv.ownBlock (.fld j)) mb g { R with dv := dv, dr := ds, obs := R.obs.set j p } fs f rest args va sb ∧ Touched own w (own.upd p.fv.ownBlock (.fld j)) w') := by
    intro U hU
    have hBU := below_via' hU hB
    have hmU := h.m.same hBU.size fun k hk => hBU.block k hk
    have := lay_any hmU j ds hj hn hdn p nb nc hfv (h.m.nobody hvb hnew) (ownsRow_of_block hrow fun b hb => hU.block b (hrow.lt b hb).2)
    rw [hfv] at this
    rw [hfv] at hvb ⊢
    exact this.mono fun e w' hl => by
      have := h.lay hBU (fun b hb => by rw [hfv, hvb] at hb; cases hb; exact hnew) hl
      rw [hfv] at this
      exact this
  clear h hB hj hfv hrow hff ho hok hvb
  go_enter Tryd.func149, Tryd.ntmps149
  go_wp2_with (first | (go_at_call 155; refine (HFU.out _ ?_).mono ?_; exact (by repeat (first | exact Below.refl _ _ | exact HB2.out)); rintro e w2 ⟨rfl, hb2⟩; have HB2 : Hid (Below W.heap.size W w2) := below_via' hb2 (by repeat (first | exact Below.refl _ _ | exact HB2.out)); clear hb2))
  refine (HLAY.out _ HB2.out).mono ?_
  rintro e w3 ⟨dv, rfl, hA3, ht3⟩
  have HA3 := hid hA3
  have HT3 := hid ht3
  clear hA3 ht3
  go_wp2_with (first | (go_at_call 156; refine (reference_any _ _).mono ?_; rintro e w' ⟨rfl, o4, rfl⟩) | (go_at_call 137; refine (HA3.out.answer (by repeat (first | exact Below.refl _ _ | refine Below.drew ?_ | refine Below.drewQ ?_ _ | refine Below.alloc ?_ (by first | (simp; done) | (simp; omega)) _)) vc _ [(2, (j : Int))] (pushed_one HA3.out.m (by first | omega | (simp; omega)) (blk_new (by simp))) (by simp) k hk).mono ?_; rintro e w' ⟨own', sv', rfl, hm, ht⟩))
  go_ret
  exact ⟨own', _, rfl, hm, ⟨sv', dv, rfl⟩, HT3.out.trans ht⟩

set_option maxRecDepth 100000 in
set_option maxHeartbeats 2000000 in
theorem doRecord_ok {own : Own} {mb : Nat} {g : PgR} {R : McR} {fs : List FrR} {f : FrR} {rest : List Val} {va : Option Addr} {sb : Nat} {w : World} (h : AtOp w own mb g R fs f rest [] va sb) (j : Nat) (ds : List Int) (hj : Picks R.obs R.dr j ds) (hn : R.obs.length ≤ 1000) (hdn : R.dr.length ≤ 1000) (a : Nat) (ha : a ≤ 8) (vc : Nat) :
    Calls Tryd.prog 124 #[.pointer (some ⟨mb, 0, none⟩), .int .i64 (a : Int), .slice va 0 vc] w fun e w' => DoPost own mb g (NewOb R fs f rest j ds ⟨1, .slice (some ⟨w.heap.size, 0, none⟩) a a, List.replicate a (0, 0)⟩) 0 w e w' := by
  obtain ⟨i101, hi, hz, hsz, hby⟩ := info_parts info101
  have HMK : Hid (∀ W : World, (Instr.makeSlice 92 (.int .i64 (a : Int)) (.int .i64 (a : Int))).run Tryd.prog W = .ok (.slice (some ⟨W.heap.size, 0, none⟩) a a) (W.alloc (.cells (madeCells #[.int .u8 0, .int .i64 0] (a * 2)) 101))) := by
    intro W
    have hr := run_make (P := Tryd.prog) W 92 101 i101 _ Tryd.underlying92 hi hz .i64 .i64 a a (by omega) (Int.le_refl _) (by rw [hby]; omega) (by omega)
    simpa [hsz, Value.cells] using hr
  have hmk := HMK.out
  have hrow : (w.alloc (Obj.cells (madeCells #[.int .u8 0, .int .i64 0] (a * 2)) 101)).ownsRow 0 101 2 (.slice (some ⟨w.heap.size, 0, none⟩) a a) a (vflat (List.replicate a (0, 0))) := by
    have := World.ownsRow_lit (base := 0) (e := 101) (size := 2) w (madeCells #[.int .u8 0, .int .i64 0] (a * 2)) a (Nat.zero_le _) (by unfold maxLen; omega) (by rw [size_madeCells])
    rwa [made_flat] at this
  have HAN : Hid (Calls Tryd.prog 149 #[.pointer (some ⟨mb, 0, none⟩), .slice va 0 vc, .int .u8 1, .slice (some ⟨w.heap.size, 0, none⟩) a a] (w.alloc (Obj.cells (madeCells #[.int .u8 0, .int .i64 0] (a * 2)) 101)) fun e w' => DoPost own mb g (NewOb R fs f rest j ds ⟨1, .slice (some ⟨w.heap.size, 0, none⟩) a a, List.replicate a (0, 0)⟩) 0 w e w') := by
    have := answerNew_ok h (Below.alloc (Below.refl _ _) (Nat.le_refl _) (Obj.cells (madeCells #[.int .u8 0, .int .i64 0] (a * 2)) 101)) j ds hj hn hdn ⟨1, .slice (some ⟨w.heap.size, 0, none⟩) a a, List.replicate a (0, 0)⟩ w.heap.size a (by simp) (Nat.le_refl _) (by simpa using hrow) 0 rfl vc
    refine hid ?_
    simpa using this
  clear h hi hz hsz hby HMK hj hrow
  go_enter Tryd.func124, Tryd.ntmps124
  go_wp2_with (go_at_call 149; refine HAN.out.mono ?_; rintro e w' ⟨own', R', rfl, hm, hp, ht⟩)
  go_ret
  exact ⟨own', R', rfl, hm, hp, ht⟩

end Go.Proofs.YtiejbnfjdobpcaaDoor
