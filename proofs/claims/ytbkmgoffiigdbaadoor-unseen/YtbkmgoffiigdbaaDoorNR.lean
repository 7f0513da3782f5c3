import Derived.Test.YtbkmgoffiigdbaaDoorNQ
namespace Go.Proofs.YtbkmgoffiigdbaaDoor
open Go.RowKit Go.Sort

set_option maxHeartbeats 1000000 in
theorem New_any (g : PgR) (w : World) (hg : PgIn w.heap.size w g) (ht : Tab w) (hck : CheckIs g 0 0) (cap : Nat) (h1 : 1 ≤ cap) (h40 : cap ≤ 40) :
    Calls Tryd.prog 41 #[.agg #[.slice g.a g.n g.c], .int .i64 (cap : Int)] w fun e w' => NewPost g cap w e w' := by
  have HB : Hid (∀ W, Below w.heap.size w W → Calls Tryd.prog 57 #[.agg #[.slice g.a g.n g.c], .int .i64 (cap : Int)] W fun e w' => NewPost g cap W e w') := by
    intro W hW
    exact begin_any g W (hg.held hW.size fun k hk => hW.block k (hg.blk_lt hk)) (ht.held hW.size (hW.block 0 ht.1)) hck cap h1 h40
  clear hg ht hck
  go_enter Tryd.func41, Tryd.ntmps41
  go_wp2_with (go_at_call 57; refine (HB.out _ ?_).mono ?_; exact (by repeat (first | exact Below.refl _ _ | refine Below.alloc ?_ (by first | (simp; done) | (simp; omega)) _)); rintro e w2 ⟨own, mb, g', R, rfl, hm, hbg, hsame, hb, hnew⟩)
  go_ret2
  have hW : Below w.heap.size w (w.alloc (Obj.cells #[.slice g.a g.n g.c] 24)) := Below.alloc (Below.refl _ _) (Nat.le_refl _) _
  exact ⟨own, mb, g', R, rfl, hm, hbg, hsame, below_via' hb hW, fun k t hk => Nat.le_trans hW.size (hnew k t hk)⟩

set_option maxHeartbeats 1000000 in
theorem Run_any {own : Own} {mb : Nat} {g : PgR} {w : World} {P : McR → Prop} {n : Nat} {fuel : Int} (h : Calls Tryd.prog 42 #[.pointer (some ⟨mb, 0, none⟩), .int .i64 fuel] w fun e w' => RunPost own mb g P n w e w') :
    Calls Tryd.prog 16 #[.pointer (some ⟨mb, 0, none⟩), .int .i64 fuel] w fun e w' => RunPost own mb g P n w e w' := by
  have H := hid h
  clear h
  go_enter Tryd.func16, Tryd.ntmps16
  go_wp2_with (go_at_call 42; refine H.out.mono ?_; rintro e w2 ⟨own', R', rfl, hm, hp, ht⟩)
  go_ret2
  exact ⟨own', R', rfl, hm, hp, ht⟩

def taken (l : List ObR) : Nat := (l.filter fun o => o.kind != 0).length

theorem taken_succ {l : List ObR} {i : Nat} {o : ObR} (h : l[i]? = some o) : taken (l.take (i + 1)) = taken (l.take i) + if o.kind != 0 then 1 else 0 := by
  have hi := (List.getElem?_eq_some_iff.1 h).1
  have e : l.take (i + 1) = l.take i ++ [o] := by rw [List.take_add_one, h]; rfl
  unfold taken
  rw [e, List.filter_append, List.length_append]
  congr 1
  by_cases hk : o.kind != 0 <;> simp [List.filter, hk]
theorem taken_le (l : List ObR) : taken l ≤ l.length := List.length_filter_le _ _

theorem row_form {w : World} {own : Own} {t : Tag} {e size : Nat} {v : Value} {n : Nat} {xs : List Value} (h : Row w own t e size v n xs) : ∃ a c, v = .slice a n c := by
  rcases h.1.2 with ⟨e, e0⟩ | ⟨gb, cap, _, e, _⟩
  · exact ⟨none, 0, by rw [e, e0]⟩
  · exact ⟨_, _, e⟩

set_option maxRecDepth 100000 in
set_option maxHeartbeats 2000000 in
theorem taken_any {own : Own} {mb : Nat} {g : PgR} {R : McR} {w : World} (h : MachAt w own mb g R) (hpos : 0 < R.obs.length) (hn : R.obs.length ≤ 1000) :
    Calls Tryd.prog 43 #[.pointer (some ⟨mb, 4, none⟩)] w fun e w' => e = .returned (.int .i64 (taken R.obs : Int)) ∧ Below w.heap.size w w' := by
  have c4 := h.c4
  have hmb : mb < w.heap.size := h.lt mb _ h.me
  have HH := hid h
  obtain ⟨hb, hc, e, _, hlt⟩ := h.slots.1.form hpos
  have hrow := h.slots.1
  rw [e] at c4 hrow
  have HROW := hid hrow
  clear h e hrow
  go_enter Tryd.func43, Tryd.ntmps43
  go_wp2_with fail
  go_loopw [3, 11] (fun vn vi wr => ∃ i : Nat, i ≤ R.obs.length ∧ vi = .int .i64 i ∧ vn = .int .i64 (taken (R.obs.take i) : Int) ∧ Below w.heap.size w wr) (fun _ vi _ => R.obs.length - (intOf vi).toNat)
  case atStart => exact ⟨0, Nat.zero_le _, rfl, rfl, Below.refl _ _⟩
  case round =>
    obtain ⟨i, hi, rfl, rfl, hbel⟩ := hrel
    by_cases hlti : i < R.obs.length
    · obtain ⟨o, ho⟩ : ∃ o, R.obs[i]? = some o := ⟨_, List.getElem?_eq_getElem hlti⟩
      have hcell : ∀ j, j < 2 → wr.cell? ⟨hb, i * 2 + j, none⟩ = o.cells[j]? := fun j hj => by
        rw [hbel.cell (p := ⟨hb, _, none⟩) hlt, HROW.out.cellAt _ (by omega)]; exact flat_get ObR.cells_len ho hj
      obtain ⟨fa, fc, hfv⟩ := row_form (HH.out.fld i o ho)
      have k0 : wr.cell? ⟨hb, i * 2, none⟩ = some (.int .u8 o.kind) := hcell 0 (by omega)
      have k1 : wr.cell? ⟨hb, i * 2 + 1, none⟩ = some o.fv := hcell 1 (by omega)
      rw [hfv] at k1
      have hts := taken_succ ho
      have htl := taken_le (R.obs.take i)
      have hlw : hb < wr.heap.size := Nat.lt_of_lt_of_le hlt hbel.size
      have hti : taken (R.obs.take i) ≤ 1000 := by rw [List.length_take] at htl; omega
      have HTS := hid hts
      have HBEL := hid hbel
      clear hcell hfv hts htl hbel ho
      cases hk : (o.kind != 0)
      · go_wp2_with fail
        go_roundw
        case rel => exact ⟨i + 1, by omega, by go_num, by rw [HTS.out, hk]; rfl, by repeat (first | exact HBEL.out | refine Below.setCell ?_ (by have := HBEL.out.size; first | omega | (simp; omega)) _ | refine Below.alloc ?_ (by have := HBEL.out.size; first | omega | (simp; omega)) _)⟩
        case measure => simp [intOf]; omega
      · go_wp2_with fail
        go_roundw
        case rel => exact ⟨i + 1, by omega, by go_num, by rw [HTS.out, hk]; go_num, by repeat (first | exact HBEL.out | refine Below.setCell ?_ (by have := HBEL.out.size; first | omega | (simp; omega)) _ | refine Below.alloc ?_ (by have := HBEL.out.size; first | omega | (simp; omega)) _)⟩
        case measure => simp [intOf]; omega
    · obtain rfl : i = R.obs.length := by omega
      go_wp2_with fail
      go_ret
      refine ⟨?_, hbel⟩
      rw [List.take_length]; rfl

set_option maxHeartbeats 1000000 in
theorem Status_any {own : Own} {mb : Nat} {g : PgR} {R : McR} {w : World} (h : MachAt w own mb g R) (hpos : 0 < R.obs.length) (hn : R.obs.length ≤ 1000) :
    Calls Tryd.prog 18 #[.pointer (some ⟨mb, 0, none⟩)] w fun e w' => e = .returned (.agg #[.int .i64 R.st, .int .i64 (taken R.obs : Int), .int .i64 (R.dr.length : Int)]) ∧ Below w.heap.size w w' := by
  have c1 := h.c1
  have c5 := h.c5
  obtain ⟨da, dc, hdv⟩ := row_form h.draws
  rw [hdv] at c5
  have hmb : mb < w.heap.size := h.lt mb _ h.me
  have HTK : Hid (∀ W, Below w.heap.size w W → Calls Tryd.prog 43 #[.pointer (some ⟨mb, 4, none⟩)] W fun e w' => e = .returned (.int .i64 (taken R.obs : Int)) ∧ Below W.heap.size W w') := by
    intro W hW
    exact taken_any (h.same hW.size fun k hk => hW.block k hk) hpos hn
  clear h hdv
  go_enter Tryd.func18, Tryd.ntmps18
  go_wp2_with fail
  go_region_with (first | (go_at_call 43; refine (HTK.out _ ?_).mono ?_; exact (by repeat (first | exact Below.refl _ _ | refine Below.drew ?_ | refine Below.alloc ?_ (by first | (simp; done) | (simp; omega)) _)); rintro e w2 ⟨rfl, hb2⟩; obtain ⟨hcc, hff⟩ := bcell hb2; have hs2 := hb2.size; have HB2 := hid hb2; clear hb2))
  all_goals
    have r0 : (((w2.setCell ⟨w.heap.size, 0, none⟩ (.int .i64 R.st)).setCell ⟨w.heap.size, 1, none⟩ (.int .i64 (taken R.obs : Int))).setCell ⟨w.heap.size, 2, none⟩ (.int .i64 (R.dr.length : Int))).cell? ⟨w.heap.size, 0, none⟩ = some (.int .i64 R.st) := by go_simp
    have r1 : (((w2.setCell ⟨w.heap.size, 0, none⟩ (.int .i64 R.st)).setCell ⟨w.heap.size, 1, none⟩ (.int .i64 (taken R.obs : Int))).setCell ⟨w.heap.size, 2, none⟩ (.int .i64 (R.dr.length : Int))).cell? ⟨w.heap.size, 1, none⟩ = some (.int .i64 (taken R.obs : Int)) := by go_simp
    have r2 : (((w2.setCell ⟨w.heap.size, 0, none⟩ (.int .i64 R.st)).setCell ⟨w.heap.size, 1, none⟩ (.int .i64 (taken R.obs : Int))).setCell ⟨w.heap.size, 2, none⟩ (.int .i64 (R.dr.length : Int))).cell? ⟨w.heap.size, 2, none⟩ = some (.int .i64 (R.dr.length : Int)) := by go_simp
    have hB : Below w.heap.size w (((w2.setCell ⟨w.heap.size, 0, none⟩ (.int .i64 R.st)).setCell ⟨w.heap.size, 1, none⟩ (.int .i64 (taken R.obs : Int))).setCell ⟨w.heap.size, 2, none⟩ (.int .i64 (R.dr.length : Int))) := by
      refine Below.setCell (Below.setCell (Below.setCell (below_via' HB2.out ?_) ?_ _) ?_ _) ?_ _
      · repeat (first | exact Below.refl _ _ | refine Below.drew ?_ | refine Below.alloc ?_ (by first | (simp; done) | (simp; omega)) _)
      · exact Nat.le_refl _
      · exact Nat.le_refl _
      · exact Nat.le_refl _
    clear hcc hff hs2
    generalize (((w2.setCell ⟨w.heap.size, 0, none⟩ (.int .i64 R.st)).setCell ⟨w.heap.size, 1, none⟩ (.int .i64 (taken R.obs : Int))).setCell ⟨w.heap.size, 2, none⟩ (.int .i64 (R.dr.length : Int))) = W3 at *
    go_wp2_with fail
    exact bodyPost_ret (v := .agg #[.int .i64 R.st, .int .i64 (taken R.obs : Int), .int .i64 (R.dr.length : Int)]) (by simp [results, Tryd.results18, go_sem, r0, r1, r2]) rfl ⟨rfl, hB⟩

/-- A copy of what has been put out. -/
def OutPost (l : List Int) (w : World) (e : Ending) (w' : World) : Prop :=
  Below w.heap.size w w' ∧ ((l = [] ∧ e = .returned (.slice none 0 0)) ∨ (0 < l.length ∧ ClonePost 3 1 l.length (l.map fun n => .int .i64 n) w e w'))

set_option maxHeartbeats 1000000 in
theorem clone_int_nil (w : World) : Calls Tryd.prog 44 #[.slice none 0 0] w fun e w' => e = .returned (.slice none 0 0) ∧ w' = w := by
  have heq : ∀ W : World, (binOp .eql 31 (.slice none 0 0) (.slice none 0 0)).run Tryd.prog W = .ok (.bool true) W := fun W => Go.Lib.run_eql_slice_nil W 31 3 none 0 0 0 0 Tryd.underlying31
  go_enter Tryd.func44, Tryd.ntmps44
  go_wp2_with fail
  go_ret
  exact ⟨rfl, rfl⟩

set_option maxHeartbeats 1000000 in
theorem Output_any {own : Own} {mb : Nat} {g : PgR} {R : McR} {w : World} (h : MachAt w own mb g R) (hn : R.out.length ≤ 1000) (hq : R.out = [] → R.ov = .slice none 0 0) :
    Calls Tryd.prog 20 #[.pointer (some ⟨mb, 0, none⟩)] w fun e w' => OutPost R.out w e w' := by
  have c2 := h.c2
  have hmb : mb < w.heap.size := h.lt mb _ h.me
  by_cases h0 : R.out.length = 0
  · have h00 := List.length_eq_zero_iff.1 h0
    rw [hq h00] at c2
    have H0 := hid h00
    clear h h0 h00 hq
    go_enter Tryd.func20, Tryd.ntmps20
    go_wp2_with (go_at_call 44; refine (clone_int_nil _).mono ?_; rintro e w' ⟨rfl, hw⟩; rw [hw]; clear hw w')
    go_ret
    exact ⟨Below.refl _ _, Or.inl ⟨H0.out, rfl⟩⟩
  · obtain ⟨ob, oc, e, _, hlt⟩ := h.out.1.form (by omega)
    have hrow := h.out.1
    rw [e] at c2 hrow
    have HC : Hid (∀ W, Below w.heap.size w W → Calls Tryd.prog 44 #[.slice (some ⟨ob, 0, none⟩) R.out.length oc] W fun e w' => ClonePost 3 1 R.out.length (R.out.map fun n => .int .i64 n) W e w') := by
      intro W hW
      refine clone_int ob 0 _ oc _ W (by omega) (by omega) (by simp) (fun j u hj => ?_) (fun u hu => ?_) (Nat.lt_of_lt_of_le hlt hW.size)
      · rw [Nat.zero_add, hW.cell (p := ⟨ob, _, none⟩) hlt, hrow.cellAt j (by have := (List.getElem?_eq_some_iff.1 hj).1; simp at this; omega)]
        exact hj
      · simp only [List.mem_map] at hu
        obtain ⟨n, _, rfl⟩ := hu
        rfl
    have hpos : 0 < R.out.length := by omega
    clear h e hrow hq h0
    go_enter Tryd.func20, Tryd.ntmps20
    go_wp2_with (go_at_call 44; refine (HC.out _ ?_).mono ?_; exact Below.refl _ _; rintro e w2 ⟨gb, cap, rfl, hown, hbel⟩)
    go_ret
    exact ⟨hbel, Or.inr ⟨hpos, gb, cap, rfl, hown, hbel⟩⟩

end Go.Proofs.YtbkmgoffiigdbaaDoor
