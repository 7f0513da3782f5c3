import Derived.Test.YtbkmgoffiigdbaaDoorNX
namespace Go.Proofs.YtbkmgoffiigdbaaDoor
open Go.RowKit Go.Sort

set_option maxHeartbeats 400000 in
theorem ktruth_any (b : Bool) (w : World) : Calls Tryd.prog 22 #[.bool b] w fun e w' => e = .returned (.int .i64 (truthI b)) ∧ w' = w := by
  cases b
  all_goals
    go_enter Tryd.func22, Tryd.ntmps22
    go_wp2
    go_ret
    exact ⟨rfl, rfl⟩

set_option maxRecDepth 100000 in
set_option maxHeartbeats 1000000 in
theorem reckons_any (x y : Int) (w : World) (ht : Tab w) :
    Calls Tryd.prog 6 #[.int .i64 x, .int .i64 y] w fun e w' => e = .returned (.bool true) ∧ Below w.heap.size w w' := by
  have HT := hid ht
  clear ht
  go_enter Tryd.func6, Tryd.ntmps6
  go_wp2_with (go_at_call 22; refine (ktruth_any _ _).mono ?_; rintro e w' ⟨rfl, hw⟩; rw [hw]; clear hw w')
  have hBV : Below w.heap.size w ((w.alloc (Obj.cells #[.int .i64 7, .int .i64 8, .int .i64 9, .int .i64 10, .int .i64 11] 3)).alloc (Obj.cells #[.int .i64 (wrap64 (x + y)), .int .i64 (wrap64 (x - y)), .int .i64 (wrap64 (x * y)), .int .i64 (truthI (decide (x < y))), .int .i64 (truthI (x == y))] 3)) := by repeat (first | exact Below.refl _ _ | refine Below.alloc ?_ (by first | (simp; done) | (simp; omega)) _)
  have hVs : ((w.alloc (Obj.cells #[.int .i64 7, .int .i64 8, .int .i64 9, .int .i64 10, .int .i64 11] 3)).alloc (Obj.cells #[.int .i64 (wrap64 (x + y)), .int .i64 (wrap64 (x - y)), .int .i64 (wrap64 (x * y)), .int .i64 (truthI (decide (x < y))), .int .i64 (truthI (x == y))] 3)).heap.size = w.heap.size + 2 := by simp
  have hrow : ∀ i, i < 5 → ∃ (k : Nat) (z : Int), ((w.alloc (Obj.cells #[.int .i64 7, .int .i64 8, .int .i64 9, .int .i64 10, .int .i64 11] 3)).alloc (Obj.cells #[.int .i64 (wrap64 (x + y)), .int .i64 (wrap64 (x - y)), .int .i64 (wrap64 (x * y)), .int .i64 (truthI (decide (x < y))), .int .i64 (truthI (x == y))] 3)).cell? ⟨w.heap.size, i, none⟩ = some (.int .i64 (k : Int)) ∧ ((w.alloc (Obj.cells #[.int .i64 7, .int .i64 8, .int .i64 9, .int .i64 10, .int .i64 11] 3)).alloc (Obj.cells #[.int .i64 (wrap64 (x + y)), .int .i64 (wrap64 (x - y)), .int .i64 (wrap64 (x * y)), .int .i64 (truthI (decide (x < y))), .int .i64 (truthI (x == y))] 3)).cell? ⟨w.heap.size + 1, i, none⟩ = some (.int .i64 z) ∧ Ari k x y z := by
    intro i hi
    match i, hi with
    | 0, _ => exact ⟨7, _, by go_simp, by go_simp, Or.inl ⟨rfl, rfl⟩⟩
    | 1, _ => exact ⟨8, _, by go_simp, by go_simp, Or.inr (Or.inl ⟨rfl, rfl⟩)⟩
    | 2, _ => exact ⟨9, _, by go_simp, by go_simp, Or.inr (Or.inr (Or.inl ⟨rfl, rfl⟩))⟩
    | 3, _ => exact ⟨10, _, by go_simp, by go_simp, Or.inr (Or.inr (Or.inr (Or.inl ⟨rfl, rfl⟩)))⟩
    | 4, _ => exact ⟨11, _, by go_simp, by go_simp, Or.inr (Or.inr (Or.inr (Or.inr ⟨rfl, rfl⟩)))⟩
  generalize ((w.alloc (Obj.cells #[.int .i64 7, .int .i64 8, .int .i64 9, .int .i64 10, .int .i64 11] 3)).alloc (Obj.cells #[.int .i64 (wrap64 (x + y)), .int .i64 (wrap64 (x - y)), .int .i64 (wrap64 (x * y)), .int .i64 (truthI (decide (x < y))), .int .i64 (truthI (x == y))] 3)) = V at *
  have HBV := hid hBV
  have HVS := hid hVs
  have HROW := hid hrow
  clear hBV hVs hrow
  go_loopw [7] (fun v wr => ∃ i : Nat, i ≤ 5 ∧ v = .int .i64 i ∧ Below V.heap.size V wr) (fun v _ => 5 - (intOf v).toNat)
  case atStart => exact ⟨0, Nat.zero_le _, rfl, Below.refl _ _⟩
  case round =>
    obtain ⟨i, hi, rfl, hbel⟩ := hrel
    by_cases hlt : i < 5
    · obtain ⟨k, z, r1, r2, hz⟩ := HROW.out i hlt
      have l1 : w.heap.size < V.heap.size := by have := HVS.out; omega
      have l2 : w.heap.size + 1 < V.heap.size := by have := HVS.out; omega
      rw [← hbel.cell (p := ⟨w.heap.size, i, none⟩) l1] at r1
      rw [← hbel.cell (p := ⟨w.heap.size + 1, i, none⟩) l2] at r2
      have l3 : w.heap.size + 1 < wr.heap.size := Nat.lt_of_lt_of_le l2 hbel.size
      have hk : 7 ≤ k ∧ k ≤ 11 := by rcases hz with ⟨rfl, _⟩ | ⟨rfl, _⟩ | ⟨rfl, _⟩ | ⟨rfl, _⟩ | ⟨rfl, _⟩ <;> omega
      have HTO : Hid (∀ U g, PgIn U.heap.size U g → SProg g 0 (straightL x y k) → Below wr.heap.size wr U → Calls Tryd.prog 23 #[.agg #[.slice g.a g.n g.c]] U fun e w' => ToldOne z U e w') := by
        intro U g hg hs hU
        have hBU : Below w.heap.size w U := below_via' hU (below_via' hbel HBV.out)
        refine told_one g U hg (HT.out.held hBU.size (hBU.block 0 HT.out.1)) (check_straight hk hs) z 5 ?_
        intro own mb g' R w' hm hbg hsame
        exact run_straight hm (hs.same hsame) hz (mid_begun hs hbg) 1000 (by omega) (by omega)
      have HBEL := hid hbel
      clear hbel hz hk l1 l2
      go_wp2_with (first | (go_at_call 24; refine (straight_any x y k _).mono ?_; rintro e w3 ⟨g, rfl, hpg, hsp, hb3⟩; have HPG := hid hpg; have HSP := hid hsp; have HB3 := hid hb3; clear hpg hsp hb3) | (go_at_call 23; refine (HTO.out _ g HPG.out HSP.out HB3.out).mono ?_; rintro e w4 ⟨b, c, rfl, hc4, hl4, hb4⟩; have HB4 : Hid (Below wr.heap.size wr w4) := below_via' hb4 HB3.out; have r4 := (HB4.out.cell (p := ⟨w.heap.size + 1, i, none⟩) l3).trans r2; clear hb4))
      go_region
      all_goals go_wp2_with fail
      all_goals go_roundw
      all_goals first | exact ⟨i + 1, by omega, by go_num, Below.drew (below_via' HB4.out HBEL.out)⟩ | exact ⟨i + 1, by omega, by go_num, below_via' HB4.out HBEL.out⟩ | (simp [intOf]; omega)
    · obtain rfl : i = 5 := by omega
      go_wp2_with fail
      go_ret
      exact ⟨rfl, below_via' hbel HBV.out⟩

end Go.Proofs.YtbkmgoffiigdbaaDoor
