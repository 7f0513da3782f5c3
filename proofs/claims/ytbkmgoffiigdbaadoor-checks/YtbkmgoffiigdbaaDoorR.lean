import Derived.Test.YtbkmgoffiigdbaaDoorQ
import Derived.Deep.RegionWith
namespace Go.Proofs.YtbkmgoffiigdbaaDoor
open Go.RowKit Go.Sort

set_option maxRecDepth 100000 in
set_option maxHeartbeats 4000000 in
theorem refCheck_any (g : PgR) (w : World) (hg : PgIn w.heap.size w g) :
    Calls Tryd.prog 12 #[.agg #[.slice g.a g.n g.c]] w fun e w' => CheckPost g w e w' := by
  have hn := hg.1
  by_cases h8 : 1 ≤ g.n ∧ g.n ≤ 8
  · obtain ⟨h81, h82⟩ := h8
    obtain ⟨ha, hb, hc⟩ := hg.2.1 (by omega)
    have HC := (show Hid _ from hc); clear hc
    have HA := (show Hid _ from ha)
    have k0' : (w.alloc (Obj.cells #[Value.slice g.a g.n g.c] 24)).cell? ⟨w.heap.size, 0, none⟩ = some (.slice g.a g.n g.c) := by go_simp
    rw [ha] at k0' ⊢
    clear ha
    go_enter Tryd.func12, Tryd.ntmps12
    go_wp2
    have hbelW : Below w.heap.size w (w.alloc (Obj.cells #[Value.slice (some ⟨g.b, g.o, none⟩) g.n g.c] 24)) := (Below.refl _ _).alloc (Nat.le_refl _) _
    have hsW : (w.alloc (Obj.cells #[Value.slice (some ⟨g.b, g.o, none⟩) g.n g.c] 24)).heap.size = w.heap.size + 1 := by simp
    generalize w.alloc (Obj.cells #[Value.slice (some ⟨g.b, g.o, none⟩) g.n g.c] 24) = W1 at *
    go_loopw [4] (fun i wr => ∃ k : Nat, k ≤ g.n ∧ i = .int .i64 k ∧ (∀ j : Nat, j < k → sizedB j (g.f j).p (g.f j).l (g.f j).n = true) ∧ Below W1.heap.size W1 wr) (fun i _ => g.n - (intOf i).toNat)
    case atStart => exact ⟨0, Nat.zero_le _, rfl, fun j hj => by omega, Below.refl _ _⟩
    case round =>
      obtain ⟨k, hk, rfl, hok0, hbel⟩ := hrel
      have HOK := (show Hid _ from hok0); clear hok0
      have hsz := hbel.size
      have hwz : w.heap.size < wr.heap.size := by omega
      have hbelw : Below w.heap.size w wr := hbelW.trans (hbel.mono (by omega))
      have k0 : wr.cell? ⟨w.heap.size, 0, none⟩ = some (.slice (some ⟨g.b, g.o, none⟩) g.n g.c) := by rw [hbel.cell (by show w.heap.size < W1.heap.size; omega)]; exact k0'
      by_cases hlt : k < g.n
      · obtain ⟨c0, c1, c2⟩ := HC.out k hlt
        rw [← hbelw.cell (p := ⟨g.b, _, none⟩) hb] at c0 c1 c2
        have hbw : g.b < wr.heap.size := by omega
        have hfn := (hg.2.2 k hlt).1
        cases hs : sizedB k (g.f k).p (g.f k).l (g.f k).n
        · go_wp2_with fail
          refine (sized_any _ _ _ _ _ _ _ hfn).mono ?_
          rintro e w2 ⟨rfl, hb2⟩
          rw [hs]
          go_wp2_with fail
          go_ret2
          exact checkPost 1 k rfl (Or.inl ⟨Or.inr (Or.inr ⟨rfl, h81, h82, k, rfl, hlt, hs, HOK.out⟩), rfl⟩) (below_via hb2 hbelw (by first | omega | (simp; done) | (simp; omega)))
        · go_wp2_with fail
          refine (sized_any _ _ _ _ _ _ _ hfn).mono ?_
          rintro e w2 ⟨rfl, hb2⟩
          rw [hs]
          go_wp2_with fail
          go_roundw
          case rel => exact ⟨k + 1, by omega, by go_num, fun t ht => by
            by_cases e : t = k
            · subst e; exact hs
            · exact HOK.out t (by omega), below_via hb2 hbel (by first | omega | (simp; done) | (simp; omega))⟩
          case measure => simp [intOf]; omega
      · have hS : AllSized g := ⟨h81, h82, fun i hi => HOK.out i (by omega)⟩
        have hsS : SizesSay g 0 true := Or.inl ⟨rfl, rfl, h81, h82, hS.2.2⟩
        go_wp2_with fail
        clear k0
        go_loopw [6] (fun i wr => ∃ k : Nat, k ≤ g.n ∧ i = .int .i64 k ∧ (∀ i, i < k → ∀ j, j < (g.f i).n → legalAt g i j = true) ∧ Below W1.heap.size W1 wr) (fun i _ => g.n - (intOf i).toNat)
        case atStart => exact ⟨0, Nat.zero_le _, rfl, fun j hj => by omega, hbel⟩
        case round =>
          clear HOK hbel hsz hwz hbelw hlt
          obtain ⟨k, hk, rfl, hok0, hbel⟩ := hrel
          have HOK := (show Hid _ from hok0); clear hok0
          have hsz := hbel.size
          have hwz : w.heap.size < wr.heap.size := by omega
          have hbelw : Below w.heap.size w wr := hbelW.trans (hbel.mono (by omega))
          have k0 : wr.cell? ⟨w.heap.size, 0, none⟩ = some (.slice (some ⟨g.b, g.o, none⟩) g.n g.c) := by rw [hbel.cell (by show w.heap.size < W1.heap.size; omega)]; exact k0'
          by_cases hlt : k < g.n
          · obtain ⟨hf1, hf60, hfl0, hfl8, _, _⟩ := hS.bd hlt
            obtain ⟨hfa, hfb, hfc⟩ := (hg.2.2 k hlt).2 hf1
            have HFC := (show Hid _ from hfc); clear hfc
            have HFA := (show Hid _ from hfa); clear hfa
            go_wp2_with fail
            clear k0
            go_loopw [7] (fun i wx => ∃ j : Nat, j ≤ (g.f k).n ∧ i = .int .i64 j ∧ (∀ t, t < j → legalAt g k t = true) ∧ Below W1.heap.size W1 wx) (fun i _ => (g.f k).n - (intOf i).toNat)
            case atStart => exact ⟨0, Nat.zero_le _, rfl, fun j hj => by omega, hbel⟩
            case round =>
              clear hbel hsz hwz hbelw
              obtain ⟨j, hj, rfl, hokj0, hbel⟩ := hrel
              have HOKJ := (show Hid _ from hokj0); clear hokj0
              have hsz := hbel.size
              have hwz : w.heap.size < wr.heap.size := by omega
              have hbelw : Below w.heap.size w wr := hbelW.trans (hbel.mono (by omega))
              have k0 : wr.cell? ⟨w.heap.size, 0, none⟩ = some (.slice (some ⟨g.b, g.o, none⟩) g.n g.c) := by rw [hbel.cell (by show w.heap.size < W1.heap.size; omega)]; exact k0'
              obtain ⟨c0, c1, c2⟩ := HC.out k hlt
              rw [← hbelw.cell (p := ⟨g.b, _, none⟩) hb] at c0 c1 c2
              rw [HFA.out] at c2
              have hbw : g.b < wr.heap.size := by omega
              by_cases hjl : j < (g.f k).n
              · obtain ⟨o0, o1⟩ := HFC.out j hjl
                rw [← hbelw.cell (p := ⟨(g.f k).b, _, none⟩) hfb] at o0 o1
                have hfbw : (g.f k).b < wr.heap.size := by omega
                have m0 := cell_regrown k0
                have m1 := cell_regrown c0
                have m2 := cell_regrown c1
                have m3 := cell_regrown c2
                have m4 := cell_regrown o0
                have m5 := cell_regrown o1
                have HLG : Hid (∀ d os, Calls Tryd.prog 34 #[.agg #[.slice (some ⟨g.b, g.o, none⟩) g.n g.c], .agg #[.int .i64 (g.f k).p, .int .i64 (g.f k).l, .slice (some ⟨(g.f k).b, (g.f k).o, none⟩) (g.f k).n (g.f k).c], .agg #[.int .i64 ((g.f k).op j), .int .i64 ((g.f k).ar j)]] (grow (redrawn wr d) os) fun e w'' => e = .returned (.bool (legalAt g k j)) ∧ ∃ p : Regrown, w'' = grow (redrawn wr p.d) p.os) := fun d os => Calls.regrown_of (legal_any _ _ _ _ _ _ _ _ _ _ _)
                cases hlj : legalAt g k j
                · rw [hlj] at HLG
                  go_wp2_with fail
                  clear k0 c0 c1 c2 o0 o1
                  refine wp_region_quiet_below (by kernel_rfl) (by kernel_rfl) ?_
                  repeat (first
                    | go_big_quiet_step ((go_at_call 34; exact HLG.out _ _))
                    | quiet_step ((go_at_call 34; exact HLG.out _ _)))
                  refine wpQuiet_nil ?_
                  intro _ hw'
                  obtain ⟨⟨dq, osq⟩, hw''⟩ := hw'
                  subst hw''
                  clear m0 m1 m2 m3 m4 m5
                  go_wp2_with fail
                  go_ret2
                  exact checkPost 2 _ rfl (Or.inr ⟨hsS, Or.inl ⟨Or.inr ⟨rfl, k, j, rfl, hlt, HOK.out, hjl, hlj, HOKJ.out⟩, rfl⟩⟩) (hbelw.trans ((below_regrown wr dq osq).mono hbelw.size))
                · rw [hlj] at HLG
                  go_wp2_with fail
                  clear k0 c0 c1 c2 o0 o1
                  refine wp_region_quiet_below (by kernel_rfl) (by kernel_rfl) ?_
                  repeat (first
                    | go_big_quiet_step ((go_at_call 34; exact HLG.out _ _))
                    | quiet_step ((go_at_call 34; exact HLG.out _ _)))
                  refine wpQuiet_nil ?_
                  intro _ hw'
                  obtain ⟨⟨dq, osq⟩, hw''⟩ := hw'
                  subst hw''
                  clear m0 m1 m2 m3 m4 m5
                  go_wp2_with fail
                  go_roundw
                  case rel => exact ⟨j + 1, by omega, by go_num, fun t ht => by
                    by_cases e : t = j
                    · subst e; exact hlj
                    · exact HOKJ.out t (by omega), hbel.trans ((below_regrown wr dq osq).mono hbel.size)⟩
                  case measure => simp [intOf]; omega
              · go_wp2_with fail
                go_roundw
                case rel => exact ⟨k + 1, by omega, by go_num, fun t ht j' hj' => by
                  by_cases e : t = k
                  · subst e; exact HOKJ.out j' (by omega)
                  · exact HOK.out t (by omega) j' hj', hbel⟩
                case measure => simp [intOf]; omega
          · have hL : AllLegal g := fun i hi j hj => HOK.out i (by omega) j hj
            have hcS : CodeSay g 0 true := Or.inl ⟨rfl, rfl, hL⟩
            go_wp2_with fail
            clear k0
            go_loopw [9] (fun i wr => ∃ k : Nat, k ≤ g.n ∧ i = .int .i64 k ∧ (∀ i, i < k → (flowOf g (g.f i)).Fits) ∧ Below W1.heap.size W1 wr) (fun i _ => g.n - (intOf i).toNat)
            case atStart => exact ⟨0, Nat.zero_le _, rfl, fun j hj => by omega, hbel⟩
            case round =>
              clear HOK hbel hsz hwz hbelw hlt
              obtain ⟨k, hk, rfl, hok0, hbel⟩ := hrel
              have HOK := (show Hid _ from hok0); clear hok0
              have hsz := hbel.size
              have hwz : w.heap.size < wr.heap.size := by omega
              have hbelw : Below w.heap.size w wr := hbelW.trans (hbel.mono (by omega))
              have k0 : wr.cell? ⟨w.heap.size, 0, none⟩ = some (.slice (some ⟨g.b, g.o, none⟩) g.n g.c) := by rw [hbel.cell (by show w.heap.size < W1.heap.size; omega)]; exact k0'
              by_cases hlt : k < g.n
              · obtain ⟨c0, c1, c2⟩ := HC.out k hlt
                rw [← hbelw.cell (p := ⟨g.b, _, none⟩) hb] at c0 c1 c2
                have hbw : g.b < wr.heap.size := by omega
                have HH : Hid (∀ W, Below wr.heap.size wr W → Calls Tryd.prog 35 #[.agg #[.slice (some ⟨g.b, g.o, none⟩) g.n g.c], .agg #[.int .i64 (g.f k).p, .int .i64 (g.f k).l, .slice (g.f k).a (g.f k).n (g.f k).c]] W fun e w' => HeightsPost g (g.f k) W e w') := by
                  intro W hW
                  have hwW : Below w.heap.size w W := hbelw.trans (hW.mono hbelw.size)
                  rw [← HA.out]
                  exact heights_any w.heap.size g (g.f k) W (Nat.le_trans hbelw.size hW.size) (hg.below hwW) ((hg.2.2 k hlt).below hwW) (good_of hS hL hlt)
                go_wp2_with fail
                go_region_with ((go_at_call 35; refine (HH.out _ ?_).mono ?_; exact (Below.refl _ _).drew; rintro e w2 ⟨v, ok, rfl, hiff, hb2⟩))
                all_goals
                  have hB2 : Below w.heap.size w w2 := below_via hb2 hbelw.drew (by show w.heap.size ≤ wr.heap.size; omega)
                  have hB1 : Below W1.heap.size W1 w2 := below_via hb2 hbel.drew (by show W1.heap.size ≤ wr.heap.size; omega)
                  clear hb2 k0 c0 c1 c2 HH
                  cases ok
                  · have hnf : ¬ (flowOf g (g.f k)).Fits := fun h => by have := hiff.2 h; cases this
                    have HNF := (show Hid _ from hnf); clear hnf hiff
                    go_wp2_with fail
                    go_ret2
                    exact checkPost 3 k rfl (Or.inr ⟨hsS, Or.inr ⟨hcS, Or.inl ⟨Or.inr ⟨rfl, k, rfl, hlt, HNF.out, HOK.out⟩, rfl⟩⟩⟩) hB2
                  · have hfit := hiff.1 rfl
                    have HFIT := (show Hid _ from hfit); clear hfit hiff
                    go_wp2_with fail
                    go_roundw
                    case rel => exact ⟨k + 1, by omega, by go_num, fun t ht => by
                      by_cases e : t = k
                      · subst e; exact HFIT.out
                      · exact HOK.out t (by omega), hB1⟩
                    case measure => simp [intOf]; omega
              · go_wp2_with fail
                go_ret2
                exact checkPost 0 0 rfl (Or.inr ⟨hsS, Or.inr ⟨hcS, Or.inr ⟨Or.inl ⟨rfl, rfl, fun i hi => HOK.out i (by omega)⟩, rfl, rfl⟩⟩⟩) hbelw
  · have hB : Below w.heap.size w (w.alloc (Obj.cells #[Value.slice g.a g.n g.c] 24)) := (Below.refl _ _).alloc (Nat.le_refl _) _
    by_cases h0 : g.n < 1
    · go_enter Tryd.func12, Tryd.ntmps12
      go_wp2
      go_ret2
      exact checkPost 1 0 rfl (Or.inl ⟨Or.inr (Or.inl ⟨rfl, rfl, h8⟩), rfl⟩) hB
    · have h9 : 8 < g.n := by omega
      go_enter Tryd.func12, Tryd.ntmps12
      go_wp2
      go_ret2
      exact checkPost 1 0 rfl (Or.inl ⟨Or.inr (Or.inl ⟨rfl, rfl, h8⟩), rfl⟩) hB

end Go.Proofs.YtbkmgoffiigdbaaDoor
