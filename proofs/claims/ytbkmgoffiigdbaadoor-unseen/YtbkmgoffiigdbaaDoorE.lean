import Derived.Test.YtbkmgoffiigdbaaDoorM
import Derived.Test.YtbkmgoffiigdbaaDoorC
namespace Go.Proofs.YtbkmgoffiigdbaaDoor
open Go.RowKit

theorem bcell {W w1 : World} (hb : Below W.heap.size W w1) : (∀ b o, b < W.heap.size → w1.cell? ⟨b, o, none⟩ = W.cell? ⟨b, o, none⟩) ∧ (∀ b o, b < W.heap.size → w1.frozen? ⟨b, o, none⟩ = W.frozen? ⟨b, o, none⟩) :=
  ⟨fun b o h => hb.cell (p := ⟨b, o, none⟩) h, fun b o h => hb.frozen (p := ⟨b, o, none⟩) h⟩

theorem below_via {B : Nat} {w W w2 : World} (h2 : Below W.heap.size W w2) (h1 : Below B w W) (hB : B ≤ W.heap.size) : Below B w w2 := h1.trans (h2.mono hB)

theorem sized_sizes (k : Nat) (p l : Int) (n : Nat) : sizedB k p l n = (sizesB p l n && !(((k : Int) == 0) && p != 0)) := by
  rw [Bool.eq_iff_iff]
  simp only [sizedB, sizesB, insideB, Bool.and_eq_true, Bool.or_eq_true, decide_eq_true_eq, beq_iff_eq, Bool.not_eq_true', Bool.and_eq_false_iff, beq_eq_false_iff_ne, bne_eq_false_iff_eq]
  omega

set_option maxHeartbeats 1000000 in
theorem checkSizes_any (g : PgR) (w : World) (hg : PgIn w.heap.size w g) :
    Calls Tryd.prog 50 #[.agg #[.slice g.a g.n g.c]] w fun e w' => ∃ (at_ : Int) (ok : Bool), e = .returned (.tuple #[.int .i64 at_, .bool ok]) ∧ SizesSay g at_ ok ∧ Below w.heap.size w w' := by
  have hn := hg.1
  by_cases h8 : 1 ≤ g.n ∧ g.n ≤ 8
  · have hin : insideB g.n 1 8 = true := insideB_t (by omega) (by omega)
    obtain ⟨h81, h82⟩ := h8
    obtain ⟨ha, hb, hc⟩ := hg.2.1 (by omega)
    have HC : Hid (∀ i, i < g.n → w.cell? ⟨g.b, g.o + i * 3, none⟩ = some (.int .i64 (g.f i).p) ∧ w.cell? ⟨g.b, g.o + i * 3 + 1, none⟩ = some (.int .i64 (g.f i).l) ∧
      w.cell? ⟨g.b, g.o + i * 3 + 2, none⟩ = some (.slice (g.f i).a (g.f i).n (g.f i).c)) := hc
    clear hc
    rw [ha]
    go_enter Tryd.func50, Tryd.ntmps50
    go_wp2_with (go_at_call 58; refine (within_any _ _ _ _).mono ?_; rintro e w' ⟨rfl, rfl⟩)
    go_loopw [14] (fun i wr => ∃ k : Nat, k ≤ g.n ∧ i = .int .i64 k ∧ (∀ j, j < k → sizedB j (g.f j).p (g.f j).l (g.f j).n = true) ∧ Below w.heap.size w wr) (fun i _ => g.n - (intOf i).toNat)
    case atStart => exact ⟨0, Nat.zero_le _, rfl, fun j hj => by omega, by repeat (first | exact Below.refl _ _ | refine Below.drew ?_ | refine Below.alloc ?_ (by first | omega | (simp; done) | (simp; omega)) _)⟩
    case round =>
      obtain ⟨k, hk, rfl, hok0, hbel⟩ := hrel
      have HOK := (show Hid _ from hok0); clear hok0
      by_cases hlt : k < g.n
      · obtain ⟨c0, c1, c2⟩ := HC.out k hlt
        rw [← hbel.cell (p := ⟨g.b, _, none⟩) hb] at c0 c1 c2
        have hsz := hbel.size
        have hbw : g.b < wr.heap.size := Nat.lt_of_lt_of_le hb hsz
        have hsd := sized_sizes k (g.f k).p (g.f k).l (g.f k).n
        have HD := (show Hid _ from hsd); clear hsd
        cases hs : sizesB (g.f k).p (g.f k).l (g.f k).n
        · go_wp2_with (go_at_call 65; refine (sizesFit_any _ _ _ _ _ _).mono ?_; rintro e w2 ⟨rfl, hb2⟩; obtain ⟨hcc, hff⟩ := bcell hb2)
          go_ret2
          exact ⟨k, false, rfl, Or.inr (Or.inr ⟨rfl, h81, h82, k, rfl, hlt, by simp only; rw [HD.out, hs]; rfl, HOK.out⟩), below_via hb2 (by repeat (first | exact hbel | refine Below.drew ?_ | refine Below.setCell ?_ (by first | omega | (simp; done) | (simp; omega)) _ | refine Below.alloc ?_ (by first | omega | (simp; done) | (simp; omega)) _)) (by first | omega | (simp; done) | (simp; omega))⟩
        · by_cases hk0 : k = 0
          · have hkt : ((k : Int) == 0) = true := beq_iff_eq.2 (by omega)
            have HK : Hid (k = 0) := hk0
            clear hk0
            cases hp : (g.f k).p != 0
            · go_wp2_with (go_at_call 65; refine (sizesFit_any _ _ _ _ _ _).mono ?_; rintro e w2 ⟨rfl, hb2⟩; obtain ⟨hcc, hff⟩ := bcell hb2)
              go_roundw
              case rel => exact ⟨k + 1, by omega, by go_num, fun j hj => (by rw [show j = k from (by have := HK.out; omega), HD.out, hs, hp, hkt]; rfl), below_via hb2 (by repeat (first | exact hbel | refine Below.drew ?_ | refine Below.setCell ?_ (by first | omega | (simp; done) | (simp; omega)) _ | refine Below.alloc ?_ (by first | omega | (simp; done) | (simp; omega)) _)) (by first | omega | (simp; done) | (simp; omega))⟩
              case measure => simp [intOf]; omega
            · go_wp2_with (go_at_call 65; refine (sizesFit_any _ _ _ _ _ _).mono ?_; rintro e w2 ⟨rfl, hb2⟩; obtain ⟨hcc, hff⟩ := bcell hb2)
              go_ret2
              exact ⟨k, false, rfl, Or.inr (Or.inr ⟨rfl, h81, h82, k, rfl, hlt, by simp only; rw [HD.out, hs, hp, hkt]; rfl, HOK.out⟩), below_via hb2 (by repeat (first | exact hbel | refine Below.drew ?_ | refine Below.setCell ?_ (by first | omega | (simp; done) | (simp; omega)) _ | refine Below.alloc ?_ (by first | omega | (simp; done) | (simp; omega)) _)) (by first | omega | (simp; done) | (simp; omega))⟩
          · have hkf : ((k : Int) == 0) = false := beq_eq_false_iff_ne.2 (by omega)
            go_wp2_with (go_at_call 65; refine (sizesFit_any _ _ _ _ _ _).mono ?_; rintro e w2 ⟨rfl, hb2⟩; obtain ⟨hcc, hff⟩ := bcell hb2)
            go_roundw
            case rel => exact ⟨k + 1, by omega, by go_num, fun j hj => by
              by_cases e : j = k
              · subst e; rw [HD.out, hs, hkf]; rfl
              · exact HOK.out j (by omega), below_via hb2 (by repeat (first | exact hbel | refine Below.drew ?_ | refine Below.setCell ?_ (by first | omega | (simp; done) | (simp; omega)) _ | refine Below.alloc ?_ (by first | omega | (simp; done) | (simp; omega)) _)) (by first | omega | (simp; done) | (simp; omega))⟩
            case measure => simp [intOf]; omega
      · go_wp2
        go_ret2
        exact ⟨0, true, rfl, Or.inl ⟨rfl, rfl, h81, h82, fun i hi => HOK.out i (by omega)⟩, hbel⟩
  · have hin : insideB g.n 1 8 = false := insideB_f (by omega)
    go_enter Tryd.func50, Tryd.ntmps50
    go_wp2_with (go_at_call 58; refine (within_any _ _ _ _).mono ?_; rintro e w' ⟨rfl, rfl⟩)
    go_ret2
    exact ⟨0, false, rfl, Or.inr (Or.inl ⟨rfl, rfl, h8⟩), by repeat (first | exact Below.refl _ _ | refine Below.drew ?_ | refine Below.alloc ?_ (by first | omega | (simp; done) | (simp; omega)) _)⟩

end Go.Proofs.YtbkmgoffiigdbaaDoor
