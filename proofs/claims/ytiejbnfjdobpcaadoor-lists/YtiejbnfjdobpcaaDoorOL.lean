import Derived.Test.YtiejbnfjdobpcaaDoorOK
namespace Go.Proofs.YtiejbnfjdobpcaaDoor
open Go.RowKit Go.Sort

/-- A list of numbers in memory. -/
def RawL (B : Nat) (w : World) (a : Option Addr) (n b o : Nat) (R : Nat → Int) : Prop :=
  n ≤ 1152921504606846976 ∧ (0 < n → a = some ⟨b, o, none⟩ ∧ b < B ∧ ∀ i, i < n → w.cell? ⟨b, o + i, none⟩ = some (.int .i64 (R i)))

set_option maxHeartbeats 1000000 in
theorem some_few (a : Option Addr) (n c : Nat) (w : World) (h : ¬ 6 < n) : Calls Tryd.prog 24 #[.slice a n c, .int .i64 6] w fun e w' => e = .returned (.slice a n c) ∧ w' = w := by
  have h' : ¬ (6 : Int) < (n : Int) := by omega
  go_enter Tryd.func24, Tryd.ntmps24
  go_wp2
  go_ret
  exact ⟨rfl, rfl⟩

set_option maxHeartbeats 1000000 in
theorem some_many (b o n c : Nat) (w : World) (h : 6 < n) (hc : n ≤ c) : Calls Tryd.prog 24 #[.slice (some ⟨b, o, none⟩) n c, .int .i64 6] w fun e w' => e = .returned (.slice (some ⟨b, o, none⟩) 6 c) ∧ w' = w := by
  have h' : (6 : Int) < (n : Int) := by omega
  have h6 : 6 ≤ c := by omega
  go_enter Tryd.func24, Tryd.ntmps24
  go_wp2
  go_ret
  exact ⟨rfl, rfl⟩

theorem some_any {B : Nat} {w : World} {a : Option Addr} {n c b o : Nat} {R : Nat → Int} (hr : RawL B w a n b o R) (hc : n ≤ c) (W : World) : Calls Tryd.prog 24 #[.slice a n c, .int .i64 6] W fun e w' => e = .returned (.slice a (min n 6) c) ∧ w' = W := by
  by_cases h : 6 < n
  · obtain ⟨rfl, _⟩ := hr.2 (by omega)
    rw [show min n 6 = 6 by omega]
    exact some_many b o n c W h hc
  · rw [show min n 6 = n by omega]
    exact some_few a n c W h

set_option maxRecDepth 100000 in
set_option maxHeartbeats 2000000 in
theorem lists_any (a : Option Addr) (n c b o : Nat) (R : Nat → Int) (w : World) (hr : RawL w.heap.size w a n b o R) (hc : n ≤ c) (ht : Tab w) :
    Calls Tryd.prog 7 #[.slice a n c] w fun e w' => e = .returned (.bool true) ∧ Below w.heap.size w w' := by
  have HSO : Hid (∀ W, Calls Tryd.prog 24 #[.slice a n c, .int .i64 6] W fun e w' => e = .returned (.slice a (min n 6) c) ∧ w' = W) := fun W => some_any hr hc W
  obtain ⟨m, hm⟩ : ∃ m, min n 6 = m := ⟨_, rfl⟩
  have hm6 : m ≤ 6 := by omega
  obtain ⟨l, hl⟩ : ∃ l, l = (List.range m).map R := ⟨_, rfl⟩
  have hlen : l.length = m := by rw [hl]; simp
  have hnum : NumsIn w a l b o := fun h0 => by
    rw [hlen] at h0
    obtain ⟨h1, h2, h3⟩ := hr.2 (by omega)
    refine ⟨h1, h2, fun i x hx => ?_⟩
    have hi := (List.getElem?_eq_some_iff.1 hx).1
    rw [hlen] at hi
    rw [hl] at hx
    simp [hi] at hx
    rw [← hx]
    exact h3 i (by omega)
  rw [hm] at HSO
  have HREV : Hid (∀ W, Below w.heap.size w W → Calls Tryd.prog 25 #[.slice a m c] W fun e w' => ProgNew 1 (revL l) W e w') := fun W hW => by
    have := reversing_any a c l b o W (by omega) (fun h0 => by
      obtain ⟨h1, h2, h3⟩ := hnum h0
      exact ⟨h1, Nat.lt_of_lt_of_le h2 hW.size, fun i x hx => by rw [hW.cell (p := ⟨b, o + i, none⟩) h2]; exact h3 i x hx⟩)
    rw [hlen] at this
    exact this
  have HTO : Hid (∀ U g, PgIn U.heap.size U g → SProg g 1 (revL l) → Below w.heap.size w U → Calls Tryd.prog 22 #[.agg #[.slice g.a g.n g.c]] U fun e w' => ToldL l.reverse U e w') := fun U g hg hs hU =>
    told_rev g l U (by omega) hg (ht.held hU.size (hU.block 0 ht.1)) hs
  have HNUM := hid hnum
  have hlr : l.reverse.length = m := by simp [hlen]
  unfold ToldL at HTO
  rw [hlr] at HTO
  clear hr hc ht hnum hm
  go_enter Tryd.func7, Tryd.ntmps7
  go_wp2_with (first | (go_at_call 24; refine (HSO.out _).mono ?_; rintro e w' ⟨rfl, hw⟩; rw [hw]; clear hw w') | (go_at_call 25; refine (HREV.out _ (Below.refl _ _)).mono ?_; rintro e w3 ⟨g, rfl, hpg, hsp, hb3⟩; have HPG := hid hpg; have HSP := hid hsp; have HB3 := hid hb3; clear hpg hsp hb3))
  refine (HTO.out _ g HPG.out HSP.out HB3.out).mono ?_
  rintro e w4 ⟨oa, ob, oc, rfl, hn4, hb4⟩
  have HN4 := hid hn4
  have HB4 : Hid (Below w.heap.size w w4) := below_via' hb4 HB3.out
  clear hn4 hb4
  go_wp2_with fail
  go_loopw [5] (fun v wr => ∃ i : Nat, i ≤ m ∧ v = .int .i64 i ∧ Below w4.heap.size w4 wr) (fun v _ => m - (intOf v).toNat)
  case atStart => exact ⟨0, Nat.zero_le _, rfl, Below.refl _ _⟩
  case round =>
    obtain ⟨i, hi, rfl, hbel⟩ := hrel
    by_cases hlt : i < m
    · obtain ⟨q, hq⟩ : ∃ q, q = m - 1 - i := ⟨_, rfl⟩
      obtain ⟨p, hp⟩ : ∃ p, p = m - 1 := ⟨_, rfl⟩
      obtain ⟨x, hx⟩ : ∃ x, l[q]? = some x := ⟨_, List.getElem?_eq_getElem (by omega)⟩
      have hxr : l.reverse[i]? = some x := by
        rw [List.getElem?_reverse (by omega), hlen, ← hq]; exact hx
      obtain ⟨rfl, s2, s3⟩ := HNUM.out (by omega)
      obtain ⟨rfl, t2, t3⟩ := HN4.out (by omega)
      have r1 := t3 i x hxr
      have r2 := s3 q x hx
      rw [Nat.zero_add, ← hbel.cell (p := ⟨ob, i, none⟩) t2] at r1
      have hB4 := below_via' hbel HB4.out
      rw [← hB4.cell (p := ⟨b, o + q, none⟩) s2] at r2
      have hy1 : IntKind.i64.wrap ((m : Int) - 1) = (p : Int) := by rw [Go.IntWalk.i64_in _ (by omega)]; omega
      have hy2 : IntKind.i64.wrap ((p : Int) - (i : Int)) = (q : Int) := by rw [Go.IntWalk.i64_in _ (by omega)]; omega
      have hqm : q < m := by omega
      have HBEL := hid hbel
      clear s3 t3 hx hxr hbel hB4 hq hp
      go_wp2_with fail
      go_region
      all_goals go_wp2_with fail
      all_goals go_roundw
      all_goals first | exact ⟨i + 1, by omega, by go_num, HBEL.out⟩ | exact ⟨i + 1, by omega, by go_num, Below.drew HBEL.out⟩ | (simp [intOf]; omega)
    · obtain rfl : i = m := by omega
      go_wp2_with fail
      go_ret
      exact ⟨rfl, below_via' hbel HB4.out⟩

end Go.Proofs.YtiejbnfjdobpcaaDoor
