import Derived.Test.YtiejbnfjdobpcaaDoorNU
import Derived.Test.YtiejbnfjdobpcaaDoorOI
import Derived.Deep.RegionHeldLaw
namespace Go.Proofs.YtiejbnfjdobpcaaDoor
open Go.RowKit Go.Sort

theorem oneG_own {W : World} {fb fc l cb cc base : Nat} {L : List (Int × Int)} (hf : W.heap[fb]? = some (.cells #[.int .i64 0, .int .i64 (l : Int), .slice (some ⟨cb, 0, none⟩) L.length cc] 35)) (hc : W.ownsRow base 37 2 (.slice (some ⟨cb, 0, none⟩) L.length cc) L.length (cellsL L)) (h0 : 0 < L.length) (hL : L.length ≤ 1000) :
    PgIn W.heap.size W (oneG fb fc l cb cc L) ∧ SProg (oneG fb fc l cb cc L) l L := by
  have hfb := (Array.getElem?_eq_some_iff.1 hf).1
  obtain ⟨_, _, hv, _, hcb⟩ := hc.form h0
  cases hv
  have len2 : ∀ x : Int × Int, (([.int .i64 x.1, .int .i64 x.2] : List Value)).length = 2 := fun _ => rfl
  refine ⟨⟨by show (1 : Nat) ≤ _; omega, fun _ => ⟨rfl, hfb, fun i hi => ?_⟩, fun i hi => ⟨by show L.length ≤ _; omega, fun _ => ⟨rfl, hcb, fun j hj => ?_⟩⟩⟩, ⟨rfl, rfl, rfl, rfl, fun j x hx => ?_⟩⟩
  · obtain rfl : i = 0 := by have : i < 1 := hi; omega
    have := cell_of_row W fb 0 _ _ _ hf
    have h1 := cell_of_row W fb 1 _ _ _ hf
    have h2 := cell_of_row W fb 2 _ _ _ hf
    exact ⟨this, h1, h2⟩
  · have hj' : j < L.length := hj
    have hx : L[j]? = some L[j] := List.getElem?_eq_getElem hj'
    have hcell : ∀ i, i < 2 → W.cell? ⟨cb, j * 2 + i, none⟩ = ([.int .i64 (L[j]).1, .int .i64 (L[j]).2] : List Value)[i]? := fun i hi => by
      rw [hc.cellAt (j * 2 + i) (by omega)]
      exact flat_get len2 hx hi
    have e : L.getD j (0, 0) = L[j] := by simp [List.getD, hx]
    have h0 := hcell 0 (by omega)
    have h1 := hcell 1 (by omega)
    show W.cell? ⟨cb, 0 + j * 2, none⟩ = some (.int .i64 (L.getD j (0, 0)).1) ∧ W.cell? ⟨cb, 0 + j * 2 + 1, none⟩ = some (.int .i64 (L.getD j (0, 0)).2)
    rw [e, Nat.zero_add]
    exact ⟨h0, h1⟩
  · show (L.getD j (0, 0)).1 = x.1 ∧ (L.getD j (0, 0)).2 = x.2
    have e : L.getD j (0, 0) = x := by simp [List.getD, hx]
    rw [e]; exact ⟨rfl, rfl⟩

/-- Numbers that lie in memory. -/
def NumsIn (w : World) (a : Option Addr) (l : List Int) (b o : Nat) : Prop :=
  0 < l.length → a = some ⟨b, o, none⟩ ∧ b < w.heap.size ∧ ∀ i x, l[i]? = some x → w.cell? ⟨b, o + i, none⟩ = some (.int .i64 x)

theorem Below.on {w u : World} (h : Below w.heap.size w u) (o : Obj) : Below w.heap.size w (u.alloc o) := Below.alloc h h.size o
theorem keepCell {wr u : World} {b o : Nat} {v : Value} (h : wr.cell? ⟨b, o, none⟩ = some v) (hlt : b < wr.heap.size) (hB : Below wr.heap.size wr u) : u.cell? ⟨b, o, none⟩ = some v := (hB.cell (p := ⟨b, o, none⟩) hlt).trans h

theorem revRow_len (l : List Int) : (l.flatMap revRow).length = l.length * 8 := by
  induction l with
  | nil => rfl
  | cons a r ih => rw [List.flatMap_cons, List.length_append, ih]; simp [revRow]; omega

theorem rev_next {l : List Int} {i : Nat} {x : Int} (hx : l[i]? = some x) : cellsL ((l.take i).flatMap revRow) ++ cellsL (revRow x) = cellsL ((l.take (i + 1)).flatMap revRow) := by
  rw [← cellsL_append, List.take_add_one, hx]
  simp

theorem rev_own {l : List Int} {i : Nat} {x : Int} (hx : l[i]? = some x) {w5 : World} {B : Nat} {v : Value} (h : w5.ownsRow B 37 2 v (i * 8 + 8) (cellsL ((l.take i).flatMap revRow) ++ cellsL (revRow x))) : w5.ownsRow B 37 2 v ((i + 1) * 8) (cellsL ((l.take (i + 1)).flatMap revRow)) := by
  rw [rev_next hx] at h
  rwa [show (i + 1) * 8 = i * 8 + 8 by omega]

theorem grown_on {W wr V w5 : World} {cv : Value} {m : Nat} {xs : List Value} (hs : W.heap.size ≤ wr.heap.size) (hB : Below wr.heap.size wr V) (hg : V.grownBy w5 cv.ownBlock) (ho : wr.ownsRow W.heap.size 37 2 cv m xs) (h : Below W.heap.size W wr) : Below W.heap.size W w5 :=
  (h.trans (hB.mono hs)).grown hg (Nat.le_trans hs hB.size) fun k hk => (ho.lt k hk).1

theorem rev_end {w W w5 : World} {gq capq m : Nat} {L : List (Int × Int)} (hs0 : w.heap.size < W.heap.size) (hB5 : Below W.heap.size W w5) (hB0 : Below w.heap.size w W) (hO : w5.ownsRow W.heap.size 37 2 (.slice (some ⟨gq, 0, none⟩) m capq) m (cellsL L)) (hm : L.length = m) (h0 : 0 < m) (h1 : m ≤ 1000) :
    ProgNew 1 L w (.returned (.agg #[.slice (some ⟨w5.heap.size, 0, none⟩) 1 1])) ((w5.setCell ⟨w.heap.size, 0, none⟩ (.slice (some ⟨w5.heap.size, 0, none⟩) 1 1)).alloc (.cells #[.int .i64 0, .int .i64 1, .slice (some ⟨gq, 0, none⟩) m capq] 35)) := by
  subst hm
  have hs5 := hB5.size
  have hO' := (ownsRow_setCell_below hO (a := ⟨w.heap.size, 0, none⟩) (by show w.heap.size < W.heap.size; exact hs0) (.slice (some ⟨w5.heap.size, 0, none⟩) 1 1)).alloc (.cells #[.int .i64 0, .int .i64 1, .slice (some ⟨gq, 0, none⟩) L.length capq] 35)
  obtain ⟨q1, q2⟩ := oneG_own (fb := w5.heap.size) (fc := 1) (l := 1) (blk_at (by simp)) hO' h0 h1
  refine ⟨_, rfl, q1, q2, ?_⟩
  have hb : Below w.heap.size w w5 := hB0.trans (hB5.mono hB0.size)
  exact Below.alloc (Below.setCell (p := ⟨w.heap.size, 0, none⟩) hb (Nat.le_refl _) _) (by simp; omega) _

set_option maxRecDepth 100000 in
set_option maxHeartbeats 4000000 in
theorem reversing_any (a : Option Addr) (c : Nat) (l : List Int) (b o : Nat) (w : World) (hl : l.length ≤ 6) (hr : NumsIn w a l b o) :
    Calls Tryd.prog 25 #[.slice a l.length c] w fun e w' => ProgNew 1 (revL l) w e w' := by
  obtain ⟨i37, hi37, hz37, hs37, hb37⟩ := info_parts info37'
  have HR := hid hr
  clear hr
  obtain ⟨n, hn⟩ : ∃ n, l.length = n := ⟨_, rfl⟩
  rw [hn] at hl ⊢
  have HN := hid hn
  clear hn
  go_enter Tryd.func25, Tryd.ntmps25
  go_wp2_with fail
  have hB0 : Below w.heap.size w (w.alloc (Obj.cells #[Value.slice none 0 0] 24)) := Below.alloc (Below.refl _ _) (Nat.le_refl _) _
  have hc0 : (w.alloc (Obj.cells #[Value.slice none 0 0] 24)).cell? ⟨w.heap.size, 0, none⟩ = some (.slice none 0 0) := by go_simp
  have hz0 : (w.alloc (Obj.cells #[Value.slice none 0 0] 24)).frozen? ⟨w.heap.size, 0, none⟩ = false := by go_simp
  have hs0 : w.heap.size < (w.alloc (Obj.cells #[Value.slice none 0 0] 24)).heap.size := by simp
  generalize (w.alloc (Obj.cells #[Value.slice none 0 0] 24)) = W at *
  go_loopw [3, 4] (fun v vi wr => ∃ (i : Nat) (cv : Value), i ≤ n ∧ vi = .int .i64 i ∧ cv = v ∧ wr.ownsRow W.heap.size 37 2 cv (i * 8) (cellsL ((l.take i).flatMap revRow)) ∧ Below W.heap.size W wr) (fun _ vi _ => n - (intOf vi).toNat)
  case atStart => exact ⟨0, _, Nat.zero_le _, rfl, rfl, by simpa [cellsL] using World.ownsRow_nil _ _ _ _, Below.refl _ _⟩
  case round =>
    obtain ⟨i, cv, hi, rfl, rfl, hown, hbel⟩ := hrel
    by_cases hlt : i < n
    · obtain ⟨rfl, hb, hcell⟩ := HR.out (by rw [HN.out]; omega)
      obtain ⟨x, hx⟩ : ∃ x, l[i]? = some x := ⟨_, List.getElem?_eq_getElem (by rw [HN.out]; exact hlt)⟩
      have hxc := hcell i x hx
      have hbW : b < W.heap.size := by omega
      have hxr : wr.cell? ⟨b, o + i, none⟩ = some (.int .i64 x) := by
        rw [hbel.cell (p := ⟨b, o + i, none⟩) hbW, hB0.cell (p := ⟨b, o + i, none⟩) hb]; exact hxc
      have hbr : b < wr.heap.size := Nat.lt_of_lt_of_le hbW hbel.size
      have hsW := hbel.size
      have HBEL := hid hbel
      have HX := hid hx
      clear hbel hx hcell hxc
      go_wp2_with fail
      go_region_held_law (fun u => u.cell? ⟨b, o + i, none⟩ = some (.int .i64 x)) (first | exact hxr | exact hxr5 | (refine keepCell hxr hbr ?_; repeat (with_reducible first | exact Below.refl _ _ | refine Below.on ?_ _ | refine Below.drew ?_))) (first | (go_simp; go_at_call 37; refine (at_any _ _ _).mono ?_; rintro e w' ⟨rfl, rfl⟩; dsimp only) | (refine step_append_lies _ rfl (.tmp 12) (.tmp 25) 33 rfl W.heap.size 37 i37 _ 2 16 Tryd.underlying33 hi37 hz37 hs37 hb37 rfl (by decide) cv (i * 8) (cellsL ((l.take i).flatMap revRow)) (by (try (simp only [Act.put, List.setIfInBounds_toArray, List.set_cons_zero, List.set_cons_succ])); rfl) (by repeat (first | exact hown | exact hown.drew | refine World.ownsRow.alloc ?_ _ | refine World.ownsRow.drew ?_)) _ 8 8 (cellsL (revRow x)) (by (try (simp only [Act.put, List.setIfInBounds_toArray, List.set_cons_zero, List.set_cons_succ])); rfl) rfl (World.news_of_block (cs := #[.int .i64 16, .int .i64 2, .int .i64 4, .int .i64 0, .int .i64 2, .int .i64 0, .int .i64 20, .int .i64 0, .int .i64 4, .int .i64 0, .int .i64 0, .int .i64 x, .int .i64 20, .int .i64 1, .int .i64 3, .int .i64 0]) (t := 37) (fr := (0, 0)) (by first | exact blk_at (by simp) | (exact blk_at rfl))) (cellsL_one _) (by omega) (by unfold maxLen; omega) (by omega) (by first | omega | (simp; done) | (simp; omega)) _ rfl ?_; intro gq capq w5 hown5 hgrow5 hat5 hlt5; have hxr5 : w5.cell? ⟨b, o + i, none⟩ = some (.int .i64 x) := (hgrow5.cell_far ⟨b, o + i, none⟩ (by first | (show b < _; simp; omega) | (show b < _; omega)) (fun e => by have := (hown.lt b e.symm).1; omega)).trans (keepCell hxr hbr (by repeat (with_reducible first | exact Below.refl _ _ | refine Below.on ?_ _ | refine Below.drew ?_)))))
      have HO := hid (rev_own HX.out hown5)
      have HB5 := hid (grown_on hsW (by repeat (with_reducible first | exact Below.refl _ _ | refine Below.on ?_ _ | refine Below.drew ?_)) hgrow5 hown HBEL.out)
      clear hown5 hgrow5 hat5 hlt5 hxr5 hxr hbr hown hsW
      go_wp2_with fail
      go_roundw
      case rel => exact ⟨i + 1, _, by omega, by go_num, rfl, HO.out, HB5.out⟩
      case measure => simp [intOf]; omega
    · obtain rfl : i = n := by omega
      obtain ⟨ca, cc, hcv⟩ : ∃ ca cc, cv = .slice ca (i * 8) cc := by
        rcases hown.2 with ⟨h1, h2⟩ | ⟨g, cap, cur, h1, _⟩
        · exact ⟨none, 0, by rw [h1, h2]⟩
        · exact ⟨_, _, h1⟩
      subst hcv
      have hbase := hbel.size
      obtain ⟨k, hk⟩ : ∃ k, i * 8 = k := ⟨_, rfl⟩
      rw [hk] at hown ⊢
      have hk48 : k ≤ 48 := by omega
      have HBEL := hid hbel
      clear hbel
      obtain ⟨y, hy⟩ : ∃ y, IntKind.i64.wrap ((k : Int) + 10) = y := ⟨_, rfl⟩
      go_wp2_with (first | (go_at_call 37; refine (at_any _ _ _).mono ?_; rintro e w' ⟨rfl, hw⟩; rw [hw]; clear hw w') | (at_builtin; go_must (refine wpList_append_lies _ rfl (.tmp 29) (.tmp 44) 33 rfl W.heap.size 37 i37 _ 2 16 Tryd.underlying33 hi37 hz37 hs37 hb37 rfl (by decide) (.slice ca k cc) k (cellsL ((l.take i).flatMap revRow)) rfl (by repeat (with_reducible first | exact hown | refine World.ownsRow.alloc ?_ _)) _ 11 11 (cellsL [(2, 0), (25, 0), (13, y), (2, 0), (19, 1), (26, 0), (2, 0), (19, 0), (3, 0), (12, (k : Int)), (27, 0)]) rfl rfl (World.news_of_block (cs := #[.int .i64 2, .int .i64 0, .int .i64 25, .int .i64 0, .int .i64 13, .int .i64 y, .int .i64 2, .int .i64 0, .int .i64 19, .int .i64 1, .int .i64 26, .int .i64 0, .int .i64 2, .int .i64 0, .int .i64 19, .int .i64 0, .int .i64 3, .int .i64 0, .int .i64 12, .int .i64 (k : Int), .int .i64 27, .int .i64 0]) (t := 37) (fr := (0, 0)) (blk_at (by simp))) (cellsL_one _) (by omega) (by unfold maxLen; omega) (by omega) (by simp; omega) _ rfl ?_)))
      intro gq capq w5 hown5 hgrow5 hat5 hlt5
      have hB5 := grown_on hbase (by repeat (with_reducible first | exact Below.refl _ _ | refine Below.on ?_ _ | refine Below.drew ?_)) hgrow5 hown HBEL.out
      have e0 := (hB5.cell (p := ⟨w.heap.size, 0, none⟩) hs0).trans hc0
      have f0 := (hB5.frozen (p := ⟨w.heap.size, 0, none⟩) hs0).trans hz0
      have hs5 : w.heap.size < w5.heap.size := Nat.lt_of_lt_of_le hs0 hB5.size
      have HB5 := hid hB5
      have HO := hid hown5
      clear hB5 hown5 hgrow5 hat5 hlt5 hown
      go_wp2_with fail
      have hyk : y = ((k + 10 : Nat) : Int) := by rw [← hy, Go.IntWalk.i64_in _ (by omega)]; omega
      have hRL : cellsL ((l.take i).flatMap revRow) ++ cellsL [(2, 0), (25, 0), (13, y), (2, 0), (19, 1), (26, 0), (2, 0), (19, 0), (3, 0), (12, (k : Int)), (27, 0)] = cellsL (revL l) := by
        have ht : l.take i = l := List.take_of_length_le (by rw [HN.out]; exact Nat.le_refl _)
        rw [← cellsL_append, ht, hyk]
        unfold revL revEnd
        rw [HN.out, hk]
      have hlen : (revL l).length = k + 11 := by
        unfold revL
        rw [List.length_append, revRow_len, HN.out, hk]
        rfl
      have hO := HO.out
      rw [hRL] at hO
      have hP := rev_end hs0 HB5.out hB0 hO hlen (by omega) (by omega)
      have hcV : ((w5.setCell ⟨w.heap.size, 0, none⟩ (.slice (some ⟨w5.heap.size, 0, none⟩) 1 1)).alloc (.cells #[.int .i64 0, .int .i64 1, .slice (some ⟨gq, 0, none⟩) (k + 11) capq] 35)).cell? ⟨w.heap.size, 0, none⟩ = some (.slice (some ⟨w5.heap.size, 0, none⟩) 1 1) := by go_simp
      exact bodyPost_ret (v := .agg #[.slice (some ⟨w5.heap.size, 0, none⟩) 1 1]) (by first | (simp [results, Tryd.results25, go_sem, hcV]; done) | (simp only [results, Tryd.results25]; go_simp; done)) rfl hP

end Go.Proofs.YtiejbnfjdobpcaaDoor
