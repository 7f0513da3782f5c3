import Derived.Test.YtbkmgoffiigdbaaDoorWO
import Derived.Test.YtbkmgoffiigdbaaDoorWNh
import Derived.Deep.RegionHeldLaw
namespace Go.Proofs.YtbkmgoffiigdbaaDoor
open Go.RowKit Go.Sort

/-- A step of a program of one function, in one frame. -/
def stepL (L : List (Int × Int)) (s : McA) : Option McA :=
  match s.frs with
  | [f] => if s.st = 0 ∧ s.obs.length ≤ 1000 ∧ s.dr.length ≤ 1000 ∧ f.stk.length ≤ 1000 ∧ f.fn = 0 then (L[f.pc]?).bind fun x => if 0 ≤ x.1 ∧ x.1 < 28 ∧ x.1 ≠ 14 then opA x.1 x.2 s [] f else none else none
  | _ => none

def runL (L : List (Int × Int)) : Nat → McA → Option McA
  | 0, s => some s
  | n + 1, s => (runL L n s).bind (stepL L)

theorem runL_before {L : List (Int × Int)} {s : McA} : ∀ {n i : Nat}, i ≤ n → runL L n s ≠ none → runL L i s ≠ none
  | 0, i, hi, h => by obtain rfl : i = 0 := by omega
                      exact h
  | n + 1, i, hi, h => by
    by_cases e : i = n + 1
    · rw [e]; exact h
    · refine runL_before (n := n) (by omega) fun h' => h ?_
      simp [runL, h']

theorem stepL_abs {L : List (Int × Int)} {g : PgR} {l : Nat} (hg : SProg g l L) (hL : L.length ≤ 60) {own : Own} {mb : Nat} {R : McR} {w : World} (hm : MachAt w own mb g R) (hq : NilOut R) {s : McA} (hs : stepL L R.abs = some s) :
    R.st = 0 ∧ Calls Tryd.prog 59 #[.pointer (some ⟨mb, 0, none⟩)] w fun e w' => StepPost own mb g (fun R' => R'.abs = s ∧ NilOut R') w e w' := by
  unfold stepL at hs
  split at hs
  · rename_i f' hf'
    split at hs
    · rename_i hc
      obtain ⟨h0, ho, hd, hk, hfn⟩ := hc
      obtain ⟨⟨op, a⟩, hx, hs⟩ := Option.bind_eq_some_iff.1 hs
      split at hs
      · rename_i hop
        obtain ⟨p1, p2, p3⟩ := hop
        obtain ⟨k, rfl⟩ := Int.eq_ofNat_of_zero_le p1
        obtain ⟨f, hf, rfl⟩ : ∃ f, R.frs = [] ++ [f] ∧ f.abs = f' := by
          have : R.frs.map FrR.abs = [f'] := hf'
          match hR : R.frs, this with
          | [f], h => exact ⟨f, rfl, by simpa using h⟩
        have hfn' : f.fn = 0 := hfn
        have hx' : L[f.pc]? = some ((k : Int), a) := hx
        have hpc := (List.getElem?_eq_some_iff.1 hx').1
        obtain ⟨q1, q2⟩ := hg.code f.pc _ hx'
        have hk' : f.stk.length ≤ 1000 := hk
        have ho' : R.obs.length ≤ 1000 := by simpa [McR.abs] using ho
        refine ⟨h0, step_abs hm hq hf ⟨by rw [hfn', hg.n]; omega, by rw [hfn', hg.len]; exact hpc, by rw [hfn']; exact q1, by rw [hfn']; exact q2, by simp only at p3; omega, by simp only at p2; omega, by simp, hk', by omega, by rw [hg.n]; omega, by rw [hfn', hg.len]; omega⟩ ho' hd s hs⟩
      · cases hs
    · cases hs
  · cases hs

theorem run_list {L : List (Int × Int)} {g : PgR} {l : Nat} (hg : SProg g l L) (hL : L.length ≤ 60) {own : Own} {mb : Nat} {R : McR} {w : World} (hm : MachAt w own mb g R) (hq : NilOut R) (N fuel : Nat) (hN : N < fuel) (hfuel : fuel ≤ 10000) {s : McA} (hr : runL L N R.abs = some s) (hs : s.st ≠ 0) :
    Calls Tryd.prog 42 #[.pointer (some ⟨mb, 0, none⟩), .int .i64 (fuel : Int)] w fun e w' => RunPost own mb g (fun R' => R'.abs = s ∧ NilOut R') N w e w' := by
  have hne : ∀ i, i ≤ N → ∃ s', runL L i R.abs = some s' := fun i hi => Option.ne_none_iff_exists'.1 (runL_before hi (by rw [hr]; simp))
  have hst : ∀ i (R' : McR), i < N → runL L i R.abs = some R'.abs → ∃ s', stepL L R'.abs = some s' ∧ runL L (i + 1) R.abs = some s' := fun i R' hi h => by
    obtain ⟨s', hs'⟩ := hne (i + 1) hi
    refine ⟨s', ?_, hs'⟩
    simpa [runL, h] using hs'
  refine (run_any hm (fun i R' => runL L i R.abs = some R'.abs ∧ NilOut R') ⟨rfl, hq⟩ N fuel (by omega) hfuel (fun i R' hi h => ?_) (fun _ R' h => ?_) (fun i own R' w hi hm h => ?_)).mono ?_
  · obtain ⟨s', h1, _⟩ := hst i R' hi h.1
    unfold stepL at h1
    split at h1
    · split at h1
      · rename_i hc; exact hc.1
      · cases h1
    · cases h1
  · have h := h.1
    rw [hr] at h
    have : s.st = R'.st := by rw [Option.some.inj h]; rfl
    rw [← this]; exact hs
  · obtain ⟨s', h1, h2⟩ := hst i R' hi h.1
    refine (stepL_abs hg hL hm h.2 h1).2.mono ?_
    rintro e w' ⟨own', R'', he, hm', ⟨hR, hq'⟩, ht⟩
    exact ⟨own', R'', he, hm', ⟨by rw [h2, hR], hq'⟩, ht⟩
  · rintro e w' ⟨own', R', he, hm', ⟨hR, hq'⟩, ht⟩
    exact ⟨own', R', he, hm', ⟨by rw [hr] at hR; exact (Option.some.inj hR).symm, hq'⟩, ht⟩

/-- Whether a program of one function, with one local, is taken, by the heights H. -/
def okL (L : List (Int × Int)) (H : List Int) : Bool :=
  (List.range L.length).all fun a => match L[a]? with
    | none => false
    | some x => legalB 1 1 L.length x.1 x.2 && decide (x.1 ≠ 14) && decide (popD x.1 0 ≤ H.getD a 0) && decide (H.getD a 0 - popD x.1 0 + pushD x.1 ≤ 10) &&
      (nextD a x.1 x.2).all fun c => decide (c < L.length) && decide (H.getD c 0 = H.getD a 0 - popD x.1 0 + pushD x.1)

theorem okL_check {L : List (Int × Int)} {H : List Int} {g : PgR} (hg : SProg g 1 L) (h1 : 1 ≤ L.length) (h60 : L.length ≤ 60) (h0 : H.getD 0 0 = 0) (hok : okL L H = true) : CheckIs g 0 0 := by
  have ha : ∀ a x, L[a]? = some x → legalB 1 1 L.length x.1 x.2 = true ∧ x.1 ≠ 14 ∧ popD x.1 0 ≤ H.getD a 0 ∧ H.getD a 0 - popD x.1 0 + pushD x.1 ≤ 10 ∧ ∀ c, c ∈ nextD a x.1 x.2 → c < L.length ∧ H.getD c 0 = H.getD a 0 - popD x.1 0 + pushD x.1 := fun a x hx => by
    have hl := (List.getElem?_eq_some_iff.1 hx).1
    have := List.all_eq_true.1 hok a (List.mem_range.2 hl)
    simp only [hx, Bool.and_eq_true, decide_eq_true_eq, List.all_eq_true] at this
    obtain ⟨⟨⟨⟨q1, q2⟩, q3⟩, q4⟩, q5⟩ := this
    exact ⟨q1, q2, q3, q4, q5⟩
  exact sprog_check hg (by omega) h1 h60 (fun a => H.getD a 0) h0 (fun a x hx => ⟨(ha a x hx).1, (ha a x hx).2.1⟩) (fun a x hx => (ha a x hx).2.2)

def revRow (x : Int) : List (Int × Int) := [(16, 2), (4, 0), (2, 0), (20, 0), (4, 0), (0, x), (20, 1), (3, 0)]
def revEnd (k : Nat) : List (Int × Int) := [(2, 0), (25, 0), (13, (k + 10 : Nat)), (2, 0), (19, 1), (26, 0), (2, 0), (19, 0), (3, 0), (12, (k : Nat)), (27, 0)]
def revL (l : List Int) : List (Int × Int) := l.flatMap revRow ++ revEnd (l.length * 8)
def revH : Nat → List Int
  | 0 => [0, 1, 1, 0, 1, 1, 0, 1, 1, 0, 0]
  | n + 1 => [0, 1, 2, 3, 1, 2, 3, 1] ++ revH n

def revS : McA := ⟨0, [], [⟨0, 0, [(0, 0)], []⟩], List.replicate 11 (0, []), []⟩
def endA (s : McA) : Int × List Int × Nat := (s.st, s.out, s.obs.length)

theorem rev_ok : ∀ l : List Int, l.length ≤ 6 → okL (revL l) (revH l.length) = true
  | [], _ => by kernel_rfl
  | [_], _ => by kernel_rfl
  | [_, _], _ => by kernel_rfl
  | [_, _, _], _ => by kernel_rfl
  | [_, _, _, _], _ => by kernel_rfl
  | [_, _, _, _, _], _ => by kernel_rfl
  | [_, _, _, _, _, _], _ => by kernel_rfl
  | _ :: _ :: _ :: _ :: _ :: _ :: _ :: _, h => by simp at h

theorem rev_run : ∀ l : List Int, l.length ≤ 6 → (runL (revL l) (18 * l.length + 4) revS).map endA = some (1, l.reverse, 11)
  | [], _ => by kernel_rfl
  | [_], _ => by kernel_rfl
  | [_, _], _ => by kernel_rfl
  | [_, _, _], _ => by kernel_rfl
  | [_, _, _, _], _ => by kernel_rfl
  | [_, _, _, _, _], _ => by kernel_rfl
  | [_, _, _, _, _, _], _ => by kernel_rfl
  | _ :: _ :: _ :: _ :: _ :: _ :: _ :: _, h => by simp at h

end Go.Proofs.YtbkmgoffiigdbaaDoor

namespace Go.Proofs.YtbkmgoffiigdbaaDoor
open Go.RowKit Go.Sort

theorem oneG_own {W : World} {fb fc l cb cc base : Nat} {L : List (Int × Int)} (hf : W.heap[fb]? = some (.cells #[.int .i64 0, .int .i64 (l : Int), .slice (some ⟨cb, 0, none⟩) L.length cc] 35)) (hc : W.ownsRow base 37 2 (.slice (some ⟨cb, 0, none⟩) L.length cc) L.length (cellsL L)) (h0 : 0 < L.length) (hL : L.length ≤ 1000) :
    PgIn W.heap.size W (oneG fb fc l cb cc L) ∧ SProg (oneG fb fc l cb cc L) l L := by
  have hfb := (Array.getElem?_eq_some_iff.1 hf).1
  obtain ⟨_, _, hv, _, hcb⟩ := hc.form h0
  cases hv
  have len2 : ∀ x : Int × Int, (([.int .i64 x.1, .int .i64 x.2] : List Value)).length = 2 := fun _ => rfl
  refine ⟨⟨by show (1 : Nat) ≤ _; omega, fun _ => ⟨rfl, hfb, fun i hi => ?_⟩, fun i hi => ⟨by show L.length ≤ _; omega, fun _ => ⟨rfl, hcb, fun j hj => ?_⟩⟩⟩, ⟨rfl, rfl, rfl, rfl, fun j x hx => ?_⟩⟩
  · obtain rfl : i = 0 := by have : i < 1 := hi; omega
    have := cell_of_row W fb 0 _ _ _ hf
    have h1 := cell_of_row W fb 1 _ _ _ hf
    have h2 := cell_of_row W fb 2 _ _ _ hf
    exact ⟨this, h1, h2⟩
  · have hj' : j < L.length := hj
    have hx : L[j]? = some L[j] := List.getElem?_eq_getElem hj'
    have hcell : ∀ i, i < 2 → W.cell? ⟨cb, j * 2 + i, none⟩ = ([.int .i64 (L[j]).1, .int .i64 (L[j]).2] : List Value)[i]? := fun i hi => by
      rw [hc.cellAt (j * 2 + i) (by omega)]
      exact flat_get len2 hx hi
    have e : L.getD j (0, 0) = L[j] := by simp [List.getD, hx]
    have h0 := hcell 0 (by omega)
    have h1 := hcell 1 (by omega)
    show W.cell? ⟨cb, 0 + j * 2, none⟩ = some (.int .i64 (L.getD j (0, 0)).1) ∧ W.cell? ⟨cb, 0 + j * 2 + 1, none⟩ = some (.int .i64 (L.getD j (0, 0)).2)
    rw [e, Nat.zero_add]
    exact ⟨h0, h1⟩
  · show (L.getD j (0, 0)).1 = x.1 ∧ (L.getD j (0, 0)).2 = x.2
    have e : L.getD j (0, 0) = x := by simp [List.getD, hx]
    rw [e]; exact ⟨rfl, rfl⟩

/-- Numbers that lie in memory. -/
def NumsIn (w : World) (a : Option Addr) (l : List Int) (b o : Nat) : Prop :=
  0 < l.length → a = some ⟨b, o, none⟩ ∧ b < w.heap.size ∧ ∀ i x, l[i]? = some x → w.cell? ⟨b, o + i, none⟩ = some (.int .i64 x)

theorem Below.on {w u : World} (h : Below w.heap.size w u) (o : Obj) : Below w.heap.size w (u.alloc o) := Below.alloc h h.size o
theorem keepCell {wr u : World} {b o : Nat} {v : Value} (h : wr.cell? ⟨b, o, none⟩ = some v) (hlt : b < wr.heap.size) (hB : Below wr.heap.size wr u) : u.cell? ⟨b, o, none⟩ = some v := (hB.cell (p := ⟨b, o, none⟩) hlt).trans h

theorem revRow_len (l : List Int) : (l.flatMap revRow).length = l.length * 8 := by
  induction l with
  | nil => rfl
  | cons a r ih => rw [List.flatMap_cons, List.length_append, ih]; simp [revRow]; omega

theorem rev_next {l : List Int} {i : Nat} {x : Int} (hx : l[i]? = some x) : cellsL ((l.take i).flatMap revRow) ++ cellsL (revRow x) = cellsL ((l.take (i + 1)).flatMap revRow) := by
  rw [← cellsL_append, List.take_add_one, hx]
  simp

theorem rev_own {l : List Int} {i : Nat} {x : Int} (hx : l[i]? = some x) {w5 : World} {B : Nat} {v : Value} (h : w5.ownsRow B 37 2 v (i * 8 + 8) (cellsL ((l.take i).flatMap revRow) ++ cellsL (revRow x))) : w5.ownsRow B 37 2 v ((i + 1) * 8) (cellsL ((l.take (i + 1)).flatMap revRow)) := by
  rw [rev_next hx] at h
  rwa [show (i + 1) * 8 = i * 8 + 8 by omega]

theorem grown_on {W wr V w5 : World} {cv : Value} {m : Nat} {xs : List Value} (hs : W.heap.size ≤ wr.heap.size) (hB : Below wr.heap.size wr V) (hg : V.grownBy w5 cv.ownBlock) (ho : wr.ownsRow W.heap.size 37 2 cv m xs) (h : Below W.heap.size W wr) : Below W.heap.size W w5 :=
  (h.trans (hB.mono hs)).grown hg (Nat.le_trans hs hB.size) fun k hk => (ho.lt k hk).1

theorem rev_end {w W w5 : World} {gq capq m : Nat} {L : List (Int × Int)} (hs0 : w.heap.size < W.heap.size) (hB5 : Below W.heap.size W w5) (hB0 : Below w.heap.size w W) (hO : w5.ownsRow W.heap.size 37 2 (.slice (some ⟨gq, 0, none⟩) m capq) m (cellsL L)) (hm : L.length = m) (h0 : 0 < m) (h1 : m ≤ 1000) :
    ProgNew 1 L w (.returned (.agg #[.slice (some ⟨w5.heap.size, 0, none⟩) 1 1])) ((w5.setCell ⟨w.heap.size, 0, none⟩ (.slice (some ⟨w5.heap.size, 0, none⟩) 1 1)).alloc (.cells #[.int .i64 0, .int .i64 1, .slice (some ⟨gq, 0, none⟩) m capq] 35)) := by
  subst hm
  have hs5 := hB5.size
  have hO' := (ownsRow_setCell_below hO (a := ⟨w.heap.size, 0, none⟩) (by show w.heap.size < W.heap.size; exact hs0) (.slice (some ⟨w5.heap.size, 0, none⟩) 1 1)).alloc (.cells #[.int .i64 0, .int .i64 1, .slice (some ⟨gq, 0, none⟩) L.length capq] 35)
  obtain ⟨q1, q2⟩ := oneG_own (fb := w5.heap.size) (fc := 1) (l := 1) (blk_at (by simp)) hO' h0 h1
  refine ⟨_, rfl, q1, q2, ?_⟩
  have hb : Below w.heap.size w w5 := hB0.trans (hB5.mono hB0.size)
  exact Below.alloc (Below.setCell (p := ⟨w.heap.size, 0, none⟩) hb (Nat.le_refl _) _) (by simp; omega) _

set_option maxRecDepth 100000 in
set_option maxHeartbeats 4000000 in
theorem reversing_any (a : Option Addr) (c : Nat) (l : List Int) (b o : Nat) (w : World) (hl : l.length ≤ 6) (hr : NumsIn w a l b o) :
    Calls Tryd.prog 26 #[.slice a l.length c] w fun e w' => ProgNew 1 (revL l) w e w' := by
  obtain ⟨i37, hi37, hz37, hs37, hb37⟩ := info_parts info37'
  have HR := hid hr
  clear hr
  obtain ⟨n, hn⟩ : ∃ n, l.length = n := ⟨_, rfl⟩
  rw [hn] at hl ⊢
  have HN := hid hn
  clear hn
  go_enter Tryd.func26, Tryd.ntmps26
  go_wp2_with fail
  have hB0 : Below w.heap.size w (w.alloc (Obj.cells #[Value.slice none 0 0] 24)) := Below.alloc (Below.refl _ _) (Nat.le_refl _) _
  have hc0 : (w.alloc (Obj.cells #[Value.slice none 0 0] 24)).cell? ⟨w.heap.size, 0, none⟩ = some (.slice none 0 0) := by go_simp
  have hz0 : (w.alloc (Obj.cells #[Value.slice none 0 0] 24)).frozen? ⟨w.heap.size, 0, none⟩ = false := by go_simp
  have hs0 : w.heap.size < (w.alloc (Obj.cells #[Value.slice none 0 0] 24)).heap.size := by simp
  generalize (w.alloc (Obj.cells #[Value.slice none 0 0] 24)) = W at *
  go_loopw [3, 4] (fun v vi wr => ∃ (i : Nat) (cv : Value), i ≤ n ∧ vi = .int .i64 i ∧ cv = v ∧ wr.ownsRow W.heap.size 37 2 cv (i * 8) (cellsL ((l.take i).flatMap revRow)) ∧ Below W.heap.size W wr) (fun _ vi _ => n - (intOf vi).toNat)
  case atStart => exact ⟨0, _, Nat.zero_le _, rfl, rfl, by simpa [cellsL] using World.ownsRow_nil _ _ _ _, Below.refl _ _⟩
  case round =>
    obtain ⟨i, cv, hi, rfl, rfl, hown, hbel⟩ := hrel
    by_cases hlt : i < n
    · obtain ⟨rfl, hb, hcell⟩ := HR.out (by rw [HN.out]; omega)
      obtain ⟨x, hx⟩ : ∃ x, l[i]? = some x := ⟨_, List.getElem?_eq_getElem (by rw [HN.out]; exact hlt)⟩
      have hxc := hcell i x hx
      have hbW : b < W.heap.size := by omega
      have hxr : wr.cell? ⟨b, o + i, none⟩ = some (.int .i64 x) := by
        rw [hbel.cell (p := ⟨b, o + i, none⟩) hbW, hB0.cell (p := ⟨b, o + i, none⟩) hb]; exact hxc
      have hbr : b < wr.heap.size := Nat.lt_of_lt_of_le hbW hbel.size
      have hsW := hbel.size
      have HBEL := hid hbel
      have HX := hid hx
      clear hbel hx hcell hxc
      go_wp2_with fail
      go_region_held_law (fun u => u.cell? ⟨b, o + i, none⟩ = some (.int .i64 x)) (first | exact hxr | exact hxr5 | (refine keepCell hxr hbr ?_; repeat (with_reducible first | exact Below.refl _ _ | refine Below.on ?_ _ | refine Below.drew ?_))) (first | (go_simp; go_at_call 39; refine (at_any _ _ _).mono ?_; rintro e w' ⟨rfl, rfl⟩; dsimp only) | (refine step_append_lies _ rfl (.tmp 12) (.tmp 25) 33 rfl W.heap.size 37 i37 _ 2 16 Tryd.underlying33 hi37 hz37 hs37 hb37 rfl (by decide) cv (i * 8) (cellsL ((l.take i).flatMap revRow)) (by (try (simp only [Act.put, List.setIfInBounds_toArray, List.set_cons_zero, List.set_cons_succ])); rfl) (by repeat (first | exact hown | exact hown.drew | refine World.ownsRow.alloc ?_ _ | refine World.ownsRow.drew ?_)) _ 8 8 (cellsL (revRow x)) (by (try (simp only [Act.put, List.setIfInBounds_toArray, List.set_cons_zero, List.set_cons_succ])); rfl) rfl (World.news_of_block (cs := #[.int .i64 16, .int .i64 2, .int .i64 4, .int .i64 0, .int .i64 2, .int .i64 0, .int .i64 20, .int .i64 0, .int .i64 4, .int .i64 0, .int .i64 0, .int .i64 x, .int .i64 20, .int .i64 1, .int .i64 3, .int .i64 0]) (t := 37) (fr := (0, 0)) (by first | exact blk_at (by simp) | (exact blk_at rfl))) (cellsL_one _) (by omega) (by unfold maxLen; omega) (by omega) (by first | omega | (simp; done) | (simp; omega)) _ rfl ?_; intro gq capq w5 hown5 hgrow5 hat5 hlt5; have hxr5 : w5.cell? ⟨b, o + i, none⟩ = some (.int .i64 x) := (hgrow5.cell_far ⟨b, o + i, none⟩ (by first | (show b < _; simp; omega) | (show b < _; omega)) (fun e => by have := (hown.lt b e.symm).1; omega)).trans (keepCell hxr hbr (by repeat (with_reducible first | exact Below.refl _ _ | refine Below.on ?_ _ | refine Below.drew ?_)))))
      have HO := hid (rev_own HX.out hown5)
      have HB5 := hid (grown_on hsW (by repeat (with_reducible first | exact Below.refl _ _ | refine Below.on ?_ _ | refine Below.drew ?_)) hgrow5 hown HBEL.out)
      clear hown5 hgrow5 hat5 hlt5 hxr5 hxr hbr hown hsW
      go_wp2_with fail
      go_roundw
      case rel => exact ⟨i + 1, _, by omega, by go_num, rfl, HO.out, HB5.out⟩
      case measure => simp [intOf]; omega
    · obtain rfl : i = n := by omega
      obtain ⟨ca, cc, hcv⟩ : ∃ ca cc, cv = .slice ca (i * 8) cc := by
        rcases hown.2 with ⟨h1, h2⟩ | ⟨g, cap, cur, h1, _⟩
        · exact ⟨none, 0, by rw [h1, h2]⟩
        · exact ⟨_, _, h1⟩
      subst hcv
      have hbase := hbel.size
      obtain ⟨k, hk⟩ : ∃ k, i * 8 = k := ⟨_, rfl⟩
      rw [hk] at hown ⊢
      have hk48 : k ≤ 48 := by omega
      have HBEL := hid hbel
      clear hbel
      obtain ⟨y, hy⟩ : ∃ y, IntKind.i64.wrap ((k : Int) + 10) = y := ⟨_, rfl⟩
      go_wp2_with (first | (go_at_call 39; refine (at_any _ _ _).mono ?_; rintro e w' ⟨rfl, hw⟩; rw [hw]; clear hw w') | (at_builtin; go_must (refine wpList_append_lies _ rfl (.tmp 29) (.tmp 44) 33 rfl W.heap.size 37 i37 _ 2 16 Tryd.underlying33 hi37 hz37 hs37 hb37 rfl (by decide) (.slice ca k cc) k (cellsL ((l.take i).flatMap revRow)) rfl (by repeat (with_reducible first | exact hown | refine World.ownsRow.alloc ?_ _)) _ 11 11 (cellsL [(2, 0), (25, 0), (13, y), (2, 0), (19, 1), (26, 0), (2, 0), (19, 0), (3, 0), (12, (k : Int)), (27, 0)]) rfl rfl (World.news_of_block (cs := #[.int .i64 2, .int .i64 0, .int .i64 25, .int .i64 0, .int .i64 13, .int .i64 y, .int .i64 2, .int .i64 0, .int .i64 19, .int .i64 1, .int .i64 26, .int .i64 0, .int .i64 2, .int .i64 0, .int .i64 19, .int .i64 0, .int .i64 3, .int .i64 0, .int .i64 12, .int .i64 (k : Int), .int .i64 27, .int .i64 0]) (t := 37) (fr := (0, 0)) (blk_at (by simp))) (cellsL_one _) (by omega) (by unfold maxLen; omega) (by omega) (by simp; omega) _ rfl ?_)))
      intro gq capq w5 hown5 hgrow5 hat5 hlt5
      have hB5 := grown_on hbase (by repeat (with_reducible first | exact Below.refl _ _ | refine Below.on ?_ _ | refine Below.drew ?_)) hgrow5 hown HBEL.out
      have e0 := (hB5.cell (p := ⟨w.heap.size, 0, none⟩) hs0).trans hc0
      have f0 := (hB5.frozen (p := ⟨w.heap.size, 0, none⟩) hs0).trans hz0
      have hs5 : w.heap.size < w5.heap.size := Nat.lt_of_lt_of_le hs0 hB5.size
      have HB5 := hid hB5
      have HO := hid hown5
      clear hB5 hown5 hgrow5 hat5 hlt5 hown
      go_wp2_with fail
      have hyk : y = ((k + 10 : Nat) : Int) := by rw [← hy, Go.IntWalk.i64_in _ (by omega)]; omega
      have hRL : cellsL ((l.take i).flatMap revRow) ++ cellsL [(2, 0), (25, 0), (13, y), (2, 0), (19, 1), (26, 0), (2, 0), (19, 0), (3, 0), (12, (k : Int)), (27, 0)] = cellsL (revL l) := by
        have ht : l.take i = l := List.take_of_length_le (by rw [HN.out]; exact Nat.le_refl _)
        rw [← cellsL_append, ht, hyk]
        unfold revL revEnd
        rw [HN.out, hk]
      have hlen : (revL l).length = k + 11 := by
        unfold revL
        rw [List.length_append, revRow_len, HN.out, hk]
        rfl
      have hO := HO.out
      rw [hRL] at hO
      have hP := rev_end hs0 HB5.out hB0 hO hlen (by omega) (by omega)
      have hcV : ((w5.setCell ⟨w.heap.size, 0, none⟩ (.slice (some ⟨w5.heap.size, 0, none⟩) 1 1)).alloc (.cells #[.int .i64 0, .int .i64 1, .slice (some ⟨gq, 0, none⟩) (k + 11) capq] 35)).cell? ⟨w.heap.size, 0, none⟩ = some (.slice (some ⟨w5.heap.size, 0, none⟩) 1 1) := by go_simp
      exact bodyPost_ret (v := .agg #[.slice (some ⟨w5.heap.size, 0, none⟩) 1 1]) (by first | (simp [results, Tryd.results26, go_sem, hcV]; done) | (simp only [results, Tryd.results26]; go_simp; done)) rfl hP

end Go.Proofs.YtbkmgoffiigdbaaDoor

namespace Go.Proofs.YtbkmgoffiigdbaaDoor
open Go.RowKit Go.Sort

/-- A machine that has ended, with what it has put out. -/
structure EndedL (cap : Nat) (out : List Int) (R : McR) : Prop where
  st : R.st = 1
  out : R.out = out
  obs : R.obs.length = cap
  nil : NilOut R

theorem ended_outs {own : Own} {mb cap : Nat} {g : PgR} {R : McR} {w : World} {out : List Int} (h : MachAt w own mb g R) (hR : EndedL cap out R) (hn : out.length ≤ 1000) :
    Calls Tryd.prog 20 #[.pointer (some ⟨mb, 0, none⟩)] w fun e w' => ∃ a b c, e = .returned (.slice a out.length c) ∧ NumsIn w' a out b 0 ∧ Below w.heap.size w w' := by
  refine (Output_any h (by rw [hR.out]; exact hn) hR.nil).mono ?_
  rintro e w' ⟨hB, ⟨h0, rfl⟩ | ⟨_, b, c, rfl, hown, _⟩⟩
  · rw [hR.out] at h0
    subst h0
    exact ⟨none, 0, 0, rfl, fun h => by simp at h, hB⟩
  · rw [hR.out] at hown
    refine ⟨_, b, c, by rw [hR.out], fun h => ⟨rfl, ?_, fun i x hx => ?_⟩, hB⟩
    · rcases hown.2 with ⟨_, h0⟩ | ⟨_, _, _, hv, h1, hg, _⟩
      · omega
      · cases hv; exact (Array.getElem?_eq_some_iff.1 hg).1
    · have hi := (List.getElem?_eq_some_iff.1 hx).1
      rw [Nat.zero_add, hown.cellAt i (by simpa using hi)]
      simp [hx]

def ToldL (out : List Int) (w : World) (e : Ending) (w' : World) : Prop :=
  ∃ a b c, e = .returned (.tuple #[.slice a out.length c, .bool true]) ∧ NumsIn w' a out b 0 ∧ Below w.heap.size w w'

theorem NumsIn.on {w w' : World} {a : Option Addr} {l : List Int} {b o : Nat} (h : NumsIn w a l b o) (hB : Below w.heap.size w w') : NumsIn w' a l b o := fun h0 => by
  obtain ⟨h1, h2, h3⟩ := h h0
  exact ⟨h1, Nat.lt_of_lt_of_le h2 hB.size, fun i x hx => by rw [hB.cell (p := ⟨b, o + i, none⟩) h2]; exact h3 i x hx⟩

set_option maxRecDepth 100000 in
set_option maxHeartbeats 1000000 in
theorem told_list (g : PgR) (w : World) (hg : PgIn w.heap.size w g) (ht : Tab w) (hck : CheckIs g 0 0) (out : List Int) (hn : out.length ≤ 1000) (N : Nat)
    (hrun : ∀ own mb g' R w, MachAt w own mb g' R → Begun g 11 R → Same g g' → Calls Tryd.prog 42 #[.pointer (some ⟨mb, 0, none⟩), .int .i64 1000] w fun e w' => RunPost own mb g' (EndedL 11 out) N w e w') :
    Calls Tryd.prog 23 #[.agg #[.slice g.a g.n g.c]] w fun e w' => ToldL out w e w' := by
  have HB : Hid (∀ W, Below w.heap.size w W → Calls Tryd.prog 15 #[.agg #[.slice g.a g.n g.c], .int .i64 10] W fun e w' => BegunPost g 11 W e w') := fun W hW =>
    begun_any g W (hg.held hW.size fun k hk => hW.block k (hg.blk_lt hk)) (ht.held hW.size (hW.block 0 ht.1)) hck 10 (by omega) (by omega) 11 (by decide)
  have HR := hid hrun
  clear hg ht hck hrun
  go_enter Tryd.func23, Tryd.ntmps23
  go_wp2_with (go_at_call 15; refine (HB.out _ ?_).mono ?_; exact (by repeat (first | exact Below.refl _ _ | refine Below.alloc ?_ (by first | (simp; done) | (simp; omega)) _)); rintro e w2 ⟨own, mb, g', R, rfl, hm, hbg, hsame, hb, hnew⟩; have HB2 : Hid (Below w.heap.size w w2) := below_via' hb (by repeat (first | exact Below.refl _ _ | refine Below.alloc ?_ (by first | (simp; done) | (simp; omega)) _)); have HRUN := hid (Run_any (HR.out own mb g' R w2 hm hbg hsame)); have HNEW := hid hnew; clear hm hbg hsame hb hnew)
  refine HRUN.out.mono ?_
  rintro e w3 ⟨own3, R3, rfl, hm3, hend3, ht3⟩
  have HM3 := hid hm3
  have HE3 := hid hend3
  have HST : Hid (∀ U, Below w3.heap.size w3 U → Calls Tryd.prog 18 #[.pointer (some ⟨mb, 0, none⟩)] U fun e w' => e = .returned (.agg #[.int .i64 1, .int .i64 (taken R3.obs : Int), .int .i64 (R3.dr.length : Int)]) ∧ Below U.heap.size U w') := by
    intro U hU
    have := Status_any (hm3.same hU.size fun k hk => hU.block k hk) (by rw [hend3.obs]; omega) (by rw [hend3.obs]; omega)
    rw [hend3.st] at this
    exact this
  have HOUT : Hid (∀ U, Below w3.heap.size w3 U → Calls Tryd.prog 20 #[.pointer (some ⟨mb, 0, none⟩)] U fun e w' => ∃ a b c, e = .returned (.slice a out.length c) ∧ NumsIn w' a out b 0 ∧ Below U.heap.size U w') :=
    fun U hU => ended_outs (hm3.same hU.size fun k hk => hU.block k hk) hend3 hn
  have HB3 : Hid (Below w.heap.size w w3) := HB2.out.trans (ht3.below HB2.out.size fun k hk => by
    cases e : own k with
    | none => rfl
    | some t => have := HNEW.out k t e; simp at this; omega)
  clear hm3 hend3 ht3
  go_wp2_with (first | (go_at_call 18; refine (HST.out _ ?_).mono ?_; exact (by repeat (first | exact Below.refl _ _ | refine Below.alloc ?_ (by first | (simp; done) | (simp; omega)) _)); rintro e w5 ⟨rfl, hb5⟩; have HB5 : Hid (Below w3.heap.size w3 w5) := below_via' hb5 (by repeat (first | exact Below.refl _ _ | refine Below.alloc ?_ (by first | (simp; done) | (simp; omega)) _)); clear hb5))
  have j0 : (w5.alloc (Obj.cells #[.int .i64 1, .int .i64 (taken R3.obs : Int), .int .i64 (R3.dr.length : Int)] 45)).cell? ⟨w5.heap.size, 0, none⟩ = some (.int .i64 1) := by go_simp
  have hBV : Below w3.heap.size w3 (w5.alloc (Obj.cells #[.int .i64 1, .int .i64 (taken R3.obs : Int), .int .i64 (R3.dr.length : Int)] 45)) := Below.alloc HB5.out HB5.out.size _
  have hlV : w5.heap.size < (w5.alloc (Obj.cells #[.int .i64 1, .int .i64 (taken R3.obs : Int), .int .i64 (R3.dr.length : Int)] 45)).heap.size := by simp
  generalize (w5.alloc (Obj.cells #[.int .i64 1, .int .i64 (taken R3.obs : Int), .int .i64 (R3.dr.length : Int)] 45)) = V at *
  have HBV := hid hBV
  clear hBV
  go_region_with (first | (go_at_call 20; refine (HOUT.out _ ?_).mono ?_; exact (by repeat (first | exact HBV.out | refine Below.drew ?_)); rintro e w6 ⟨a, b, c, rfl, hcell, hB6⟩; have j6 := (hB6.cell (p := ⟨w5.heap.size, 0, none⟩) hlV).trans j0; have HC := hid hcell; have HB6 : Hid (Below w3.heap.size w3 w6) := below_via' hB6 (by repeat (first | exact HBV.out | refine Below.drew ?_)); clear hcell hB6))
  all_goals
    go_wp2_with fail
    go_ret2
    exact ⟨a, b, c, rfl, HC.out, below_via' HB6.out HB3.out⟩

/-- Lists: the program is made, and run. -/
theorem told_rev (g : PgR) (l : List Int) (w : World) (hl : l.length ≤ 6) (hg : PgIn w.heap.size w g) (ht : Tab w) (hs : SProg g 1 (revL l)) :
    Calls Tryd.prog 23 #[.agg #[.slice g.a g.n g.c]] w fun e w' => ToldL l.reverse w e w' := by
  have hlen : (revL l).length = l.length * 8 + 11 := by
    unfold revL
    rw [List.length_append, revRow_len]
    rfl
  refine told_list g w hg ht (okL_check hs (by omega) (by omega) ?_ (rev_ok l hl)) l.reverse (by simp; omega) (18 * l.length + 4) ?_
  · match l with
    | [] => rfl
    | _ :: _ => rfl
  · intro own mb g' R w' hm hbg hsame
    obtain ⟨lv, hf⟩ := hbg.frs
    have h1 : (g.f 0).l = ((1 : Nat) : Int) := hs.l
    have hR : R.abs = revS := by
      unfold McR.abs revS
      rw [hbg.st, hbg.out, hf, hbg.obs, hbg.dr, h1]
      rfl
    have hrun := rev_run l hl
    rw [← hR] at hrun
    obtain ⟨s, hs1, hs2⟩ := Option.map_eq_some_iff.1 hrun
    have e1 : s.st = 1 := congrArg (·.1) hs2
    have e2 : s.out = l.reverse := congrArg (·.2.1) hs2
    have e3 : s.obs.length = 11 := congrArg (·.2.2) hs2
    refine (run_list (hs.same hsame) (by omega) hm (fun _ => hbg.ov) (18 * l.length + 4) 1000 (by omega) (by omega) hs1 (by rw [e1]; decide)).mono ?_
    rintro e w' ⟨own', R', he, hm', ⟨hR', hq'⟩, ht'⟩
    refine ⟨own', R', he, hm', ⟨?_, ?_, ?_, hq'⟩, ht'⟩
    · rw [← hR'] at e1; exact e1
    · rw [← hR'] at e2; exact e2
    · rw [← hR'] at e3; simpa [McR.abs] using e3

end Go.Proofs.YtbkmgoffiigdbaaDoor

namespace Go.Proofs.YtbkmgoffiigdbaaDoor
open Go.RowKit Go.Sort

/-- A list of numbers in memory. -/
def RawL (B : Nat) (w : World) (a : Option Addr) (n b o : Nat) (R : Nat → Int) : Prop :=
  n ≤ 1152921504606846976 ∧ (0 < n → a = some ⟨b, o, none⟩ ∧ b < B ∧ ∀ i, i < n → w.cell? ⟨b, o + i, none⟩ = some (.int .i64 (R i)))

set_option maxHeartbeats 1000000 in
theorem some_few (a : Option Addr) (n c : Nat) (w : World) (h : ¬ 6 < n) : Calls Tryd.prog 25 #[.slice a n c, .int .i64 6] w fun e w' => e = .returned (.slice a n c) ∧ w' = w := by
  have h' : ¬ (6 : Int) < (n : Int) := by omega
  go_enter Tryd.func25, Tryd.ntmps25
  go_wp2
  go_ret
  exact ⟨rfl, rfl⟩

set_option maxHeartbeats 1000000 in
theorem some_many (b o n c : Nat) (w : World) (h : 6 < n) (hc : n ≤ c) : Calls Tryd.prog 25 #[.slice (some ⟨b, o, none⟩) n c, .int .i64 6] w fun e w' => e = .returned (.slice (some ⟨b, o, none⟩) 6 c) ∧ w' = w := by
  have h' : (6 : Int) < (n : Int) := by omega
  have h6 : 6 ≤ c := by omega
  go_enter Tryd.func25, Tryd.ntmps25
  go_wp2
  go_ret
  exact ⟨rfl, rfl⟩

theorem some_any {B : Nat} {w : World} {a : Option Addr} {n c b o : Nat} {R : Nat → Int} (hr : RawL B w a n b o R) (hc : n ≤ c) (W : World) : Calls Tryd.prog 25 #[.slice a n c, .int .i64 6] W fun e w' => e = .returned (.slice a (min n 6) c) ∧ w' = W := by
  by_cases h : 6 < n
  · obtain ⟨rfl, _⟩ := hr.2 (by omega)
    rw [show min n 6 = 6 by omega]
    exact some_many b o n c W h hc
  · rw [show min n 6 = n by omega]
    exact some_few a n c W h

set_option maxRecDepth 100000 in
set_option maxHeartbeats 2000000 in
theorem lists_any (a : Option Addr) (n c b o : Nat) (R : Nat → Int) (w : World) (hr : RawL w.heap.size w a n b o R) (hc : n ≤ c) (ht : Tab w) :
    Calls Tryd.prog 7 #[.slice a n c] w fun e w' => e = .returned (.bool true) ∧ Below w.heap.size w w' := by
  have HSO : Hid (∀ W, Calls Tryd.prog 25 #[.slice a n c, .int .i64 6] W fun e w' => e = .returned (.slice a (min n 6) c) ∧ w' = W) := fun W => some_any hr hc W
  obtain ⟨m, hm⟩ : ∃ m, min n 6 = m := ⟨_, rfl⟩
  have hm6 : m ≤ 6 := by omega
  obtain ⟨l, hl⟩ : ∃ l, l = (List.range m).map R := ⟨_, rfl⟩
  have hlen : l.length = m := by rw [hl]; simp
  have hnum : NumsIn w a l b o := fun h0 => by
    rw [hlen] at h0
    obtain ⟨h1, h2, h3⟩ := hr.2 (by omega)
    refine ⟨h1, h2, fun i x hx => ?_⟩
    have hi := (List.getElem?_eq_some_iff.1 hx).1
    rw [hlen] at hi
    rw [hl] at hx
    simp [hi] at hx
    rw [← hx]
    exact h3 i (by omega)
  rw [hm] at HSO
  have HREV : Hid (∀ W, Below w.heap.size w W → Calls Tryd.prog 26 #[.slice a m c] W fun e w' => ProgNew 1 (revL l) W e w') := fun W hW => by
    have := reversing_any a c l b o W (by omega) (fun h0 => by
      obtain ⟨h1, h2, h3⟩ := hnum h0
      exact ⟨h1, Nat.lt_of_lt_of_le h2 hW.size, fun i x hx => by rw [hW.cell (p := ⟨b, o + i, none⟩) h2]; exact h3 i x hx⟩)
    rw [hlen] at this
    exact this
  have HTO : Hid (∀ U g, PgIn U.heap.size U g → SProg g 1 (revL l) → Below w.heap.size w U → Calls Tryd.prog 23 #[.agg #[.slice g.a g.n g.c]] U fun e w' => ToldL l.reverse U e w') := fun U g hg hs hU =>
    told_rev g l U (by omega) hg (ht.held hU.size (hU.block 0 ht.1)) hs
  have HNUM := hid hnum
  have hlr : l.reverse.length = m := by simp [hlen]
  unfold ToldL at HTO
  rw [hlr] at HTO
  clear hr hc ht hnum hm
  go_enter Tryd.func7, Tryd.ntmps7
  go_wp2_with (first | (go_at_call 25; refine (HSO.out _).mono ?_; rintro e w' ⟨rfl, hw⟩; rw [hw]; clear hw w') | (go_at_call 26; refine (HREV.out _ (Below.refl _ _)).mono ?_; rintro e w3 ⟨g, rfl, hpg, hsp, hb3⟩; have HPG := hid hpg; have HSP := hid hsp; have HB3 := hid hb3; clear hpg hsp hb3))
  refine (HTO.out _ g HPG.out HSP.out HB3.out).mono ?_
  rintro e w4 ⟨oa, ob, oc, rfl, hn4, hb4⟩
  have HN4 := hid hn4
  have HB4 : Hid (Below w.heap.size w w4) := below_via' hb4 HB3.out
  clear hn4 hb4
  go_wp2_with fail
  go_loopw [5] (fun v wr => ∃ i : Nat, i ≤ m ∧ v = .int .i64 i ∧ Below w4.heap.size w4 wr) (fun v _ => m - (intOf v).toNat)
  case atStart => exact ⟨0, Nat.zero_le _, rfl, Below.refl _ _⟩
  case round =>
    obtain ⟨i, hi, rfl, hbel⟩ := hrel
    by_cases hlt : i < m
    · obtain ⟨q, hq⟩ : ∃ q, q = m - 1 - i := ⟨_, rfl⟩
      obtain ⟨p, hp⟩ : ∃ p, p = m - 1 := ⟨_, rfl⟩
      obtain ⟨x, hx⟩ : ∃ x, l[q]? = some x := ⟨_, List.getElem?_eq_getElem (by omega)⟩
      have hxr : l.reverse[i]? = some x := by
        rw [List.getElem?_reverse (by omega), hlen, ← hq]; exact hx
      obtain ⟨rfl, s2, s3⟩ := HNUM.out (by omega)
      obtain ⟨rfl, t2, t3⟩ := HN4.out (by omega)
      have r1 := t3 i x hxr
      have r2 := s3 q x hx
      rw [Nat.zero_add, ← hbel.cell (p := ⟨ob, i, none⟩) t2] at r1
      have hB4 := below_via' hbel HB4.out
      rw [← hB4.cell (p := ⟨b, o + q, none⟩) s2] at r2
      have hy1 : IntKind.i64.wrap ((m : Int) - 1) = (p : Int) := by rw [Go.IntWalk.i64_in _ (by omega)]; omega
      have hy2 : IntKind.i64.wrap ((p : Int) - (i : Int)) = (q : Int) := by rw [Go.IntWalk.i64_in _ (by omega)]; omega
      have hqm : q < m := by omega
      have HBEL := hid hbel
      clear s3 t3 hx hxr hbel hB4 hq hp
      go_wp2_with fail
      go_region
      all_goals go_wp2_with fail
      all_goals go_roundw
      all_goals first | exact ⟨i + 1, by omega, by go_num, HBEL.out⟩ | exact ⟨i + 1, by omega, by go_num, Below.drew HBEL.out⟩ | (simp [intOf]; omega)
    · obtain rfl : i = m := by omega
      go_wp2_with fail
      go_ret
      exact ⟨rfl, below_via' hbel HB4.out⟩

end Go.Proofs.YtbkmgoffiigdbaaDoor
