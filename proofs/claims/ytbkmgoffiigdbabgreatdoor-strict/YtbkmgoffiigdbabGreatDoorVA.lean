import Derived.Test.YtbkmgoffiigdbabGreatDoorProg
import Derived.WalkKit
import Derived.WalkSpells
import Derived.Deep.Light
import Derived.Deep.OwnRows
import Derived.Deep.QuietTactic
import Derived.BigQuiet
import Derived.Deep.LoopGhost
import Derived.Lib.QuietBelow
namespace Go.Proofs.YtbkmgoffiigdbabGreatDoor
open Go.RowKit

def insideB (n l g : Int) : Bool := decide (l ≤ n) && decide (n ≤ g)

theorem insideB_t {n l g : Int} (h1 : l ≤ n) (h2 : n ≤ g) : insideB n l g = true := by simp [insideB, h1, h2]
theorem insideB_f {n l g : Int} (h : ¬ (l ≤ n ∧ n ≤ g)) : insideB n l g = false := by
  simp only [insideB, Bool.and_eq_false_iff, decide_eq_false_iff_not]; omega

set_option maxHeartbeats 400000 in
theorem within_any (n l g : Int) (w : World) :
    Calls Tryz.prog 41 #[.int .i64 n, .int .i64 l, .int .i64 g] w fun e w' => e = .returned (.bool (insideB n l g)) ∧ w' = w := by
  by_cases h1 : l ≤ n
  · by_cases h2 : n ≤ g
    · rw [insideB_t h1 h2]
      go_enter Tryz.func41, Tryz.ntmps41
      go_wp2
      all_goals go_ret
      all_goals exact ⟨by simp, rfl⟩
    · rw [insideB_f (by omega)]
      go_enter Tryz.func41, Tryz.ntmps41
      go_wp2
      all_goals go_ret
      all_goals exact ⟨by simp, rfl⟩
  · rw [insideB_f (by omega)]
    go_enter Tryz.func41, Tryz.ntmps41
    go_wp2
    all_goals go_ret
    all_goals exact ⟨by simp, rfl⟩

set_option maxHeartbeats 400000 in
theorem anything_any (a b : Option Addr) (n c m d : Nat) (p l x : Int) (w : World) :
    Calls Tryz.prog 170 #[.agg #[.slice a n c], .agg #[.int .i64 p, .int .i64 l, .slice b m d], .int .i64 x] w fun e w' => e = .returned (.bool true) ∧ Below w.heap.size w w' := by
  go_enter Tryz.func170, Tryz.ntmps170
  go_wp2
  go_ret
  exact ⟨rfl, by repeat (first | exact Below.refl _ _ | refine Below.drew ?_ | refine Below.alloc ?_ (by simp) _)⟩

set_option maxHeartbeats 400000 in
theorem nothing_any (a b : Option Addr) (n c m d : Nat) (p l x : Int) (w : World) :
    Calls Tryz.prog 172 #[.agg #[.slice a n c], .agg #[.int .i64 p, .int .i64 l, .slice b m d], .int .i64 x] w fun e w' => e = .returned (.bool (x == 0)) ∧ Below w.heap.size w w' := by
  go_enter Tryz.func172, Tryz.ntmps172
  go_wp2
  go_ret
  exact ⟨rfl, by repeat (first | exact Below.refl _ _ | refine Below.drew ?_ | refine Below.alloc ?_ (by simp) _)⟩

set_option maxHeartbeats 400000 in
theorem aLocal_any (a b : Option Addr) (n c m d : Nat) (p l x : Int) (w : World) (h0 : 0 ≤ l) (h8 : l ≤ 8) :
    Calls Tryz.prog 174 #[.agg #[.slice a n c], .agg #[.int .i64 p, .int .i64 l, .slice b m d], .int .i64 x] w fun e w' => e = .returned (.bool (insideB x 0 (l - 1))) ∧ Below w.heap.size w w' := by
  go_enter Tryz.func174, Tryz.ntmps174
  go_wp2_with (go_at_call 41; refine (within_any _ _ _ _).mono ?_; rintro e w' ⟨rfl, rfl⟩)
  go_ret
  exact ⟨rfl, by repeat (first | exact Below.refl _ _ | refine Below.drew ?_ | refine Below.alloc ?_ (by simp) _)⟩

set_option maxHeartbeats 400000 in
theorem anInstruction_any (a b : Option Addr) (n c m d : Nat) (p l x : Int) (w : World) (hm : m ≤ 1152921504606846976) :
    Calls Tryz.prog 185 #[.agg #[.slice a n c], .agg #[.int .i64 p, .int .i64 l, .slice b m d], .int .i64 x] w fun e w' => e = .returned (.bool (insideB x 0 (m - 1))) ∧ Below w.heap.size w w' := by
  go_enter Tryz.func185, Tryz.ntmps185
  go_wp2_with (go_at_call 41; refine (within_any _ _ _ _).mono ?_; rintro e w' ⟨rfl, rfl⟩)
  go_ret
  exact ⟨rfl, by repeat (first | exact Below.refl _ _ | refine Below.drew ?_ | refine Below.alloc ?_ (by simp) _)⟩

set_option maxHeartbeats 400000 in
theorem aFunction_any (a b : Option Addr) (n c m d : Nat) (p l x : Int) (w : World) (hm : n ≤ 1152921504606846976) :
    Calls Tryz.prog 188 #[.agg #[.slice a n c], .agg #[.int .i64 p, .int .i64 l, .slice b m d], .int .i64 x] w fun e w' => e = .returned (.bool (insideB x 0 (n - 1))) ∧ Below w.heap.size w w' := by
  go_enter Tryz.func188, Tryz.ntmps188
  go_wp2_with (go_at_call 41; refine (within_any _ _ _ _).mono ?_; rintro e w' ⟨rfl, rfl⟩)
  go_ret
  exact ⟨rfl, by repeat (first | exact Below.refl _ _ | refine Below.drew ?_ | refine Below.alloc ?_ (by simp) _)⟩

set_option maxHeartbeats 400000 in
theorem aRecordSize_any (a b : Option Addr) (n c m d : Nat) (p l x : Int) (w : World) :
    Calls Tryz.prog 191 #[.agg #[.slice a n c], .agg #[.int .i64 p, .int .i64 l, .slice b m d], .int .i64 x] w fun e w' => e = .returned (.bool (insideB x 0 8)) ∧ Below w.heap.size w w' := by
  go_enter Tryz.func191, Tryz.ntmps191
  go_wp2_with (go_at_call 41; refine (within_any _ _ _ _).mono ?_; rintro e w' ⟨rfl, rfl⟩)
  go_ret
  exact ⟨rfl, by repeat (first | exact Below.refl _ _ | refine Below.drew ?_ | refine Below.alloc ?_ (by simp) _)⟩

set_option maxHeartbeats 400000 in
theorem aField_any (a b : Option Addr) (n c m d : Nat) (p l x : Int) (w : World) :
    Calls Tryz.prog 195 #[.agg #[.slice a n c], .agg #[.int .i64 p, .int .i64 l, .slice b m d], .int .i64 x] w fun e w' => e = .returned (.bool (insideB x 0 7)) ∧ Below w.heap.size w w' := by
  go_enter Tryz.func195, Tryz.ntmps195
  go_wp2_with (go_at_call 41; refine (within_any _ _ _ _).mono ?_; rintro e w' ⟨rfl, rfl⟩)
  go_ret
  exact ⟨rfl, by repeat (first | exact Below.refl _ _ | refine Below.drew ?_ | refine Below.alloc ?_ (by simp) _)⟩

end Go.Proofs.YtbkmgoffiigdbabGreatDoor

namespace Go.Proofs.YtbkmgoffiigdbabGreatDoor
open Go.RowKit

/-! The document's own answer: its small functions. -/

def sizedB (k p l : Int) (n : Nat) : Bool := insideB n 1 60 && (insideB l 0 8 && (insideB p 0 l && (decide (0 < k) || p == 0)))

theorem sizedB_of {k p l : Int} {n : Nat} {r : Bool} (h : ((1 ≤ n ∧ n ≤ 60) ∧ (0 ≤ l ∧ l ≤ 8) ∧ (0 ≤ p ∧ p ≤ l) ∧ (0 < k ∨ p = 0)) ↔ r = true) : r = sizedB k p l n := by
  rw [Bool.eq_iff_iff, ← h]
  simp only [sizedB, insideB, Bool.and_eq_true, Bool.or_eq_true, decide_eq_true_eq, beq_iff_eq]
  omega

def legalB (nf : Nat) (l : Int) (nc : Nat) (op x : Int) : Bool :=
  if op = 0 then true
  else if op = 2 ∨ op = 3 then insideB x 0 (l - 1)
  else if op = 12 ∨ op = 13 then insideB x 0 (nc - 1)
  else if op = 14 then insideB x 0 (nf - 1)
  else if op = 16 then insideB x 0 8
  else if op = 19 ∨ op = 20 then insideB x 0 7
  else insideB op 0 27 && x == 0

theorem ret_bool {a b : Bool} (h : a = b) : Ending.returned (.bool a) = .returned (.bool b) := by rw [h]
theorem ret_i64 {a b : Int} (h : a = b) : Ending.returned (.int .i64 a) = .returned (.int .i64 b) := by rw [h]

def pushD (op : Int) : Int := if op = 4 ∨ op = 6 then 2 else if op = 3 ∨ op = 5 ∨ op = 12 ∨ op = 13 ∨ op = 15 ∨ op = 20 ∨ op = 22 ∨ op = 26 ∨ op = 27 then 0 else 1

/-- How many values an operation pops; 'q': the parameters of the function that a Call calls. -/
def popD (op q : Int) : Int :=
  if op = 3 ∨ op = 4 ∨ op = 5 ∨ op = 13 ∨ op = 15 ∨ op = 17 ∨ op = 18 ∨ op = 19 ∨ op = 23 ∨ op = 24 ∨ op = 25 ∨ op = 26 then 1
  else if op = 6 ∨ op = 7 ∨ op = 8 ∨ op = 9 ∨ op = 10 ∨ op = 11 ∨ op = 20 ∨ op = 21 then 2
  else if op = 22 then 3 else if op = 14 then q else 0

end Go.Proofs.YtbkmgoffiigdbabGreatDoor

namespace Go.Proofs.YtbkmgoffiigdbabGreatDoor
open Go.RowKit

/-! PLAIN: the ways through a function, and when it fits together. -/

structure Flow where
  n : Nat
  pop : Nat → Int
  push : Nat → Int
  next : Nat → List Nat

def Flow.behind (F : Flow) (a : Nat) (h : Int) : Int := h - F.pop a + F.push a

/-- A way leads to 'pc' at the height 'h'. -/
def Flow.Reach (F : Flow) (pc : Nat) (h : Int) : Prop :=
  ∀ S : Nat → Int → Prop, S 0 0 → (∀ a b c, S a b → c ∈ F.next a → S c (F.behind a b)) → S pc h

def Flow.Fits (F : Flow) : Prop :=
  (∀ a b, F.Reach a b → a < F.n ∧ F.pop a ≤ b ∧ F.behind a b ≤ 10) ∧ ∀ a b b', F.Reach a b → F.Reach a b' → b = b'

theorem Flow.reach_first (F : Flow) : F.Reach 0 0 := fun _ h _ => h
theorem Flow.reach_next {F : Flow} {a c : Nat} {b : Int} (h : F.Reach a b) (hc : c ∈ F.next a) : F.Reach c (F.behind a b) :=
  fun S h0 hs => hs a b c (h S h0 hs) hc

def Flow.Shut (F : Flow) (H : Nat → Int) (a : Nat) : Prop :=
  F.pop a ≤ H a ∧ F.behind a (H a) ≤ 10 ∧ ∀ c, c ∈ F.next a → c < F.n ∧ H c = F.behind a (H a)

theorem Flow.fits_of_shut {F : Flow} {H : Nat → Int} (hn : 0 < F.n) (h0 : H 0 = 0) (hp : ∀ a, 0 ≤ F.push a) (hs : ∀ a, a < F.n → 0 ≤ H a → F.Shut H a) : F.Fits := by
  have key : ∀ a b, F.Reach a b → a < F.n ∧ H a = b ∧ 0 ≤ b := fun a b h => by
    refine h (fun a b => a < F.n ∧ H a = b ∧ 0 ≤ b) ⟨hn, h0, Int.le_refl 0⟩ ?_
    rintro a b c ⟨ha, hb, hz⟩ hc
    obtain ⟨h1, _, h3⟩ := hs a ha (by omega)
    obtain ⟨h4, h5⟩ := h3 c hc
    have := hp a
    refine ⟨h4, by rw [h5, hb], ?_⟩
    unfold Flow.behind
    omega
  refine ⟨fun a b h => ?_, fun a b b' h h' => ?_⟩
  · obtain ⟨ha, hb, hz⟩ := key a b h
    obtain ⟨h1, h2, _⟩ := hs a ha (by omega)
    rw [hb] at h1 h2
    exact ⟨ha, h1, h2⟩
  · rw [← (key a b h).2.1, ← (key a b' h').2.1]

theorem Flow.not_fits_pop {F : Flow} {a : Nat} {b : Int} (h : F.Reach a b) (hb : b < F.pop a ∨ 10 < F.behind a b) : ¬ F.Fits := fun hf => by
  have := hf.1 a b h; omega
theorem Flow.not_fits_past {F : Flow} {a c : Nat} {b : Int} (h : F.Reach a b) (hc : c ∈ F.next a) (hn : F.n ≤ c) : ¬ F.Fits := fun hf => by
  have := (hf.1 c _ (Flow.reach_next h hc)).1; omega
theorem Flow.not_fits_two {F : Flow} {a c : Nat} {b h' : Int} (h : F.Reach a b) (hc : c ∈ F.next a) (h2 : F.Reach c h') (hne : h' ≠ F.behind a b) : ¬ F.Fits := fun hf =>
  hne (hf.2 c _ _ h2 (Flow.reach_next h hc))

/-- How many instructions no way has come to yet. -/
def left (n : Nat) (H : Nat → Int) : Nat := ((List.range n).filter fun i => decide (H i < 0)).length

theorem left_set {n : Nat} {H : Nat → Int} {c : Nat} {v : Int} (hc : c < n) (hH : H c < 0) (hv : 0 ≤ v) : left n (fun i => if i = c then v else H i) + 1 = left n H := by
  induction n with
  | zero => omega
  | succ n ih =>
    simp only [left]
    rw [List.range_succ, List.filter_append, List.filter_append, List.length_append, List.length_append]
    by_cases e : c = n
    · subst e
      have e1 : (List.range c).filter (fun i => decide ((if i = c then v else H i) < 0)) = (List.range c).filter (fun i => decide (H i < 0)) := by
        refine List.filter_congr fun i hi => ?_
        have : i < c := List.mem_range.1 hi
        rw [if_neg (by omega)]
      rw [e1]
      simp [hH]; omega
    · have hi := ih (by omega)
      simp only [left] at hi
      have e2 : ((if n = c then v else H n) < 0) = (H n < 0) := by rw [if_neg (by omega)]
      simp only [List.filter_cons, List.filter_nil, e2]
      omega

/-! HOW A PROGRAM LIES IN MEMORY. -/

structure FnR where
  p : Int
  l : Int
  a : Option Addr
  n : Nat
  c : Nat
  b : Nat
  o : Nat
  op : Nat → Int
  ar : Nat → Int

structure PgR where
  a : Option Addr
  n : Nat
  c : Nat
  b : Nat
  o : Nat
  f : Nat → FnR

/-- .. in blocks below B. -/
def CodeIn (B : Nat) (w : World) (f : FnR) : Prop :=
  f.n ≤ 1152921504606846976 ∧ (0 < f.n → f.a = some ⟨f.b, f.o, none⟩ ∧ f.b < B ∧ ∀ j, j < f.n →
    w.cell? ⟨f.b, f.o + j * 2, none⟩ = some (.int .i64 (f.op j)) ∧ w.cell? ⟨f.b, f.o + j * 2 + 1, none⟩ = some (.int .i64 (f.ar j)))

def PgIn (B : Nat) (w : World) (g : PgR) : Prop :=
  g.n ≤ 1152921504606846976 ∧ (0 < g.n → g.a = some ⟨g.b, g.o, none⟩ ∧ g.b < B ∧ ∀ i, i < g.n →
    w.cell? ⟨g.b, g.o + i * 3, none⟩ = some (.int .i64 (g.f i).p) ∧ w.cell? ⟨g.b, g.o + i * 3 + 1, none⟩ = some (.int .i64 (g.f i).l) ∧
    w.cell? ⟨g.b, g.o + i * 3 + 2, none⟩ = some (.slice (g.f i).a (g.f i).n (g.f i).c)) ∧ ∀ i, i < g.n → CodeIn B w (g.f i)

theorem CodeIn.below {B : Nat} {w w' : World} {f : FnR} (h : CodeIn B w f) (hb : Below B w w') : CodeIn B w' f :=
  ⟨h.1, fun hn => by
    obtain ⟨h1, h2, h3⟩ := h.2 hn
    refine ⟨h1, h2, fun j hj => ?_⟩
    rw [hb.cell (p := ⟨f.b, f.o + j * 2, none⟩) h2, hb.cell (p := ⟨f.b, f.o + j * 2 + 1, none⟩) h2]
    exact h3 j hj⟩

theorem CodeIn.mono {B B' : Nat} {w : World} {f : FnR} (h : CodeIn B w f) (hb : B ≤ B') : CodeIn B' w f :=
  ⟨h.1, fun hn => by obtain ⟨h1, h2, h3⟩ := h.2 hn; exact ⟨h1, by omega, h3⟩⟩

theorem PgIn.below {B : Nat} {w w' : World} {g : PgR} (h : PgIn B w g) (hb : Below B w w') : PgIn B w' g :=
  ⟨h.1, fun hn => by
    obtain ⟨h1, h2, h3⟩ := h.2.1 hn
    refine ⟨h1, h2, fun i hi => ?_⟩
    rw [hb.cell (p := ⟨g.b, g.o + i * 3, none⟩) h2, hb.cell (p := ⟨g.b, g.o + i * 3 + 1, none⟩) h2, hb.cell (p := ⟨g.b, g.o + i * 3 + 2, none⟩) h2]
    exact h3 i hi, fun i hi => (h.2.2 i hi).below hb⟩

theorem PgIn.mono {B B' : Nat} {w : World} {g : PgR} (h : PgIn B w g) (hb : B ≤ B') : PgIn B' w g :=
  ⟨h.1, fun hn => by obtain ⟨h1, h2, h3⟩ := h.2.1 hn; exact ⟨h1, by omega, h3⟩, fun i hi => (h.2.2 i hi).mono hb⟩

/-- All blocks but those of S are as they were. -/
structure But (S : Nat → Prop) (w w' : World) : Prop where
  os : w'.os = w.os
  tape : w'.tape = w.tape
  output : w'.output = w.output
  size : w.heap.size ≤ w'.heap.size
  block : ∀ k, k < w.heap.size → ¬ S k → w'.heap[k]? = w.heap[k]?

theorem But.refl (S : Nat → Prop) (w : World) : But S w w := ⟨rfl, rfl, rfl, Nat.le_refl _, fun _ _ _ => rfl⟩
theorem But.trans {S : Nat → Prop} {a b c : World} (h : But S a b) (k : But S b c) : But S a c :=
  ⟨k.os.trans h.os, k.tape.trans h.tape, k.output.trans h.output, Nat.le_trans h.size k.size, fun i hi hs => (k.block i (Nat.lt_of_lt_of_le hi h.size) hs).trans (h.block i hi hs)⟩
theorem But.of_below {S : Nat → Prop} {w w' : World} (h : Below w.heap.size w w') : But S w w' := ⟨h.os, h.tape, h.output, h.size, fun k hk _ => h.block k hk⟩
theorem But.drew {S : Nat → Prop} {a w : World} (h : But S a w) : But S a w.drew := ⟨h.os, h.tape, h.output, h.size, h.block⟩
theorem But.alloc {S : Nat → Prop} {a w : World} (h : But S a w) (o : Obj) : But S a (w.alloc o) :=
  h.trans ⟨rfl, rfl, rfl, by simp, fun k hk _ => Below.heap_alloc _ _ _ hk⟩
theorem But.setCell {S : Nat → Prop} {a w : World} (h : But S a w) {p : Addr} (hp : S p.block ∨ a.heap.size ≤ p.block) (u : Value) : But S a (w.setCell p u) :=
  ⟨h.os, h.tape, h.output, by have := h.size; simpa [World.setCell] using this, fun k hk hs => (Below.heap_setCell _ _ _ _ (by rcases hp with hp | hp; exact fun e => hs (e ▸ hp); omega)).trans (h.block k hk hs)⟩
theorem But.cell {S : Nat → Prop} {w w' : World} (h : But S w w') {p : Addr} (hp : p.block < w.heap.size) (hs : ¬ S p.block) : w'.cell? p = w.cell? p := World.cell?_of_block (w := w) (h.block p.block hp hs)
theorem But.frozen {S : Nat → Prop} {w w' : World} (h : But S w w') {p : Addr} (hp : p.block < w.heap.size) (hs : ¬ S p.block) : w'.frozen? p = w.frozen? p := World.frozen?_of_block (w := w) (h.block p.block hp hs)
theorem But.below {S : Nat → Prop} {w w' : World} (h : But S w w') {B : Nat} (hB : B ≤ w.heap.size) (hs : ∀ k, k < B → ¬ S k) : Below B w w' :=
  ⟨h.os, h.tape, h.output, h.size, fun k hk => h.block k (Nat.lt_of_lt_of_le hk hB) (hs k hk)⟩

def FnR.v (f : FnR) : Value := .agg #[.int .i64 f.p, .int .i64 f.l, .slice f.a f.n f.c]

/-- The first number below 'n' at which something does not hold. -/
def First (n : Nat) (ok : Nat → Bool) (k : Nat) : Prop := k < n ∧ ok k = false ∧ ∀ j, j < k → ok j = true

theorem First.unique {n : Nat} {ok : Nat → Bool} {k k' : Nat} (h : First n ok k) (h' : First n ok k') : k = k' := by
  rcases Nat.lt_trichotomy k k' with hl | hl | hl
  · have := h'.2.2 k hl; rw [h.2.1] at this; cases this
  · exact hl
  · have := h.2.2 k' hl; rw [h'.2.1] at this; cases this

/-- What a look at the sizes tells. -/
def SizesSay (g : PgR) (at_ : Int) (ok : Bool) : Prop :=
  (ok = true ∧ at_ = 0 ∧ 1 ≤ g.n ∧ g.n ≤ 8 ∧ ∀ i, i < g.n → sizedB i (g.f i).p (g.f i).l (g.f i).n = true) ∨
  (ok = false ∧ at_ = 0 ∧ ¬ (1 ≤ g.n ∧ g.n ≤ 8)) ∨
  (ok = false ∧ 1 ≤ g.n ∧ g.n ≤ 8 ∧ ∃ k : Nat, at_ = k ∧ First g.n (fun i => sizedB i (g.f i).p (g.f i).l (g.f i).n) k)

end Go.Proofs.YtbkmgoffiigdbabGreatDoor

namespace Go.Proofs.YtbkmgoffiigdbabGreatDoor
open Go.RowKit

def nextD (pc : Nat) (op x : Int) : List Nat :=
  if op = 15 ∨ op = 27 then [] else if op = 12 then [x.toNat] else if op = 13 then [x.toNat, pc + 1] else [pc + 1]

/-- A list of numbers as a slice in blocks from B on. -/
def ListAt (B : Nat) (w : World) (v : Value) (l : List Nat) : Prop :=
  (v = .slice none 0 0 ∧ l = []) ∨ ∃ b, v = .slice (some ⟨b, 0, none⟩) l.length l.length ∧ B ≤ b ∧ b < w.heap.size ∧ ∀ i, i < l.length → w.cell? ⟨b, i, none⟩ = some (.int .i64 (l.getD i 0 : Nat))

theorem listAt_one (w : World) (o : Obj) (y : Int) (c : Nat) (h : y = c) :
    ListAt w.heap.size ((w.alloc o).alloc (.cells #[.int .i64 y] 3)) (.slice (some ⟨w.heap.size + 1, 0, none⟩) 1 1) [c] := by
  refine Or.inr ⟨w.heap.size + 1, rfl, by omega, by simp, fun i hi => ?_⟩
  obtain rfl : i = 0 := by simpa using hi
  subst h
  go_simp

theorem listAt_two (w : World) (o : Obj) (y z : Int) (c d : Nat) (h : y = c) (h' : z = d) :
    ListAt w.heap.size ((w.alloc o).alloc (.cells #[.int .i64 y, .int .i64 z] 3)) (.slice (some ⟨w.heap.size + 1, 0, none⟩) 2 2) [c, d] := by
  refine Or.inr ⟨w.heap.size + 1, rfl, by omega, by simp, fun i hi => ?_⟩
  subst h h'
  match i, hi with
  | 0, _ => go_simp
  | 1, _ => go_simp

end Go.Proofs.YtbkmgoffiigdbabGreatDoor

namespace Go.Proofs.YtbkmgoffiigdbabGreatDoor
open Go.RowKit

def flowOf (g : PgR) (f : FnR) : Flow :=
  { n := f.n, pop := fun a => popD (f.op a) (g.f (f.ar a).toNat).p, push := fun a => pushD (f.op a), next := fun a => nextD a (f.op a) (f.ar a) }

/-- Sizes and instructions have been looked at. -/
def Good (g : PgR) (f : FnR) : Prop :=
  1 ≤ f.n ∧ f.n ≤ 60 ∧ (∀ i, i < g.n → 0 ≤ (g.f i).p ∧ (g.f i).p ≤ 8) ∧ ∀ j, j < f.n → legalB g.n f.l f.n (f.op j) (f.ar j) = true

theorem insideB_iff {n l g : Int} : insideB n l g = true ↔ l ≤ n ∧ n ≤ g := by simp [insideB]

theorem legal_op {nf nc : Nat} {l op x : Int} (h : legalB nf l nc op x = true) : 0 ≤ op ∧ op ≤ 27 := by
  unfold legalB at h
  repeat' split at h
  all_goals first | omega | (rw [Bool.and_eq_true, insideB_iff] at h; omega)
theorem legal_jump {nf nc : Nat} {l op x : Int} (h : legalB nf l nc op x = true) (ho : op = 12 ∨ op = 13) : 0 ≤ x ∧ x < nc := by
  unfold legalB at h
  rw [if_neg (by omega), if_neg (by omega), if_pos ho, insideB_iff] at h
  omega
theorem legal_call {nf nc : Nat} {l op x : Int} (h : legalB nf l nc op x = true) (ho : op = 14) : 0 ≤ x ∧ x < nf := by
  unfold legalB at h
  rw [if_neg (by omega), if_neg (by omega), if_neg (by omega), if_pos ho, insideB_iff] at h
  omega

theorem pushD_bd (op : Int) : 0 ≤ pushD op ∧ pushD op ≤ 2 := by unfold pushD; split <;> (try split) <;> omega
theorem popD_bd (op q : Int) (h : op = 14 → 0 ≤ q ∧ q ≤ 8) : 0 ≤ popD op q ∧ popD op q ≤ 8 := by
  unfold popD
  split
  · omega
  · split
    · omega
    · split
      · omega
      · split
        · exact h ‹_›
        · omega

theorem Good.pop_bd {g : PgR} {f : FnR} (h : Good g f) {a : Nat} (ha : a < f.n) : 0 ≤ (flowOf g f).pop a ∧ (flowOf g f).pop a ≤ 8 := by
  refine popD_bd _ _ fun ho => ?_
  have := legal_call (h.2.2.2 a ha) ho
  exact h.2.2.1 _ (by omega)

/-- What a round of heights has come to. 'Q': how far it has looked without finding anything new. -/
def Sp (F : Flow) (H H' : Nat → Int) (Q : Prop) (fr : Bool) : Prop :=
  (∀ a, a < F.n → -1 ≤ H' a ∧ H' a ≤ 10 ∧ (0 ≤ H' a → F.Reach a (H' a))) ∧ (∀ a, 0 ≤ H a → H' a = H a) ∧
    ((fr = false ∧ (∀ a, H' a = H a) ∧ Q) ∨ (fr = true ∧ left F.n H' < left F.n H))

theorem Sp.imp {F : Flow} {H H' : Nat → Int} {Q Q' : Prop} {fr : Bool} (h : Sp F H H' Q fr) (hq : (∀ a, H' a = H a) → Q → Q') : Sp F H H' Q' fr :=
  ⟨h.1, h.2.1, h.2.2.imp (fun ⟨a, b, c⟩ => ⟨a, b, hq b c⟩) id⟩

theorem Sp.set {F : Flow} {H H' : Nat → Int} {Q Q' : Prop} {fr : Bool} {c : Nat} {v : Int} (h : Sp F H H' Q fr) (hc : c < F.n) (hn : H' c < 0) (hv : 0 ≤ v) (hv' : v ≤ 10) (hr : F.Reach c v) :
    Sp F H (fun i => if i = c then v else H' i) Q' true := by
  refine ⟨fun a ha => ?_, fun a ha => ?_, Or.inr ⟨rfl, ?_⟩⟩
  · by_cases e : a = c
    · subst e; simp only [if_pos]; exact ⟨by omega, hv', fun _ => hr⟩
    · simp only [if_neg e]; exact h.1 a ha
  · have := h.2.1 a ha
    have hne : a ≠ c := by intro e; subst e; omega
    simp only [if_neg hne]; exact this
  · have h1 := left_set hc hn hv
    have h2 : left F.n H' ≤ left F.n H := by
      rcases h.2.2 with ⟨_, he, _⟩ | ⟨_, hl⟩
      · rw [show H' = H from funext he]; exact Nat.le_refl _
      · omega
    omega

def SpreadSay (F : Flow) (H : Nat → Int) (H' : Nat → Int) (fr ok : Bool) : Prop :=
  (ok = false ∧ ¬ F.Fits) ∨ (ok = true ∧ Sp F H H' (∀ a, a < F.n → 0 ≤ H a → F.Shut H a) fr)

theorem But.drewN {S : Nat → Prop} {a w : World} (h : But S a w) (n : Nat) : But S a (w.drewN n) := ⟨h.os, h.tape, h.output, h.size, h.block⟩

end Go.Proofs.YtbkmgoffiigdbabGreatDoor

namespace Go.Proofs.YtbkmgoffiigdbabGreatDoor
open Go.RowKit

set_option maxHeartbeats 400000 in
theorem popsOf_plain (a : Option Addr) (n c : Nat) (k : Nat) (x q : Int) (w : World) (hz : 0 < w.heap.size) (hk : k < 28) (hq : (q != -1) = true) (ht : w.cell? ⟨0, k * 5, none⟩ = some (.int .i64 q)) :
    Calls Tryz.prog 66 #[.agg #[.slice a n c], .agg #[.int .i64 (k : Int), .int .i64 x]] w fun e w' => e = .returned (.int .i64 q) ∧ Below w.heap.size w w' := by
  go_enter Tryz.func66, Tryz.ntmps66
  go_wp2
  go_ret
  exact ⟨rfl, by repeat (first | exact Below.refl _ _ | refine Below.drew ?_ | refine Below.alloc ?_ (by simp) _)⟩

set_option maxHeartbeats 400000 in
theorem popsOf_call (b o : Nat) (n c : Nat) (x : Nat) (q : Int) (w : World) (hz : 0 < w.heap.size) (hb : b < w.heap.size) (hx : x < n) (ht : w.cell? ⟨0, 70, none⟩ = some (.int .i64 (-1)))
    (hc : w.cell? ⟨b, o + x * 3, none⟩ = some (.int .i64 q)) :
    Calls Tryz.prog 66 #[.agg #[.slice (some ⟨b, o, none⟩) n c], .agg #[.int .i64 14, .int .i64 (x : Int)]] w fun e w' => e = .returned (.int .i64 q) ∧ Below w.heap.size w w' := by
  go_enter Tryz.func66, Tryz.ntmps66
  go_wp2
  go_ret
  exact ⟨rfl, by repeat (first | exact Below.refl _ _ | refine Below.drew ?_ | refine Below.alloc ?_ (by simp) _)⟩

def sizesB (p l : Int) (n : Nat) : Bool := insideB n 1 60 && (insideB l 0 8 && insideB p 0 l)

set_option maxHeartbeats 400000 in
theorem sizesFit_any (p l : Int) (b : Option Addr) (m d : Nat) (w : World) :
    Calls Tryz.prog 126 #[.agg #[.int .i64 p, .int .i64 l, .slice b m d]] w fun e w' => e = .returned (.bool (sizesB p l m)) ∧ Below w.heap.size w w' := by
  cases h1 : insideB m 1 60
  · go_enter Tryz.func126, Tryz.ntmps126
    go_wp2_with (go_at_call 41; refine (within_any _ _ _ _).mono ?_; rintro e w' ⟨rfl, rfl⟩)
    go_ret
    exact ⟨by simp [sizesB, h1], by repeat (first | exact Below.refl _ _ | refine Below.drew ?_ | refine Below.alloc ?_ (by simp) _)⟩
  · cases h2 : insideB l 0 8
    · go_enter Tryz.func126, Tryz.ntmps126
      go_wp2_with (go_at_call 41; refine (within_any _ _ _ _).mono ?_; rintro e w' ⟨rfl, rfl⟩)
      go_ret
      exact ⟨by simp [sizesB, h1, h2], by repeat (first | exact Below.refl _ _ | refine Below.drew ?_ | refine Below.alloc ?_ (by simp) _)⟩
    · go_enter Tryz.func126, Tryz.ntmps126
      go_wp2_with (go_at_call 41; refine (within_any _ _ _ _).mono ?_; rintro e w' ⟨rfl, rfl⟩)
      go_ret
      exact ⟨by simp [sizesB, h1, h2], by repeat (first | exact Below.refl _ _ | refine Below.drew ?_ | refine Below.alloc ?_ (by simp) _)⟩

end Go.Proofs.YtbkmgoffiigdbabGreatDoor

namespace Go.Proofs.YtbkmgoffiigdbabGreatDoor
open Go.RowKit Go.Sort

/-- A callee that leaves the world as it was, met in a world of the class. -/
theorem regrown_same {P : Program} {f : FuncId} {args : Array Value} {w : World} {d : Nat} {os : Array Obj} {v : Value}
    (h : Calls P f args (grow (redrawn w d) os) fun e w' => e = .returned v ∧ w' = grow (redrawn w d) os) : Calls P f args (grow (redrawn w d) os) fun e w'' => e = .returned v ∧ ∃ p : Regrown, w'' = grow (redrawn w p.d) p.os :=
  h.mono fun _ _ ⟨he, hb⟩ => ⟨he, ⟨⟨d, os⟩, hb⟩⟩

set_option maxHeartbeats 800000 in
theorem instrFits_53 (a b : Option Addr) (n c m d : Nat) (p l x : Int) (k : Nat) (w : World) (hz : 0 < w.heap.size) (hk : k < 28) (ht : w.cell? ⟨0, k * 5 + 3, none⟩ = some (.func (.func 170) #[] #[])) :
    Calls Tryz.prog 127 #[.agg #[.slice a n c], .agg #[.int .i64 p, .int .i64 l, .slice b m d], .agg #[.int .i64 (k : Int), .int .i64 x]] w fun e w' => e = .returned (.bool (true)) ∧ Below w.heap.size w w' := by
  have hin : insideB k 0 27 = true := insideB_t (by omega) (by omega)
  go_enter Tryz.func127, Tryz.ntmps127
  go_wp2
  have hB : Below w.heap.size w (((w.alloc (Obj.cells #[Value.slice a n c] 27)).alloc (Obj.cells #[.int .i64 p, .int .i64 l, .slice b m d] 68)).alloc (Obj.cells #[.int .i64 (k : Int), .int .i64 x] 62)) := by repeat (first | exact Below.refl _ _ | refine Below.alloc ?_ (by first | (simp; done) | (simp; omega)) _)
  have k0 := cell_regrown (w := (((w.alloc (Obj.cells #[Value.slice a n c] 27)).alloc (Obj.cells #[.int .i64 p, .int .i64 l, .slice b m d] 68)).alloc (Obj.cells #[.int .i64 (k : Int), .int .i64 x] 62))) (a := ⟨w.heap.size, 0, none⟩) (v := .slice a n c) (by go_simp)
  have k1 := cell_regrown (w := (((w.alloc (Obj.cells #[Value.slice a n c] 27)).alloc (Obj.cells #[.int .i64 p, .int .i64 l, .slice b m d] 68)).alloc (Obj.cells #[.int .i64 (k : Int), .int .i64 x] 62))) (a := ⟨w.heap.size + 1, 0, none⟩) (v := .int .i64 p) (by go_simp)
  have k2 := cell_regrown (w := (((w.alloc (Obj.cells #[Value.slice a n c] 27)).alloc (Obj.cells #[.int .i64 p, .int .i64 l, .slice b m d] 68)).alloc (Obj.cells #[.int .i64 (k : Int), .int .i64 x] 62))) (a := ⟨w.heap.size + 1, 1, none⟩) (v := .int .i64 l) (by go_simp)
  have k3 := cell_regrown (w := (((w.alloc (Obj.cells #[Value.slice a n c] 27)).alloc (Obj.cells #[.int .i64 p, .int .i64 l, .slice b m d] 68)).alloc (Obj.cells #[.int .i64 (k : Int), .int .i64 x] 62))) (a := ⟨w.heap.size + 1, 2, none⟩) (v := .slice b m d) (by go_simp)
  have k4 := cell_regrown (w := (((w.alloc (Obj.cells #[Value.slice a n c] 27)).alloc (Obj.cells #[.int .i64 p, .int .i64 l, .slice b m d] 68)).alloc (Obj.cells #[.int .i64 (k : Int), .int .i64 x] 62))) (a := ⟨w.heap.size + 1 + 1, 0, none⟩) (v := .int .i64 k) (by go_simp)
  have k5 := cell_regrown (w := (((w.alloc (Obj.cells #[Value.slice a n c] 27)).alloc (Obj.cells #[.int .i64 p, .int .i64 l, .slice b m d] 68)).alloc (Obj.cells #[.int .i64 (k : Int), .int .i64 x] 62))) (a := ⟨w.heap.size + 1 + 1, 1, none⟩) (v := .int .i64 x) (by go_simp)
  have k6 := cell_regrown (w := (((w.alloc (Obj.cells #[Value.slice a n c] 27)).alloc (Obj.cells #[.int .i64 p, .int .i64 l, .slice b m d] 68)).alloc (Obj.cells #[.int .i64 (k : Int), .int .i64 x] 62))) (a := ⟨0, k * 5 + 3, none⟩) (v := .func (.func 170) #[] #[]) (by go_simp)
  generalize (((w.alloc (Obj.cells #[Value.slice a n c] 27)).alloc (Obj.cells #[.int .i64 p, .int .i64 l, .slice b m d] 68)).alloc (Obj.cells #[.int .i64 (k : Int), .int .i64 x] 62)) = W at *
  refine wp_region_quiet_below (by kernel_rfl) (by kernel_rfl) ?_
  repeat (first
    | go_big_quiet_step (first | (go_at_call 41; exact regrown_same (within_any _ _ _ _)) | (go_at_call 170; exact Calls.regrown_of (anything_any _ _ _ _ _ _ _ _ _ _)))
    | quiet_step (first | (go_at_call 41; exact regrown_same (within_any _ _ _ _)) | (go_at_call 170; exact Calls.regrown_of (anything_any _ _ _ _ _ _ _ _ _ _))))
  refine wpQuiet_nil ?_
  intro _ hw'
  obtain ⟨⟨dq, osq⟩, hw''⟩ := hw'
  subst hw''
  go_wp2
  go_ret
  exact ⟨rfl, hB.trans ((below_regrown W dq osq).mono hB.size)⟩

set_option maxHeartbeats 800000 in
theorem instrFits_54 (a b : Option Addr) (n c m d : Nat) (p l x : Int) (k : Nat) (w : World) (hz : 0 < w.heap.size) (hk : k < 28) (ht : w.cell? ⟨0, k * 5 + 3, none⟩ = some (.func (.func 172) #[] #[])) :
    Calls Tryz.prog 127 #[.agg #[.slice a n c], .agg #[.int .i64 p, .int .i64 l, .slice b m d], .agg #[.int .i64 (k : Int), .int .i64 x]] w fun e w' => e = .returned (.bool (x == 0)) ∧ Below w.heap.size w w' := by
  have hin : insideB k 0 27 = true := insideB_t (by omega) (by omega)
  go_enter Tryz.func127, Tryz.ntmps127
  go_wp2
  have hB : Below w.heap.size w (((w.alloc (Obj.cells #[Value.slice a n c] 27)).alloc (Obj.cells #[.int .i64 p, .int .i64 l, .slice b m d] 68)).alloc (Obj.cells #[.int .i64 (k : Int), .int .i64 x] 62)) := by repeat (first | exact Below.refl _ _ | refine Below.alloc ?_ (by first | (simp; done) | (simp; omega)) _)
  have k0 := cell_regrown (w := (((w.alloc (Obj.cells #[Value.slice a n c] 27)).alloc (Obj.cells #[.int .i64 p, .int .i64 l, .slice b m d] 68)).alloc (Obj.cells #[.int .i64 (k : Int), .int .i64 x] 62))) (a := ⟨w.heap.size, 0, none⟩) (v := .slice a n c) (by go_simp)
  have k1 := cell_regrown (w := (((w.alloc (Obj.cells #[Value.slice a n c] 27)).alloc (Obj.cells #[.int .i64 p, .int .i64 l, .slice b m d] 68)).alloc (Obj.cells #[.int .i64 (k : Int), .int .i64 x] 62))) (a := ⟨w.heap.size + 1, 0, none⟩) (v := .int .i64 p) (by go_simp)
  have k2 := cell_regrown (w := (((w.alloc (Obj.cells #[Value.slice a n c] 27)).alloc (Obj.cells #[.int .i64 p, .int .i64 l, .slice b m d] 68)).alloc (Obj.cells #[.int .i64 (k : Int), .int .i64 x] 62))) (a := ⟨w.heap.size + 1, 1, none⟩) (v := .int .i64 l) (by go_simp)
  have k3 := cell_regrown (w := (((w.alloc (Obj.cells #[Value.slice a n c] 27)).alloc (Obj.cells #[.int .i64 p, .int .i64 l, .slice b m d] 68)).alloc (Obj.cells #[.int .i64 (k : Int), .int .i64 x] 62))) (a := ⟨w.heap.size + 1, 2, none⟩) (v := .slice b m d) (by go_simp)
  have k4 := cell_regrown (w := (((w.alloc (Obj.cells #[Value.slice a n c] 27)).alloc (Obj.cells #[.int .i64 p, .int .i64 l, .slice b m d] 68)).alloc (Obj.cells #[.int .i64 (k : Int), .int .i64 x] 62))) (a := ⟨w.heap.size + 1 + 1, 0, none⟩) (v := .int .i64 k) (by go_simp)
  have k5 := cell_regrown (w := (((w.alloc (Obj.cells #[Value.slice a n c] 27)).alloc (Obj.cells #[.int .i64 p, .int .i64 l, .slice b m d] 68)).alloc (Obj.cells #[.int .i64 (k : Int), .int .i64 x] 62))) (a := ⟨w.heap.size + 1 + 1, 1, none⟩) (v := .int .i64 x) (by go_simp)
  have k6 := cell_regrown (w := (((w.alloc (Obj.cells #[Value.slice a n c] 27)).alloc (Obj.cells #[.int .i64 p, .int .i64 l, .slice b m d] 68)).alloc (Obj.cells #[.int .i64 (k : Int), .int .i64 x] 62))) (a := ⟨0, k * 5 + 3, none⟩) (v := .func (.func 172) #[] #[]) (by go_simp)
  generalize (((w.alloc (Obj.cells #[Value.slice a n c] 27)).alloc (Obj.cells #[.int .i64 p, .int .i64 l, .slice b m d] 68)).alloc (Obj.cells #[.int .i64 (k : Int), .int .i64 x] 62)) = W at *
  refine wp_region_quiet_below (by kernel_rfl) (by kernel_rfl) ?_
  repeat (first
    | go_big_quiet_step (first | (go_at_call 41; exact regrown_same (within_any _ _ _ _)) | (go_at_call 172; exact Calls.regrown_of (nothing_any _ _ _ _ _ _ _ _ _ _)))
    | quiet_step (first | (go_at_call 41; exact regrown_same (within_any _ _ _ _)) | (go_at_call 172; exact Calls.regrown_of (nothing_any _ _ _ _ _ _ _ _ _ _))))
  refine wpQuiet_nil ?_
  intro _ hw'
  obtain ⟨⟨dq, osq⟩, hw''⟩ := hw'
  subst hw''
  go_wp2
  go_ret
  exact ⟨rfl, hB.trans ((below_regrown W dq osq).mono hB.size)⟩

set_option maxHeartbeats 800000 in
theorem instrFits_55 (a b : Option Addr) (n c m d : Nat) (p l x : Int) (k : Nat) (w : World) (hz : 0 < w.heap.size) (hk : k < 28) (ht : w.cell? ⟨0, k * 5 + 3, none⟩ = some (.func (.func 174) #[] #[])) (h0 : 0 ≤ l) (h8 : l ≤ 8) :
    Calls Tryz.prog 127 #[.agg #[.slice a n c], .agg #[.int .i64 p, .int .i64 l, .slice b m d], .agg #[.int .i64 (k : Int), .int .i64 x]] w fun e w' => e = .returned (.bool (insideB x 0 (l - 1))) ∧ Below w.heap.size w w' := by
  have hin : insideB k 0 27 = true := insideB_t (by omega) (by omega)
  go_enter Tryz.func127, Tryz.ntmps127
  go_wp2
  have hB : Below w.heap.size w (((w.alloc (Obj.cells #[Value.slice a n c] 27)).alloc (Obj.cells #[.int .i64 p, .int .i64 l, .slice b m d] 68)).alloc (Obj.cells #[.int .i64 (k : Int), .int .i64 x] 62)) := by repeat (first | exact Below.refl _ _ | refine Below.alloc ?_ (by first | (simp; done) | (simp; omega)) _)
  have k0 := cell_regrown (w := (((w.alloc (Obj.cells #[Value.slice a n c] 27)).alloc (Obj.cells #[.int .i64 p, .int .i64 l, .slice b m d] 68)).alloc (Obj.cells #[.int .i64 (k : Int), .int .i64 x] 62))) (a := ⟨w.heap.size, 0, none⟩) (v := .slice a n c) (by go_simp)
  have k1 := cell_regrown (w := (((w.alloc (Obj.cells #[Value.slice a n c] 27)).alloc (Obj.cells #[.int .i64 p, .int .i64 l, .slice b m d] 68)).alloc (Obj.cells #[.int .i64 (k : Int), .int .i64 x] 62))) (a := ⟨w.heap.size + 1, 0, none⟩) (v := .int .i64 p) (by go_simp)
  have k2 := cell_regrown (w := (((w.alloc (Obj.cells #[Value.slice a n c] 27)).alloc (Obj.cells #[.int .i64 p, .int .i64 l, .slice b m d] 68)).alloc (Obj.cells #[.int .i64 (k : Int), .int .i64 x] 62))) (a := ⟨w.heap.size + 1, 1, none⟩) (v := .int .i64 l) (by go_simp)
  have k3 := cell_regrown (w := (((w.alloc (Obj.cells #[Value.slice a n c] 27)).alloc (Obj.cells #[.int .i64 p, .int .i64 l, .slice b m d] 68)).alloc (Obj.cells #[.int .i64 (k : Int), .int .i64 x] 62))) (a := ⟨w.heap.size + 1, 2, none⟩) (v := .slice b m d) (by go_simp)
  have k4 := cell_regrown (w := (((w.alloc (Obj.cells #[Value.slice a n c] 27)).alloc (Obj.cells #[.int .i64 p, .int .i64 l, .slice b m d] 68)).alloc (Obj.cells #[.int .i64 (k : Int), .int .i64 x] 62))) (a := ⟨w.heap.size + 1 + 1, 0, none⟩) (v := .int .i64 k) (by go_simp)
  have k5 := cell_regrown (w := (((w.alloc (Obj.cells #[Value.slice a n c] 27)).alloc (Obj.cells #[.int .i64 p, .int .i64 l, .slice b m d] 68)).alloc (Obj.cells #[.int .i64 (k : Int), .int .i64 x] 62))) (a := ⟨w.heap.size + 1 + 1, 1, none⟩) (v := .int .i64 x) (by go_simp)
  have k6 := cell_regrown (w := (((w.alloc (Obj.cells #[Value.slice a n c] 27)).alloc (Obj.cells #[.int .i64 p, .int .i64 l, .slice b m d] 68)).alloc (Obj.cells #[.int .i64 (k : Int), .int .i64 x] 62))) (a := ⟨0, k * 5 + 3, none⟩) (v := .func (.func 174) #[] #[]) (by go_simp)
  generalize (((w.alloc (Obj.cells #[Value.slice a n c] 27)).alloc (Obj.cells #[.int .i64 p, .int .i64 l, .slice b m d] 68)).alloc (Obj.cells #[.int .i64 (k : Int), .int .i64 x] 62)) = W at *
  refine wp_region_quiet_below (by kernel_rfl) (by kernel_rfl) ?_
  repeat (first
    | go_big_quiet_step (first | (go_at_call 41; exact regrown_same (within_any _ _ _ _)) | (go_at_call 174; exact Calls.regrown_of (aLocal_any _ _ _ _ _ _ _ _ _ _ h0 h8)))
    | quiet_step (first | (go_at_call 41; exact regrown_same (within_any _ _ _ _)) | (go_at_call 174; exact Calls.regrown_of (aLocal_any _ _ _ _ _ _ _ _ _ _ h0 h8))))
  refine wpQuiet_nil ?_
  intro _ hw'
  obtain ⟨⟨dq, osq⟩, hw''⟩ := hw'
  subst hw''
  go_wp2
  go_ret
  exact ⟨rfl, hB.trans ((below_regrown W dq osq).mono hB.size)⟩

set_option maxHeartbeats 800000 in
theorem instrFits_56 (a b : Option Addr) (n c m d : Nat) (p l x : Int) (k : Nat) (w : World) (hz : 0 < w.heap.size) (hk : k < 28) (ht : w.cell? ⟨0, k * 5 + 3, none⟩ = some (.func (.func 185) #[] #[])) (hm : m ≤ 1152921504606846976) :
    Calls Tryz.prog 127 #[.agg #[.slice a n c], .agg #[.int .i64 p, .int .i64 l, .slice b m d], .agg #[.int .i64 (k : Int), .int .i64 x]] w fun e w' => e = .returned (.bool (insideB x 0 (m - 1))) ∧ Below w.heap.size w w' := by
  have hin : insideB k 0 27 = true := insideB_t (by omega) (by omega)
  go_enter Tryz.func127, Tryz.ntmps127
  go_wp2
  have hB : Below w.heap.size w (((w.alloc (Obj.cells #[Value.slice a n c] 27)).alloc (Obj.cells #[.int .i64 p, .int .i64 l, .slice b m d] 68)).alloc (Obj.cells #[.int .i64 (k : Int), .int .i64 x] 62)) := by repeat (first | exact Below.refl _ _ | refine Below.alloc ?_ (by first | (simp; done) | (simp; omega)) _)
  have k0 := cell_regrown (w := (((w.alloc (Obj.cells #[Value.slice a n c] 27)).alloc (Obj.cells #[.int .i64 p, .int .i64 l, .slice b m d] 68)).alloc (Obj.cells #[.int .i64 (k : Int), .int .i64 x] 62))) (a := ⟨w.heap.size, 0, none⟩) (v := .slice a n c) (by go_simp)
  have k1 := cell_regrown (w := (((w.alloc (Obj.cells #[Value.slice a n c] 27)).alloc (Obj.cells #[.int .i64 p, .int .i64 l, .slice b m d] 68)).alloc (Obj.cells #[.int .i64 (k : Int), .int .i64 x] 62))) (a := ⟨w.heap.size + 1, 0, none⟩) (v := .int .i64 p) (by go_simp)
  have k2 := cell_regrown (w := (((w.alloc (Obj.cells #[Value.slice a n c] 27)).alloc (Obj.cells #[.int .i64 p, .int .i64 l, .slice b m d] 68)).alloc (Obj.cells #[.int .i64 (k : Int), .int .i64 x] 62))) (a := ⟨w.heap.size + 1, 1, none⟩) (v := .int .i64 l) (by go_simp)
  have k3 := cell_regrown (w := (((w.alloc (Obj.cells #[Value.slice a n c] 27)).alloc (Obj.cells #[.int .i64 p, .int .i64 l, .slice b m d] 68)).alloc (Obj.cells #[.int .i64 (k : Int), .int .i64 x] 62))) (a := ⟨w.heap.size + 1, 2, none⟩) (v := .slice b m d) (by go_simp)
  have k4 := cell_regrown (w := (((w.alloc (Obj.cells #[Value.slice a n c] 27)).alloc (Obj.cells #[.int .i64 p, .int .i64 l, .slice b m d] 68)).alloc (Obj.cells #[.int .i64 (k : Int), .int .i64 x] 62))) (a := ⟨w.heap.size + 1 + 1, 0, none⟩) (v := .int .i64 k) (by go_simp)
  have k5 := cell_regrown (w := (((w.alloc (Obj.cells #[Value.slice a n c] 27)).alloc (Obj.cells #[.int .i64 p, .int .i64 l, .slice b m d] 68)).alloc (Obj.cells #[.int .i64 (k : Int), .int .i64 x] 62))) (a := ⟨w.heap.size + 1 + 1, 1, none⟩) (v := .int .i64 x) (by go_simp)
  have k6 := cell_regrown (w := (((w.alloc (Obj.cells #[Value.slice a n c] 27)).alloc (Obj.cells #[.int .i64 p, .int .i64 l, .slice b m d] 68)).alloc (Obj.cells #[.int .i64 (k : Int), .int .i64 x] 62))) (a := ⟨0, k * 5 + 3, none⟩) (v := .func (.func 185) #[] #[]) (by go_simp)
  generalize (((w.alloc (Obj.cells #[Value.slice a n c] 27)).alloc (Obj.cells #[.int .i64 p, .int .i64 l, .slice b m d] 68)).alloc (Obj.cells #[.int .i64 (k : Int), .int .i64 x] 62)) = W at *
  refine wp_region_quiet_below (by kernel_rfl) (by kernel_rfl) ?_
  repeat (first
    | go_big_quiet_step (first | (go_at_call 41; exact regrown_same (within_any _ _ _ _)) | (go_at_call 185; exact Calls.regrown_of (anInstruction_any _ _ _ _ _ _ _ _ _ _ hm)))
    | quiet_step (first | (go_at_call 41; exact regrown_same (within_any _ _ _ _)) | (go_at_call 185; exact Calls.regrown_of (anInstruction_any _ _ _ _ _ _ _ _ _ _ hm))))
  refine wpQuiet_nil ?_
  intro _ hw'
  obtain ⟨⟨dq, osq⟩, hw''⟩ := hw'
  subst hw''
  go_wp2
  go_ret
  exact ⟨rfl, hB.trans ((below_regrown W dq osq).mono hB.size)⟩

set_option maxHeartbeats 800000 in
theorem instrFits_57 (a b : Option Addr) (n c m d : Nat) (p l x : Int) (k : Nat) (w : World) (hz : 0 < w.heap.size) (hk : k < 28) (ht : w.cell? ⟨0, k * 5 + 3, none⟩ = some (.func (.func 188) #[] #[])) (hm : n ≤ 1152921504606846976) :
    Calls Tryz.prog 127 #[.agg #[.slice a n c], .agg #[.int .i64 p, .int .i64 l, .slice b m d], .agg #[.int .i64 (k : Int), .int .i64 x]] w fun e w' => e = .returned (.bool (insideB x 0 (n - 1))) ∧ Below w.heap.size w w' := by
  have hin : insideB k 0 27 = true := insideB_t (by omega) (by omega)
  go_enter Tryz.func127, Tryz.ntmps127
  go_wp2
  have hB : Below w.heap.size w (((w.alloc (Obj.cells #[Value.slice a n c] 27)).alloc (Obj.cells #[.int .i64 p, .int .i64 l, .slice b m d] 68)).alloc (Obj.cells #[.int .i64 (k : Int), .int .i64 x] 62)) := by repeat (first | exact Below.refl _ _ | refine Below.alloc ?_ (by first | (simp; done) | (simp; omega)) _)
  have k0 := cell_regrown (w := (((w.alloc (Obj.cells #[Value.slice a n c] 27)).alloc (Obj.cells #[.int .i64 p, .int .i64 l, .slice b m d] 68)).alloc (Obj.cells #[.int .i64 (k : Int), .int .i64 x] 62))) (a := ⟨w.heap.size, 0, none⟩) (v := .slice a n c) (by go_simp)
  have k1 := cell_regrown (w := (((w.alloc (Obj.cells #[Value.slice a n c] 27)).alloc (Obj.cells #[.int .i64 p, .int .i64 l, .slice b m d] 68)).alloc (Obj.cells #[.int .i64 (k : Int), .int .i64 x] 62))) (a := ⟨w.heap.size + 1, 0, none⟩) (v := .int .i64 p) (by go_simp)
  have k2 := cell_regrown (w := (((w.alloc (Obj.cells #[Value.slice a n c] 27)).alloc (Obj.cells #[.int .i64 p, .int .i64 l, .slice b m d] 68)).alloc (Obj.cells #[.int .i64 (k : Int), .int .i64 x] 62))) (a := ⟨w.heap.size + 1, 1, none⟩) (v := .int .i64 l) (by go_simp)
  have k3 := cell_regrown (w := (((w.alloc (Obj.cells #[Value.slice a n c] 27)).alloc (Obj.cells #[.int .i64 p, .int .i64 l, .slice b m d] 68)).alloc (Obj.cells #[.int .i64 (k : Int), .int .i64 x] 62))) (a := ⟨w.heap.size + 1, 2, none⟩) (v := .slice b m d) (by go_simp)
  have k4 := cell_regrown (w := (((w.alloc (Obj.cells #[Value.slice a n c] 27)).alloc (Obj.cells #[.int .i64 p, .int .i64 l, .slice b m d] 68)).alloc (Obj.cells #[.int .i64 (k : Int), .int .i64 x] 62))) (a := ⟨w.heap.size + 1 + 1, 0, none⟩) (v := .int .i64 k) (by go_simp)
  have k5 := cell_regrown (w := (((w.alloc (Obj.cells #[Value.slice a n c] 27)).alloc (Obj.cells #[.int .i64 p, .int .i64 l, .slice b m d] 68)).alloc (Obj.cells #[.int .i64 (k : Int), .int .i64 x] 62))) (a := ⟨w.heap.size + 1 + 1, 1, none⟩) (v := .int .i64 x) (by go_simp)
  have k6 := cell_regrown (w := (((w.alloc (Obj.cells #[Value.slice a n c] 27)).alloc (Obj.cells #[.int .i64 p, .int .i64 l, .slice b m d] 68)).alloc (Obj.cells #[.int .i64 (k : Int), .int .i64 x] 62))) (a := ⟨0, k * 5 + 3, none⟩) (v := .func (.func 188) #[] #[]) (by go_simp)
  generalize (((w.alloc (Obj.cells #[Value.slice a n c] 27)).alloc (Obj.cells #[.int .i64 p, .int .i64 l, .slice b m d] 68)).alloc (Obj.cells #[.int .i64 (k : Int), .int .i64 x] 62)) = W at *
  refine wp_region_quiet_below (by kernel_rfl) (by kernel_rfl) ?_
  repeat (first
    | go_big_quiet_step (first | (go_at_call 41; exact regrown_same (within_any _ _ _ _)) | (go_at_call 188; exact Calls.regrown_of (aFunction_any _ _ _ _ _ _ _ _ _ _ hm)))
    | quiet_step (first | (go_at_call 41; exact regrown_same (within_any _ _ _ _)) | (go_at_call 188; exact Calls.regrown_of (aFunction_any _ _ _ _ _ _ _ _ _ _ hm))))
  refine wpQuiet_nil ?_
  intro _ hw'
  obtain ⟨⟨dq, osq⟩, hw''⟩ := hw'
  subst hw''
  go_wp2
  go_ret
  exact ⟨rfl, hB.trans ((below_regrown W dq osq).mono hB.size)⟩

set_option maxHeartbeats 800000 in
theorem instrFits_58 (a b : Option Addr) (n c m d : Nat) (p l x : Int) (k : Nat) (w : World) (hz : 0 < w.heap.size) (hk : k < 28) (ht : w.cell? ⟨0, k * 5 + 3, none⟩ = some (.func (.func 191) #[] #[])) :
    Calls Tryz.prog 127 #[.agg #[.slice a n c], .agg #[.int .i64 p, .int .i64 l, .slice b m d], .agg #[.int .i64 (k : Int), .int .i64 x]] w fun e w' => e = .returned (.bool (insideB x 0 8)) ∧ Below w.heap.size w w' := by
  have hin : insideB k 0 27 = true := insideB_t (by omega) (by omega)
  go_enter Tryz.func127, Tryz.ntmps127
  go_wp2
  have hB : Below w.heap.size w (((w.alloc (Obj.cells #[Value.slice a n c] 27)).alloc (Obj.cells #[.int .i64 p, .int .i64 l, .slice b m d] 68)).alloc (Obj.cells #[.int .i64 (k : Int), .int .i64 x] 62)) := by repeat (first | exact Below.refl _ _ | refine Below.alloc ?_ (by first | (simp; done) | (simp; omega)) _)
  have k0 := cell_regrown (w := (((w.alloc (Obj.cells #[Value.slice a n c] 27)).alloc (Obj.cells #[.int .i64 p, .int .i64 l, .slice b m d] 68)).alloc (Obj.cells #[.int .i64 (k : Int), .int .i64 x] 62))) (a := ⟨w.heap.size, 0, none⟩) (v := .slice a n c) (by go_simp)
  have k1 := cell_regrown (w := (((w.alloc (Obj.cells #[Value.slice a n c] 27)).alloc (Obj.cells #[.int .i64 p, .int .i64 l, .slice b m d] 68)).alloc (Obj.cells #[.int .i64 (k : Int), .int .i64 x] 62))) (a := ⟨w.heap.size + 1, 0, none⟩) (v := .int .i64 p) (by go_simp)
  have k2 := cell_regrown (w := (((w.alloc (Obj.cells #[Value.slice a n c] 27)).alloc (Obj.cells #[.int .i64 p, .int .i64 l, .slice b m d] 68)).alloc (Obj.cells #[.int .i64 (k : Int), .int .i64 x] 62))) (a := ⟨w.heap.size + 1, 1, none⟩) (v := .int .i64 l) (by go_simp)
  have k3 := cell_regrown (w := (((w.alloc (Obj.cells #[Value.slice a n c] 27)).alloc (Obj.cells #[.int .i64 p, .int .i64 l, .slice b m d] 68)).alloc (Obj.cells #[.int .i64 (k : Int), .int .i64 x] 62))) (a := ⟨w.heap.size + 1, 2, none⟩) (v := .slice b m d) (by go_simp)
  have k4 := cell_regrown (w := (((w.alloc (Obj.cells #[Value.slice a n c] 27)).alloc (Obj.cells #[.int .i64 p, .int .i64 l, .slice b m d] 68)).alloc (Obj.cells #[.int .i64 (k : Int), .int .i64 x] 62))) (a := ⟨w.heap.size + 1 + 1, 0, none⟩) (v := .int .i64 k) (by go_simp)
  have k5 := cell_regrown (w := (((w.alloc (Obj.cells #[Value.slice a n c] 27)).alloc (Obj.cells #[.int .i64 p, .int .i64 l, .slice b m d] 68)).alloc (Obj.cells #[.int .i64 (k : Int), .int .i64 x] 62))) (a := ⟨w.heap.size + 1 + 1, 1, none⟩) (v := .int .i64 x) (by go_simp)
  have k6 := cell_regrown (w := (((w.alloc (Obj.cells #[Value.slice a n c] 27)).alloc (Obj.cells #[.int .i64 p, .int .i64 l, .slice b m d] 68)).alloc (Obj.cells #[.int .i64 (k : Int), .int .i64 x] 62))) (a := ⟨0, k * 5 + 3, none⟩) (v := .func (.func 191) #[] #[]) (by go_simp)
  generalize (((w.alloc (Obj.cells #[Value.slice a n c] 27)).alloc (Obj.cells #[.int .i64 p, .int .i64 l, .slice b m d] 68)).alloc (Obj.cells #[.int .i64 (k : Int), .int .i64 x] 62)) = W at *
  refine wp_region_quiet_below (by kernel_rfl) (by kernel_rfl) ?_
  repeat (first
    | go_big_quiet_step (first | (go_at_call 41; exact regrown_same (within_any _ _ _ _)) | (go_at_call 191; exact Calls.regrown_of (aRecordSize_any _ _ _ _ _ _ _ _ _ _)))
    | quiet_step (first | (go_at_call 41; exact regrown_same (within_any _ _ _ _)) | (go_at_call 191; exact Calls.regrown_of (aRecordSize_any _ _ _ _ _ _ _ _ _ _))))
  refine wpQuiet_nil ?_
  intro _ hw'
  obtain ⟨⟨dq, osq⟩, hw''⟩ := hw'
  subst hw''
  go_wp2
  go_ret
  exact ⟨rfl, hB.trans ((below_regrown W dq osq).mono hB.size)⟩

set_option maxHeartbeats 800000 in
theorem instrFits_59 (a b : Option Addr) (n c m d : Nat) (p l x : Int) (k : Nat) (w : World) (hz : 0 < w.heap.size) (hk : k < 28) (ht : w.cell? ⟨0, k * 5 + 3, none⟩ = some (.func (.func 195) #[] #[])) :
    Calls Tryz.prog 127 #[.agg #[.slice a n c], .agg #[.int .i64 p, .int .i64 l, .slice b m d], .agg #[.int .i64 (k : Int), .int .i64 x]] w fun e w' => e = .returned (.bool (insideB x 0 7)) ∧ Below w.heap.size w w' := by
  have hin : insideB k 0 27 = true := insideB_t (by omega) (by omega)
  go_enter Tryz.func127, Tryz.ntmps127
  go_wp2
  have hB : Below w.heap.size w (((w.alloc (Obj.cells #[Value.slice a n c] 27)).alloc (Obj.cells #[.int .i64 p, .int .i64 l, .slice b m d] 68)).alloc (Obj.cells #[.int .i64 (k : Int), .int .i64 x] 62)) := by repeat (first | exact Below.refl _ _ | refine Below.alloc ?_ (by first | (simp; done) | (simp; omega)) _)
  have k0 := cell_regrown (w := (((w.alloc (Obj.cells #[Value.slice a n c] 27)).alloc (Obj.cells #[.int .i64 p, .int .i64 l, .slice b m d] 68)).alloc (Obj.cells #[.int .i64 (k : Int), .int .i64 x] 62))) (a := ⟨w.heap.size, 0, none⟩) (v := .slice a n c) (by go_simp)
  have k1 := cell_regrown (w := (((w.alloc (Obj.cells #[Value.slice a n c] 27)).alloc (Obj.cells #[.int .i64 p, .int .i64 l, .slice b m d] 68)).alloc (Obj.cells #[.int .i64 (k : Int), .int .i64 x] 62))) (a := ⟨w.heap.size + 1, 0, none⟩) (v := .int .i64 p) (by go_simp)
  have k2 := cell_regrown (w := (((w.alloc (Obj.cells #[Value.slice a n c] 27)).alloc (Obj.cells #[.int .i64 p, .int .i64 l, .slice b m d] 68)).alloc (Obj.cells #[.int .i64 (k : Int), .int .i64 x] 62))) (a := ⟨w.heap.size + 1, 1, none⟩) (v := .int .i64 l) (by go_simp)
  have k3 := cell_regrown (w := (((w.alloc (Obj.cells #[Value.slice a n c] 27)).alloc (Obj.cells #[.int .i64 p, .int .i64 l, .slice b m d] 68)).alloc (Obj.cells #[.int .i64 (k : Int), .int .i64 x] 62))) (a := ⟨w.heap.size + 1, 2, none⟩) (v := .slice b m d) (by go_simp)
  have k4 := cell_regrown (w := (((w.alloc (Obj.cells #[Value.slice a n c] 27)).alloc (Obj.cells #[.int .i64 p, .int .i64 l, .slice b m d] 68)).alloc (Obj.cells #[.int .i64 (k : Int), .int .i64 x] 62))) (a := ⟨w.heap.size + 1 + 1, 0, none⟩) (v := .int .i64 k) (by go_simp)
  have k5 := cell_regrown (w := (((w.alloc (Obj.cells #[Value.slice a n c] 27)).alloc (Obj.cells #[.int .i64 p, .int .i64 l, .slice b m d] 68)).alloc (Obj.cells #[.int .i64 (k : Int), .int .i64 x] 62))) (a := ⟨w.heap.size + 1 + 1, 1, none⟩) (v := .int .i64 x) (by go_simp)
  have k6 := cell_regrown (w := (((w.alloc (Obj.cells #[Value.slice a n c] 27)).alloc (Obj.cells #[.int .i64 p, .int .i64 l, .slice b m d] 68)).alloc (Obj.cells #[.int .i64 (k : Int), .int .i64 x] 62))) (a := ⟨0, k * 5 + 3, none⟩) (v := .func (.func 195) #[] #[]) (by go_simp)
  generalize (((w.alloc (Obj.cells #[Value.slice a n c] 27)).alloc (Obj.cells #[.int .i64 p, .int .i64 l, .slice b m d] 68)).alloc (Obj.cells #[.int .i64 (k : Int), .int .i64 x] 62)) = W at *
  refine wp_region_quiet_below (by kernel_rfl) (by kernel_rfl) ?_
  repeat (first
    | go_big_quiet_step (first | (go_at_call 41; exact regrown_same (within_any _ _ _ _)) | (go_at_call 195; exact Calls.regrown_of (aField_any _ _ _ _ _ _ _ _ _ _)))
    | quiet_step (first | (go_at_call 41; exact regrown_same (within_any _ _ _ _)) | (go_at_call 195; exact Calls.regrown_of (aField_any _ _ _ _ _ _ _ _ _ _))))
  refine wpQuiet_nil ?_
  intro _ hw'
  obtain ⟨⟨dq, osq⟩, hw''⟩ := hw'
  subst hw''
  go_wp2
  go_ret
  exact ⟨rfl, hB.trans ((below_regrown W dq osq).mono hB.size)⟩

set_option maxHeartbeats 800000 in
theorem instrFits_no (a b : Option Addr) (n c m d : Nat) (p l x k : Int) (w : World) (hk : insideB k 0 27 = false) :
    Calls Tryz.prog 127 #[.agg #[.slice a n c], .agg #[.int .i64 p, .int .i64 l, .slice b m d], .agg #[.int .i64 k, .int .i64 x]] w fun e w' => e = .returned (.bool false) ∧ Below w.heap.size w w' := by
  go_enter Tryz.func127, Tryz.ntmps127
  go_wp2
  have hB : Below w.heap.size w (((w.alloc (Obj.cells #[Value.slice a n c] 27)).alloc (Obj.cells #[.int .i64 p, .int .i64 l, .slice b m d] 68)).alloc (Obj.cells #[.int .i64 k, .int .i64 x] 62)) := by repeat (first | exact Below.refl _ _ | refine Below.alloc ?_ (by first | (simp; done) | (simp; omega)) _)
  have k4 := cell_regrown (w := (((w.alloc (Obj.cells #[Value.slice a n c] 27)).alloc (Obj.cells #[.int .i64 p, .int .i64 l, .slice b m d] 68)).alloc (Obj.cells #[.int .i64 k, .int .i64 x] 62))) (a := ⟨w.heap.size + 1 + 1, 0, none⟩) (v := .int .i64 k) (by go_simp)
  generalize (((w.alloc (Obj.cells #[Value.slice a n c] 27)).alloc (Obj.cells #[.int .i64 p, .int .i64 l, .slice b m d] 68)).alloc (Obj.cells #[.int .i64 k, .int .i64 x] 62)) = W at *
  refine wp_region_quiet_below (by kernel_rfl) (by kernel_rfl) ?_
  repeat (first
    | go_big_quiet_step ((go_at_call 41; exact regrown_same (within_any _ _ _ _)))
    | quiet_step ((go_at_call 41; exact regrown_same (within_any _ _ _ _))))
  refine wpQuiet_nil ?_
  intro _ hw'
  obtain ⟨⟨dq, osq⟩, hw''⟩ := hw'
  subst hw''
  go_wp2
  go_ret
  exact ⟨rfl, hB.trans ((below_regrown W dq osq).mono hB.size)⟩

end Go.Proofs.YtbkmgoffiigdbabGreatDoor

namespace Go.Proofs.YtbkmgoffiigdbabGreatDoor
open Go.RowKit

theorem bcell {W w1 : World} (hb : Below W.heap.size W w1) : (∀ b o, b < W.heap.size → w1.cell? ⟨b, o, none⟩ = W.cell? ⟨b, o, none⟩) ∧ (∀ b o, b < W.heap.size → w1.frozen? ⟨b, o, none⟩ = W.frozen? ⟨b, o, none⟩) :=
  ⟨fun b o h => hb.cell (p := ⟨b, o, none⟩) h, fun b o h => hb.frozen (p := ⟨b, o, none⟩) h⟩

theorem below_via {B : Nat} {w W w2 : World} (h2 : Below W.heap.size W w2) (h1 : Below B w W) (hB : B ≤ W.heap.size) : Below B w w2 := h1.trans (h2.mono hB)

theorem sized_sizes (k : Nat) (p l : Int) (n : Nat) : sizedB k p l n = (sizesB p l n && !(((k : Int) == 0) && p != 0)) := by
  rw [Bool.eq_iff_iff]
  simp only [sizedB, sizesB, insideB, Bool.and_eq_true, Bool.or_eq_true, decide_eq_true_eq, beq_iff_eq, Bool.not_eq_true', Bool.and_eq_false_iff, beq_eq_false_iff_ne, bne_eq_false_iff_eq]
  omega

set_option maxHeartbeats 1000000 in
theorem checkSizes_any (g : PgR) (w : World) (hg : PgIn w.heap.size w g) :
    Calls Tryz.prog 93 #[.agg #[.slice g.a g.n g.c]] w fun e w' => ∃ (at_ : Int) (ok : Bool), e = .returned (.tuple #[.int .i64 at_, .bool ok]) ∧ SizesSay g at_ ok ∧ Below w.heap.size w w' := by
  have hn := hg.1
  by_cases h8 : 1 ≤ g.n ∧ g.n ≤ 8
  · have hin : insideB g.n 1 8 = true := insideB_t (by omega) (by omega)
    obtain ⟨h81, h82⟩ := h8
    obtain ⟨ha, hb, hc⟩ := hg.2.1 (by omega)
    have HC : Hid (∀ i, i < g.n → w.cell? ⟨g.b, g.o + i * 3, none⟩ = some (.int .i64 (g.f i).p) ∧ w.cell? ⟨g.b, g.o + i * 3 + 1, none⟩ = some (.int .i64 (g.f i).l) ∧
      w.cell? ⟨g.b, g.o + i * 3 + 2, none⟩ = some (.slice (g.f i).a (g.f i).n (g.f i).c)) := hc
    clear hc
    rw [ha]
    go_enter Tryz.func93, Tryz.ntmps93
    go_wp2_with (go_at_call 41; refine (within_any _ _ _ _).mono ?_; rintro e w' ⟨rfl, rfl⟩)
    go_loopw [14] (fun i wr => ∃ k : Nat, k ≤ g.n ∧ i = .int .i64 k ∧ (∀ j, j < k → sizedB j (g.f j).p (g.f j).l (g.f j).n = true) ∧ Below w.heap.size w wr) (fun i _ => g.n - (intOf i).toNat)
    case atStart => exact ⟨0, Nat.zero_le _, rfl, fun j hj => by omega, by repeat (first | exact Below.refl _ _ | refine Below.drew ?_ | refine Below.alloc ?_ (by first | omega | (simp; done) | (simp; omega)) _)⟩
    case round =>
      obtain ⟨k, hk, rfl, hok0, hbel⟩ := hrel
      have HOK := (show Hid _ from hok0); clear hok0
      by_cases hlt : k < g.n
      · obtain ⟨c0, c1, c2⟩ := HC.out k hlt
        rw [← hbel.cell (p := ⟨g.b, _, none⟩) hb] at c0 c1 c2
        have hsz := hbel.size
        have hbw : g.b < wr.heap.size := Nat.lt_of_lt_of_le hb hsz
        have hsd := sized_sizes k (g.f k).p (g.f k).l (g.f k).n
        have HD := (show Hid _ from hsd); clear hsd
        cases hs : sizesB (g.f k).p (g.f k).l (g.f k).n
        · go_wp2_with (go_at_call 126; refine (sizesFit_any _ _ _ _ _ _).mono ?_; rintro e w2 ⟨rfl, hb2⟩; obtain ⟨hcc, hff⟩ := bcell hb2)
          go_ret2
          exact ⟨k, false, rfl, Or.inr (Or.inr ⟨rfl, h81, h82, k, rfl, hlt, by simp only; rw [HD.out, hs]; rfl, HOK.out⟩), below_via hb2 (by repeat (first | exact hbel | refine Below.drew ?_ | refine Below.setCell ?_ (by first | omega | (simp; done) | (simp; omega)) _ | refine Below.alloc ?_ (by first | omega | (simp; done) | (simp; omega)) _)) (by first | omega | (simp; done) | (simp; omega))⟩
        · by_cases hk0 : k = 0
          · have hkt : ((k : Int) == 0) = true := beq_iff_eq.2 (by omega)
            have HK : Hid (k = 0) := hk0
            clear hk0
            cases hp : (g.f k).p != 0
            · go_wp2_with (go_at_call 126; refine (sizesFit_any _ _ _ _ _ _).mono ?_; rintro e w2 ⟨rfl, hb2⟩; obtain ⟨hcc, hff⟩ := bcell hb2)
              go_roundw
              case rel => exact ⟨k + 1, by omega, by go_num, fun j hj => (by rw [show j = k from (by have := HK.out; omega), HD.out, hs, hp, hkt]; rfl), below_via hb2 (by repeat (first | exact hbel | refine Below.drew ?_ | refine Below.setCell ?_ (by first | omega | (simp; done) | (simp; omega)) _ | refine Below.alloc ?_ (by first | omega | (simp; done) | (simp; omega)) _)) (by first | omega | (simp; done) | (simp; omega))⟩
              case measure => simp [intOf]; omega
            · go_wp2_with (go_at_call 126; refine (sizesFit_any _ _ _ _ _ _).mono ?_; rintro e w2 ⟨rfl, hb2⟩; obtain ⟨hcc, hff⟩ := bcell hb2)
              go_ret2
              exact ⟨k, false, rfl, Or.inr (Or.inr ⟨rfl, h81, h82, k, rfl, hlt, by simp only; rw [HD.out, hs, hp, hkt]; rfl, HOK.out⟩), below_via hb2 (by repeat (first | exact hbel | refine Below.drew ?_ | refine Below.setCell ?_ (by first | omega | (simp; done) | (simp; omega)) _ | refine Below.alloc ?_ (by first | omega | (simp; done) | (simp; omega)) _)) (by first | omega | (simp; done) | (simp; omega))⟩
          · have hkf : ((k : Int) == 0) = false := beq_eq_false_iff_ne.2 (by omega)
            go_wp2_with (go_at_call 126; refine (sizesFit_any _ _ _ _ _ _).mono ?_; rintro e w2 ⟨rfl, hb2⟩; obtain ⟨hcc, hff⟩ := bcell hb2)
            go_roundw
            case rel => exact ⟨k + 1, by omega, by go_num, fun j hj => by
              by_cases e : j = k
              · subst e; rw [HD.out, hs, hkf]; rfl
              · exact HOK.out j (by omega), below_via hb2 (by repeat (first | exact hbel | refine Below.drew ?_ | refine Below.setCell ?_ (by first | omega | (simp; done) | (simp; omega)) _ | refine Below.alloc ?_ (by first | omega | (simp; done) | (simp; omega)) _)) (by first | omega | (simp; done) | (simp; omega))⟩
            case measure => simp [intOf]; omega
      · go_wp2
        go_ret2
        exact ⟨0, true, rfl, Or.inl ⟨rfl, rfl, h81, h82, fun i hi => HOK.out i (by omega)⟩, hbel⟩
  · have hin : insideB g.n 1 8 = false := insideB_f (by omega)
    go_enter Tryz.func93, Tryz.ntmps93
    go_wp2_with (go_at_call 41; refine (within_any _ _ _ _).mono ?_; rintro e w' ⟨rfl, rfl⟩)
    go_ret2
    exact ⟨0, false, rfl, Or.inr (Or.inl ⟨rfl, rfl, h8⟩), by repeat (first | exact Below.refl _ _ | refine Below.drew ?_ | refine Below.alloc ?_ (by first | omega | (simp; done) | (simp; omega)) _)⟩

end Go.Proofs.YtbkmgoffiigdbabGreatDoor

namespace Go.Proofs.YtbkmgoffiigdbabGreatDoor
open Go.RowKit

theorem info3' : (Tryz.prog.info? 3).map (fun i => (i.zero, i.size, i.bytes)) = some (some (.int .i64 0), 1, 8) := by kernel_rfl

def nums (T : List Nat) : List Value := T.map fun t : Nat => .int .i64 (t : Int)

/-- The walk through a function, as it lies in memory: its struct in block wb, its heights in block hb, what is to be left yet in a row from 'base' on. -/
structure WalkAt (w : World) (g : PgR) (f : FnR) (wb hb base : Nat) (H : Nat → Int) (T : List Nat) (tv : Value) : Prop where
  ne : wb ≠ hb
  ltw : wb < base
  lth : hb < base
  size : base ≤ w.heap.size
  c0 : w.cell? ⟨wb, 0, none⟩ = some (.slice g.a g.n g.c)
  c1 : w.cell? ⟨wb, 1, none⟩ = some (.slice f.a f.n f.c)
  c2 : w.cell? ⟨wb, 2, none⟩ = some (.slice (some ⟨hb, 0, none⟩) f.n f.n)
  c3 : w.cell? ⟨wb, 3, none⟩ = some tv
  fz : w.frozen? ⟨wb, 3, none⟩ = false
  row : w.rowIs hb 3 f.n (fun i => .int .i64 (H i))
  own : w.ownsRow base 3 1 tv T.length (nums T)

def Touch (wb hb : Nat) (tv : Value) (k : Nat) : Prop := k = wb ∨ k = hb ∨ tv.ownBlock = some k

theorem WalkAt.but {w w' : World} {g : PgR} {f : FnR} {wb hb base : Nat} {H : Nat → Int} {T : List Nat} {tv : Value} (h : WalkAt w g f wb hb base H T tv) (hb' : Below w.heap.size w w') : WalkAt w' g f wb hb base H T tv := by
  have hw : wb < w.heap.size := Nat.lt_of_lt_of_le h.ltw h.size
  have hh : hb < w.heap.size := Nat.lt_of_lt_of_le h.lth h.size
  refine ⟨h.ne, h.ltw, h.lth, Nat.le_trans h.size hb'.size, ?_, ?_, ?_, ?_, ?_, h.row.of_block (hb'.block hb hh), ?_⟩
  · rw [hb'.cell hw]; exact h.c0
  · rw [hb'.cell hw]; exact h.c1
  · rw [hb'.cell hw]; exact h.c2
  · rw [hb'.cell hw]; exact h.c3
  · rw [hb'.frozen hw]; exact h.fz
  · refine h.own.kept (row := none) ⟨hb'.os, hb'.tape, hb'.output, hb'.size, fun k hk _ => hb'.block k hk⟩ ?_
    cases hv : tv.ownBlock with
    | none => exact Or.inl rfl
    | some k => exact Or.inr (by simp)

def ComeSay (n : Nat) (H : Nat → Int) (T : List Nat) (pc : Nat) (height : Int) (H' : Nat → Int) (T' : List Nat) (ok : Bool) : Prop :=
  (ok = false ∧ n ≤ pc) ∨ (ok = false ∧ pc < n ∧ H pc ≠ -1 ∧ H pc ≠ height) ∨
  (ok = true ∧ pc < n ∧ H pc ≠ -1 ∧ H pc = height ∧ H' = H ∧ T' = T) ∨
  (ok = true ∧ pc < n ∧ H pc = -1 ∧ H' = (fun i => if i = pc then height else H i) ∧ T' = T ++ [pc])

def ComePost (g : PgR) (f : FnR) (wb hb base : Nat) (H : Nat → Int) (T : List Nat) (tv : Value) (pc : Nat) (height : Int) (w : World) (e : Ending) (w' : World) : Prop :=
  ∃ H' T' tv' ok, e = .returned (.bool ok) ∧ WalkAt w' g f wb hb base H' T' tv' ∧ ComeSay f.n H T pc height H' T' ok ∧ But (Touch wb hb tv) w w'
theorem comePost {g : PgR} {f : FnR} {wb hb base : Nat} {H : Nat → Int} {T : List Nat} {tv : Value} {pc : Nat} {height : Int} {w : World} {e : Ending} {w' : World} (H' : Nat → Int) (T' : List Nat) (tv' : Value) (ok : Bool)
    (he : e = .returned (.bool ok)) (hw : WalkAt w' g f wb hb base H' T' tv') (hs : ComeSay f.n H T pc height H' T' ok) (hb' : But (Touch wb hb tv) w w') : ComePost g f wb hb base H T tv pc height w e w' := ⟨H', T', tv', ok, he, hw, hs, hb'⟩

set_option maxRecDepth 100000 in
set_option maxHeartbeats 4000000 in
theorem come_any (g : PgR) (f : FnR) (wb hb base : Nat) (H : Nat → Int) (T : List Nat) (tv : Value) (pc : Nat) (height : Int) (w : World) (hw : WalkAt w g f wb hb base H T tv) (hT : T.length ≤ 60) :
    Calls Tryz.prog 146 #[.pointer (some ⟨wb, 0, none⟩), .int .i64 (pc : Int), .int .i64 height] w fun e w' => ComePost g f wb hb base H T tv pc height w e w' := by
  have c1 := hw.c1
  have c2 := hw.c2
  have c3 := hw.c3
  have fz := hw.fz
  have hww : wb < w.heap.size := Nat.lt_of_lt_of_le hw.ltw hw.size
  have hhw : hb < w.heap.size := Nat.lt_of_lt_of_le hw.lth hw.size
  by_cases hlt : pc < f.n
  · have kh := hw.row.cell hlt
    have kf := hw.row.frozen pc
    by_cases hm : H pc = -1
    · have hmb : (H pc == -1) = true := beq_iff_eq.2 hm
      have HM := (show Hid _ from hm); clear hm
      obtain ⟨i0, hi, hz0, hz1, hz2⟩ := info_parts info3'
      have hne := hw.ne
      go_enter Tryz.func146, Tryz.ntmps146
      go_wp2_with (at_builtin; refine wpList_append_own _ rfl (.tmp 33) (.tmp 35) 22 rfl base 3 i0 (.int .i64 0) 1 8 Tryz.underlying22 hi hz0 hz1 hz2 rfl (by decide) tv T.length (nums T) rfl ((ownsRow_setCell_below hw.own hw.lth _).alloc _) ⟨w.heap.size, 0, none⟩ 1 1 [.int .i64 (pc : Int)] rfl rfl ?c1 ?c2 ?c3 ?c4 ?c5 ?_)
      case c1 =>
        intro j u hj
        match j, hj with
        | 0, hj => simp at hj; subst hj; simp [Addr.add]; go_simp
      case c2 => intro u hu; simp at hu; subst hu; rfl
      case c3 => unfold maxLen; omega
      case c4 => omega
      case c5 => have := hw.size; simp; omega
      · intro v' w1 hown' hgrow _
        obtain ⟨gb, cap, hgv, hgb⟩ : ∃ gb cap, v' = .slice (some ⟨gb, 0, none⟩) (T.length + 1) cap ∧ base ≤ gb := by
          rcases hown'.2 with ⟨_, h0⟩ | ⟨gb, cap, _, hv, hgb, _⟩
          · omega
          · exact ⟨gb, cap, hv, hgb⟩
        subst hgv
        have hwne : ∀ k, k < base → some k ≠ tv.ownBlock := fun k hk e => by have := (hw.own.lt k e.symm).1; omega
        have d2 : w1.cell? ⟨wb, 2, none⟩ = some (.slice (some ⟨hb, 0, none⟩) f.n f.n) := hgrow.cell (by go_simp) (hwne wb hw.ltw)
        have d3 : w1.cell? ⟨wb, 3, none⟩ = some tv := hgrow.cell (by go_simp) (hwne wb hw.ltw)
        have d4 : w1.cell? ⟨hb, pc, none⟩ = some (.int .i64 height) := hgrow.cell (by go_simp) (hwne hb hw.lth)
        have dz : w1.frozen? ⟨wb, 3, none⟩ = false := by
          rw [World.frozen?_of_block (w' := w1) (hgrow.block wb (by simp; omega) (hwne wb hw.ltw))]; go_simp
        have d0 : w1.cell? ⟨wb, 0, none⟩ = some (.slice g.a g.n g.c) := hgrow.cell (by have := hw.c0; go_simp) (hwne wb hw.ltw)
        have d1 : w1.cell? ⟨wb, 1, none⟩ = some (.slice f.a f.n f.c) := hgrow.cell (by go_simp) (hwne wb hw.ltw)
        have hrow1 : w1.rowIs hb 3 f.n (fun i => .int .i64 (if i = pc then height else H i)) :=
          (((hw.row.set pc (.int .i64 height)).alloc (Obj.cells #[.int .i64 (pc : Int)] 3)).of_block (hgrow.block hb (by simp; omega) (hwne hb hw.lth))).congr (fun j _ => by by_cases e : j = pc <;> simp [e])
        have hbut1 : But (Touch wb hb tv) w w1 := (((But.refl _ w).setCell (p := ⟨hb, pc, none⟩) (Or.inl (Or.inr (Or.inl rfl))) (.int .i64 height)).alloc (Obj.cells #[.int .i64 (pc : Int)] 3)).trans
          ⟨hgrow.os, hgrow.tape, hgrow.output, hgrow.size, fun k hk hs => hgrow.block k hk (fun e => hs (Or.inr (Or.inr e.symm)))⟩
        have hsz1 : base ≤ w1.heap.size := Nat.le_trans hw.size (Nat.le_trans (by simp) hgrow.size)
        clear hgrow c1 c2 c3 kh kf fz
        go_wp2
        go_ret
        refine comePost (fun i => if i = pc then height else H i) (T ++ [pc]) (.slice (some ⟨gb, 0, none⟩) (T.length + 1) cap) true ?_ ⟨hne, hw.ltw, hw.lth, by simpa using hsz1, ?_, ?_, ?_, ?_, ?_, hrow1.setOther (by exact hne.symm) _, ?_⟩ (Or.inr (Or.inr (Or.inr ⟨rfl, hlt, HM.out, rfl, rfl⟩))) (hbut1.setCell (p := ⟨wb, 3, none⟩) (Or.inl (Or.inl rfl)) _)
        all_goals go_light
        · simp
        · go_simp
        · go_simp
        · go_simp
        · go_simp
        · go_simp
        · have := ownsRow_setCell_below hown' (a := ⟨wb, 3, none⟩) hw.ltw (.slice (some ⟨gb, 0, none⟩) (T.length + 1) cap)
          simpa [nums] using this
    · have hmb : (H pc == -1) = false := beq_eq_false_iff_ne.2 hm
      go_enter Tryz.func146, Tryz.ntmps146
      go_wp2
      go_ret
      refine comePost H T tv (H pc == height) rfl hw ?_ (But.refl _ _)
      cases hq : H pc == height
      · exact Or.inr (Or.inl ⟨rfl, hlt, hm, by simpa using hq⟩)
      · exact Or.inr (Or.inr (Or.inl ⟨rfl, hlt, hm, by simpa using hq, rfl, rfl⟩))
  · go_enter Tryz.func146, Tryz.ntmps146
    go_wp2
    go_ret
    exact comePost H T tv false rfl hw (Or.inl ⟨rfl, by omega⟩) (But.refl _ _)

end Go.Proofs.YtbkmgoffiigdbabGreatDoor

namespace Go.Proofs.YtbkmgoffiigdbabGreatDoor
open Go.RowKit Go.Sort

def popT (k : Nat) : Int := if k = 14 then -1 else popD k 0
def nextT (k : Nat) : Int := if k = 12 then 1 else if k = 13 then 2 else if k = 15 ∨ k = 27 then 3 else 0
def takeT (k : Nat) : Nat := if k = 0 then 170 else if k = 2 ∨ k = 3 then 174 else if k = 12 ∨ k = 13 then 185 else if k = 14 then 188 else if k = 16 then 191 else if k = 19 ∨ k = 20 then 195 else 172

def doesL : List Nat := [171, 173, 175, 176, 177, 178, 179, 180, 181, 182, 183, 184, 186, 187, 189, 190, 192, 193, 194, 196, 197, 198, 199, 200, 201, 202, 203, 204]
def doT (k : Nat) : Nat := doesL.getD k 0

/-- The table of operations lies in block 0. -/
def Tab (w : World) : Prop := 0 < w.heap.size ∧ ∀ k, k < 28 → w.cell? ⟨0, k * 5, none⟩ = some (.int .i64 (popT k)) ∧ w.cell? ⟨0, k * 5 + 1, none⟩ = some (.int .i64 (pushD k)) ∧
  w.cell? ⟨0, k * 5 + 2, none⟩ = some (.int .i64 (nextT k)) ∧ w.cell? ⟨0, k * 5 + 3, none⟩ = some (.func (.func (takeT k)) #[] #[]) ∧
  w.cell? ⟨0, k * 5 + 4, none⟩ = some (.func (.func (doT k)) #[] #[])

theorem Tab.below {B : Nat} {w w' : World} (h : Tab w) (hB : 0 < B) (hb : Below B w w') : Tab w' :=
  ⟨Nat.lt_of_lt_of_le h.1 hb.size, fun k hk => by
    rw [hb.cell (p := ⟨0, k * 5, none⟩) hB, hb.cell (p := ⟨0, k * 5 + 1, none⟩) hB, hb.cell (p := ⟨0, k * 5 + 2, none⟩) hB, hb.cell (p := ⟨0, k * 5 + 3, none⟩) hB, hb.cell (p := ⟨0, k * 5 + 4, none⟩) hB]
    exact h.2 k hk⟩

theorem popsOf_any (B : Nat) (g : PgR) (k : Nat) (x : Int) (w : World) (hB : B ≤ w.heap.size) (hg : PgIn B w g) (ht : Tab w) (hk : k < 28) (hx : (k : Int) = 14 → 0 ≤ x ∧ x < g.n) :
    Calls Tryz.prog 66 #[.agg #[.slice g.a g.n g.c], .agg #[.int .i64 (k : Int), .int .i64 x]] w fun e w' => e = .returned (.int .i64 (popD k (g.f x.toNat).p)) ∧ Below w.heap.size w w' := by
  have hc := (ht.2 k hk).1
  by_cases h : k = 14
  · obtain ⟨h0, h1⟩ := hx (by omega)
    obtain ⟨y, rfl⟩ := Int.eq_ofNat_of_zero_le h0
    obtain ⟨ha, hb, hcell⟩ := hg.2.1 (by omega)
    subst h
    rw [ha, Int.toNat_natCast, show popD ((14 : Nat) : Int) (g.f y).p = (g.f y).p by simp [popD]]
    exact popsOf_call g.b g.o g.n g.c y _ w ht.1 (by omega) (by omega) (by simpa [popT] using hc) (hcell y (by omega)).1
  · have e : popD (k : Int) (g.f x.toNat).p = popT k := by
      unfold popT; rw [if_neg h]; unfold popD
      rw [if_neg (show ¬ (k : Int) = 14 by omega), if_neg (show ¬ (k : Int) = 14 by omega)]
    rw [e]
    refine popsOf_plain _ _ _ k x _ w ht.1 hk ?_ hc
    have hz : 0 ≤ popT k := by unfold popT; rw [if_neg h]; exact (popD_bd _ _ (fun _ => by omega)).1
    rw [bne_iff_ne]; omega

/-- What the walk has come to. -/
def Inv (F : Flow) (H : Nat → Int) (T : List Nat) : Prop :=
  (∀ a, a < F.n → -1 ≤ H a ∧ H a ≤ 10 ∧ (0 ≤ H a → F.Reach a (H a))) ∧ (∀ t, t ∈ T → t < F.n ∧ 0 ≤ H t)

def Ext (n : Nat) (H : Nat → Int) (T : List Nat) (H' : Nat → Int) (T' : List Nat) : Prop :=
  (∀ a, 0 ≤ H a → H' a = H a) ∧ (∀ t, t ∈ T → t ∈ T') ∧ (∀ a, a < n → 0 ≤ H' a → 0 ≤ H a ∨ a ∈ T') ∧ T'.length + left n H' ≤ T.length + left n H

theorem Ext.refl (n : Nat) (H : Nat → Int) (T : List Nat) : Ext n H T H T := ⟨fun _ _ => rfl, fun _ h => h, fun _ _ h => Or.inl h, Nat.le_refl _⟩
theorem Ext.trans {n : Nat} {H H' H'' : Nat → Int} {T T' T'' : List Nat} (h : Ext n H T H' T') (k : Ext n H' T' H'' T'') : Ext n H T H'' T'' :=
  ⟨fun a ha => by rw [k.1 a (by rw [h.1 a ha]; exact ha), h.1 a ha], fun t ht => k.2.1 t (h.2.1 t ht),
   fun a ha hz => (k.2.2.1 a ha hz).elim (fun h' => (h.2.2.1 a ha h').imp id (k.2.1 a)) Or.inr, Nat.le_trans k.2.2.2 h.2.2.2⟩

theorem come_step {F : Flow} {H H' : Nat → Int} {T T' : List Nat} {a c : Nat} {b v : Int} {ok : Bool} (hi : Inv F H T) (hr : F.Reach a b) (hc : c ∈ F.next a) (hv : F.behind a b = v) (h0 : 0 ≤ v) (h10 : v ≤ 10)
    (hs : ComeSay F.n H T c v H' T' ok) : (ok = false ∧ ¬ F.Fits) ∨ (ok = true ∧ Inv F H' T' ∧ Ext F.n H T H' T' ∧ c < F.n ∧ H' c = v) := by
  have hrc : F.Reach c v := hv ▸ Flow.reach_next hr hc
  rcases hs with ⟨rfl, hn⟩ | ⟨rfl, hn, h1, h2⟩ | ⟨rfl, hn, h1, h2, rfl, rfl⟩ | ⟨rfl, hn, h1, rfl, rfl⟩
  · exact Or.inl ⟨rfl, Flow.not_fits_past hr hc hn⟩
  · have := hi.1 c hn
    exact Or.inl ⟨rfl, Flow.not_fits_two hr hc (this.2.2 (by omega)) (by rw [hv]; exact h2)⟩
  · exact Or.inr ⟨rfl, hi, Ext.refl _ _ _, hn, h2⟩
  · refine Or.inr ⟨rfl, ⟨fun x hx => ?_, fun t ht => ?_⟩, ⟨fun x hx => ?_, fun t ht => List.mem_append_left _ ht, fun x hx hz => ?_, ?_⟩, hn, by simp⟩
    · by_cases e : x = c
      · subst e; simp only [if_pos]; exact ⟨by omega, h10, fun _ => hrc⟩
      · simp only [if_neg e]; exact hi.1 x hx
    · rcases List.mem_append.1 ht with ht | ht
      · obtain ⟨p, q⟩ := hi.2 t ht
        refine ⟨p, ?_⟩
        by_cases e : t = c
        · subst e; simpa using h0
        · simpa only [if_neg e] using q
      · obtain rfl : t = c := by simpa using ht
        exact ⟨hn, by simpa using h0⟩
    · have : x ≠ c := by intro e; subst e; omega
      simp only [if_neg this]
    · by_cases e : x = c
      · subst e; exact Or.inr (by simp)
      · simp only [if_neg e] at hz; exact Or.inl hz
    · have := left_set hn (show H c < 0 by omega) h0
      simp only [List.length_append, List.length_cons, List.length_nil]
      omega

theorem touch_below {w : World} {g : PgR} {f : FnR} {wb hb base : Nat} {H : Nat → Int} {T : List Nat} {tv : Value} (h : WalkAt w g f wb hb base H T tv) {B : Nat} (h1 : B ≤ wb) (h2 : B ≤ hb) : ∀ k, k < B → ¬ Touch wb hb tv k := by
  rintro k hk (rfl | rfl | he)
  · omega
  · omega
  · have := (h.own.lt k he).1; have := h.ltw; omega

def LeavePost (B : Nat) (g : PgR) (f : FnR) (wb hb base : Nat) (H : Nat → Int) (T : List Nat) (pc : Nat) (w : World) (e : Ending) (w' : World) : Prop :=
  ∃ ok H' T' tv', e = .returned (.bool ok) ∧ Below B w w' ∧ ((ok = false ∧ ¬ (flowOf g f).Fits) ∨ (ok = true ∧ WalkAt w' g f wb hb base H' T' tv' ∧ Inv (flowOf g f) H' T' ∧ Ext f.n H T H' T' ∧ (flowOf g f).Shut H' pc))
theorem leavePost_no {B : Nat} {g : PgR} {f : FnR} {wb hb base : Nat} {H : Nat → Int} {T : List Nat} {pc : Nat} {w : World} {e : Ending} {w' : World} (he : e = .returned (.bool false)) (hb' : Below B w w') (hn : ¬ (flowOf g f).Fits) :
    LeavePost B g f wb hb base H T pc w e w' := ⟨false, H, T, .slice none 0 0, he, hb', Or.inl ⟨rfl, hn⟩⟩
theorem leavePost_yes {B : Nat} {g : PgR} {f : FnR} {wb hb base : Nat} {H : Nat → Int} {T : List Nat} {pc : Nat} {w : World} {e : Ending} {w' : World} (H' : Nat → Int) (T' : List Nat) (tv' : Value) (he : e = .returned (.bool true)) (hb' : Below B w w')
    (hw : WalkAt w' g f wb hb base H' T' tv') (hi : Inv (flowOf g f) H' T') (hx : Ext f.n H T H' T') (hs : (flowOf g f).Shut H' pc) : LeavePost B g f wb hb base H T pc w e w' := ⟨true, H', T', tv', he, hb', Or.inr ⟨rfl, hw, hi, hx, hs⟩⟩

end Go.Proofs.YtbkmgoffiigdbabGreatDoor
