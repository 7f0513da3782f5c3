import Derived.Test.YtbkmgoffiigdbaaDoorD
namespace Go.Proofs.YtbkmgoffiigdbaaDoor
open Go.RowKit

/-! PLAIN: the ways through a function, and when it fits together. -/

structure Flow where
  n : Nat
  pop : Nat → Int
  push : Nat → Int
  next : Nat → List Nat

def Flow.behind (F : Flow) (a : Nat) (h : Int) : Int := h - F.pop a + F.push a

/-- A way leads to 'pc' at the height 'h'. -/
def Flow.Reach (F : Flow) (pc : Nat) (h : Int) : Prop :=
  ∀ S : Nat → Int → Prop, S 0 0 → (∀ a b c, S a b → c ∈ F.next a → S c (F.behind a b)) → S pc h

def Flow.Fits (F : Flow) : Prop :=
  (∀ a b, F.Reach a b → a < F.n ∧ F.pop a ≤ b ∧ F.behind a b ≤ 10) ∧ ∀ a b b', F.Reach a b → F.Reach a b' → b = b'

theorem Flow.reach_first (F : Flow) : F.Reach 0 0 := fun _ h _ => h
theorem Flow.reach_next {F : Flow} {a c : Nat} {b : Int} (h : F.Reach a b) (hc : c ∈ F.next a) : F.Reach c (F.behind a b) :=
  fun S h0 hs => hs a b c (h S h0 hs) hc

def Flow.Shut (F : Flow) (H : Nat → Int) (a : Nat) : Prop :=
  F.pop a ≤ H a ∧ F.behind a (H a) ≤ 10 ∧ ∀ c, c ∈ F.next a → c < F.n ∧ H c = F.behind a (H a)

theorem Flow.fits_of_shut {F : Flow} {H : Nat → Int} (hn : 0 < F.n) (h0 : H 0 = 0) (hp : ∀ a, 0 ≤ F.push a) (hs : ∀ a, a < F.n → 0 ≤ H a → F.Shut H a) : F.Fits := by
  have key : ∀ a b, F.Reach a b → a < F.n ∧ H a = b ∧ 0 ≤ b := fun a b h => by
    refine h (fun a b => a < F.n ∧ H a = b ∧ 0 ≤ b) ⟨hn, h0, Int.le_refl 0⟩ ?_
    rintro a b c ⟨ha, hb, hz⟩ hc
    obtain ⟨h1, _, h3⟩ := hs a ha (by omega)
    obtain ⟨h4, h5⟩ := h3 c hc
    have := hp a
    refine ⟨h4, by rw [h5, hb], ?_⟩
    unfold Flow.behind
    omega
  refine ⟨fun a b h => ?_, fun a b b' h h' => ?_⟩
  · obtain ⟨ha, hb, hz⟩ := key a b h
    obtain ⟨h1, h2, _⟩ := hs a ha (by omega)
    rw [hb] at h1 h2
    exact ⟨ha, h1, h2⟩
  · rw [← (key a b h).2.1, ← (key a b' h').2.1]

theorem Flow.not_fits_pop {F : Flow} {a : Nat} {b : Int} (h : F.Reach a b) (hb : b < F.pop a ∨ 10 < F.behind a b) : ¬ F.Fits := fun hf => by
  have := hf.1 a b h; omega
theorem Flow.not_fits_past {F : Flow} {a c : Nat} {b : Int} (h : F.Reach a b) (hc : c ∈ F.next a) (hn : F.n ≤ c) : ¬ F.Fits := fun hf => by
  have := (hf.1 c _ (Flow.reach_next h hc)).1; omega
theorem Flow.not_fits_two {F : Flow} {a c : Nat} {b h' : Int} (h : F.Reach a b) (hc : c ∈ F.next a) (h2 : F.Reach c h') (hne : h' ≠ F.behind a b) : ¬ F.Fits := fun hf =>
  hne (hf.2 c _ _ h2 (Flow.reach_next h hc))

/-- How many instructions no way has come to yet. -/
def left (n : Nat) (H : Nat → Int) : Nat := ((List.range n).filter fun i => decide (H i < 0)).length

theorem left_set {n : Nat} {H : Nat → Int} {c : Nat} {v : Int} (hc : c < n) (hH : H c < 0) (hv : 0 ≤ v) : left n (fun i => if i = c then v else H i) + 1 = left n H := by
  induction n with
  | zero => omega
  | succ n ih =>
    simp only [left]
    rw [List.range_succ, List.filter_append, List.filter_append, List.length_append, List.length_append]
    by_cases e : c = n
    · subst e
      have e1 : (List.range c).filter (fun i => decide ((if i = c then v else H i) < 0)) = (List.range c).filter (fun i => decide (H i < 0)) := by
        refine List.filter_congr fun i hi => ?_
        have : i < c := List.mem_range.1 hi
        rw [if_neg (by omega)]
      rw [e1]
      simp [hH]; omega
    · have hi := ih (by omega)
      simp only [left] at hi
      have e2 : ((if n = c then v else H n) < 0) = (H n < 0) := by rw [if_neg (by omega)]
      simp only [List.filter_cons, List.filter_nil, e2]
      omega

/-! HOW A PROGRAM LIES IN MEMORY. -/

structure FnR where
  p : Int
  l : Int
  a : Option Addr
  n : Nat
  c : Nat
  b : Nat
  o : Nat
  op : Nat → Int
  ar : Nat → Int

structure PgR where
  a : Option Addr
  n : Nat
  c : Nat
  b : Nat
  o : Nat
  f : Nat → FnR

/-- .. in blocks below B. -/
def CodeIn (B : Nat) (w : World) (f : FnR) : Prop :=
  f.n ≤ 1152921504606846976 ∧ (0 < f.n → f.a = some ⟨f.b, f.o, none⟩ ∧ f.b < B ∧ ∀ j, j < f.n →
    w.cell? ⟨f.b, f.o + j * 2, none⟩ = some (.int .i64 (f.op j)) ∧ w.cell? ⟨f.b, f.o + j * 2 + 1, none⟩ = some (.int .i64 (f.ar j)))

def PgIn (B : Nat) (w : World) (g : PgR) : Prop :=
  g.n ≤ 1152921504606846976 ∧ (0 < g.n → g.a = some ⟨g.b, g.o, none⟩ ∧ g.b < B ∧ ∀ i, i < g.n →
    w.cell? ⟨g.b, g.o + i * 3, none⟩ = some (.int .i64 (g.f i).p) ∧ w.cell? ⟨g.b, g.o + i * 3 + 1, none⟩ = some (.int .i64 (g.f i).l) ∧
    w.cell? ⟨g.b, g.o + i * 3 + 2, none⟩ = some (.slice (g.f i).a (g.f i).n (g.f i).c)) ∧ ∀ i, i < g.n → CodeIn B w (g.f i)

theorem CodeIn.below {B : Nat} {w w' : World} {f : FnR} (h : CodeIn B w f) (hb : Below B w w') : CodeIn B w' f :=
  ⟨h.1, fun hn => by
    obtain ⟨h1, h2, h3⟩ := h.2 hn
    refine ⟨h1, h2, fun j hj => ?_⟩
    rw [hb.cell (p := ⟨f.b, f.o + j * 2, none⟩) h2, hb.cell (p := ⟨f.b, f.o + j * 2 + 1, none⟩) h2]
    exact h3 j hj⟩

theorem CodeIn.mono {B B' : Nat} {w : World} {f : FnR} (h : CodeIn B w f) (hb : B ≤ B') : CodeIn B' w f :=
  ⟨h.1, fun hn => by obtain ⟨h1, h2, h3⟩ := h.2 hn; exact ⟨h1, by omega, h3⟩⟩

theorem PgIn.below {B : Nat} {w w' : World} {g : PgR} (h : PgIn B w g) (hb : Below B w w') : PgIn B w' g :=
  ⟨h.1, fun hn => by
    obtain ⟨h1, h2, h3⟩ := h.2.1 hn
    refine ⟨h1, h2, fun i hi => ?_⟩
    rw [hb.cell (p := ⟨g.b, g.o + i * 3, none⟩) h2, hb.cell (p := ⟨g.b, g.o + i * 3 + 1, none⟩) h2, hb.cell (p := ⟨g.b, g.o + i * 3 + 2, none⟩) h2]
    exact h3 i hi, fun i hi => (h.2.2 i hi).below hb⟩

theorem PgIn.mono {B B' : Nat} {w : World} {g : PgR} (h : PgIn B w g) (hb : B ≤ B') : PgIn B' w g :=
  ⟨h.1, fun hn => by obtain ⟨h1, h2, h3⟩ := h.2.1 hn; exact ⟨h1, by omega, h3⟩, fun i hi => (h.2.2 i hi).mono hb⟩

/-- All blocks but those of S are as they were. -/
structure But (S : Nat → Prop) (w w' : World) : Prop where
  os : w'.os = w.os
  tape : w'.tape = w.tape
  output : w'.output = w.output
  size : w.heap.size ≤ w'.heap.size
  block : ∀ k, k < w.heap.size → ¬ S k → w'.heap[k]? = w.heap[k]?

theorem But.refl (S : Nat → Prop) (w : World) : But S w w := ⟨rfl, rfl, rfl, Nat.le_refl _, fun _ _ _ => rfl⟩
theorem But.trans {S : Nat → Prop} {a b c : World} (h : But S a b) (k : But S b c) : But S a c :=
  ⟨k.os.trans h.os, k.tape.trans h.tape, k.output.trans h.output, Nat.le_trans h.size k.size, fun i hi hs => (k.block i (Nat.lt_of_lt_of_le hi h.size) hs).trans (h.block i hi hs)⟩
theorem But.of_below {S : Nat → Prop} {w w' : World} (h : Below w.heap.size w w') : But S w w' := ⟨h.os, h.tape, h.output, h.size, fun k hk _ => h.block k hk⟩
theorem But.drew {S : Nat → Prop} {a w : World} (h : But S a w) : But S a w.drew := ⟨h.os, h.tape, h.output, h.size, h.block⟩
theorem But.alloc {S : Nat → Prop} {a w : World} (h : But S a w) (o : Obj) : But S a (w.alloc o) :=
  h.trans ⟨rfl, rfl, rfl, by simp, fun k hk _ => Below.heap_alloc _ _ _ hk⟩
theorem But.setCell {S : Nat → Prop} {a w : World} (h : But S a w) {p : Addr} (hp : S p.block ∨ a.heap.size ≤ p.block) (u : Value) : But S a (w.setCell p u) :=
  ⟨h.os, h.tape, h.output, by have := h.size; simpa [World.setCell] using this, fun k hk hs => (Below.heap_setCell _ _ _ _ (by rcases hp with hp | hp; exact fun e => hs (e ▸ hp); omega)).trans (h.block k hk hs)⟩
theorem But.cell {S : Nat → Prop} {w w' : World} (h : But S w w') {p : Addr} (hp : p.block < w.heap.size) (hs : ¬ S p.block) : w'.cell? p = w.cell? p := World.cell?_of_block (w := w) (h.block p.block hp hs)
theorem But.frozen {S : Nat → Prop} {w w' : World} (h : But S w w') {p : Addr} (hp : p.block < w.heap.size) (hs : ¬ S p.block) : w'.frozen? p = w.frozen? p := World.frozen?_of_block (w := w) (h.block p.block hp hs)
theorem But.below {S : Nat → Prop} {w w' : World} (h : But S w w') {B : Nat} (hB : B ≤ w.heap.size) (hs : ∀ k, k < B → ¬ S k) : Below B w w' :=
  ⟨h.os, h.tape, h.output, h.size, fun k hk => h.block k (Nat.lt_of_lt_of_le hk hB) (hs k hk)⟩

def FnR.v (f : FnR) : Value := .agg #[.int .i64 f.p, .int .i64 f.l, .slice f.a f.n f.c]

/-- The first number below 'n' at which something does not hold. -/
def First (n : Nat) (ok : Nat → Bool) (k : Nat) : Prop := k < n ∧ ok k = false ∧ ∀ j, j < k → ok j = true

theorem First.unique {n : Nat} {ok : Nat → Bool} {k k' : Nat} (h : First n ok k) (h' : First n ok k') : k = k' := by
  rcases Nat.lt_trichotomy k k' with hl | hl | hl
  · have := h'.2.2 k hl; rw [h.2.1] at this; cases this
  · exact hl
  · have := h.2.2 k' hl; rw [h'.2.1] at this; cases this

/-- What a look at the sizes tells. -/
def SizesSay (g : PgR) (at_ : Int) (ok : Bool) : Prop :=
  (ok = true ∧ at_ = 0 ∧ 1 ≤ g.n ∧ g.n ≤ 8 ∧ ∀ i, i < g.n → sizedB i (g.f i).p (g.f i).l (g.f i).n = true) ∨
  (ok = false ∧ at_ = 0 ∧ ¬ (1 ≤ g.n ∧ g.n ≤ 8)) ∨
  (ok = false ∧ 1 ≤ g.n ∧ g.n ≤ 8 ∧ ∃ k : Nat, at_ = k ∧ First g.n (fun i => sizedB i (g.f i).p (g.f i).l (g.f i).n) k)

end Go.Proofs.YtbkmgoffiigdbaaDoor
