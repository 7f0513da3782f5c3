import Derived.Test.YtbkmgoffiigdbabGreatDoorVA
import Derived.Deep.AppendLies
import Derived.Deep.RegionHeldLaw
namespace Go.Proofs.YtbkmgoffiigdbabGreatDoor
open Go.RowKit

/-! Lists of pairs and of threes, by their indices. -/
def flat2 (n : Nat) (a b : Nat → Value) : List Value := (List.range n).flatMap fun j => [a j, b j]
def flat3 (n : Nat) (a b c : Nat → Value) : List Value := (List.range n).flatMap fun j => [a j, b j, c j]

theorem flat2_succ (n : Nat) (a b : Nat → Value) : flat2 (n + 1) a b = flat2 n a b ++ [a n, b n] := by simp [flat2, List.range_succ]
theorem flat3_succ (n : Nat) (a b c : Nat → Value) : flat3 (n + 1) a b c = flat3 n a b c ++ [a n, b n, c n] := by simp [flat3, List.range_succ]
theorem flat2_length (n : Nat) (a b : Nat → Value) : (flat2 n a b).length = n * 2 := by
  induction n with
  | zero => rfl
  | succ n ih => rw [flat2_succ, List.length_append, ih]; simp; omega
theorem flat3_length (n : Nat) (a b c : Nat → Value) : (flat3 n a b c).length = n * 3 := by
  induction n with
  | zero => rfl
  | succ n ih => rw [flat3_succ, List.length_append, ih]; simp; omega
theorem flat2_get {n : Nat} {a b : Nat → Value} {j : Nat} (h : j < n) : (flat2 n a b)[j * 2]? = some (a j) ∧ (flat2 n a b)[j * 2 + 1]? = some (b j) := by
  induction n with
  | zero => omega
  | succ n ih =>
    rw [flat2_succ]
    by_cases e : j = n
    · subst e
      rw [List.getElem?_append_right (by rw [flat2_length]; omega), List.getElem?_append_right (by rw [flat2_length]; omega), flat2_length]
      simp
    · obtain ⟨h1, h2⟩ := ih (by omega)
      rw [List.getElem?_append_left (by rw [flat2_length]; omega), List.getElem?_append_left (by rw [flat2_length]; omega)]
      exact ⟨h1, h2⟩
theorem flat3_get {n : Nat} {a b c : Nat → Value} {j : Nat} (h : j < n) : (flat3 n a b c)[j * 3]? = some (a j) ∧ (flat3 n a b c)[j * 3 + 1]? = some (b j) ∧ (flat3 n a b c)[j * 3 + 2]? = some (c j) := by
  induction n with
  | zero => omega
  | succ n ih =>
    rw [flat3_succ]
    by_cases e : j = n
    · subst e
      rw [List.getElem?_append_right (by rw [flat3_length]; omega), List.getElem?_append_right (by rw [flat3_length]; omega), List.getElem?_append_right (by rw [flat3_length]; omega), flat3_length]
      simp
    · obtain ⟨h1, h2, h3⟩ := ih (by omega)
      rw [List.getElem?_append_left (by rw [flat3_length]; omega), List.getElem?_append_left (by rw [flat3_length]; omega), List.getElem?_append_left (by rw [flat3_length]; omega)]
      exact ⟨h1, h2, h3⟩
theorem flat3_congr {n : Nat} {a b c c' : Nat → Value} (h : ∀ j, j < n → c j = c' j) : flat3 n a b c = flat3 n a b c' := by
  induction n with
  | zero => rfl
  | succ n ih => rw [flat3_succ, flat3_succ, ih (fun j hj => h j (by omega)), h n (by omega)]
theorem flat2_one {n : Nat} {a b : Nat → Int} : ∀ u ∈ flat2 n (fun j => .int .i64 (a j)) (fun j => .int .i64 (b j)), u.oneCell' = true := by
  intro u hu
  simp only [flat2, List.mem_flatMap, List.mem_range, List.mem_cons, List.not_mem_nil, or_false] at hu
  obtain ⟨j, _, rfl | rfl⟩ := hu <;> rfl

theorem owns_base {w : World} {base base' : Nat} {e : TypeId} {size : Nat} {v : Value} {n : Nat} {xs : List Value} (h : w.ownsRow base e size v n xs) (hb : base' ≤ base) : w.ownsRow base' e size v n xs :=
  ⟨h.1, h.2.imp id fun ⟨g, cap, cur, h1, h2, h3⟩ => ⟨g, cap, cur, h1, Nat.le_trans hb h2, h3⟩⟩
theorem owns_block {w w' : World} {base : Nat} {e : TypeId} {size b n c : Nat} {xs : List Value} (h : w.ownsRow base e size (.slice (some ⟨b, 0, none⟩) n c) n xs) (hb : w'.heap[b]? = w.heap[b]?) : w'.ownsRow base e size (.slice (some ⟨b, 0, none⟩) n c) n xs := by
  refine ⟨h.1, Or.inr ?_⟩
  rcases h.2 with ⟨h0, _⟩ | ⟨g, cap, cur, hv, h1, h2, h3⟩
  · cases h0
  · cases hv
    exact ⟨b, c, cur, rfl, h1, hb.trans h2, h3⟩
theorem owns_at {w : World} {base : Nat} {e : TypeId} {size b n c : Nat} {xs : List Value} (h : w.ownsRow base e size (.slice (some ⟨b, 0, none⟩) n c) n xs) : base ≤ b ∧ b < w.heap.size ∧ n ≤ c ∧ c ≤ maxLen ∧ ∃ cur, w.heap[b]? = some (.cells cur e (0, 0)) := by
  rcases h.2 with ⟨h0, _⟩ | ⟨g, cap, cur, hv, h1, h2, h3, h4, _⟩
  · cases h0
  · cases hv
    refine ⟨h1, ?_, h3, h4, cur, h2⟩
    rcases Nat.lt_or_ge b w.heap.size with hlt | hge
    · exact hlt
    · rw [Array.getElem?_eq_none hge] at h2; cases h2

def insCells (f : FnR) : List Value := flat2 f.n (fun j => .int .i64 (f.op j)) (fun j => .int .i64 (f.ar j))
def farTail : List Value := [.int .i64 (-7070), .int .i64 0, .int .i64 (-7070), .int .i64 0]
def funCells (g : PgR) (Bk C : Nat → Nat) (n : Nat) : List Value :=
  flat3 n (fun j => .int .i64 (g.f j).p) (fun j => .int .i64 (g.f j).l) (fun j => .slice (some ⟨Bk j, 0, none⟩) (g.f j).n (C j))

/-- A function's code, copied, with two instructions of spare behind it. -/
def CopyAt (B : Nat) (w : World) (f : FnR) (b c : Nat) : Prop := w.ownsRow B 62 2 (.slice (some ⟨b, 0, none⟩) (f.n + 2) c) (f.n + 2) (insCells f ++ farTail)

/-- Lengths that a program that came in has. -/
def Reach (g : PgR) : Prop := g.n * 40 ≤ 140737488351232 ∧ ∀ i, i < g.n → (g.f i).n * 16 ≤ 140737488351232 ∧ ((g.f i).a = none → (g.f i).n = 0 ∧ (g.f i).c = 0)

def LentPost (g : PgR) (w : World) (e : Ending) (w' : World) : Prop :=
  ∃ (Bk C : Nat → Nat) (cb cc : Nat), e = .returned (.agg #[.slice (some ⟨cb, 0, none⟩) g.n cc]) ∧
    w'.ownsRow w.heap.size 68 3 (.slice (some ⟨cb, 0, none⟩) (g.n + 1) cc) (g.n + 1) (funCells g Bk C g.n ++ [.int .i64 (-7070), .int .i64 0, .slice none 0 0]) ∧
    (∀ j, j < g.n → CopyAt w.heap.size w' (g.f j) (Bk j) (C j)) ∧ (∀ i j, i < g.n → j < g.n → Bk i = Bk j → i = j) ∧ Below w.heap.size w w'

theorem info35 : (Tryz.prog.info? 68).map (fun i => (i.zero, i.size, i.bytes)) = some (some (.agg #[.int .i64 0, .int .i64 0, .slice none 0 0]), 3, 40) := by kernel_rfl
theorem info37 : (Tryz.prog.info? 62).map (fun i => (i.zero, i.size, i.bytes)) = some (some (.agg #[.int .i64 0, .int .i64 0]), 2, 16) := by kernel_rfl

end Go.Proofs.YtbkmgoffiigdbabGreatDoor
