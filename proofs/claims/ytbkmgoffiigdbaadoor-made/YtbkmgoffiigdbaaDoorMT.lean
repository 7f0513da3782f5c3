import Derived.Test.YtbkmgoffiigdbaaDoorMA
import Derived.Test.YtbkmgoffiigdbaaDoorMP
namespace Go.Proofs.YtbkmgoffiigdbaaDoor
open Go.RowKit

/-! How a program that was made lies in memory. -/

def fnOf (p l : Int) (b c : Nat) (L : List (Int × Int)) : FnR :=
  { p := p, l := l, a := some ⟨b, 0, none⟩, n := L.length, c := c, b := b, o := 0, op := fun j => (L.getD j (0, 0)).1, ar := fun j => (L.getD j (0, 0)).2 }

def madeG (pb b1 c1 sb b2 c2 : Nat) (L1 S L2 : List (Int × Int)) : PgR :=
  { a := some ⟨pb, 0, none⟩, n := 3, c := 3, b := pb, o := 0, f := fun i => if i = 0 then fnOf 0 3 b1 c1 L1 else if i = 1 then fnOf 2 3 sb 9 S else fnOf 0 3 b2 c2 L2 }

/-- The main function, and function 2. -/
def mainW (B : List (Int × Int)) (x : Int × Int) : List (Int × Int) := B ++ [(14, 2)] ++ [(5, 0)] ++ [x]
def lastI (again : Bool) : Int × Int := if again then (12, 2) else (27, 0)
def mainL (R : Nat → Int) (n : Nat) (again : Bool) : List (Int × Int) := mainW (bodyTo R (min (n / 2) 6)) (lastI again)
def otherL (R : Nat → Int) (n : Nat) : List (Int × Int) := bodyTo (fun i => R (n / 2 + i)) (min (n - n / 2) 6) ++ [(2, 1)] ++ [(15, 0)]
def stepL : List (Int × Int) := [(16, 1), (3, 2), (2, 2), (2, 1), (20, 0), (2, 0), (0, 1), (7, 0), (15, 0)]

theorem cellsL_get (L : List (Int × Int)) : ∀ j, j < L.length → (cellsL L)[j * 2]? = some (.int .i64 (L.getD j (0, 0)).1) ∧ (cellsL L)[j * 2 + 1]? = some (.int .i64 (L.getD j (0, 0)).2) := by
  induction L with
  | nil => intro j hj; simp at hj
  | cons x r ih =>
    intro j hj
    have hc : cellsL (x :: r) = .int .i64 x.1 :: .int .i64 x.2 :: cellsL r := rfl
    rw [hc]
    cases j with
    | zero => exact ⟨rfl, rfl⟩
    | succ j =>
      have := ih j (by simpa using hj)
      rw [show (j + 1) * 2 = j * 2 + 1 + 1 by omega]
      simpa using this

theorem code_of_cells {B : Nat} {w : World} {p l : Int} {b c : Nat} {L : List (Int × Int)} (hl : L.length ≤ 1000) (hb : b < B)
    (h : ∀ j u, (cellsL L)[j]? = some u → w.cell? ((⟨b, 0, none⟩ : Addr).add j) = some u) : CodeIn B w (fnOf p l b c L) := by
  refine ⟨by show L.length ≤ _; omega, fun _ => ⟨rfl, hb, fun j hj => ?_⟩⟩
  obtain ⟨h1, h2⟩ := cellsL_get L j hj
  have k1 := h _ _ h1
  have k2 := h _ _ h2
  rw [Go.WideShapes.add_plain] at k1 k2
  exact ⟨k1, by rw [Nat.add_assoc]; exact k2⟩

theorem owns_frozen {w : World} {base : Nat} {e : TypeId} {size b n c : Nat} {xs : List Value} (h : w.ownsRow base e size (.slice (some ⟨b, 0, none⟩) n c) n xs) (j : Nat) : w.frozen? ⟨b, j, none⟩ = false := by
  rcases h.2 with ⟨h0, _⟩ | ⟨g, cap, cur, hv, _, hh, hn, _, hs, ht⟩
  · cases h0
  · cases hv
    exact World.rowIs.frozen (w := w) (b := b) (t := e) (n := cur.size) (f := fun k => cur.getD k (.int .i64 0)) ⟨cur, hh, rfl, fun k hk => by simp only [Array.getD_eq_getD_getElem?]; rw [Array.getElem?_eq_getElem hk]; rfl⟩ j

theorem made_in {B : Nat} {w : World} {pb b1 c1 sb b2 c2 : Nat} {L1 S L2 : List (Int × Int)} (hp : pb < B)
    (h0 : w.cell? ⟨pb, 0, none⟩ = some (.int .i64 0)) (h1 : w.cell? ⟨pb, 1, none⟩ = some (.int .i64 3)) (h2 : w.cell? ⟨pb, 2, none⟩ = some (.slice (some ⟨b1, 0, none⟩) L1.length c1))
    (h3 : w.cell? ⟨pb, 3, none⟩ = some (.int .i64 2)) (h4 : w.cell? ⟨pb, 4, none⟩ = some (.int .i64 3)) (h5 : w.cell? ⟨pb, 5, none⟩ = some (.slice (some ⟨sb, 0, none⟩) S.length 9))
    (h6 : w.cell? ⟨pb, 6, none⟩ = some (.int .i64 0)) (h7 : w.cell? ⟨pb, 7, none⟩ = some (.int .i64 3)) (h8 : w.cell? ⟨pb, 8, none⟩ = some (.slice (some ⟨b2, 0, none⟩) L2.length c2))
    (k1 : CodeIn B w (fnOf 0 3 b1 c1 L1)) (k2 : CodeIn B w (fnOf 2 3 sb 9 S)) (k3 : CodeIn B w (fnOf 0 3 b2 c2 L2)) : PgIn B w (madeG pb b1 c1 sb b2 c2 L1 S L2) := by
  refine ⟨by show 3 ≤ _; omega, fun _ => ⟨rfl, hp, fun i hi => ?_⟩, fun i hi => ?_⟩
  · have hi' : i = 0 ∨ i = 1 ∨ i = 2 := by have : i < 3 := hi; omega
    rcases hi' with rfl | rfl | rfl
    · exact ⟨h0, h1, h2⟩
    · exact ⟨h3, h4, h5⟩
    · exact ⟨h6, h7, h8⟩
  · have hi' : i = 0 ∨ i = 1 ∨ i = 2 := by have : i < 3 := hi; omega
    rcases hi' with rfl | rfl | rfl
    · exact k1
    · exact k2
    · exact k3

end Go.Proofs.YtbkmgoffiigdbaaDoor
