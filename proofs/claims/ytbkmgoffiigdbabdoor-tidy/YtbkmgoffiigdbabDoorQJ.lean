import Derived.Test.YtbkmgoffiigdbabDoorQI
namespace Go.Proofs.YtbkmgoffiigdbabDoor
open Go.RowKit Go.Sort

/-! PLAIN: so many steps of that program. -/

def hPc (t : Nat) : Nat := if t < 5 then t else 5 + (t - 5) % 7
def hK (t : Nat) : Nat := if t < 11 then 0 else 1 + (t - 11) / 7

theorem hPc_next (t : Nat) : hPc (t + 1) = hNext (hPc t) := by unfold hPc hNext; split <;> split <;> split <;> omega
theorem hK_next (t : Nat) : hK (t + 1) = hOut (hK t) (hPc t) := by unfold hK hOut hPc; split <;> split <;> split <;> (try split at *) <;> omega

/-- Behind so many steps. -/
def HSt (held : Bool) (t : Nat) (s : McA) : Prop := (HAt held (hK t) (hPc t) s ∧ hK t ≤ 40) ∨ (HEnd held s ∧ 290 ≤ t)

theorem HSt.collect {held : Bool} {t : Nat} {s : McA} (h : HSt held t s) : HSt held t (collectA s) := by
  rcases h with ⟨h1, h2⟩ | ⟨h1, h2⟩
  · exact Or.inl ⟨h1.collect, h2⟩
  · exact Or.inr ⟨h1.collect, h2⟩

theorem HSt.step {held : Bool} {g : PgR} (hg : IsHold held g) {t : Nat} {s : McA} (h : HSt held t s) (h0 : s.st = 0) : HSt held (t + 1) (stepA g s) := by
  rcases h with ⟨h1, h2⟩ | ⟨h1, _⟩
  · rcases h1.step hg h2 with ⟨h3, h4⟩ | ⟨h3, h4, h5⟩
    · left
      rw [hPc_next, hK_next]
      refine ⟨h3, ?_⟩
      unfold hOut
      split
      · rename_i e; have := h4 e; omega
      · exact h2
    · right
      refine ⟨h5, ?_⟩
      unfold hK at h3
      unfold hPc at h4
      split at h3 <;> split at h4 <;> omega
  · rw [h1.st] at h0; simp at h0

theorem HSt.run {held : Bool} {g : PgR} (hg : IsHold held g) : ∀ (n : Nat) {t : Nat} {s : McA}, HSt held t s → HSt held (t + stepsA g n s) (runA g n s)
  | 0, _, _, h => h
  | n + 1, t, s, h => by
    rw [runA, stepsA]
    by_cases h0 : s.st = 0
    · rw [if_pos h0, if_pos h0]
      have := HSt.run hg n (h.step hg h0)
      rw [show t + (stepsA g n (stepA g s) + 1) = t + 1 + stepsA g n (stepA g s) by omega]
      exact this
    · rw [if_neg h0, if_neg h0]; exact h

theorem HSt.begin {held : Bool} {cap : Nat} (h : 3 ≤ cap) (dr : List Int) : HSt held 0 ⟨0, [], [⟨0, 0, List.replicate 2 (0, 0), []⟩], List.replicate cap (0, []), dr⟩ := by
  refine Or.inl ⟨⟨rfl, rfl, by simpa using h, _, _, rfl, rfl, rfl, fun j o ho => ?_⟩, by decide⟩
  have := List.mem_of_getElem? ho
  exact (List.mem_replicate.1 this).2

theorem HSt.state {held : Bool} {t : Nat} {s : McA} (h : HSt held t s) : s.st = 0 ∨ (s.st = 7 ∧ s.out.length = 40) := by
  rcases h with ⟨h1, _⟩ | ⟨h1, _⟩
  · exact Or.inl h1.st
  · exact Or.inr ⟨h1.st, by rw [h1.out]; simp⟩

theorem HSt.outs {held : Bool} {t : Nat} {s : McA} (h : HSt held t s) : s.out = List.replicate (min (hK t) 40) (truthI held) := by
  rcases h with ⟨h1, h2⟩ | ⟨h1, h2⟩
  · rw [h1.out, Nat.min_eq_left h2]
  · rw [h1.out, Nat.min_eq_right]
    unfold hK
    split <;> omega

theorem stepsA_all (g : PgR) : ∀ (n : Nat) (s : McA), (runA g n s).st = 0 → stepsA g n s = n
  | 0, _, _ => rfl
  | n + 1, s, h => by
    rw [runA] at h
    rw [stepsA]
    by_cases h0 : s.st = 0
    · rw [if_pos h0] at h ⊢
      rw [stepsA_all g n _ h]
    · rw [if_neg h0] at h; exact absurd h h0

end Go.Proofs.YtbkmgoffiigdbabDoor
