import Derived.Test.YtbkmgoffiigdbaaDoorF
import Derived.Deep.OwnRows
import Derived.Deep.QuietTactic
import Derived.BigQuiet
import Derived.Deep.LoopGhost
namespace Go.Proofs.YtbkmgoffiigdbaaDoor
open Go.RowKit

def flowOf (g : PgR) (f : FnR) : Flow :=
  { n := f.n, pop := fun a => popD (f.op a) (g.f (f.ar a).toNat).p, push := fun a => pushD (f.op a), next := fun a => nextD a (f.op a) (f.ar a) }

/-- Sizes and instructions have been looked at. -/
def Good (g : PgR) (f : FnR) : Prop :=
  1 ≤ f.n ∧ f.n ≤ 60 ∧ (∀ i, i < g.n → 0 ≤ (g.f i).p ∧ (g.f i).p ≤ 8) ∧ ∀ j, j < f.n → legalB g.n f.l f.n (f.op j) (f.ar j) = true

theorem insideB_iff {n l g : Int} : insideB n l g = true ↔ l ≤ n ∧ n ≤ g := by simp [insideB]

theorem legal_op {nf nc : Nat} {l op x : Int} (h : legalB nf l nc op x = true) : 0 ≤ op ∧ op ≤ 27 := by
  unfold legalB at h
  repeat' split at h
  all_goals first | omega | (rw [Bool.and_eq_true, insideB_iff] at h; omega)
theorem legal_jump {nf nc : Nat} {l op x : Int} (h : legalB nf l nc op x = true) (ho : op = 12 ∨ op = 13) : 0 ≤ x ∧ x < nc := by
  unfold legalB at h
  rw [if_neg (by omega), if_neg (by omega), if_pos ho, insideB_iff] at h
  omega
theorem legal_call {nf nc : Nat} {l op x : Int} (h : legalB nf l nc op x = true) (ho : op = 14) : 0 ≤ x ∧ x < nf := by
  unfold legalB at h
  rw [if_neg (by omega), if_neg (by omega), if_neg (by omega), if_pos ho, insideB_iff] at h
  omega

theorem pushD_bd (op : Int) : 0 ≤ pushD op ∧ pushD op ≤ 2 := by unfold pushD; split <;> (try split) <;> omega
theorem popD_bd (op q : Int) (h : op = 14 → 0 ≤ q ∧ q ≤ 8) : 0 ≤ popD op q ∧ popD op q ≤ 8 := by
  unfold popD
  split
  · omega
  · split
    · omega
    · split
      · omega
      · split
        · exact h ‹_›
        · omega

theorem Good.pop_bd {g : PgR} {f : FnR} (h : Good g f) {a : Nat} (ha : a < f.n) : 0 ≤ (flowOf g f).pop a ∧ (flowOf g f).pop a ≤ 8 := by
  refine popD_bd _ _ fun ho => ?_
  have := legal_call (h.2.2.2 a ha) ho
  exact h.2.2.1 _ (by omega)

theorem pops_any (B : Nat) (g : PgR) (op x : Int) (w : World) (hB : B ≤ w.heap.size) (hg : PgIn B w g) (hx : op = 14 → 0 ≤ x ∧ x < g.n) :
    Calls Tryd.prog 68 #[.agg #[.slice g.a g.n g.c], .agg #[.int .i64 op, .int .i64 x]] w fun e w' => e = .returned (.int .i64 (popD op (g.f x.toNat).p)) ∧ Below w.heap.size w w' := by
  by_cases h : op = 14
  · obtain ⟨h0, h1⟩ := hx h
    obtain ⟨k, rfl⟩ := Int.eq_ofNat_of_zero_le h0
    obtain ⟨ha, hb, hc⟩ := hg.2.1 (by omega)
    subst h
    rw [ha, Int.toNat_natCast, show popD 14 (g.f k).p = (g.f k).p by simp [popD]]
    exact pops_call g.b g.o g.n g.c k _ w (by omega) (by omega) (hc k (by omega)).1
  · exact pops_plain _ _ _ _ _ _ w (beq_eq_false_iff_ne.2 h)

/-- What a round of heights has come to. 'Q': how far it has looked without finding anything new. -/
def Sp (F : Flow) (H H' : Nat → Int) (Q : Prop) (fr : Bool) : Prop :=
  (∀ a, a < F.n → -1 ≤ H' a ∧ H' a ≤ 10 ∧ (0 ≤ H' a → F.Reach a (H' a))) ∧ (∀ a, 0 ≤ H a → H' a = H a) ∧
    ((fr = false ∧ (∀ a, H' a = H a) ∧ Q) ∨ (fr = true ∧ left F.n H' < left F.n H))

theorem Sp.imp {F : Flow} {H H' : Nat → Int} {Q Q' : Prop} {fr : Bool} (h : Sp F H H' Q fr) (hq : (∀ a, H' a = H a) → Q → Q') : Sp F H H' Q' fr :=
  ⟨h.1, h.2.1, h.2.2.imp (fun ⟨a, b, c⟩ => ⟨a, b, hq b c⟩) id⟩

theorem Sp.set {F : Flow} {H H' : Nat → Int} {Q Q' : Prop} {fr : Bool} {c : Nat} {v : Int} (h : Sp F H H' Q fr) (hc : c < F.n) (hn : H' c < 0) (hv : 0 ≤ v) (hv' : v ≤ 10) (hr : F.Reach c v) :
    Sp F H (fun i => if i = c then v else H' i) Q' true := by
  refine ⟨fun a ha => ?_, fun a ha => ?_, Or.inr ⟨rfl, ?_⟩⟩
  · by_cases e : a = c
    · subst e; simp only [if_pos]; exact ⟨by omega, hv', fun _ => hr⟩
    · simp only [if_neg e]; exact h.1 a ha
  · have := h.2.1 a ha
    have hne : a ≠ c := by intro e; subst e; omega
    simp only [if_neg hne]; exact this
  · have h1 := left_set hc hn hv
    have h2 : left F.n H' ≤ left F.n H := by
      rcases h.2.2 with ⟨_, he, _⟩ | ⟨_, hl⟩
      · rw [show H' = H from funext he]; exact Nat.le_refl _
      · omega
    omega

def SpreadSay (F : Flow) (H : Nat → Int) (H' : Nat → Int) (fr ok : Bool) : Prop :=
  (ok = false ∧ ¬ F.Fits) ∨ (ok = true ∧ Sp F H H' (∀ a, a < F.n → 0 ≤ H a → F.Shut H a) fr)

theorem But.drewN {S : Nat → Prop} {a w : World} (h : But S a w) (n : Nat) : But S a (w.drewN n) := ⟨h.os, h.tape, h.output, h.size, h.block⟩

end Go.Proofs.YtbkmgoffiigdbaaDoor
