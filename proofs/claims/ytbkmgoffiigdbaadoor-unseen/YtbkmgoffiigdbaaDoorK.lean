import Derived.Test.YtbkmgoffiigdbaaDoorJ
namespace Go.Proofs.YtbkmgoffiigdbaaDoor
open Go.RowKit Go.Sort

def popT (k : Nat) : Int := if k = 14 then -1 else popD k 0
def nextT (k : Nat) : Int := if k = 12 then 1 else if k = 13 then 2 else if k = 15 ∨ k = 27 then 3 else 0
def takeT (k : Nat) : Nat := if k = 0 then 138 else if k = 2 ∨ k = 3 then 142 else if k = 12 ∨ k = 13 then 153 else if k = 14 then 156 else if k = 16 then 159 else if k = 19 ∨ k = 20 then 163 else 140

def doesL : List Nat := [139, 141, 143, 144, 145, 146, 147, 148, 149, 150, 151, 152, 154, 155, 157, 158, 160, 161, 162, 164, 165, 166, 167, 168, 169, 170, 171, 172]
def doT (k : Nat) : Nat := doesL.getD k 0

/-- The table of operations lies in block 0. -/
def Tab (w : World) : Prop := 0 < w.heap.size ∧ ∀ k, k < 28 → w.cell? ⟨0, k * 5, none⟩ = some (.int .i64 (popT k)) ∧ w.cell? ⟨0, k * 5 + 1, none⟩ = some (.int .i64 (pushD k)) ∧
  w.cell? ⟨0, k * 5 + 2, none⟩ = some (.int .i64 (nextT k)) ∧ w.cell? ⟨0, k * 5 + 3, none⟩ = some (.func (.func (takeT k)) #[] #[]) ∧
  w.cell? ⟨0, k * 5 + 4, none⟩ = some (.func (.func (doT k)) #[] #[])

theorem Tab.below {B : Nat} {w w' : World} (h : Tab w) (hB : 0 < B) (hb : Below B w w') : Tab w' :=
  ⟨Nat.lt_of_lt_of_le h.1 hb.size, fun k hk => by
    rw [hb.cell (p := ⟨0, k * 5, none⟩) hB, hb.cell (p := ⟨0, k * 5 + 1, none⟩) hB, hb.cell (p := ⟨0, k * 5 + 2, none⟩) hB, hb.cell (p := ⟨0, k * 5 + 3, none⟩) hB, hb.cell (p := ⟨0, k * 5 + 4, none⟩) hB]
    exact h.2 k hk⟩

theorem popsOf_any (B : Nat) (g : PgR) (k : Nat) (x : Int) (w : World) (hB : B ≤ w.heap.size) (hg : PgIn B w g) (ht : Tab w) (hk : k < 28) (hx : (k : Int) = 14 → 0 ≤ x ∧ x < g.n) :
    Calls Tryd.prog 77 #[.agg #[.slice g.a g.n g.c], .agg #[.int .i64 (k : Int), .int .i64 x]] w fun e w' => e = .returned (.int .i64 (popD k (g.f x.toNat).p)) ∧ Below w.heap.size w w' := by
  have hc := (ht.2 k hk).1
  by_cases h : k = 14
  · obtain ⟨h0, h1⟩ := hx (by omega)
    obtain ⟨y, rfl⟩ := Int.eq_ofNat_of_zero_le h0
    obtain ⟨ha, hb, hcell⟩ := hg.2.1 (by omega)
    subst h
    rw [ha, Int.toNat_natCast, show popD ((14 : Nat) : Int) (g.f y).p = (g.f y).p by simp [popD]]
    exact popsOf_call g.b g.o g.n g.c y _ w ht.1 (by omega) (by omega) (by simpa [popT] using hc) (hcell y (by omega)).1
  · have e : popD (k : Int) (g.f x.toNat).p = popT k := by
      unfold popT; rw [if_neg h]; unfold popD
      rw [if_neg (show ¬ (k : Int) = 14 by omega), if_neg (show ¬ (k : Int) = 14 by omega)]
    rw [e]
    refine popsOf_plain _ _ _ k x _ w ht.1 hk ?_ hc
    have hz : 0 ≤ popT k := by unfold popT; rw [if_neg h]; exact (popD_bd _ _ (fun _ => by omega)).1
    rw [bne_iff_ne]; omega

/-- What the walk has come to. -/
def Inv (F : Flow) (H : Nat → Int) (T : List Nat) : Prop :=
  (∀ a, a < F.n → -1 ≤ H a ∧ H a ≤ 10 ∧ (0 ≤ H a → F.Reach a (H a))) ∧ (∀ t, t ∈ T → t < F.n ∧ 0 ≤ H t)

def Ext (n : Nat) (H : Nat → Int) (T : List Nat) (H' : Nat → Int) (T' : List Nat) : Prop :=
  (∀ a, 0 ≤ H a → H' a = H a) ∧ (∀ t, t ∈ T → t ∈ T') ∧ (∀ a, a < n → 0 ≤ H' a → 0 ≤ H a ∨ a ∈ T') ∧ T'.length + left n H' ≤ T.length + left n H

theorem Ext.refl (n : Nat) (H : Nat → Int) (T : List Nat) : Ext n H T H T := ⟨fun _ _ => rfl, fun _ h => h, fun _ _ h => Or.inl h, Nat.le_refl _⟩
theorem Ext.trans {n : Nat} {H H' H'' : Nat → Int} {T T' T'' : List Nat} (h : Ext n H T H' T') (k : Ext n H' T' H'' T'') : Ext n H T H'' T'' :=
  ⟨fun a ha => by rw [k.1 a (by rw [h.1 a ha]; exact ha), h.1 a ha], fun t ht => k.2.1 t (h.2.1 t ht),
   fun a ha hz => (k.2.2.1 a ha hz).elim (fun h' => (h.2.2.1 a ha h').imp id (k.2.1 a)) Or.inr, Nat.le_trans k.2.2.2 h.2.2.2⟩

theorem come_step {F : Flow} {H H' : Nat → Int} {T T' : List Nat} {a c : Nat} {b v : Int} {ok : Bool} (hi : Inv F H T) (hr : F.Reach a b) (hc : c ∈ F.next a) (hv : F.behind a b = v) (h0 : 0 ≤ v) (h10 : v ≤ 10)
    (hs : ComeSay F.n H T c v H' T' ok) : (ok = false ∧ ¬ F.Fits) ∨ (ok = true ∧ Inv F H' T' ∧ Ext F.n H T H' T' ∧ c < F.n ∧ H' c = v) := by
  have hrc : F.Reach c v := hv ▸ Flow.reach_next hr hc
  rcases hs with ⟨rfl, hn⟩ | ⟨rfl, hn, h1, h2⟩ | ⟨rfl, hn, h1, h2, rfl, rfl⟩ | ⟨rfl, hn, h1, rfl, rfl⟩
  · exact Or.inl ⟨rfl, Flow.not_fits_past hr hc hn⟩
  · have := hi.1 c hn
    exact Or.inl ⟨rfl, Flow.not_fits_two hr hc (this.2.2 (by omega)) (by rw [hv]; exact h2)⟩
  · exact Or.inr ⟨rfl, hi, Ext.refl _ _ _, hn, h2⟩
  · refine Or.inr ⟨rfl, ⟨fun x hx => ?_, fun t ht => ?_⟩, ⟨fun x hx => ?_, fun t ht => List.mem_append_left _ ht, fun x hx hz => ?_, ?_⟩, hn, by simp⟩
    · by_cases e : x = c
      · subst e; simp only [if_pos]; exact ⟨by omega, h10, fun _ => hrc⟩
      · simp only [if_neg e]; exact hi.1 x hx
    · rcases List.mem_append.1 ht with ht | ht
      · obtain ⟨p, q⟩ := hi.2 t ht
        refine ⟨p, ?_⟩
        by_cases e : t = c
        · subst e; simpa using h0
        · simpa only [if_neg e] using q
      · obtain rfl : t = c := by simpa using ht
        exact ⟨hn, by simpa using h0⟩
    · have : x ≠ c := by intro e; subst e; omega
      simp only [if_neg this]
    · by_cases e : x = c
      · subst e; exact Or.inr (by simp)
      · simp only [if_neg e] at hz; exact Or.inl hz
    · have := left_set hn (show H c < 0 by omega) h0
      simp only [List.length_append, List.length_cons, List.length_nil]
      omega

theorem touch_below {w : World} {g : PgR} {f : FnR} {wb hb base : Nat} {H : Nat → Int} {T : List Nat} {tv : Value} (h : WalkAt w g f wb hb base H T tv) {B : Nat} (h1 : B ≤ wb) (h2 : B ≤ hb) : ∀ k, k < B → ¬ Touch wb hb tv k := by
  rintro k hk (rfl | rfl | he)
  · omega
  · omega
  · have := (h.own.lt k he).1; have := h.ltw; omega

def LeavePost (B : Nat) (g : PgR) (f : FnR) (wb hb base : Nat) (H : Nat → Int) (T : List Nat) (pc : Nat) (w : World) (e : Ending) (w' : World) : Prop :=
  ∃ ok H' T' tv', e = .returned (.bool ok) ∧ Below B w w' ∧ ((ok = false ∧ ¬ (flowOf g f).Fits) ∨ (ok = true ∧ WalkAt w' g f wb hb base H' T' tv' ∧ Inv (flowOf g f) H' T' ∧ Ext f.n H T H' T' ∧ (flowOf g f).Shut H' pc))
theorem leavePost_no {B : Nat} {g : PgR} {f : FnR} {wb hb base : Nat} {H : Nat → Int} {T : List Nat} {pc : Nat} {w : World} {e : Ending} {w' : World} (he : e = .returned (.bool false)) (hb' : Below B w w') (hn : ¬ (flowOf g f).Fits) :
    LeavePost B g f wb hb base H T pc w e w' := ⟨false, H, T, .slice none 0 0, he, hb', Or.inl ⟨rfl, hn⟩⟩
theorem leavePost_yes {B : Nat} {g : PgR} {f : FnR} {wb hb base : Nat} {H : Nat → Int} {T : List Nat} {pc : Nat} {w : World} {e : Ending} {w' : World} (H' : Nat → Int) (T' : List Nat) (tv' : Value) (he : e = .returned (.bool true)) (hb' : Below B w w')
    (hw : WalkAt w' g f wb hb base H' T' tv') (hi : Inv (flowOf g f) H' T') (hx : Ext f.n H T H' T') (hs : (flowOf g f).Shut H' pc) : LeavePost B g f wb hb base H T pc w e w' := ⟨true, H', T', tv', he, hb', Or.inr ⟨rfl, hw, hi, hx, hs⟩⟩

end Go.Proofs.YtbkmgoffiigdbaaDoor
