import Derived.Test.YtbkmgoffiigdbaaDoorMP
namespace Go.Proofs.YtbkmgoffiigdbaaDoor

/-! PLAIN: a body that was made is in order. -/

def rel (c : Int) : List (Int × Int × Int) :=
  if pickI c 1099511627776 % 18 < 8 then relV (pickI c 1099511627776 % 18).toNat (pickI c 1099511627776 / 18 % 9)
  else relO (pickI c 1099511627776 % 18 - 8).toNat (pickI c 1099511627776 / 18 % 9)

def absI (len : Nat) (t : Int × Int × Int) : Int × Int := (t.1, if t.1 = 13 then t.2.1 + len else t.2.1)

theorem pieceV_rel (k : Nat) (n : Int) (len : Nat) : pieceV k n len = (relV k n).map (absI len) := by
  unfold pieceV relV; repeat' split
  all_goals simp [absI]
  all_goals omega
theorem pieceO_rel (k : Nat) (n : Int) (len : Nat) : pieceO k n len = (relO k n).map (absI len) := by
  unfold pieceO relO guardL relG; repeat' split
  all_goals simp [absI]
  all_goals omega
theorem piece_rel (c : Int) (len : Nat) : piece c len = (rel c).map (absI len) := by
  unfold piece rel; split
  · exact pieceV_rel _ _ _
  · exact pieceO_rel _ _ _

theorem rel_ok (c : Int) : relOk (rel c) = true := by
  have hb : 0 ≤ pickI c 1099511627776 ∧ pickI c 1099511627776 < 1099511627776 := by unfold pickI; split <;> omega
  have hn : (((pickI c 1099511627776 / 18 % 9).toNat : Nat) : Int) = pickI c 1099511627776 / 18 % 9 := by omega
  unfold rel
  split
  · have h := List.all_eq_true.1 relV_ok (pickI c 1099511627776 % 18).toNat (List.mem_range.2 (by omega))
    have h' := List.all_eq_true.1 h (pickI c 1099511627776 / 18 % 9).toNat (List.mem_range.2 (by omega))
    simp only [hn] at h'
    exact h'
  · have h := List.all_eq_true.1 relO_ok (pickI c 1099511627776 % 18 - 8).toNat (List.mem_range.2 (by omega))
    have h' := List.all_eq_true.1 h (pickI c 1099511627776 / 18 % 9).toNat (List.mem_range.2 (by omega))
    simp only [hn] at h'
    exact h'

/-- The height ahead of a piece's place j. -/
def relH (p : List (Int × Int × Int)) (c : Nat) : Int := if c < p.length then (p.getD c (0, 0, 0)).2.2 else 0

/-- What is asked of one instruction: 'hb': the height behind it, as the place that follows has it. -/
structure InstrOk (op x : Int) (m : Nat) (h hn : Int) (H : Nat → Int) : Prop where
  h0 : 0 ≤ h
  hp : popD op 2 ≤ h
  ht : h - popD op 2 + pushD op ≤ 10
  no : op ≠ 12 ∧ op ≠ 15 ∧ op ≠ 27
  nx : hn = h - popD op 2 + pushD op
  jm : op = 13 → 0 ≤ x ∧ x ≤ m ∧ H x.toNat = h - popD op 2 + pushD op
  lg : op ≠ 13 → legalB 3 3 0 op x = true
  cl : op = 14 → x = 1

theorem rel_at {p : List (Int × Int × Int)} (h : relOk p = true) : 1 ≤ p.length ∧ p.length ≤ 7 ∧ relH p 0 = 0 ∧
    ∀ j, j < p.length → InstrOk (p.getD j (0, 0, 0)).1 (p.getD j (0, 0, 0)).2.1 p.length (relH p j) (relH p (j + 1)) (relH p) := by
  simp only [relOk, Bool.and_eq_true, decide_eq_true_eq] at h
  obtain ⟨hl, ha⟩ := h
  have hj := fun j (hj : j < p.length) => List.all_eq_true.1 ha j (List.mem_range.2 hj)
  refine ⟨hl.1, hl.2, ?_, fun j hjl => ?_⟩
  · have := hj 0 (by omega)
    simp only [Bool.and_eq_true, decide_eq_true_eq] at this
    unfold relH
    rw [if_pos (by omega)]
    exact this.1.1.2
  · have := hj j hjl
    simp only [Bool.and_eq_true, decide_eq_true_eq, beq_iff_eq] at this
    obtain ⟨⟨⟨⟨⟨⟨h1, h2⟩, h3⟩, h4⟩, h5⟩, h6⟩, h7⟩ := this
    have hr : relH p j = (p.getD j (0, 0, 0)).2.2 := by unfold relH; rw [if_pos hjl]
    refine ⟨by rw [hr]; exact h1, by rw [hr]; exact h2, by rw [hr]; exact h3, h4, by rw [hr]; exact h6, fun h13 => ?_, fun h13 => ?_, fun h14 => ?_⟩
    · rw [if_pos h13] at h7
      simp only [Bool.and_eq_true, decide_eq_true_eq, beq_iff_eq] at h7
      rw [hr]
      exact ⟨h7.1.1, h7.1.2, h7.2⟩
    · rw [if_neg h13] at h7
      simp only [Bool.and_eq_true] at h7
      exact h7.1
    · rw [if_neg (by omega)] at h7
      simp only [Bool.and_eq_true, Bool.or_eq_true, decide_eq_true_eq, beq_iff_eq] at h7
      rcases h7.2 with h | h
      · exact absurd h14 h
      · exact h

/-- The first m instructions are in order. -/
structure Seg (L : List (Int × Int)) (m : Nat) (H : Nat → Int) : Prop where
  z0 : H 0 = 0
  z2 : H 2 = 0
  zm : H m = 0
  m2 : 2 ≤ m
  ok : ∀ a, a < m → InstrOk (L.getD a (0, 0)).1 (L.getD a (0, 0)).2 m (H a) (H (a + 1)) H

theorem seg_zero : Seg [(0, 0), (3, 0)] 2 (fun a => if a = 1 then 1 else 0) := by
  refine ⟨rfl, rfl, rfl, Nat.le_refl _, fun a ha => ?_⟩
  obtain rfl | rfl : a = 0 ∨ a = 1 := by omega
  · refine ⟨by decide, by decide, by decide, by decide, by decide, fun h => by simp at h, fun _ => by decide, fun h => by simp at h⟩
  · refine ⟨by decide, by decide, by decide, by decide, by decide, fun h => by simp at h, fun _ => by decide, fun h => by simp at h⟩

theorem seg_step {L : List (Int × Int)} {H : Nat → Int} (h : Seg L L.length H) (c : Int) : ∃ H', Seg (L ++ piece c L.length) (L ++ piece c L.length).length H' := by
  obtain ⟨hp1, hp7, hp0, hpk⟩ := rel_at (rel_ok c)
  rw [piece_rel]
  generalize rel c = p at *
  have hlen : (L ++ p.map (absI L.length)).length = L.length + p.length := by simp
  rw [hlen]
  have hlo : ∀ c, c ≤ L.length → (if c < L.length then H c else relH p (c - L.length)) = H c := fun c hc => by
    by_cases e : c < L.length
    · rw [if_pos e]
    · obtain rfl : c = L.length := by omega
      rw [if_neg e, Nat.sub_self, hp0, h.zm]
  have hhi : ∀ j, (if L.length + j < L.length then H (L.length + j) else relH p (L.length + j - L.length)) = relH p j := fun j => by
    rw [if_neg (by omega), show L.length + j - L.length = j by omega]
  have h2 := h.m2
  refine ⟨fun c => if c < L.length then H c else relH p (c - L.length), ?_, ?_, ?_, by omega, fun a ha => ?_⟩
  · show (if 0 < L.length then _ else _) = _; rw [hlo 0 (by omega)]; exact h.z0
  · show (if 2 < L.length then _ else _) = _; rw [hlo 2 (by omega)]; exact h.z2
  · show (if L.length + p.length < L.length then _ else _) = _
    rw [hhi p.length]; unfold relH; rw [if_neg (by omega)]
  · by_cases e : a < L.length
    · have hk := h.ok a e
      have hg : (L ++ p.map (absI L.length)).getD a (0, 0) = L.getD a (0, 0) := by
        simp only [List.getD_eq_getElem?_getD]; rw [List.getElem?_append_left e]
      rw [hg]
      show InstrOk _ _ _ (if a < L.length then _ else _) (if a + 1 < L.length then _ else _) _
      rw [hlo a (by omega), hlo (a + 1) (by omega)]
      refine ⟨hk.h0, hk.hp, hk.ht, hk.no, hk.nx, fun h13 => ?_, hk.lg, hk.cl⟩
      obtain ⟨k1, k2, k3⟩ := hk.jm h13
      refine ⟨k1, by omega, ?_⟩
      show (if _ < L.length then _ else _) = _
      rw [hlo _ (by omega)]; exact k3
    · obtain ⟨j, rfl⟩ : ∃ j, a = L.length + j := ⟨a - L.length, by omega⟩
      have hj : j < p.length := by omega
      have hk := hpk j hj
      have hg : (L ++ p.map (absI L.length)).getD (L.length + j) (0, 0) = absI L.length (p.getD j (0, 0, 0)) := by
        simp only [List.getD_eq_getElem?_getD]
        rw [List.getElem?_append_right (by omega), show L.length + j - L.length = j by omega, List.getElem?_map, List.getElem?_eq_getElem hj]
        simp
      rw [hg]
      have hhi1 : (if L.length + j + 1 < L.length then H (L.length + j + 1) else relH p (L.length + j + 1 - L.length)) = relH p (j + 1) := hhi (j + 1)
      show InstrOk _ _ _ (if L.length + j < L.length then _ else _) (if L.length + j + 1 < L.length then _ else _) _
      rw [hhi j, hhi1]
      generalize p.getD j (0, 0, 0) = t at *
      refine ⟨hk.h0, hk.hp, hk.ht, hk.no, hk.nx, fun h13 => ?_, fun h13 => ?_, fun h14 => ?_⟩
      · have h13' : t.1 = 13 := h13
        obtain ⟨k1, k2, k3⟩ := hk.jm h13'
        simp only [absI, if_pos h13']
        refine ⟨by omega, by omega, ?_⟩
        have ht : (t.2.1 + (L.length : Int)).toNat = L.length + t.2.1.toNat := by omega
        rw [ht, hhi]
        exact k3
      · have h13' : t.1 ≠ 13 := h13
        simp only [absI, if_neg h13']
        exact hk.lg h13'
      · have h14' : t.1 = 14 := h14
        simp only [absI, if_neg (show ¬ t.1 = 13 by omega)]
        exact hk.cl h14'

theorem seg_body (R : Nat → Int) (i : Nat) : ∃ H, Seg (bodyTo R i) (bodyTo R i).length H := by
  induction i with
  | zero => exact ⟨_, seg_zero⟩
  | succ i ih => obtain ⟨H, h⟩ := ih; exact seg_step h (R i)

end Go.Proofs.YtbkmgoffiigdbaaDoor
