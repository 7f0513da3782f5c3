import Derived.Test.YtbkmgoffiigdbaaDoorG
import Derived.Test.YtbkmgoffiigdbaaDoorE
namespace Go.Proofs.YtbkmgoffiigdbaaDoor
open Go.RowKit

theorem info3' : (Tryd.prog.info? 3).map (fun i => (i.zero, i.size, i.bytes)) = some (some (.int .i64 0), 1, 8) := by kernel_rfl

def nums (T : List Nat) : List Value := T.map fun t : Nat => .int .i64 (t : Int)

/-- The walk through a function, as it lies in memory: its struct in block wb, its heights in block hb, what is to be left yet in a row from 'base' on. -/
structure WalkAt (w : World) (g : PgR) (f : FnR) (wb hb base : Nat) (H : Nat → Int) (T : List Nat) (tv : Value) : Prop where
  ne : wb ≠ hb
  ltw : wb < base
  lth : hb < base
  size : base ≤ w.heap.size
  c0 : w.cell? ⟨wb, 0, none⟩ = some (.slice g.a g.n g.c)
  c1 : w.cell? ⟨wb, 1, none⟩ = some (.slice f.a f.n f.c)
  c2 : w.cell? ⟨wb, 2, none⟩ = some (.slice (some ⟨hb, 0, none⟩) f.n f.n)
  c3 : w.cell? ⟨wb, 3, none⟩ = some tv
  fz : w.frozen? ⟨wb, 3, none⟩ = false
  row : w.rowIs hb 3 f.n (fun i => .int .i64 (H i))
  own : w.ownsRow base 3 1 tv T.length (nums T)

def Touch (wb hb : Nat) (tv : Value) (k : Nat) : Prop := k = wb ∨ k = hb ∨ tv.ownBlock = some k

theorem WalkAt.but {w w' : World} {g : PgR} {f : FnR} {wb hb base : Nat} {H : Nat → Int} {T : List Nat} {tv : Value} (h : WalkAt w g f wb hb base H T tv) (hb' : Below w.heap.size w w') : WalkAt w' g f wb hb base H T tv := by
  have hw : wb < w.heap.size := Nat.lt_of_lt_of_le h.ltw h.size
  have hh : hb < w.heap.size := Nat.lt_of_lt_of_le h.lth h.size
  refine ⟨h.ne, h.ltw, h.lth, Nat.le_trans h.size hb'.size, ?_, ?_, ?_, ?_, ?_, h.row.of_block (hb'.block hb hh), ?_⟩
  · rw [hb'.cell hw]; exact h.c0
  · rw [hb'.cell hw]; exact h.c1
  · rw [hb'.cell hw]; exact h.c2
  · rw [hb'.cell hw]; exact h.c3
  · rw [hb'.frozen hw]; exact h.fz
  · refine h.own.kept (row := none) ⟨hb'.os, hb'.tape, hb'.output, hb'.size, fun k hk _ => hb'.block k hk⟩ ?_
    cases hv : tv.ownBlock with
    | none => exact Or.inl rfl
    | some k => exact Or.inr (by simp)

def ComeSay (n : Nat) (H : Nat → Int) (T : List Nat) (pc : Nat) (height : Int) (H' : Nat → Int) (T' : List Nat) (ok : Bool) : Prop :=
  (ok = false ∧ n ≤ pc) ∨ (ok = false ∧ pc < n ∧ H pc ≠ -1 ∧ H pc ≠ height) ∨
  (ok = true ∧ pc < n ∧ H pc ≠ -1 ∧ H pc = height ∧ H' = H ∧ T' = T) ∨
  (ok = true ∧ pc < n ∧ H pc = -1 ∧ H' = (fun i => if i = pc then height else H i) ∧ T' = T ++ [pc])

def ComePost (g : PgR) (f : FnR) (wb hb base : Nat) (H : Nat → Int) (T : List Nat) (tv : Value) (pc : Nat) (height : Int) (w : World) (e : Ending) (w' : World) : Prop :=
  ∃ H' T' tv' ok, e = .returned (.bool ok) ∧ WalkAt w' g f wb hb base H' T' tv' ∧ ComeSay f.n H T pc height H' T' ok ∧ But (Touch wb hb tv) w w'
theorem comePost {g : PgR} {f : FnR} {wb hb base : Nat} {H : Nat → Int} {T : List Nat} {tv : Value} {pc : Nat} {height : Int} {w : World} {e : Ending} {w' : World} (H' : Nat → Int) (T' : List Nat) (tv' : Value) (ok : Bool)
    (he : e = .returned (.bool ok)) (hw : WalkAt w' g f wb hb base H' T' tv') (hs : ComeSay f.n H T pc height H' T' ok) (hb' : But (Touch wb hb tv) w w') : ComePost g f wb hb base H T tv pc height w e w' := ⟨H', T', tv', ok, he, hw, hs, hb'⟩

set_option maxRecDepth 100000 in
set_option maxHeartbeats 4000000 in
theorem come_any (g : PgR) (f : FnR) (wb hb base : Nat) (H : Nat → Int) (T : List Nat) (tv : Value) (pc : Nat) (height : Int) (w : World) (hw : WalkAt w g f wb hb base H T tv) (hT : T.length ≤ 60) :
    Calls Tryd.prog 89 #[.pointer (some ⟨wb, 0, none⟩), .int .i64 (pc : Int), .int .i64 height] w fun e w' => ComePost g f wb hb base H T tv pc height w e w' := by
  have c1 := hw.c1
  have c2 := hw.c2
  have c3 := hw.c3
  have fz := hw.fz
  have hww : wb < w.heap.size := Nat.lt_of_lt_of_le hw.ltw hw.size
  have hhw : hb < w.heap.size := Nat.lt_of_lt_of_le hw.lth hw.size
  by_cases hlt : pc < f.n
  · have kh := hw.row.cell hlt
    have kf := hw.row.frozen pc
    by_cases hm : H pc = -1
    · have hmb : (H pc == -1) = true := beq_iff_eq.2 hm
      have HM := (show Hid _ from hm); clear hm
      obtain ⟨i0, hi, hz0, hz1, hz2⟩ := info_parts info3'
      have hne := hw.ne
      go_enter Tryd.func89, Tryd.ntmps89
      go_wp2_with (at_builtin; refine wpList_append_own _ rfl (.tmp 33) (.tmp 35) 31 rfl base 3 i0 (.int .i64 0) 1 8 Tryd.underlying31 hi hz0 hz1 hz2 rfl (by decide) tv T.length (nums T) rfl ((ownsRow_setCell_below hw.own hw.lth _).alloc _) ⟨w.heap.size, 0, none⟩ 1 1 [.int .i64 (pc : Int)] rfl rfl ?c1 ?c2 ?c3 ?c4 ?c5 ?_)
      case c1 =>
        intro j u hj
        match j, hj with
        | 0, hj => simp at hj; subst hj; simp [Addr.add]; go_simp
      case c2 => intro u hu; simp at hu; subst hu; rfl
      case c3 => unfold maxLen; omega
      case c4 => omega
      case c5 => have := hw.size; simp; omega
      · intro v' w1 hown' hgrow _
        obtain ⟨gb, cap, hgv, hgb⟩ : ∃ gb cap, v' = .slice (some ⟨gb, 0, none⟩) (T.length + 1) cap ∧ base ≤ gb := by
          rcases hown'.2 with ⟨_, h0⟩ | ⟨gb, cap, _, hv, hgb, _⟩
          · omega
          · exact ⟨gb, cap, hv, hgb⟩
        subst hgv
        have hwne : ∀ k, k < base → some k ≠ tv.ownBlock := fun k hk e => by have := (hw.own.lt k e.symm).1; omega
        have d2 : w1.cell? ⟨wb, 2, none⟩ = some (.slice (some ⟨hb, 0, none⟩) f.n f.n) := hgrow.cell (by go_simp) (hwne wb hw.ltw)
        have d3 : w1.cell? ⟨wb, 3, none⟩ = some tv := hgrow.cell (by go_simp) (hwne wb hw.ltw)
        have d4 : w1.cell? ⟨hb, pc, none⟩ = some (.int .i64 height) := hgrow.cell (by go_simp) (hwne hb hw.lth)
        have dz : w1.frozen? ⟨wb, 3, none⟩ = false := by
          rw [World.frozen?_of_block (w' := w1) (hgrow.block wb (by simp; omega) (hwne wb hw.ltw))]; go_simp
        have d0 : w1.cell? ⟨wb, 0, none⟩ = some (.slice g.a g.n g.c) := hgrow.cell (by have := hw.c0; go_simp) (hwne wb hw.ltw)
        have d1 : w1.cell? ⟨wb, 1, none⟩ = some (.slice f.a f.n f.c) := hgrow.cell (by go_simp) (hwne wb hw.ltw)
        have hrow1 : w1.rowIs hb 3 f.n (fun i => .int .i64 (if i = pc then height else H i)) :=
          (((hw.row.set pc (.int .i64 height)).alloc (Obj.cells #[.int .i64 (pc : Int)] 3)).of_block (hgrow.block hb (by simp; omega) (hwne hb hw.lth))).congr (fun j _ => by by_cases e : j = pc <;> simp [e])
        have hbut1 : But (Touch wb hb tv) w w1 := (((But.refl _ w).setCell (p := ⟨hb, pc, none⟩) (Or.inl (Or.inr (Or.inl rfl))) (.int .i64 height)).alloc (Obj.cells #[.int .i64 (pc : Int)] 3)).trans
          ⟨hgrow.os, hgrow.tape, hgrow.output, hgrow.size, fun k hk hs => hgrow.block k hk (fun e => hs (Or.inr (Or.inr e.symm)))⟩
        have hsz1 : base ≤ w1.heap.size := Nat.le_trans hw.size (Nat.le_trans (by simp) hgrow.size)
        clear hgrow c1 c2 c3 kh kf fz
        go_wp2
        go_ret
        refine comePost (fun i => if i = pc then height else H i) (T ++ [pc]) (.slice (some ⟨gb, 0, none⟩) (T.length + 1) cap) true ?_ ⟨hne, hw.ltw, hw.lth, by simpa using hsz1, ?_, ?_, ?_, ?_, ?_, hrow1.setOther (by exact hne.symm) _, ?_⟩ (Or.inr (Or.inr (Or.inr ⟨rfl, hlt, HM.out, rfl, rfl⟩))) (hbut1.setCell (p := ⟨wb, 3, none⟩) (Or.inl (Or.inl rfl)) _)
        all_goals go_light
        · simp
        · go_simp
        · go_simp
        · go_simp
        · go_simp
        · go_simp
        · have := ownsRow_setCell_below hown' (a := ⟨wb, 3, none⟩) hw.ltw (.slice (some ⟨gb, 0, none⟩) (T.length + 1) cap)
          simpa [nums] using this
    · have hmb : (H pc == -1) = false := beq_eq_false_iff_ne.2 hm
      go_enter Tryd.func89, Tryd.ntmps89
      go_wp2
      go_ret
      refine comePost H T tv (H pc == height) rfl hw ?_ (But.refl _ _)
      cases hq : H pc == height
      · exact Or.inr (Or.inl ⟨rfl, hlt, hm, by simpa using hq⟩)
      · exact Or.inr (Or.inr (Or.inl ⟨rfl, hlt, hm, by simpa using hq, rfl, rfl⟩))
  · go_enter Tryd.func89, Tryd.ntmps89
    go_wp2
    go_ret
    exact comePost H T tv false rfl hw (Or.inl ⟨rfl, by omega⟩) (But.refl _ _)

end Go.Proofs.YtbkmgoffiigdbaaDoor
