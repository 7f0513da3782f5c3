import Derived.Test.YtbkmgoffiigdbaaDoorNP
import Derived.Test.YtbkmgoffiigdbaaDoorQ
namespace Go.Proofs.YtbkmgoffiigdbaaDoor
open Go.RowKit Go.Sort

theorem info94 : (Tryd.prog.info? 99).map (fun i => (i.zero, i.size, i.bytes)) = some (some (.agg #[.int .u8 0, .slice none 0 0]), 2, 32) := by kernel_rfl

def freeOb : ObR := ⟨0, .slice none 0 0, []⟩

def HeapPost (n : Nat) (w : World) (e : Ending) (w' : World) : Prop :=
  ∃ b, e = .returned (.agg #[.slice (some ⟨b, 0, none⟩) n n, .slice none 0 0]) ∧ w'.ownsRow w.heap.size 99 2 (.slice (some ⟨b, 0, none⟩) n n) n ((List.replicate n freeOb).flatMap ObR.cells) ∧ Below w.heap.size w w'

theorem made_obs (n : Nat) : (madeCells #[.int .u8 0, .slice none 0 0] (n * 2)).toList = (List.replicate n freeOb).flatMap ObR.cells := by
  rw [made2]; induction n with
  | zero => rfl
  | succ n ih => rw [List.replicate_succ, List.replicate_succ, List.flatten_cons, ih]; rfl

set_option maxHeartbeats 1000000 in
theorem newHeap_any (n : Nat) (w : World) (hn : n ≤ 40) : Calls Tryd.prog 73 #[.int .i64 (n : Int)] w fun e w' => HeapPost n w e w' := by
  obtain ⟨i94, hi, hz, hsz, hby⟩ := info_parts info94
  have HMK : Hid (∀ W : World, (Instr.makeSlice 82 (.int .i64 (n : Int)) (.int .i64 (n : Int))).run Tryd.prog W = .ok (.slice (some ⟨W.heap.size, 0, none⟩) n n) (W.alloc (.cells (madeCells #[.int .u8 0, .slice none 0 0] (n * 2)) 99))) := by
    intro W
    have hr := run_make (P := Tryd.prog) W 82 99 i94 _ Tryd.underlying82 hi hz .i64 .i64 n n (by omega) (Int.le_refl _) (by rw [hby]; omega) (by omega)
    simpa [hsz, Value.cells] using hr
  have hmk := HMK.out
  clear hi hz hsz hby HMK
  go_enter Tryd.func73, Tryd.ntmps73
  go_wp2_with fail
  refine bodyPost_ret (v := .agg #[.slice (some ⟨w.heap.size + 1, 0, none⟩) n n, .slice none 0 0]) (by simp [results, Tryd.results73, go_sem]) rfl ⟨_, rfl, ?_, by repeat (first | exact Below.refl _ _ | refine Below.alloc ?_ (by first | (simp; done) | (simp; omega)) _)⟩
  have := World.ownsRow_lit (base := w.heap.size) (e := 99) (size := 2) (w.alloc (Obj.cells #[.slice (some ⟨w.heap.size + 1, 0, none⟩) n n, .slice none 0 0] 84)) (madeCells #[.int .u8 0, .slice none 0 0] (n * 2)) n (by simp) (by unfold maxLen; omega) (by rw [size_madeCells])
  rw [made_obs] at this
  simpa using this

def Same (g g' : PgR) : Prop := g'.n = g.n ∧ ∀ j, j < g.n → (g'.f j).p = (g.f j).p ∧ (g'.f j).l = (g.f j).l ∧ (g'.f j).n = (g.f j).n ∧ (g'.f j).op = (g.f j).op ∧ (g'.f j).ar = (g.f j).ar

structure Begun (g : PgR) (cap : Nat) (R : McR) : Prop where
  st : R.st = 0
  out : R.out = []
  frs : ∃ lv, R.frs = [⟨0, 0, lv, .slice none 0 0, List.replicate (g.f 0).l.toNat (0, 0), []⟩]
  obs : R.obs = List.replicate cap freeOb
  ov : R.ov = .slice none 0 0
  dr : R.dr = []

def beginOwn (mb hb : Nat) : Own := fun k => if k = mb then some .mach else if k = hb then some .slots else none

theorem machAt_begin {w4 : World} {g' : PgR} {hb cap base : Nat} (hpg : PgIn w4.heap.size w4 g') (ht : Tab w4) (hrow : w4.ownsRow base 99 2 (.slice (some ⟨hb, 0, none⟩) cap cap) cap ((List.replicate cap freeOb).flatMap ObR.cells)) (hne : ∀ k, g'.blk k → k ≠ hb) (h0 : hb ≠ 0) :
    MachAt (w4.alloc (Obj.cells #[.slice g'.a g'.n g'.c, .int .i64 0, .slice none 0 0, .slice none 0 0, .slice (some ⟨hb, 0, none⟩) cap cap, .slice none 0 0] 86)) (beginOwn w4.heap.size hb) w4.heap.size g'
      ⟨0, .slice none 0 0, [], .slice none 0 0, [], .slice (some ⟨hb, 0, none⟩) cap cap, List.replicate cap freeOb, .slice none 0 0, []⟩ := by
  have hhb : hb < w4.heap.size := (owns_cap hrow).2
  have hsz : (w4.alloc (Obj.cells #[.slice g'.a g'.n g'.c, .int .i64 0, .slice none 0 0, .slice none 0 0, .slice (some ⟨hb, 0, none⟩) cap cap, .slice none 0 0] 86)).heap.size = w4.heap.size + 1 := by simp
  have hblk : ∀ k, k < w4.heap.size → (w4.alloc (Obj.cells #[.slice g'.a g'.n g'.c, .int .i64 0, .slice none 0 0, .slice none 0 0, .slice (some ⟨hb, 0, none⟩) cap cap, .slice none 0 0] 86)).heap[k]? = w4.heap[k]? := fun k hk => Below.heap_alloc _ _ _ hk
  refine ⟨fun k t hk => ?_, by simp [beginOwn], by go_simp, by go_simp, by go_simp, by go_simp, by go_simp, fun j => by go_simp, ⟨World.ownsRow_nil _ _ _ _, fun b hb => by cases hb⟩, ⟨World.ownsRow_nil _ _ _ _, fun b hb => by cases hb⟩, ⟨?_, fun b hb' => ?_⟩, fun i f hf => by simp at hf, fun i f hf => by simp at hf, fun j o ho => ?_,
    hpg.held (by omega) fun k hk => hblk k (hpg.blk_lt hk), fun k hk => ?_, ht.held (by omega) (hblk 0 ht.1), ?_, by go_simp, ⟨World.ownsRow_nil _ _ _ _, fun b hb => by cases hb⟩⟩
  · unfold beginOwn at hk
    split at hk
    · omega
    · split at hk
      · omega
      · cases hk
  · have := owns_base (hrow.alloc (Obj.cells #[.slice g'.a g'.n g'.c, .int .i64 0, .slice none 0 0, .slice none 0 0, .slice (some ⟨hb, 0, none⟩) cap cap, .slice none 0 0] 86)) (Nat.zero_le _)
    simpa using this
  · obtain rfl : hb = b := by simpa [Value.ownBlock] using hb'
    unfold beginOwn
    rw [if_neg (by omega), if_pos rfl]
  · have : o = freeOb := by
      have := List.mem_of_getElem? ho
      simp at this; exact this.2
    subst this
    exact ⟨World.ownsRow_nil _ _ _ _, fun b hb => by cases hb⟩
  · have h1 := hpg.blk_lt hk
    have h2 := hne k hk
    unfold beginOwn
    rw [if_neg (by omega), if_neg h2]
  · have := ht.1
    unfold beginOwn
    rw [if_neg (by omega), if_neg (Ne.symm h0)]

def NewPost (g : PgR) (cap : Nat) (w : World) (e : Ending) (w' : World) : Prop :=
  ∃ own mb g' R, e = .returned (.tuple #[.pointer (some ⟨mb, 0, none⟩), .int .i64 0]) ∧ MachAt w' own mb g' R ∧ Begun g cap R ∧ Same g g' ∧ Below w.heap.size w w' ∧ ∀ k t, own k = some t → w.heap.size ≤ k

theorem Touched.below {own own' : Own} {w w' : World} (h : Touched own w own' w') {B : Nat} (hB : B ≤ w.heap.size) (hno : ∀ k, k < B → own k = none) : Below B w w' :=
  ⟨h.os, h.tape, h.output, h.size, fun k hk => h.block k (Nat.lt_of_lt_of_le hk hB) (hno k hk)⟩

set_option maxRecDepth 100000 in
set_option maxHeartbeats 4000000 in
theorem begin_any (g : PgR) (w : World) (hg : PgIn w.heap.size w g) (ht : Tab w) (hck : CheckIs g 0 0) (cap : Nat) (h1 : 1 ≤ cap) (h40 : cap ≤ 40) :
    Calls Tryd.prog 57 #[.agg #[.slice g.a g.n g.c], .int .i64 (cap : Int)] w fun e w' => NewPost g cap w e w' := by
  have hin : insideB (cap : Int) 1 40 = true := insideB_t (by omega) (by omega)
  have HCK : Hid (∀ W, Below w.heap.size w W → Calls Tryd.prog 32 #[.agg #[.slice g.a g.n g.c]] W fun e w' => e = .returned (.tuple #[.int .i64 0, .int .i64 0]) ∧ Below W.heap.size W w') := by
    intro W hW
    refine (check_any g W (hg.held hW.size fun k hk => hW.block k (hg.blk_lt hk)) (ht.held hW.size (hW.block 0 ht.1))).mono ?_
    rintro e w' ⟨x, a, rfl, hx, hb⟩
    obtain ⟨rfl, rfl⟩ := hx.unique hck
    exact ⟨rfl, hb⟩
  have HG := hid hg
  have HT := hid ht
  have HC := hid hck
  clear hg ht hck
  go_enter Tryd.func57, Tryd.ntmps57
  go_wp2_with (first | (go_at_call 32; refine (HCK.out _ ?_).mono ?_; exact (by repeat (first | exact Below.refl _ _ | refine Below.alloc ?_ (by first | (simp; done) | (simp; omega)) _)); rintro e w2 ⟨rfl, hb2⟩; obtain ⟨hcc, hff⟩ := bcell hb2) | (go_at_call 58; refine (within_any _ _ _ _).mono ?_; rintro e w' ⟨rfl, hw⟩; rw [hw]; clear hw w'))
  have hB2 : Below w.heap.size w w2 := below_via' hb2 (Below.alloc (Below.refl _ _) (Nat.le_refl _) _)
  have hg2 : PgIn w2.heap.size w2 g := HG.out.held hB2.size fun k hk => hB2.block k (HG.out.blk_lt hk)
  have ht2 : Tab w2 := HT.out.held hB2.size (hB2.block 0 HT.out.1)
  obtain ⟨hn1, hn8, hsz⟩ : AllSized g := by
    rcases HC.out with ⟨_, h⟩ | ⟨h, _⟩
    · cases h
    · exact h.all.1
  have hsz' : ∀ j, j < g.n → 1 ≤ (g.f j).n ∧ (g.f j).n ≤ 60 := fun j hj => by have := sized_bd (hsz j hj); omega
  have hl8 := sized_bd (hsz 0 (by omega))
  have HSZ := hid hsz'
  have HL8 := hid hl8
  refine (copyProgram_any g w2 hg2 hn1 hn8 hsz').mono ?_
  clear hcc hff hb2 hg2 hsz hsz' hl8
  rintro e w3 ⟨g', rfl, hpg, hblk, hb3, hgn, hsame⟩
  have HPG := hid hpg
  have HBLK := hid hblk
  have HB3 := hid hb3
  have HGN := hid hgn
  have HSAME := hid hsame
  have HB2 := hid hB2
  have HT2 := hid ht2
  clear hpg hblk hb3 hgn hsame hB2 ht2
  go_wp2_with fail
  refine (newHeap_any cap w3 h40).mono ?_
  rintro e w4 ⟨hb, rfl, hrow, hb4⟩
  have HROW := hid hrow
  have HB4 := hid hb4
  clear hrow hb4
  have hB34 : Below w2.heap.size w2 w4 := HB3.out.trans (HB4.out.mono HB3.out.size)
  have hpg4 : PgIn w4.heap.size w4 g' := HPG.out.held HB4.out.size fun k hk => HB4.out.block k (HPG.out.blk_lt hk)
  have ht4 : Tab w4 := HT2.out.held hB34.size (hB34.block 0 HT2.out.1)
  have hhb3 : w3.heap.size ≤ hb := by
    rcases HROW.out.2 with ⟨h0, _⟩ | ⟨_, _, _, hv, h1, _⟩
    · cases h0
    · cases hv; exact h1
  have hmach := machAt_begin hpg4 ht4 HROW.out (fun k hk => by have := HPG.out.blk_lt hk; omega) (by have := HPG.out.blk_lt (k := g'.b) (Or.inl ⟨by rw [HGN.out]; omega, rfl⟩); omega)
  have hBV : Below w.heap.size w (w4.alloc (Obj.cells #[.slice g'.a g'.n g'.c, .int .i64 0, .slice none 0 0, .slice none 0 0, .slice (some ⟨hb, 0, none⟩) cap cap, .slice none 0 0] 86)) := Below.alloc (HB2.out.trans (hB34.mono HB2.out.size)) (Nat.le_trans HB2.out.size hB34.size) _
  have hnew : ∀ k t, beginOwn w4.heap.size hb k = some t → w.heap.size ≤ k := fun k t hk => by
    have := HB2.out.size
    have := HB3.out.size
    have := HB4.out.size
    unfold beginOwn at hk
    split at hk
    · omega
    · split at hk
      · omega
      · cases hk
  have hs' := HSAME.out 0 (by omega)
  obtain ⟨ga, hgb, hfun⟩ := hmach.pg.2.1 (by rw [HGN.out]; omega)
  obtain ⟨q0, q1, q2⟩ := hfun 0 (by rw [HGN.out]; omega)
  have m0 := hmach.c0.trans (show _ = some (Value.slice (some ⟨g'.b, g'.o, none⟩) g'.n g'.c) by rw [ga])
  simp only [Nat.zero_mul, Nat.add_zero] at q0 q1 q2
  have hmlt : w4.heap.size < (w4.alloc (Obj.cells #[.slice g'.a g'.n g'.c, .int .i64 0, .slice none 0 0, .slice none 0 0, .slice (some ⟨hb, 0, none⟩) cap cap, .slice none 0 0] 86)).heap.size := by simp
  have HM := hid hmach
  have HBV := hid hBV
  have HNEW := hid hnew
  have HS := hid hs'
  have hgn1 : 0 < g'.n := by rw [HGN.out]; omega
  clear hB34 hpg4 ht4 hhb3 hmach hBV hnew hs' ga hfun HB4 HROW HPG HB3 HBLK HT2
  go_wp2_with fail
  generalize (w4.alloc (Obj.cells #[.slice g'.a g'.n g'.c, .int .i64 0, .slice none 0 0, .slice none 0 0, .slice (some ⟨hb, 0, none⟩) cap cap, .slice none 0 0] 86)) = V at *
  obtain ⟨l, hl⟩ := Int.eq_ofNat_of_zero_le (show 0 ≤ (g'.f 0).l by have := HL8.out; rw [HS.out.2.1]; omega)
  rw [hl] at q1
  have hl8 : l ≤ 8 := by have := HL8.out; have := HS.out.2.1; omega
  have HL := hid hl
  clear hl
  generalize w4.heap.size = mb at *
  have HEN : Hid (∀ U, MachAt U (beginOwn mb hb) mb g' ⟨0, .slice none 0 0, [], .slice none 0 0, [], .slice (some ⟨hb, 0, none⟩) cap cap, List.replicate cap freeOb, .slice none 0 0, []⟩ → Calls Tryd.prog 74 #[.pointer (some ⟨mb, 3, none⟩), .int .i64 0, .agg #[.int .i64 (g'.f 0).p, .int .i64 (l : Int), .slice (g'.f 0).a (g'.f 0).n (g'.f 0).c], .slice none 0 0] U fun e w' => AddPost (beginOwn mb hb) mb g' ⟨0, .slice none 0 0, [], .slice none 0 0, [], .slice (some ⟨hb, 0, none⟩) cap cap, List.replicate cap freeOb, .slice none 0 0, []⟩ 0 (List.replicate l (0, 0)) U e w') :=
    fun U hU => enter_nil hU 0 l (g'.f 0).p (g'.f 0).a (g'.f 0).n (g'.f 0).c hl8 (by simp)
  go_region_with (first | (go_at_call 74; refine (HEN.out _ ?_).mono ?_; exact HM.out.same (Nat.le_refl _) fun _ _ => rfl; rintro e w6 ⟨own', cv, lv, rfl, hm6, ht6⟩; have HM6 := hid hm6; have HT6 := hid ht6; clear hm6 ht6))
  all_goals
    go_wp2_with fail
    go_ret2
    have hbV : Below w.heap.size w w6 := (Below.drew HBV.out).trans (HT6.out.below HBV.out.size fun k hk => by
      cases e : beginOwn mb hb k with
      | none => rfl
      | some t => have := HNEW.out k t e; omega)
    exact ⟨own', mb, g', _, rfl, HM6.out, ⟨rfl, rfl, ⟨lv, by rw [← HS.out.2.1, HL.out]; rfl⟩, rfl, rfl, rfl⟩, ⟨HGN.out, HSAME.out⟩, hbV, fun k t hk => by
      rcases Nat.lt_or_ge k V.heap.size with hl | hl
      · rw [HT6.out.old k hl] at hk; exact HNEW.out k t hk
      · exact Nat.le_trans HBV.out.size hl⟩

end Go.Proofs.YtbkmgoffiigdbaaDoor
