import Derived.Test.YtbkmgoffiigdbabGreatDoorVXf
import Derived.Test.YtbkmgoffiigdbabGreatDoorVYa
import Derived.Laws.Shifts
import Derived.Test.YtbkmgoffiigdbabGreatDoorVZp
namespace Go.Proofs.YtbkmgoffiigdbabGreatDoor
open Go.RowKit Go.Sort

/-! A machine is read behind a fault: nothing is read. -/

/-- A reader that has met a fault. -/
def FA (W : World) (rb : Nat) (a : Option Addr) (c : Nat) (bs : List Int) : Prop := ∃ s, RdAt W rb a c bs s ∧ s.f = true

theorem FA.later {W V : World} {rb c : Nat} {a : Option Addr} {bs : List Int} (h : FA W rb a c bs) (hB : Below W.heap.size W V) : FA V rb a c bs := by
  obtain ⟨s, h, hf⟩ := h
  exact ⟨s, h.later hB, hf⟩
theorem FA.lt {W : World} {rb c : Nat} {a : Option Addr} {bs : List Int} (h : FA W rb a c bs) : rb < W.heap.size := by
  obtain ⟨s, h, hf⟩ := h
  exact h.lt
theorem FA.flag {W : World} {rb c : Nat} {a : Option Addr} {bs : List Int} (h : FA W rb a c bs) : W.cell? ⟨rb, 2, none⟩ = some (.bool true) := by
  obtain ⟨s, h, hf⟩ := h
  have := h.c2
  rw [hf] at this
  exact this

def FPost (rb : Nat) (a : Option Addr) (c : Nat) (bs : List Int) (v : Value) (W : World) (e : Ending) (w' : World) : Prop := e = .returned v ∧ FA w' rb a c bs ∧ Rd rb W w'

theorem rUpTo_fault {bs : List Int} {s : Rs} (h : s.f = true) (m : Int) : (rUpTo bs m s).1 = 0 ∧ (rUpTo bs m s).2.f = true := by
  have h2 := (fwd_upTo bs m s).f h
  refine ⟨?_, h2⟩
  unfold rUpTo at h2 ⊢
  simp only at h2 ⊢
  rw [h2]
  rfl

theorem upTo_f {W : World} {rb c : Nat} {a : Option Addr} {bs : List Int} (h : FA W rb a c bs) (most : Nat) (hm : most ≤ 9223372036854775807) :
    Calls Tryz.prog 80 #[.pointer (some ⟨rb, 0, none⟩), .int .i64 (most : Int)] W fun e w' => FPost rb a c bs (.int .i64 0) W e w' := by
  obtain ⟨s, h, hf⟩ := h
  refine (upTo_any h most hm).mono ?_
  rintro e w' ⟨rfl, h1, h2⟩
  obtain ⟨e1, e2⟩ := rUpTo_fault (bs := bs) hf (most : Int)
  rw [e1]
  exact ⟨rfl, ⟨_, h1, e2⟩, h2⟩

theorem must_f {W : World} {rb c : Nat} {a : Option Addr} {bs : List Int} (h : FA W rb a c bs) (hold : Bool) :
    Calls Tryz.prog 82 #[.pointer (some ⟨rb, 0, none⟩), .bool hold] W fun e w' => FPost rb a c bs (.tuple #[]) W e w' := by
  obtain ⟨s, h, hf⟩ := h
  refine (must_any h hold).mono ?_
  rintro e w' ⟨rfl, h1, h2⟩
  exact ⟨rfl, ⟨_, h1, (fwd_must s hold).f hf⟩, h2⟩

theorem atEnd_f {W : World} {rb c : Nat} {a : Option Addr} {bs : List Int} (h : FA W rb a c bs) :
    Calls Tryz.prog 84 #[.pointer (some ⟨rb, 0, none⟩)] W fun e w' => (∃ b, e = .returned (.bool b)) ∧ Below W.heap.size W w' := by
  obtain ⟨s, h, hf⟩ := h
  refine (atEnd_any h).mono ?_
  rintro e w' ⟨rfl, h1⟩
  exact ⟨⟨_, rfl⟩, h1⟩

set_option maxHeartbeats 1000000 in
theorem list117_none (rb : Nat) (W : World) : Calls Tryz.prog 117 #[.pointer (some ⟨rb, 0, none⟩), .int .i64 0, .func (.func 118) #[.pointer (some ⟨rb, 0, none⟩)] #[]] W fun e w' => e = .returned (.slice none 0 0) ∧ w' = W := by
  go_enter Tryz.func117, Tryz.ntmps117
  go_wp2_with fail
  go_loopw [7] (fun vl wr => vl = .slice none 0 0 ∧ wr = W) (fun _ _ => 0)
  case atStart => exact ⟨rfl, rfl⟩
  case round =>
    obtain ⟨rfl, rfl⟩ := hrel
    go_wp2_with fail
    go_ret
    exact ⟨rfl, rfl⟩

set_option maxHeartbeats 1000000 in
theorem objects_f {W : World} {rb c : Nat} {a : Option Addr} {bs : List Int} (h : FA W rb a c bs) :
    Calls Tryz.prog 83 #[.pointer (some ⟨rb, 0, none⟩)] W fun e w' => FPost rb a c bs (.slice none 0 0) W e w' := by
  have HN := hid (upTo_f h 40 (by decide))
  clear h
  go_enter Tryz.func83, Tryz.ntmps83
  go_wp2_with (first | (go_at_call 80; refine HN.out.mono ?_; rintro e w1 ⟨rfl, h1, h2⟩) | (go_at_call 117; refine (list117_none rb _).mono ?_; rintro e w2 ⟨rfl, hw⟩; rw [hw]; clear hw w2))
  go_ret
  exact ⟨rfl, h1, h2⟩

set_option maxRecDepth 100000 in
set_option maxHeartbeats 2000000 in
theorem frames_f {W : World} {rb c : Nat} {a : Option Addr} {bs : List Int} (h : FA W rb a c bs) (pa : Option Addr) (pn pc : Nat) :
    Calls Tryz.prog 81 #[.pointer (some ⟨rb, 0, none⟩), .agg #[.slice pa pn pc]] W fun e w' => FPost rb a c bs (.slice none 0 0) W e w' := by
  have hB0 : Below W.heap.size W (W.alloc (.cells #[.slice pa pn pc] 27)) := Below.alloc (Below.refl _ _) (Nat.le_refl _) _
  have HB0 := hid hB0
  have HU := hid (upTo_f (h.later hB0) 12 (by decide))
  simp only [show ((12 : Nat) : Int) = 12 from rfl] at HU
  clear h hB0
  go_enter Tryz.func81, Tryz.ntmps81
  go_wp2_with fail
  refine HU.out.mono ?_
  rintro e w1 ⟨rfl, h1, h2⟩
  have H1 := hid h1
  have H2 := hid ((Wrote.of_below HB0.out).trans h2)
  clear h1 h2 HU HB0
  go_wp2_with fail
  go_loopw [5, 6, 7] (fun vl vc vn wr => vl = .slice none 0 0 ∧ vc = .int .i64 0 ∧ vn = .int .i64 0 ∧ wr = w1) (fun _ _ _ _ => 0)
  case atStart => exact ⟨rfl, rfl, rfl, rfl⟩
  case round =>
    obtain ⟨rfl, rfl, rfl, rfl⟩ := hrel
    go_wp2_with fail
    go_ret
    exact ⟨rfl, H1.out, H2.out⟩

/-- What there is put out behind a fault: nothing. -/
theorem out_f {W : World} {rb c : Nat} {a : Option Addr} {bs : List Int} (h : FA W rb a c bs) :
    Calls Tryz.prog 111 #[.pointer (some ⟨rb, 0, none⟩)] W fun e w' => FPost rb a c bs (.slice none 0 0) W e w' := by
  obtain ⟨s, h, hf⟩ := h
  obtain ⟨e1, e2⟩ := rUpTo_fault (bs := bs) hf 40
  have e3 : rOut bs s = ([], (rUpTo bs 40 s).2) := by
    unfold rOut rInts
    rw [e1]
    exact rList_end (F := bs.length + 1) (by simp)
  refine (rout_any h).mono ?_
  rintro e w' ⟨v, ⟨rfl, h1, h2⟩, _, h4⟩
  rw [e3] at h1 h4
  rw [h4 rfl]
  exact ⟨rfl, ⟨_, h1, e2⟩, h2⟩

/-- All that stands while a machine is read behind a fault. -/
structure MmF (W w : World) (M rb : Nat) (a : Option Addr) (c : Nat) (bs : List Int) (g : PgR) : Prop where
  mm : MmAt w M g 0 (.slice none 0 0) (.slice none 0 0) (.slice none 0 0)
  rd : FA w rb a c bs
  wr : Wrote rb rb W w
  pg : PgIn w.heap.size w g
  tab : Tab w
  M0 : W.heap.size ≤ M
  gM : ∀ k, g.blk k → W.heap.size ≤ k ∧ k ≠ M

theorem MmF.next {W w w' : World} {M rb : Nat} {a : Option Addr} {c : Nat} {bs : List Int} {g : PgR} (h : MmF W w M rb a c bs g) (hl : rb < W.heap.size) (h0 : rb ≠ 0) (hr : FA w' rb a c bs) (hw : Wrote rb rb w w') : MmF W w' M rb a c bs g := by
  have := h.M0
  exact ⟨h.mm.kept hw.size (hw.block M h.mm.lt (by omega) (by omega)), hr, h.wr.trans hw, h.pg.wrote (fun k hk => by have := h.gM k hk; omega) hw, h.tab.wrote h0 hw, h.M0, h.gM⟩
theorem MmF.below {W w w' : World} {M rb : Nat} {a : Option Addr} {c : Nat} {bs : List Int} {g : PgR} (h : MmF W w M rb a c bs g) (hl : rb < W.heap.size) (h0 : rb ≠ 0) (hw : Below w.heap.size w w') : MmF W w' M rb a c bs g :=
  h.next hl h0 (h.rd.later hw) (Wrote.of_below hw)
theorem MmF.put {W w : World} {M rb : Nat} {a : Option Addr} {c : Nat} {bs : List Int} {g : PgR} {s0 : Rs} (hW : RdAt W rb a c bs s0) (h : MmF W w M rb a c bs g) (j : Nat) (v : Value) (hm : MmAt (w.setCell ⟨M, j, none⟩ v) M g 0 (.slice none 0 0) (.slice none 0 0) (.slice none 0 0)) : MmF W (w.setCell ⟨M, j, none⟩ v) M rb a c bs g := by
  have hM0 := h.M0
  have hz := h.tab.1
  have hWz := hW.lt
  obtain ⟨s, hrd, hf⟩ := h.rd
  refine ⟨hm, ⟨s, hW.setNew hrd hM0 j v, hf⟩, h.wr.setNew hM0 j v, h.pg.held (by simp) fun k hk => ?_, h.tab.held (by simp) ?_, hM0, h.gM⟩
  · exact heap_setCell_other _ _ _ _ (show k ≠ M from (h.gM k hk).2)
  · exact heap_setCell_other _ _ _ _ (show 0 ≠ M by omega)

/-- A machine with nothing in it. -/
def emptyR : McR := ⟨0, .slice none 0 0, [], .slice none 0 0, [], .slice none 0 0, [], .slice none 0 0, []⟩

theorem MmF.mach {W w : World} {M rb : Nat} {a : Option Addr} {c : Nat} {bs : List Int} {g : PgR} (h : MmF W w M rb a c bs g) (hl : rb < W.heap.size) : ∃ own, MachAt w own M g emptyR := by
  have hM0 := h.M0
  have hp : ∀ b t, IsPart M emptyR b t → t = .mach ∧ b = M := fun b t hp => by
    cases t with
    | mach => exact ⟨rfl, hp⟩
    | out => cases hp
    | called => cases hp
    | slots => cases hp
    | draws => cases hp
    | loc i => obtain ⟨f, hf, _⟩ := hp; simp [emptyR] at hf
    | stk i => obtain ⟨f, hf, _⟩ := hp; simp [emptyR] at hf
    | fld j => obtain ⟨f, hf, _⟩ := hp; simp [emptyR] at hf
  obtain ⟨own, hm, _⟩ := machAt_parts (w := w) (mb := M) (g := g) (R := emptyR) (fun b t t' h1 h2 => by rw [(hp b t h1).1, (hp b t' h2).1]) (fun b t h1 => by rw [(hp b t h1).2]; exact h.mm.lt)
    h.mm.c0 h.mm.c1 h.mm.c2 h.mm.c3 h.mm.c4 h.mm.c5 h.mm.z (World.ownsRow_nil _ _ _ _) (World.ownsRow_nil _ _ _ _) (World.ownsRow_nil _ _ _ _) (World.ownsRow_nil _ _ _ _) (fun i f hf => by simp [emptyR] at hf) (fun i f hf => by simp [emptyR] at hf) (fun i f hf => by simp [emptyR] at hf)
    h.pg (fun k hk t h1 => (h.gM k hk).2 (hp k t h1).2) h.tab (fun t h1 => by have := (hp 0 t h1).2; omega)
  exact ⟨own, hm⟩

theorem empty_in : PkIn emptyR := by
  refine ⟨by simp [emptyR], by simp [emptyR], fun q v l t hv => ?_, fun q v l t hv => ?_⟩ <;> rcases hv with ⟨i, f, hf, _⟩ | ⟨i, f, hf, _⟩ | ⟨j, o, ho, _⟩
  all_goals simp [emptyR] at *

set_option maxRecDepth 100000 in
set_option maxHeartbeats 4000000 in
theorem rmachine_bad {W : World} {rb c : Nat} {a : Option Addr} {bs : List Int} {s : Rs} (h : RdAt W rb a c bs s) (ht : Tab W) (h0 : rb ≠ 0) (hbad : ∀ g x y, PgIs g (rProg bs s).1 → CheckIs g x y → (rMust (rProg bs s).2 (x == 0)).f = true) :
    Calls Tryz.prog 51 #[.pointer (some ⟨rb, 0, none⟩)] W fun e w' => ∃ mb, FPost rb a c bs (.pointer (some ⟨mb, 0, none⟩)) W e w' := by
  have hlt := h.lt
  have HW := hid h
  have HP := hid (rprogram_any h ht h0)
  have HT := hid ht
  have HCK := hid hbad
  clear h ht hbad
  go_enter Tryz.func51, Tryz.ntmps51
  go_wp2_with fail
  refine HP.out.mono ?_
  rintro e w1 ⟨g, x, y, ⟨rfl, h1, h2⟩, hpi, hbl, his, hck⟩
  have hfa : FA w1 rb a c bs := ⟨_, h1, HCK.out g x y his hck⟩
  have hB1 : Below w1.heap.size w1 (w1.alloc (.cells #[.slice g.a g.n g.c, .int .i64 0, .slice none 0 0, .slice none 0 0, .slice none 0 0, .slice none 0 0] 81)) := Below.alloc (Below.refl _ _) (Nat.le_refl _) _
  have hW1 := (h2.trans (Wrote.of_below hB1) : Wrote rb rb W _)
  have hs1 : W.heap.size ≤ w1.heap.size := h2.size
  have S1 : Hid (MmF W (w1.alloc (.cells #[.slice g.a g.n g.c, .int .i64 0, .slice none 0 0, .slice none 0 0, .slice none 0 0, .slice none 0 0] 81)) w1.heap.size rb a c bs g) :=
    hid ⟨⟨by go_simp, by go_simp, by go_simp, by go_simp, by go_simp, by go_simp, fun j => by go_simp, by simp⟩, hfa.later hB1, hW1, hpi.held hB1.size (fun k hk => hB1.block k (hpi.blk_lt hk)), HT.out.wrote h0 hW1, hs1, fun k hk => ⟨hbl k hk, by have := hpi.blk_lt hk; omega⟩⟩
  have HU := hid (upTo_f S1.out.rd 7 (by decide))
  simp only [show ((7 : Nat) : Int) = 7 from rfl] at HU
  clear h1 h2 hpi hbl his hck hB1 hW1 HP HCK hfa
  go_wp2_with fail
  refine HU.out.mono ?_
  rintro e w2 ⟨rfl, h3, h4⟩
  have S2 := hid (S1.out.next hlt h0 h3 h4)
  clear h3 h4 HU S1
  have hM0 := S2.out.M0
  have hMr : w1.heap.size ≠ rb := by omega
  have y1 := S2.out.mm.c1
  have z1 := S2.out.mm.z 1
  have l2 := S2.out.mm.lt
  obtain ⟨s2, hr2, _⟩ := S2.out.rd
  have c5 := hr2.c5
  have lr := hr2.lt
  clear hr2
  have S3 := hid (S2.out.put HW.out 1 (.int .i64 0) (S2.out.mm.set1 0))
  have HO := hid (out_f S3.out.rd)
  go_wp2_with fail
  refine HO.out.mono ?_
  rintro e w4 ⟨rfl, h5, h6⟩
  have S4 := hid (S3.out.next hlt h0 h5 h6)
  clear h5 h6 HO y1 z1 l2 c5 lr S3 S2
  have y2 := S4.out.mm.c2
  have z2 := S4.out.mm.z 2
  have l4 := S4.out.mm.lt
  have y0 := S4.out.mm.c0
  have lr := S4.out.rd.lt
  have S5 := hid (S4.out.put HW.out 2 (.slice none 0 0) (S4.out.mm.set2 _))
  have HF := hid (frames_f S5.out.rd g.a g.n g.c)
  go_wp2_with fail
  refine HF.out.mono ?_
  rintro e w6 ⟨rfl, h7, h8⟩
  have S6 := hid (S5.out.next hlt h0 h7 h8)
  clear h7 h8 HF y2 z2 l4 y0 lr S5 S4
  have y3 := S6.out.mm.c3
  have z3 := S6.out.mm.z 3
  have l6 := S6.out.mm.lt
  have y1 := S6.out.mm.c1
  have lr := S6.out.rd.lt
  have S7 := hid (S6.out.put HW.out 3 (.slice none 0 0) (S6.out.mm.set3 _))
  go_wp2_with fail
  generalize w6.setCell ⟨w1.heap.size, 3, none⟩ (.slice none 0 0) = w7 at *
  clear y3 z3 l6 y1 lr S6
  have y1 := S7.out.mm.c1
  have y3 := S7.out.mm.c3
  have l7 := S7.out.mm.lt
  have HRE : Hid (∀ V, Below w7.heap.size w7 V → FA V rb a c bs) := hid fun V hV => S7.out.rd.later hV
  go_region_held3 (fun u => u.cell? ⟨w1.heap.size, 1, none⟩ = some (.int .i64 0) ∧ u.cell? ⟨w1.heap.size, 3, none⟩ = some (.slice none 0 0)) (first | go_keep | exact ⟨y1, y3⟩ | exact ⟨s1, s3⟩) (first | (go_at_call 82; refine (must_f (HRE.out _ (by repeat (first | exact Below.refl _ _ | refine Below.drew ?_ | refine Below.drewQ ?_ _))) _).mono ?_; rintro e w8 ⟨rfl, h9, h10⟩; have S8 := hid ((S7.out.below hlt h0 (by repeat (first | exact Below.refl _ _ | refine Below.drew ?_ | refine Below.drewQ ?_ _))).next hlt h0 h9 h10); have s1 := S8.out.mm.c1; have s3 := S8.out.mm.c3; clear h9 h10))
  rename_i hHeld
  clear hHeld s1 s3 y1 y3 l7 S7 HRE
  have HO := hid (objects_f S8.out.rd)
  go_wp2_with fail
  refine HO.out.mono ?_
  rintro e w9 ⟨rfl, h11, h12⟩
  have S9 := hid (S8.out.next hlt h0 h11 h12)
  clear h11 h12 HO S8
  have y4 := S9.out.mm.c4
  have z4 := S9.out.mm.z 4
  have l9 := S9.out.mm.lt
  have lr := S9.out.rd.lt
  have S10 := hid (S9.out.put HW.out 4 (.slice none 0 0) (S9.out.mm.set4 _))
  go_wp2_with fail
  generalize w9.setCell ⟨w1.heap.size, 4, none⟩ (.slice none 0 0) = w10 at *
  clear y4 z4 l9 lr S9
  have HAE : Hid (∀ V, Below w10.heap.size w10 V → Calls Tryz.prog 84 #[.pointer (some ⟨rb, 0, none⟩)] V fun e w' => (∃ b, e = .returned (.bool b)) ∧ Below V.heap.size V w') := hid fun V hV => atEnd_f (S10.out.rd.later hV)
  go_region_with (first | (go_at_call 84; refine (HAE.out _ (by repeat (first | exact Below.refl _ _ | refine Below.drew ?_ | refine Below.drewQ ?_ _))).mono ?_; rintro e w11 ⟨⟨b0, rfl⟩, hb11⟩; have HB11 : Hid (Below w10.heap.size w10 w11) := below_via' hb11 (by repeat (first | exact Below.refl _ _ | refine Below.drew ?_ | refine Below.drewQ ?_ _)); clear hb11) | (go_at_call 82; refine (must_f (S10.out.rd.later HB11.out) _).mono ?_; rintro e w12 ⟨rfl, h13, h14⟩; have S12 := hid ((S10.out.below hlt h0 HB11.out).next hlt h0 h13 h14); clear h13 h14))
  all_goals
    obtain ⟨own, hmach⟩ := S12.out.mach hlt
    have HIP : Hid (∀ V, Below w12.heap.size w12 V → Calls Tryz.prog 85 #[.pointer (some ⟨w1.heap.size, 0, none⟩)] V fun e w' => ∃ b, e = .returned (.bool b) ∧ Below V.heap.size V w') := hid fun V hV => (isPacked_any (hmach.same hV.size fun k hk => hV.block k hk) empty_in (fun ha => by have h9 := aliveFree_le (empty_in.free ha); have h8 : emptyR.obs.length = 0 := rfl; omega)).mono fun e w' ⟨b, h1, h2, _⟩ => ⟨b, h1, h2⟩
    clear hmach HAE HB11 S10
    go_wp2_with fail
    go_region_with (first | (go_at_call 85; refine (HIP.out _ (by repeat (first | exact Below.refl _ _ | refine Below.drew ?_ | refine Below.drewQ ?_ _))).mono ?_; rintro e w13 ⟨b, rfl, hb13⟩; have HB13 : Hid (Below w12.heap.size w12 w13) := below_via' hb13 (by repeat (first | exact Below.refl _ _ | refine Below.drew ?_ | refine Below.drewQ ?_ _)); clear hb13) | (go_at_call 82; refine (must_f (S12.out.rd.later HB13.out) _).mono ?_; rintro e w14 ⟨rfl, h15, h16⟩; have H15 := hid h15; have H16 := hid h16; clear h15 h16))
  all_goals
    go_wp2_with fail
    go_ret
    exact ⟨w1.heap.size, rfl, H15.out, (S12.out.wr.trans (Wrote.of_below HB13.out)).trans H16.out⟩

end Go.Proofs.YtbkmgoffiigdbabGreatDoor

namespace Go.Proofs.YtbkmgoffiigdbabGreatDoor
open Go.RowKit Go.Sort

/-! The older version: numbers of four bytes. PLAIN, and the reader. -/

def shl32 (x : Int) (k : Nat) : Int := x * 2 ^ k % 4294967296
def rFourN (bs : List Int) : Nat → Rs → Int → Nat → Int × Rs
  | 0, s, n, _ => (n, s)
  | m + 1, s, n, k => rFourN bs m (rNext bs s).2 (bits .or .u32 n (shl32 (rNext bs s).1 k)) (k + 8)
def rFour (bs : List Int) (s : Rs) : Int × Rs := rFourN bs 4 s 0 0
def rNumO (bs : List Int) (s : Rs) : Int × Rs := ((rFour bs s).1, rMust (rFour bs s).2 (decide ((rFour bs s).1 ≤ 2147483647)))
def rIntO (bs : List Int) (s : Rs) : Int × Rs := (if (rFour bs s).1 < 2147483648 then (rFour bs s).1 else (rFour bs s).1 - 4294967296, (rFour bs s).2)

theorem or32_bd (a b : Int) : 0 ≤ bits .or .u32 a b ∧ bits .or .u32 a b < 4294967296 := by
  have := bits_within .or .u32 a b
  have e1 : IntKind.u32.min = 0 := rfl
  have e2 : IntKind.u32.max = 4294967295 := rfl
  rw [e1, e2] at this
  omega
theorem rFourN_bd (bs : List Int) : ∀ (m : Nat) (s : Rs) (n : Int) (k : Nat), 0 ≤ n ∧ n < 4294967296 → 0 ≤ (rFourN bs m s n k).1 ∧ (rFourN bs m s n k).1 < 4294967296
  | 0, _, _, _, h => h
  | m + 1, _, _, _, _ => rFourN_bd bs m _ _ _ (or32_bd _ _)
theorem rFour_bd (bs : List Int) (s : Rs) : 0 ≤ (rFour bs s).1 ∧ (rFour bs s).1 < 4294967296 := by
  rw [rFour]
  exact rFourN_bd bs 4 s 0 0 ⟨by decide, by decide⟩
theorem rNum_bdO {bs : List Int} (_h : ∀ x, x ∈ bs → 0 ≤ x ∧ x < 256) (s : Rs) : 0 ≤ (rNumO bs s).1 ∧ (rNumO bs s).1 < 18446744073709551616 := by
  have := rFour_bd bs s
  unfold rNumO
  simp only
  omega
theorem rInt_bdO {bs : List Int} (_h : ∀ x, x ∈ bs → 0 ≤ x ∧ x < 256) (s : Rs) : I64 (rIntO bs s).1 := by
  have := rFour_bd bs s
  unfold rIntO I64
  simp only
  split <;> omega
theorem fwd_fourN (bs : List Int) : ∀ (m : Nat) (s : Rs) (n : Int) (k : Nat), Fwd s (rFourN bs m s n k).2
  | 0, s, _, _ => Fwd.refl s
  | m + 1, s, _, _ => (fwd_next bs s).trans (fwd_fourN bs m _ _ _)
theorem fwd_four (bs : List Int) (s : Rs) : Fwd s (rFour bs s).2 := by
  rw [rFour]
  exact fwd_fourN bs 4 s 0 0
theorem rNumO_2 (bs : List Int) (s : Rs) : (rNumO bs s).2 = rMust (rFour bs s).2 (decide ((rFour bs s).1 ≤ 2147483647)) := by rw [rNumO]
theorem rIntO_2 (bs : List Int) (s : Rs) : (rIntO bs s).2 = (rFour bs s).2 := by rw [rIntO]
theorem fwd_numO (bs : List Int) (s : Rs) : Fwd s (rNumO bs s).2 := by
  rw [rNumO_2]
  exact (fwd_four bs s).trans (fwd_must _ _)
theorem fwd_intO (bs : List Int) (s : Rs) : Fwd s (rIntO bs s).2 := by
  rw [rIntO_2]
  exact fwd_four bs s
theorem rFour_eq (bs : List Int) (s : Rs) : rFour bs s = rFourN bs 3 (rNext bs s).2 (bits .or .u32 0 (shl32 (rNext bs s).1 0)) (0 + 8) := by
  rw [rFour, rFourN]
theorem takes_four (bs : List Int) (s : Rs) : Takes s (rFour bs s).2 := by
  rw [rFour_eq]
  exact (takes_next bs s).then (fwd_fourN bs 3 _ _ _)
theorem takes_numO (bs : List Int) (s : Rs) : Takes s (rNumO bs s).2 := by
  rw [rNumO_2]
  exact (takes_four bs s).then (fwd_must _ _)
theorem takes_intO (bs : List Int) (s : Rs) : Takes s (rIntO bs s).2 := by
  rw [rIntO_2]
  exact takes_four bs s

def rUpToO (bs : List Int) (most : Int) (s : Rs) : Int × Rs := (if (rMust (rNumO bs s).2 (decide ((rNumO bs s).1 ≤ most))).f then 0 else (rNumO bs s).1, rMust (rNumO bs s).2 (decide ((rNumO bs s).1 ≤ most)))
def rCountO (bs : List Int) (s : Rs) : Int × Rs := rUpToO bs 9223372036854775807 s
structure RdAtO (W : World) (rb : Nat) (a : Option Addr) (c : Nat) (bs : List Int) (s : Rs) : Prop where
  c0 : W.cell? ⟨rb, 0, none⟩ = some (.slice a bs.length c)
  c1 : W.cell? ⟨rb, 1, none⟩ = some (.int .i64 (s.p : Int))
  c2 : W.cell? ⟨rb, 2, none⟩ = some (.bool s.f)
  c3 : W.cell? ⟨rb, 3, none⟩ = some (.func (.func 104) #[] #[])
  c4 : W.cell? ⟨rb, 4, none⟩ = some (.func (.func 105) #[] #[])
  c5 : W.cell? ⟨rb, 5, none⟩ = some (.func (.func 106) #[] #[])
  c6 : W.cell? ⟨rb, 6, none⟩ = some (.func (.func 107) #[] #[])
  c7 : W.cell? ⟨rb, 7, none⟩ = some (.func (.func 108) #[] #[])
  z : ∀ j, W.frozen? ⟨rb, j, none⟩ = false
  bytes : BytesAt W a bs
  ne : ∀ b o, a = some ⟨b, o, none⟩ → b ≠ rb
  lt : rb < W.heap.size
  rng : ∀ x, x ∈ bs → 0 ≤ x ∧ x < 256
  len : bs.length ≤ 20000
  pos : s.p ≤ bs.length

theorem RdAtO.held {W V : World} {rb c : Nat} {a : Option Addr} {bs : List Int} {s : Rs} (h : RdAtO W rb a c bs s) (hs : W.heap.size ≤ V.heap.size) (hb : ∀ k, k < W.heap.size → V.heap[k]? = W.heap[k]?) : RdAtO V rb a c bs s := by
  have e := hb rb h.lt
  have hc : ∀ j, V.cell? ⟨rb, j, none⟩ = W.cell? ⟨rb, j, none⟩ := fun j => World.cell?_of_block (w := W) (a := ⟨rb, j, none⟩) e
  refine ⟨(hc 0).trans h.c0, (hc 1).trans h.c1, (hc 2).trans h.c2, (hc 3).trans h.c3, (hc 4).trans h.c4, (hc 5).trans h.c5, (hc 6).trans h.c6, (hc 7).trans h.c7, fun j => (World.frozen?_of_block (w := W) (a := ⟨rb, j, none⟩) e).trans (h.z j), fun h0 => ?_, h.ne, Nat.lt_of_lt_of_le h.lt hs, h.rng, h.len, h.pos⟩
  obtain ⟨b, o, e, hbl, hc⟩ := h.bytes h0
  exact ⟨b, o, e, Nat.lt_of_lt_of_le hbl hs, fun i x hx => by rw [World.cell?_of_block (w := W) (a := ⟨b, o + i, none⟩) (hb b hbl)]; exact hc i x hx⟩
theorem RdAtO.later {W V : World} {rb c : Nat} {a : Option Addr} {bs : List Int} {s : Rs} (h : RdAtO W rb a c bs s) (hB : Below W.heap.size W V) : RdAtO V rb a c bs s := h.held hB.size fun k hk => hB.block k hk

/-- The reader goes on. -/
theorem RdAtO.setP {W : World} {rb c : Nat} {a : Option Addr} {bs : List Int} {s : Rs} (h : RdAtO W rb a c bs s) (q : Nat) (hq : q ≤ bs.length) : RdAtO (W.setCell ⟨rb, 1, none⟩ (.int .i64 (q : Int))) rb a c bs ⟨q, s.f⟩ := by
  have hc : ∀ j, j ≠ 1 → (W.setCell ⟨rb, 1, none⟩ (.int .i64 (q : Int))).cell? ⟨rb, j, none⟩ = W.cell? ⟨rb, j, none⟩ := fun j hj => World.cell?_setCell_other _ _ _ _ (fun e => hj (by injection e with e1 e2; exact e2.symm))
  refine ⟨(hc 0 (by decide)).trans h.c0, World.cell?_setCell_same _ _ _ h.c1, (hc 2 (by decide)).trans h.c2, (hc 3 (by decide)).trans h.c3, (hc 4 (by decide)).trans h.c4, (hc 5 (by decide)).trans h.c5, (hc 6 (by decide)).trans h.c6, (hc 7 (by decide)).trans h.c7, fun j => (World.frozen?_setCell _ _ _ _).trans (h.z j), fun h0 => ?_, h.ne, by simpa using h.lt, h.rng, h.len, hq⟩
  obtain ⟨b, o, e, hbl, hx⟩ := h.bytes h0
  exact ⟨b, o, e, by simpa using hbl, fun i x hi => by rw [World.cell?_setCell_far _ _ _ _ (by exact Ne.symm (h.ne b o e))]; exact hx i x hi⟩
theorem RdAtO.setF {W : World} {rb c : Nat} {a : Option Addr} {bs : List Int} {s : Rs} (h : RdAtO W rb a c bs s) : RdAtO (W.setCell ⟨rb, 2, none⟩ (.bool true)) rb a c bs ⟨s.p, true⟩ := by
  have hc : ∀ j, j ≠ 2 → (W.setCell ⟨rb, 2, none⟩ (.bool true)).cell? ⟨rb, j, none⟩ = W.cell? ⟨rb, j, none⟩ := fun j hj => World.cell?_setCell_other _ _ _ _ (fun e => hj (by injection e with e1 e2; exact e2.symm))
  refine ⟨(hc 0 (by decide)).trans h.c0, (hc 1 (by decide)).trans h.c1, World.cell?_setCell_same _ _ _ h.c2, (hc 3 (by decide)).trans h.c3, (hc 4 (by decide)).trans h.c4, (hc 5 (by decide)).trans h.c5, (hc 6 (by decide)).trans h.c6, (hc 7 (by decide)).trans h.c7, fun j => (World.frozen?_setCell _ _ _ _).trans (h.z j), fun h0 => ?_, h.ne, by simpa using h.lt, h.rng, h.len, h.pos⟩
  obtain ⟨b, o, e, hbl, hx⟩ := h.bytes h0
  exact ⟨b, o, e, by simpa using hbl, fun i x hi => by rw [World.cell?_setCell_far _ _ _ _ (by exact Ne.symm (h.ne b o e))]; exact hx i x hi⟩

/-- A question to the reader ends so. -/
def RdPostO (rb : Nat) (a : Option Addr) (c : Nat) (bs : List Int) (s : Rs) (v : Value) (W : World) (e : Ending) (w' : World) : Prop := e = .returned v ∧ RdAtO w' rb a c bs s ∧ Rd rb W w'

/-- must, whatever holds. -/
theorem must_anyO {W : World} {rb c : Nat} {a : Option Addr} {bs : List Int} {s : Rs} (h : RdAtO W rb a c bs s) (hold : Bool) :
    Calls Tryz.prog 82 #[.pointer (some ⟨rb, 0, none⟩), .bool hold] W fun e w' => RdPostO rb a c bs (rMust s hold) (.tuple #[]) W e w' := by
  cases hold
  · refine (mustF_any rb W _ h.c2 (h.z 2)).mono ?_
    rintro e w' ⟨rfl, rfl⟩
    exact ⟨rfl, h.setF, Wrote.setW _⟩
  · refine (must_true _ W).mono ?_
    rintro e w' ⟨rfl, rfl⟩
    exact ⟨rfl, h, Wrote.refl _ _ _⟩

def NextPostO (rb : Nat) (a : Option Addr) (c : Nat) (bs : List Int) (s : Rs) (W : World) (e : Ending) (w' : World) : Prop :=
  ∃ b o, e = .returned (.pointer (some ⟨b, o, none⟩)) ∧ w'.cell? ⟨b, o, none⟩ = some (.int .u8 (rNext bs s).1) ∧ b < w'.heap.size ∧ RdAtO w' rb a c bs (rNext bs s).2 ∧ Rd rb W w'

set_option maxRecDepth 100000 in
set_option maxHeartbeats 2000000 in
theorem next_okO {W : World} {rb b o c : Nat} {bs : List Int} {s : Rs} (h : RdAtO W rb (some ⟨b, o, none⟩) c bs s) (hf : s.f = false) (hn : s.p < bs.length) :
    Calls Tryz.prog 67 #[.pointer (some ⟨rb, 0, none⟩)] W fun e w' => e = .returned (.pointer (some ⟨b, o + s.p, none⟩)) ∧ Like (W.setCell ⟨rb, 1, none⟩ (.int .i64 ((s.p : Int) + 1))) w' := by
  have c0 := h.c0
  have c1 := h.c1
  have c2 := h.c2
  rw [hf] at c2
  have z1 := h.z 1
  have hw := h.lt
  have hl := h.len
  generalize s.p = n at *
  generalize bs.length = m at *
  have hn' : (n : Int) < (m : Int) := by omega
  clear h hf
  go_enter Tryz.func67, Tryz.ntmps67
  go_wp2_with fail
  have hd : decide ((n : Int) < (m : Int)) = true := decide_eq_true hn'
  have he1 : (n : Int) + 1 - 1 = (n : Int) := by omega
  have he2 : IntKind.i64.wrap ((n : Int) + 1 - 1) = (n : Int) := by rw [he1]; exact Go.IntWalk.i64_in _ (by omega)
  have he3 : (0 : Int) ≤ (n : Int) := by omega
  go_region_with (go_at_call 82; refine (must_true _ _).mono ?_; rintro e w' ⟨rfl, hw⟩; rw [hw]; clear hw w')
  all_goals go_wp2_with fail
  all_goals go_region
  all_goals go_wp2_with fail
  all_goals go_ret
  all_goals exact ⟨rfl, ⟨rfl, rfl, rfl, rfl⟩⟩

set_option maxRecDepth 100000 in
set_option maxHeartbeats 2000000 in
theorem next_faultO {W : World} {rb c : Nat} {a : Option Addr} {bs : List Int} {s : Rs} (h : RdAtO W rb a c bs s) (hf : s.f = true) :
    Calls Tryz.prog 67 #[.pointer (some ⟨rb, 0, none⟩)] W fun e w' => ∃ b, e = .returned (.pointer (some ⟨b, 0, none⟩)) ∧ w'.cell? ⟨b, 0, none⟩ = some (.int .u8 0) ∧ b < w'.heap.size ∧ RdAtO w' rb a c bs ⟨s.p, true⟩ ∧ Rd rb W w' := by
  have c0 := h.c0
  have c1 := h.c1
  have hw := h.lt
  have hl := h.len
  have HM : Hid (∀ (hold : Bool) (V : World), Below W.heap.size W V → Calls Tryz.prog 82 #[.pointer (some ⟨rb, 0, none⟩), .bool hold] V fun e w' => e = .returned (.tuple #[]) ∧ w'.cell? ⟨rb, 2, none⟩ = some (.bool true) ∧ RdAtO w' rb a c bs ⟨s.p, true⟩ ∧ Rd rb W w') := fun hold V hV => by
    refine (must_anyO (h.later hV) hold).mono ?_
    rintro e w' ⟨rfl, h1, h2⟩
    have e : rMust s hold = ⟨s.p, true⟩ := by
      cases hold
      · rfl
      · show s = _; rw [← hf]
    rw [e] at h1
    exact ⟨rfl, h1.c2, h1, (Wrote.of_below hV).trans h2⟩
  clear h hf
  generalize s.p = n at *
  generalize bs.length = m at *
  go_enter Tryz.func67, Tryz.ntmps67
  go_wp2_with fail
  go_region_with (go_at_call 82; refine (HM.out _ _ ?_).mono ?_; exact (by repeat (first | exact Below.refl _ _ | refine Below.drew ?_ | refine Below.drewQ ?_ _)); rintro e w1 ⟨rfl, d2, h1, h2⟩; have H1 := hid h1; have H2 := hid h2; clear h1 h2)
  all_goals
    go_wp2_with fail
    go_ret
    exact ⟨_, rfl, by go_simp, by simp, H1.out.later (Below.alloc (Below.refl _ _) (Nat.le_refl _) _), H2.out.trans (Wrote.of_below (Below.alloc (Below.refl _ _) (Nat.le_refl _) _))⟩

set_option maxRecDepth 100000 in
set_option maxHeartbeats 2000000 in
theorem next_endO {W : World} {rb c : Nat} {a : Option Addr} {bs : List Int} {s : Rs} (h : RdAtO W rb a c bs s) (hn : bs.length ≤ s.p) :
    Calls Tryz.prog 67 #[.pointer (some ⟨rb, 0, none⟩)] W fun e w' => ∃ b, e = .returned (.pointer (some ⟨b, 0, none⟩)) ∧ w'.cell? ⟨b, 0, none⟩ = some (.int .u8 0) ∧ b < w'.heap.size ∧ RdAtO w' rb a c bs ⟨s.p, true⟩ ∧ Rd rb W w' := by
  have c0 := h.c0
  have c1 := h.c1
  have hw := h.lt
  have hl := h.len
  have HM : Hid (∀ (V : World), Below W.heap.size W V → Calls Tryz.prog 82 #[.pointer (some ⟨rb, 0, none⟩), .bool false] V fun e w' => e = .returned (.tuple #[]) ∧ w'.cell? ⟨rb, 2, none⟩ = some (.bool true) ∧ RdAtO w' rb a c bs ⟨s.p, true⟩ ∧ Rd rb W w') := fun V hV => by
    refine (must_anyO (h.later hV) false).mono ?_
    rintro e w' ⟨rfl, h1, h2⟩
    have h1' : RdAtO w' rb a c bs ⟨s.p, true⟩ := h1
    exact ⟨rfl, h1'.c2, h1', (Wrote.of_below hV).trans h2⟩
  clear h
  generalize s.p = n at *
  generalize bs.length = m at *
  have HD : Hid (decide (n < m) = false) := hid (decide_eq_false (by omega))
  go_enter Tryz.func67, Tryz.ntmps67
  go_wp2_with fail
  go_region_with (go_at_call 82; rw [HD.out]; refine (HM.out _ ?_).mono ?_; exact (by repeat (first | exact Below.refl _ _ | refine Below.drew ?_ | refine Below.drewQ ?_ _)); rintro e w1 ⟨rfl, d2, h1, h2⟩; have H1 := hid h1; have H2 := hid h2; clear h1 h2)
  all_goals
    go_wp2_with fail
    go_ret
    exact ⟨_, rfl, by go_simp, by simp, H1.out.later (Below.alloc (Below.refl _ _) (Nat.le_refl _) _), H2.out.trans (Wrote.of_below (Below.alloc (Below.refl _ _) (Nat.le_refl _) _))⟩

theorem next_anyO {W : World} {rb c : Nat} {a : Option Addr} {bs : List Int} {s : Rs} (h : RdAtO W rb a c bs s) :
    Calls Tryz.prog 67 #[.pointer (some ⟨rb, 0, none⟩)] W fun e w' => NextPostO rb a c bs s W e w' := by
  by_cases hf : s.f = true
  · have e : rNext bs s = (0, ⟨s.p, true⟩) := by unfold rNext; rw [if_pos (Or.inl hf)]
    refine (next_faultO h hf).mono ?_
    rintro e' w' ⟨b, rfl, h1, h2, h3, h4⟩
    exact ⟨b, 0, rfl, by rw [e]; exact h1, h2, by rw [e]; exact h3, h4⟩
  · by_cases hn : s.p < bs.length
    · have hf' : s.f = false := by simpa using hf
      have e : rNext bs s = (bs.getD s.p 0, ⟨s.p + 1, false⟩) := by
        unfold rNext
        rw [if_neg (fun hc => by rcases hc with hc | hc; exact hf hc; omega)]
      obtain ⟨b, o, rfl, hb, hx⟩ := h.bytes (by omega)
      refine (next_okO h hf' hn).mono ?_
      rintro e' w' ⟨rfl, hl⟩
      have hset := h.setP (s.p + 1) (by omega)
      rw [hf'] at hset
      have hcast : ((s.p + 1 : Nat) : Int) = (s.p : Int) + 1 := by omega
      rw [hcast] at hset
      have hB := hl.below
      have hsz : (W.setCell ⟨rb, 1, none⟩ (.int .i64 ((s.p : Int) + 1))).heap.size = W.heap.size := by simp
      have hget : bs[s.p]? = some (bs.getD s.p 0) := by rw [List.getD_eq_getElem?_getD, List.getElem?_eq_getElem hn]; rfl
      refine ⟨b, o + s.p, rfl, ?_, ?_, by rw [e]; exact hset.later hB, Wrote.trans (Wrote.setW _) (Wrote.of_below hB)⟩
      · rw [e, hB.cell (p := ⟨b, o + s.p, none⟩) (by rw [hsz]; exact hb), World.cell?_setCell_far _ _ _ _ (by exact Ne.symm (h.ne b o rfl))]
        exact hx s.p _ hget
      · have := hB.size; rw [hsz] at this; omega
    · have e : rNext bs s = (0, ⟨s.p, true⟩) := by unfold rNext; rw [if_pos (Or.inr (by omega))]
      refine (next_endO h (by omega)).mono ?_
      rintro e' w' ⟨b, rfl, h1, h2, h3, h4⟩
      exact ⟨b, 0, rfl, by rw [e]; exact h1, h2, by rw [e]; exact h3, h4⟩


end Go.Proofs.YtbkmgoffiigdbabGreatDoor

namespace Go.Proofs.YtbkmgoffiigdbabGreatDoor
open Go.RowKit Go.Sort

/-! four, wideNumber, wideInt, notOfWeak, noOutput. -/

theorem rFourN_succ {bs : List Int} (m : Nat) {s s1 : Rs} (n : Int) (k : Nat) {b : Int} (hb : rNext bs s = (b, s1)) : rFourN bs (m + 1) s n k = rFourN bs m s1 (bits .or .u32 n (shl32 b k)) (k + 8) := by
  rw [rFourN, hb]

set_option maxRecDepth 100000 in
set_option maxHeartbeats 2000000 in
theorem four_any {W : World} {rb c : Nat} {a : Option Addr} {bs : List Int} {s : Rs} (h : RdAtO W rb a c bs s) :
    Calls Tryz.prog 132 #[.pointer (some ⟨rb, 0, none⟩)] W fun e w' => RdPostO rb a c bs (rFour bs s).2 (.int .u32 (rFour bs s).1) W e w' := by
  have HH := hid h
  have HRNG := hid h.rng
  unfold rFour
  clear h
  go_enter Tryz.func132, Tryz.ntmps132
  go_wp2_with fail
  go_loopw [3, 4] (fun vn vk wr => ∃ (i k : Nat) (s' : Rs) (n' : Int), i ≤ 4 ∧ k = 8 * i ∧ vn = .int .u32 n' ∧ vk = .int .i64 (k : Int) ∧ RdAtO wr rb a c bs s' ∧ Rd rb W wr ∧ rFourN bs 4 s 0 0 = rFourN bs (4 - i) s' n' k) (fun _ vk _ => 40 - (intOf vk).toNat)
  case atStart => exact ⟨0, 0, s, 0, by omega, rfl, rfl, rfl, HH.out, Wrote.refl _ _ _, rfl⟩
  case round =>
    obtain ⟨i, k, s', n', hi, hk, rfl, rfl, hrd, hwr, heq⟩ := hrel
    have HK := hid hk
    have hk0 : (0 : Int) ≤ (k : Int) := by omega
    have HRD := hid hrd
    have HWR := hid hwr
    by_cases hlt : i < 4
    · have hk32 : (k : Int) < 32 := by omega
      clear hk
      have hbd := rNext_bd HRNG.out s'
      obtain ⟨b, s1, hb⟩ : ∃ b s1, rNext bs s' = (b, s1) := ⟨_, _, rfl⟩
      have hstep := rFourN_succ (3 - i) n' k hb
      rw [show 3 - i + 1 = 4 - i by omega] at hstep
      have HEQ := hid (heq.trans hstep)
      clear hrd hwr heq hstep
      go_wp2_with fail
      refine (next_anyO HRD.out).mono ?_
      rintro e w1 ⟨b1, o1, rfl, x0, l1, h1, h2⟩
      rw [hb] at x0 h1 hbd
      simp only at x0 h1 hbd
      have H1 := hid h1
      have H2 := hid (HWR.out.trans h2)
      clear h1 h2 HRD HWR
      have hwq : IntKind.u32.wrap b = b := by simp [IntKind.wrap, IntKind.bits, IntKind.signed]; omega
      obtain ⟨y, hy⟩ : ∃ y, b * 2 ^ k % 4294967296 = y := ⟨_, rfl⟩
      have hsy : shl32 b k = y := hy
      rw [hsy] at HEQ
      clear hb hsy
      go_wp2_with fail
      go_roundw
      case rel => exact ⟨i + 1, k + 8, _, _, by omega, by have := HK.out; omega, rfl, by go_num, H1.out, H2.out, by rw [HEQ.out]; congr 1; omega⟩
      case measure => simp [intOf]; have := HK.out; omega
    · have hk32 : ¬ (k : Int) < 32 := by omega
      obtain rfl : i = 4 := by omega
      have HEQ : Hid (rFourN bs 4 s 0 0 = (n', s')) := hid heq
      clear hk hrd hwr heq
      go_wp2_with fail
      go_ret
      exact ⟨by rw [HEQ.out]; rfl, by rw [HEQ.out]; exact HRD.out, HWR.out⟩

set_option maxRecDepth 100000 in
set_option maxHeartbeats 1000000 in
theorem shortNumber_anyO {W : World} {rb c : Nat} {a : Option Addr} {bs : List Int} {s : Rs} (h : RdAtO W rb a c bs s) :
    Calls Tryz.prog 104 #[.pointer (some ⟨rb, 0, none⟩)] W fun e w' => RdPostO rb a c bs (rNumO bs s).2 (.int .u64 (rNumO bs s).1) W e w' := by
  have HF := hid (four_any h)
  have hbd := rFour_bd bs s
  have HE : Hid (rNumO bs s = ((rFour bs s).1, rMust (rFour bs s).2 (decide ((rFour bs s).1 ≤ 2147483647)))) := hid rfl
  generalize rNumO bs s = r at *
  generalize (rFour bs s).1 = n at *
  generalize (rFour bs s).2 = s' at *
  clear h
  go_enter Tryz.func104, Tryz.ntmps104
  go_wp2_with fail
  refine HF.out.mono ?_
  rintro e w1 ⟨rfl, h1, h2⟩
  have H1 := hid h1
  have H2 := hid h2
  clear h1 h2 HF
  have hw : IntKind.u64.wrap n = n := by simp [IntKind.wrap, IntKind.bits, IntKind.signed]; omega
  go_wp2_with fail
  refine (must_anyO H1.out _).mono ?_
  rintro e w2 ⟨rfl, h3, h4⟩
  have H3 := hid h3
  have H4 := hid (H2.out.trans h4)
  clear h3 h4
  go_wp2_with fail
  go_ret
  exact ⟨by rw [HE.out]; rfl, by rw [HE.out]; exact H3.out, H4.out⟩

set_option maxRecDepth 100000 in
set_option maxHeartbeats 1000000 in
theorem shortInt_anyO {W : World} {rb c : Nat} {a : Option Addr} {bs : List Int} {s : Rs} (h : RdAtO W rb a c bs s) :
    Calls Tryz.prog 105 #[.pointer (some ⟨rb, 0, none⟩)] W fun e w' => RdPostO rb a c bs (rIntO bs s).2 (.int .i64 (rIntO bs s).1) W e w' := by
  have HF := hid (four_any h)
  have hbd := rFour_bd bs s
  have HE : Hid (rIntO bs s = (if (rFour bs s).1 < 2147483648 then (rFour bs s).1 else (rFour bs s).1 - 4294967296, (rFour bs s).2)) := hid rfl
  generalize rIntO bs s = r at *
  generalize (rFour bs s).1 = n at *
  generalize (rFour bs s).2 = s' at *
  obtain ⟨z, hz⟩ : ∃ z, z = (if n < 2147483648 then n else n - 4294967296) := ⟨_, rfl⟩
  have hw1 : IntKind.i32.wrap n = z := by
    rw [hz]
    simp [IntKind.wrap, IntKind.bits, IntKind.signed]
    split <;> omega
  have hw2 : IntKind.i64.wrap z = z := Go.IntWalk.i64_in _ (by rw [hz]; split <;> omega)
  rw [← hz] at HE
  clear h hz
  go_enter Tryz.func105, Tryz.ntmps105
  go_wp2_with fail
  refine HF.out.mono ?_
  rintro e w1 ⟨rfl, h1, h2⟩
  have H1 := hid h1
  have H2 := hid h2
  clear h1 h2 HF
  go_wp2_with fail
  go_ret
  exact ⟨by rw [HE.out]; rfl, by rw [HE.out]; exact H1.out, H2.out⟩

set_option maxHeartbeats 400000 in
theorem notOfWeak_any (n : Int) (w : World) : Calls Tryz.prog 107 #[.int .i64 n] w fun e w' => e = .returned (.bool (n != 18 && n != 24)) ∧ w' = w := by
  by_cases h1 : n = 18
  · subst h1
    go_enter Tryz.func107, Tryz.ntmps107
    go_wp2
    go_ret
    exact ⟨rfl, rfl⟩
  · by_cases h2 : n = 24
    · subst h2
      go_enter Tryz.func107, Tryz.ntmps107
      go_wp2
      go_ret
      exact ⟨rfl, rfl⟩
    · have e1 : (n == 18) = false := beq_eq_false_iff_ne.2 h1
      have e2 : (n == 24) = false := beq_eq_false_iff_ne.2 h2
      have e3 : (n != 18 && n != 24) = true := by simp [h1, h2]
      rw [e3]
      go_enter Tryz.func107, Tryz.ntmps107
      go_wp2
      go_ret
      exact ⟨rfl, rfl⟩

set_option maxHeartbeats 400000 in
theorem noOutput_any (rb : Nat) (w : World) : Calls Tryz.prog 106 #[.pointer (some ⟨rb, 0, none⟩)] w fun e w' => e = .returned (.slice none 0 0) ∧ w' = w := by
  go_enter Tryz.func106, Tryz.ntmps106
  go_wp2
  go_ret
  exact ⟨rfl, rfl⟩

end Go.Proofs.YtbkmgoffiigdbabGreatDoor

namespace Go.Proofs.YtbkmgoffiigdbabGreatDoor
open Go.RowKit Go.Sort

/-! The older version: counts, ints. -/

set_option maxRecDepth 100000 in
set_option maxHeartbeats 1000000 in
theorem upTo_anyO {W : World} {rb c : Nat} {a : Option Addr} {bs : List Int} {s : Rs} (h : RdAtO W rb a c bs s) (most : Nat) (hm : most ≤ 9223372036854775807) :
    Calls Tryz.prog 80 #[.pointer (some ⟨rb, 0, none⟩), .int .i64 (most : Int)] W fun e w' => RdPostO rb a c bs (rUpToO bs most s).2 (.int .i64 (rUpToO bs most s).1) W e w' := by
  have HN : Hid (∀ V, Below W.heap.size W V → Calls Tryz.prog 104 #[.pointer (some ⟨rb, 0, none⟩)] V fun e w' => RdPostO rb a c bs (rNumO bs s).2 (.int .u64 (rNumO bs s).1) V e w') := fun V hV => shortNumber_anyO (h.later hV)
  have hbd := rNum_bdO h.rng s
  have c3 := h.c3
  have hlt := h.lt
  have HI : Hid (rUpToO bs most s = (if (rMust (rNumO bs s).2 (decide ((rNumO bs s).1 ≤ (most : Int)))).f then 0 else (rNumO bs s).1, rMust (rNumO bs s).2 (decide ((rNumO bs s).1 ≤ (most : Int))))) := hid rfl
  generalize rUpToO bs most s = r at *
  generalize (rNumO bs s).1 = n at *
  generalize (rNumO bs s).2 = s' at *
  clear h
  go_enter Tryz.func80, Tryz.ntmps80
  go_wp2_with (go_at_call 104; refine (HN.out _ ?_).mono ?_; exact (by repeat (first | exact Below.refl _ _ | refine Below.drew ?_ | refine Below.drewQ ?_ _)); rintro e w1 ⟨rfl, h1, h2⟩; have H1 := hid h1; have H2 := hid h2; clear h1 h2)
  refine (must_anyO H1.out _).mono ?_
  rintro e w2 ⟨rfl, h3, h4⟩
  have d2 := h3.c2
  have l2 := h3.lt
  have H3 := hid h3
  have H4 := hid (H2.out.trans h4)
  clear h3 h4 H1 H2
  generalize hs2 : rMust s' (decide (n ≤ (most : Int))) = s2 at *
  cases hf : s2.f
  · rw [hf] at d2 HI
    have hle : n ≤ (most : Int) := by
      rcases Int.lt_or_le (most : Int) n with hgt | hle
      · rw [decide_eq_false (by omega)] at hs2
        rw [← hs2] at hf
        cases hf
      · exact hle
    have hw : IntKind.i64.wrap n = n := Go.IntWalk.i64_in _ (by omega)
    clear hs2
    go_wp2_with fail
    go_ret
    exact ⟨by rw [HI.out]; rfl, by rw [HI.out]; exact H3.out, H4.out⟩
  · rw [hf] at d2 HI
    clear hs2
    go_wp2_with fail
    go_ret
    exact ⟨by rw [HI.out]; rfl, by rw [HI.out]; exact H3.out, H4.out⟩

set_option maxHeartbeats 1000000 in
theorem rcount_anyO {W : World} {rb c : Nat} {a : Option Addr} {bs : List Int} {s : Rs} (h : RdAtO W rb a c bs s) :
    Calls Tryz.prog 114 #[.pointer (some ⟨rb, 0, none⟩)] W fun e w' => RdPostO rb a c bs (rCountO bs s).2 (.int .i64 (rCountO bs s).1) W e w' := by
  have HN := hid (upTo_anyO h 9223372036854775807 (by decide))
  clear h
  go_enter Tryz.func114, Tryz.ntmps114
  go_wp2_with (go_at_call 80; refine HN.out.mono ?_; rintro e w1 ⟨rfl, h1, h2⟩)
  go_ret
  exact ⟨rfl, h1, h2⟩

set_option maxHeartbeats 1000000 in
theorem rsigned_anyO {W : World} {rb c : Nat} {a : Option Addr} {bs : List Int} {s : Rs} (h : RdAtO W rb a c bs s) :
    Calls Tryz.prog 134 #[.pointer (some ⟨rb, 0, none⟩)] W fun e w' => RdPostO rb a c bs (rIntO bs s).2 (.int .i64 (rIntO bs s).1) W e w' := by
  have HN : Hid (∀ V, Below W.heap.size W V → Calls Tryz.prog 105 #[.pointer (some ⟨rb, 0, none⟩)] V fun e w' => RdPostO rb a c bs (rIntO bs s).2 (.int .i64 (rIntO bs s).1) V e w') := fun V hV => shortInt_anyO (h.later hV)
  have c4 := h.c4
  have hlt := h.lt
  clear h
  go_enter Tryz.func134, Tryz.ntmps134
  go_wp2_with (go_at_call 105; refine (HN.out _ ?_).mono ?_; exact (by repeat (first | exact Below.refl _ _ | refine Below.drew ?_ | refine Below.drewQ ?_ _)); rintro e w1 ⟨rfl, h1, h2⟩)
  go_ret
  exact ⟨rfl, h1, h2⟩

theorem fwd_upToO (bs : List Int) (most : Int) (s : Rs) : Fwd s (rUpToO bs most s).2 := (fwd_numO bs s).trans (fwd_must _ _)
theorem fwd_countO (bs : List Int) (s : Rs) : Fwd s (rCountO bs s).2 := fwd_upToO bs _ s

theorem takes_upToO (bs : List Int) (most : Int) (s : Rs) : Takes s (rUpToO bs most s).2 := (takes_numO bs s).then (fwd_must _ _)
theorem RdAtO.setNew {W V : World} {rb c : Nat} {a : Option Addr} {bs : List Int} {s s' : Rs} (h0 : RdAtO W rb a c bs s) (h : RdAtO V rb a c bs s') {b : Nat} (hb : W.heap.size ≤ b) (i : Nat) (v : Value) : RdAtO (V.setCell ⟨b, i, none⟩ v) rb a c bs s' := by
  have hl := h0.lt
  have e : (V.setCell ⟨b, i, none⟩ v).heap[rb]? = V.heap[rb]? := heap_setCell_other _ _ _ _ (show rb ≠ b by omega)
  have hc : ∀ j, (V.setCell ⟨b, i, none⟩ v).cell? ⟨rb, j, none⟩ = V.cell? ⟨rb, j, none⟩ := fun j => World.cell?_of_block (w := V) (a := ⟨rb, j, none⟩) e
  refine ⟨(hc 0).trans h.c0, (hc 1).trans h.c1, (hc 2).trans h.c2, (hc 3).trans h.c3, (hc 4).trans h.c4, (hc 5).trans h.c5, (hc 6).trans h.c6, (hc 7).trans h.c7, fun j => (World.frozen?_of_block (w := V) (a := ⟨rb, j, none⟩) e).trans (h.z j), fun hp => ?_, h.ne, by simpa using h.lt, h.rng, h.len, h.pos⟩
  obtain ⟨b1, o1, e1, hb1, _⟩ := h0.bytes hp
  obtain ⟨b2, o2, e2, hb2, hx⟩ := h.bytes hp
  rw [e1] at e2
  cases e2
  exact ⟨b1, o1, e1, by simpa using hb2, fun j x hj => by rw [World.cell?_of_block (w := V) (a := ⟨b1, o1 + j, none⟩) (heap_setCell_other _ _ _ _ (show b1 ≠ b by omega))]; exact hx j x hj⟩

/-- Old blocks that stay: the reader stays. -/
theorem RdAtO.low {W V V' : World} {rb c : Nat} {a : Option Addr} {bs : List Int} {s s' : Rs} (h0 : RdAtO W rb a c bs s) (h : RdAtO V rb a c bs s') (hs : V.heap.size ≤ V'.heap.size) (hb : ∀ k, k < W.heap.size → V'.heap[k]? = V.heap[k]?) : RdAtO V' rb a c bs s' := by
  have e := hb rb h0.lt
  have hc : ∀ j, V'.cell? ⟨rb, j, none⟩ = V.cell? ⟨rb, j, none⟩ := fun j => World.cell?_of_block (w := V) (a := ⟨rb, j, none⟩) e
  refine ⟨(hc 0).trans h.c0, (hc 1).trans h.c1, (hc 2).trans h.c2, (hc 3).trans h.c3, (hc 4).trans h.c4, (hc 5).trans h.c5, (hc 6).trans h.c6, (hc 7).trans h.c7, fun j => (World.frozen?_of_block (w := V) (a := ⟨rb, j, none⟩) e).trans (h.z j), fun hp => ?_, h.ne, Nat.lt_of_lt_of_le h.lt hs, h.rng, h.len, h.pos⟩
  obtain ⟨b1, o1, e1, hb1, _⟩ := h0.bytes hp
  obtain ⟨b2, o2, e2, hb2, hx⟩ := h.bytes hp
  rw [e1] at e2
  cases e2
  exact ⟨b1, o1, e1, Nat.lt_of_lt_of_le hb2 hs, fun j x hj => by rw [World.cell?_of_block (w := V) (a := ⟨b1, o1 + j, none⟩) (hb b1 hb1)]; exact hx j x hj⟩



def rInstrO (bs : List Int) (s : Rs) : (Int × Int) × Rs := (((rCountO bs s).1, (rIntO bs (rCountO bs s).2).1), rMust (rIntO bs (rCountO bs s).2).2 ((rCountO bs s).1 != 18 && (rCountO bs s).1 != 24))
theorem takes_instrO (bs : List Int) (s : Rs) : Takes s (rInstrO bs s).2 := (takes_upToO bs _ s).then ((fwd_intO bs _).trans (fwd_must _ _))

set_option maxRecDepth 100000 in
set_option maxHeartbeats 4000000 in
theorem rinstr_anyO {W : World} {rb c : Nat} {a : Option Addr} {bs : List Int} {s : Rs} (h : RdAtO W rb a c bs s) :
    Calls Tryz.prog 136 #[.pointer (some ⟨rb, 0, none⟩)] W fun e w' => RdPostO rb a c bs (rInstrO bs s).2 (.agg #[.int .i64 (rInstrO bs s).1.1, .int .i64 (rInstrO bs s).1.2]) W e w' := by
  have hlt := h.lt
  have HW := hid h
  have hB0 : Below W.heap.size W (W.alloc (.cells #[.int .i64 0, .int .i64 0] 62)) := Below.alloc (Below.refl _ _) (Nat.le_refl _) _
  have HB0 := hid hB0
  have HC := hid (rcount_anyO (h.later hB0))
  have HE : Hid (rInstrO bs s = (((rCountO bs s).1, (rIntO bs (rCountO bs s).2).1), rMust (rIntO bs (rCountO bs s).2).2 ((rCountO bs s).1 != 18 && (rCountO bs s).1 != 24))) := hid rfl
  generalize rInstrO bs s = r at *
  generalize rCountO bs s = q at *
  clear h hB0
  go_enter Tryz.func136, Tryz.ntmps136
  go_wp2_with fail
  refine HC.out.mono ?_
  rintro e w1 ⟨rfl, h1, h2⟩
  have y0 : w1.cell? ⟨W.heap.size, 0, none⟩ = some (.int .i64 0) := h2.cell (by simp) (by omega) (by omega) (by go_simp)
  have y1 : w1.cell? ⟨W.heap.size, 1, none⟩ = some (.int .i64 0) := h2.cell (by simp) (by omega) (by omega) (by go_simp)
  have f0 : w1.frozen? ⟨W.heap.size, 0, none⟩ = false := h2.frozen (by simp) (by omega) (by omega) (by go_simp)
  have f1 : w1.frozen? ⟨W.heap.size, 1, none⟩ = false := h2.frozen (by simp) (by omega) (by omega) (by go_simp)
  have lw1 : W.heap.size < w1.heap.size := by have := h2.size; simp at this; omega
  have HI := hid (rsigned_anyO h1)
  have H2 := hid ((Wrote.of_below HB0.out).trans h2)
  generalize rIntO bs q.2 = t at *
  clear h1 h2 HC HB0
  go_wp2_with fail
  refine HI.out.mono ?_
  rintro e w2 ⟨rfl, h3, h4⟩
  have z0 := h4.cell lw1 (by omega) (by omega) y0
  have z1 := h4.cell lw1 (by omega) (by omega) y1
  have g0 := h4.frozen lw1 (by omega) (by omega) f0
  have g1 := h4.frozen lw1 (by omega) (by omega) f1
  have lw2 : W.heap.size < w2.heap.size := Nat.lt_of_lt_of_le lw1 h4.size
  have H3 := hid h3
  have H4 := hid (H2.out.trans h4)
  have c6 := h3.c6
  have hl2 := h3.lt
  clear h3 h4 y0 y1 f0 f1 HI H2
  go_wp2_with fail
  have HM : Hid (∀ (V : World) (b : Bool), Below w2.heap.size w2 V → V.cell? ⟨w2.heap.size, 0, none⟩ = some (.int .i64 q.1) → V.cell? ⟨w2.heap.size, 1, none⟩ = some (.int .i64 t.1) → w2.heap.size < V.heap.size → Calls Tryz.prog 82 #[.pointer (some ⟨rb, 0, none⟩), .bool b] V fun e w4 => e = .returned (.tuple #[]) ∧ ((w4.cell? ⟨w2.heap.size, 0, none⟩ = some (.int .i64 q.1) ∧ w4.cell? ⟨w2.heap.size, 1, none⟩ = some (.int .i64 t.1) ∧ w4.cell? ⟨W.heap.size, 0, none⟩ = some (.int .i64 0) ∧ w4.cell? ⟨W.heap.size, 1, none⟩ = some (.int .i64 0) ∧ w4.frozen? ⟨W.heap.size, 0, none⟩ = false ∧ w4.frozen? ⟨W.heap.size, 1, none⟩ = false) ∧ w2.heap.size < w4.heap.size) ∧ RdAtO w4 rb a c bs (rMust t.2 b) ∧ Rd rb W w4) := hid fun V b hV v0 v1 vl => by
    refine (must_anyO (H3.out.later hV) b).mono ?_
    rintro e w4 ⟨rfl, h5, h6⟩
    have o0 := (hV.cell (p := ⟨W.heap.size, 0, none⟩) lw2).trans z0
    have o1 := (hV.cell (p := ⟨W.heap.size, 1, none⟩) lw2).trans z1
    have p0 := (hV.frozen (p := ⟨W.heap.size, 0, none⟩) lw2).trans g0
    have p1 := (hV.frozen (p := ⟨W.heap.size, 1, none⟩) lw2).trans g1
    have lv : W.heap.size < V.heap.size := by omega
    exact ⟨rfl, ⟨⟨h6.cell vl (by omega) (by omega) v0, h6.cell vl (by omega) (by omega) v1, h6.cell lv (by omega) (by omega) o0, h6.cell lv (by omega) (by omega) o1, h6.frozen lv (by omega) (by omega) p0, h6.frozen lv (by omega) (by omega) p1⟩, Nat.lt_of_lt_of_le vl h6.size⟩, h5, H4.out.trans ((Wrote.of_below hV).trans h6)⟩
  go_region_with (first | (go_at_call 107; refine (notOfWeak_any _ _).mono ?_; rintro e w' ⟨rfl, hw⟩; rw [hw]; clear hw w') | (go_at_call 82; refine (HM.out _ _ (Below.drew (Below.alloc (Below.refl _ _) (Nat.le_refl _) _)) (by go_simp) (by go_simp) (by simp)).mono ?_; rintro e w4 ⟨rfl, ⟨⟨k0, k1, m0, m1, n0, n1⟩, l4⟩, h5, h6⟩; have l5 : W.heap.size < w4.heap.size := Nat.lt_trans lw2 l4; have H5 := hid h5; have H6 := hid h6; clear h5 h6))
  all_goals
    go_wp2_with fail
    refine bodyPost_ret (v := .agg #[.int .i64 q.1, .int .i64 t.1]) (by simp [results, Tryz.results136, go_sem, m0, m1]) rfl ?_
    rw [HE.out]
    exact ⟨rfl, (by repeat (first | exact H5.out | refine HW.out.setNew ?_ (Nat.le_refl _) _ _)), (by repeat (first | exact H6.out | refine Wrote.setNew ?_ (Nat.le_refl _) _ _))⟩

end Go.Proofs.YtbkmgoffiigdbabGreatDoor

namespace Go.Proofs.YtbkmgoffiigdbabGreatDoor
open Go.RowKit Go.Sort

/-! The older version: the program. -/

def rInstrsO (bs : List Int) (n : Int) (s : Rs) : List (Int × Int) × Rs := rList (rInstrO bs) (bs.length + 2) n [] s

set_option maxRecDepth 100000 in
set_option maxHeartbeats 4000000 in
theorem listInstr_anyO {W : World} {rb c : Nat} {a : Option Addr} {bs : List Int} {s : Rs} (h : RdAtO W rb a c bs s) (n : Int) (hn : n ≤ 9223372036854775807) :
    Calls Tryz.prog 135 #[.pointer (some ⟨rb, 0, none⟩), .int .i64 n, .func (.func 136) #[.pointer (some ⟨rb, 0, none⟩)] #[]] W fun e w' => ∃ v, RdPostO rb a c bs (rInstrsO bs n s).2 v W e w' ∧ w'.ownsRow W.heap.size 62 2 v (rInstrsO bs n s).1.length (cellsL (rInstrsO bs n s).1) := by
  obtain ⟨i62, hi, hz, hsz, hby⟩ := info_parts info37'
  have HI := hid hi
  have HZ := hid hz
  have HSZ := hid hsz
  have HBY := hid hby
  have HH := hid h
  have hlen := h.len
  unfold rInstrsO
  clear h hi hz hsz hby
  go_enter Tryz.func135, Tryz.ntmps135
  go_wp2_with fail
  go_loopw [7] (fun vl wr => ∃ (acc : List (Int × Int)) (la : Option Addr) (lc : Nat) (s' : Rs), vl = .slice la acc.length lc ∧ wr.ownsRow W.heap.size 62 2 vl acc.length (cellsL acc) ∧ RdAtO wr rb a c bs s' ∧ Rd rb W wr ∧ (s'.f = true ∨ s.p + acc.length ≤ s'.p) ∧ acc.length ≤ bs.length + 1 ∧ rList (rInstrO bs) (bs.length + 2) n [] s = rList (rInstrO bs) (bs.length + 2 - acc.length) n acc s') (fun vl _ => bs.length + 2 - sliceLen vl)
  case atStart => exact ⟨[], none, 0, s, rfl, World.ownsRow_nil _ _ _ _, HH.out, Wrote.refl _ _ _, Or.inr (Nat.le_refl _), Nat.zero_le _, rfl⟩
  case round =>
    obtain ⟨acc, la, lc, s', rfl, hrow, hrd, hwr, hpp, hal, heq⟩ := hrel
    have c2 := hrd.c2
    have hlt := hrd.lt
    have hps := hrd.pos
    have HRD := hid hrd
    have HWR := hid hwr
    have HROW := hid hrow
    by_cases hgo : (acc.length : Int) < n ∧ s'.f = false
    · obtain ⟨h1, h2⟩ := hgo
      have hal2 : acc.length ≤ bs.length := by
        rcases hpp with e | e
        · rw [h2] at e; cases e
        · omega
      have HEQ : Hid (rList (rInstrO bs) (bs.length + 2) n [] s = rList (rInstrO bs) (bs.length + 2 - (acc.length + 1)) n (acc ++ [(rInstrO bs s').1]) (rInstrO bs s').2) := by
        refine hid ?_
        rw [heq, show bs.length + 2 - acc.length = (bs.length + 2 - (acc.length + 1)) + 1 by omega]
        exact rList_go ⟨h1, h2⟩
      have htk := takes_instrO bs s'
      have HPP : Hid ((rInstrO bs s').2.f = true ∨ s.p + (acc.length + 1) ≤ (rInstrO bs s').2.p) := by
        refine hid ?_
        rcases htk.2 with e | e
        · exact Or.inl e
        · rcases hpp with e' | e'
          · rw [h2] at e'; cases e'
          · exact Or.inr (by omega)
      rw [h2] at c2
      have HV := hid (rinstr_anyO hrd)
      generalize rInstrO bs s' = r at *
      obtain ⟨⟨x1, x2⟩, s2⟩ := r
      simp only at HV HPP HEQ
      clear hrd hwr hrow hpp heq htk h2
      generalize hk : acc.length = k at *
      have HK := hid hk
      clear hk
      go_wp2_with fail
      refine HV.out.mono ?_
      rintro e w1 ⟨rfl, h3, h4⟩
      have hr1 : w1.ownsRow W.heap.size 62 2 (.slice la k lc) k (cellsL acc) := ownsRow_of_block HROW.out fun b hb => h4.block b (HROW.out.lt b hb).2 (by have := (HROW.out.lt b hb).1; have := HH.out.lt; omega) (by have := (HROW.out.lt b hb).1; have := HH.out.lt; omega)
      have H3 := hid h3
      have H4 := hid (HWR.out.trans h4)
      have HR1 := hid hr1
      have hz1 : W.heap.size ≤ w1.heap.size := H4.out.size
      clear h3 h4 hr1
      go_wp2_with (at_builtin; go_must (refine wpList_append_any _ rfl (.tmp 20) (.tmp 23) 64 rfl W.heap.size 62 i62 _ 2 16 Tryz.underlying64 HI.out HZ.out HSZ.out HBY.out rfl (by decide) (.slice la k lc) k (cellsL acc) rfl (HR1.out.alloc _) (some ⟨w1.heap.size, 0, none⟩) 1 1 [.int .i64 x1, .int .i64 x2] rfl rfl (fun _ => ⟨_, rfl, World.news_of_block (cs := #[.int .i64 x1, .int .i64 x2]) (t := 62) (fr := (0, 0)) (blk_new (by simp))⟩) (by intro u hu; simp at hu; rcases hu with rfl | rfl <;> rfl) (by unfold maxLen; omega) (by omega) (by simp; omega) ?_))
      intro v5 w5 hown5 hgrow5 _
      obtain ⟨a5, c5, rfl⟩ := owns_form hown5
      have hlow := grown_low HR1.out hz1 hgrow5
      have H5 := hid (HH.out.low H3.out hlow.1 hlow.2.1)
      have H6 := hid (H4.out.low hlow)
      have hown6 : w5.ownsRow W.heap.size 62 2 (.slice a5 (k + 1) c5) (k + 1) (cellsL (acc ++ [(x1, x2)])) := by rw [← cellsL_snoc]; exact hown5
      have HO5 := hid hown6
      clear hown5 hgrow5 hlow hown6
      go_wp2_with fail
      go_roundw
      case rel => exact ⟨acc ++ [(x1, x2)], a5, c5, s2, by rw [List.length_append, HK.out]; rfl, by rw [List.length_append, HK.out]; exact HO5.out, H5.out, H6.out, by rw [List.length_append, HK.out]; exact HPP.out, by rw [List.length_append, HK.out]; simp; omega, by rw [List.length_append, HK.out]; exact HEQ.out⟩
      case measure => simp [sliceLen]; omega
    · have HEQ : Hid (rList (rInstrO bs) (bs.length + 2) n [] s = (acc, s')) := by
        refine hid ?_
        rw [heq, show bs.length + 2 - acc.length = (bs.length + 1 - acc.length) + 1 by omega]
        exact rList_end hgo
      have HP : Hid (∀ v, v = .slice la acc.length lc → RdPostO rb a c bs (rList (rInstrO bs) (bs.length + 2) n [] s).2 v W (.returned v) wr ∧ wr.ownsRow W.heap.size 62 2 v (rList (rInstrO bs) (bs.length + 2) n [] s).1.length (cellsL (rList (rInstrO bs) (bs.length + 2) n [] s).1)) := fun v hv => by
        rw [HEQ.out, hv]
        exact ⟨⟨rfl, HRD.out, HWR.out⟩, HROW.out⟩
      clear hrd hwr hrow hpp heq
      by_cases hn2 : (acc.length : Int) < n
      · have hf : s'.f = true := by
          cases e : s'.f
          · exact absurd ⟨hn2, e⟩ hgo
          · rfl
        rw [hf] at c2
        clear hgo
        go_wp2_with fail
        go_ret
        exact ⟨_, HP.out _ rfl⟩
      · clear hgo
        go_wp2_with fail
        go_ret
        exact ⟨_, HP.out _ rfl⟩

def rFuncO (bs : List Int) (s : Rs) : FnL × Rs :=
  (((rCountO bs s).1, (rCountO bs (rCountO bs s).2).1, (rInstrsO bs (rCountO bs (rCountO bs (rCountO bs s).2).2).1 (rCountO bs (rCountO bs (rCountO bs s).2).2).2).1), (rInstrsO bs (rCountO bs (rCountO bs (rCountO bs s).2).2).1 (rCountO bs (rCountO bs (rCountO bs s).2).2).2).2)

theorem fwd_instrsO (bs : List Int) (n : Int) (s : Rs) : Fwd s (rInstrsO bs n s).2 := fwd_list (fun s => (takes_instrO bs s).1) _ _ _ _
theorem takes_funcO (bs : List Int) (s : Rs) : Takes s (rFuncO bs s).2 := (takes_upToO bs _ s).then ((fwd_countO bs _).trans ((fwd_countO bs _).trans (fwd_instrsO bs _ _)))
theorem rUpTo_leO {bs : List Int} {most : Int} (hr : ∀ x, x ∈ bs → 0 ≤ x ∧ x < 256) (h0 : 0 ≤ most) (s : Rs) : 0 ≤ (rUpToO bs most s).1 ∧ (rUpToO bs most s).1 ≤ most := by
  have hb := rNum_bdO hr s
  unfold rUpToO
  simp only
  split
  · exact ⟨Int.le_refl _, h0⟩
  · rename_i hf
    refine ⟨hb.1, ?_⟩
    by_cases hle : (rNumO bs s).1 ≤ most
    · exact hle
    · rw [decide_eq_false hle] at hf
      exact absurd rfl hf

set_option maxRecDepth 100000 in
set_option maxHeartbeats 4000000 in
theorem rfunc_anyO {W : World} {rb c : Nat} {a : Option Addr} {bs : List Int} {s : Rs} (h : RdAtO W rb a c bs s) :
    Calls Tryz.prog 115 #[.pointer (some ⟨rb, 0, none⟩)] W fun e w' => ∃ v, RdPostO rb a c bs (rFuncO bs s).2 (.agg #[.int .i64 (rFuncO bs s).1.1, .int .i64 (rFuncO bs s).1.2.1, v]) W e w' ∧ w'.ownsRow W.heap.size 62 2 v (rFuncO bs s).1.2.2.length (cellsL (rFuncO bs s).1.2.2) := by
  have hlt := h.lt
  have HW := hid h
  have HRNG := hid h.rng
  have hB0 : Below W.heap.size W (W.alloc (.cells #[.int .i64 0, .int .i64 0, .slice none 0 0] 68)) := Below.alloc (Below.refl _ _) (Nat.le_refl _) _
  have HB0 := hid hB0
  have HC := hid (rcount_anyO (h.later hB0))
  have HE : Hid (rFuncO bs s = (((rCountO bs s).1, (rCountO bs (rCountO bs s).2).1, (rInstrsO bs (rCountO bs (rCountO bs (rCountO bs s).2).2).1 (rCountO bs (rCountO bs (rCountO bs s).2).2).2).1), (rInstrsO bs (rCountO bs (rCountO bs (rCountO bs s).2).2).1 (rCountO bs (rCountO bs (rCountO bs s).2).2).2).2)) := hid rfl
  generalize rFuncO bs s = r at *
  generalize rCountO bs s = q1 at *
  clear h hB0
  go_enter Tryz.func115, Tryz.ntmps115
  go_wp2_with fail
  refine HC.out.mono ?_
  rintro e w1 ⟨rfl, h1, h2⟩
  have y0 : w1.cell? ⟨W.heap.size, 0, none⟩ = some (.int .i64 0) := h2.cell (by simp) (by omega) (by omega) (by go_simp)
  have y1 : w1.cell? ⟨W.heap.size, 1, none⟩ = some (.int .i64 0) := h2.cell (by simp) (by omega) (by omega) (by go_simp)
  have y2 : w1.cell? ⟨W.heap.size, 2, none⟩ = some (.slice none 0 0) := h2.cell (by simp) (by omega) (by omega) (by go_simp)
  have f0 : w1.frozen? ⟨W.heap.size, 0, none⟩ = false := h2.frozen (by simp) (by omega) (by omega) (by go_simp)
  have f1 : w1.frozen? ⟨W.heap.size, 1, none⟩ = false := h2.frozen (by simp) (by omega) (by omega) (by go_simp)
  have f2 : w1.frozen? ⟨W.heap.size, 2, none⟩ = false := h2.frozen (by simp) (by omega) (by omega) (by go_simp)
  have lw1 : W.heap.size < w1.heap.size := by have := h2.size; simp at this; omega
  have HI := hid (rcount_anyO h1)
  have H2 := hid ((Wrote.of_below HB0.out).trans h2)
  generalize rCountO bs q1.2 = q2 at *
  clear h1 h2 HC HB0
  go_wp2_with fail
  refine HI.out.mono ?_
  rintro e w2 ⟨rfl, h3, h4⟩
  have z0 := h4.cell lw1 (by omega) (by omega) y0
  have z1 := h4.cell lw1 (by omega) (by omega) y1
  have z2 := h4.cell lw1 (by omega) (by omega) y2
  have g0 := h4.frozen lw1 (by omega) (by omega) f0
  have g1 := h4.frozen lw1 (by omega) (by omega) f1
  have g2 := h4.frozen lw1 (by omega) (by omega) f2
  have lw2 : W.heap.size < w2.heap.size := Nat.lt_of_lt_of_le lw1 h4.size
  have hB2 : Below w2.heap.size w2 (w2.alloc (.cells #[.int .i64 q1.1, .int .i64 q2.1, .slice none 0 0] 68)) := Below.alloc (Below.refl _ _) (Nat.le_refl _) _
  have H4 := hid ((H2.out.trans h4).trans (Wrote.of_below hB2))
  have HC3 := hid (rcount_anyO (h3.later hB2))
  have hq3 : (rCountO bs q2.2).1 ≤ 9223372036854775807 := (rUpTo_leO HRNG.out (by decide) q2.2).2
  generalize rCountO bs q2.2 = q3 at *
  clear h3 h4 hB2 y0 y1 y2 f0 f1 f2 HI H2
  go_wp2_with fail
  refine HC3.out.mono ?_
  rintro e w3 ⟨rfl, h5, h6⟩
  have u0 : w3.cell? ⟨w2.heap.size, 0, none⟩ = some (.int .i64 q1.1) := h6.cell (by simp) (by omega) (by omega) (by go_simp)
  have u1 : w3.cell? ⟨w2.heap.size, 1, none⟩ = some (.int .i64 q2.1) := h6.cell (by simp) (by omega) (by omega) (by go_simp)
  have u2 : w3.cell? ⟨w2.heap.size, 2, none⟩ = some (.slice none 0 0) := h6.cell (by simp) (by omega) (by omega) (by go_simp)
  have v2 : w3.frozen? ⟨w2.heap.size, 2, none⟩ = false := h6.frozen (by simp) (by omega) (by omega) (by go_simp)
  have l23 : w2.heap.size < w3.heap.size := by have := h6.size; simp at this; omega
  have t0 : w3.cell? ⟨W.heap.size, 0, none⟩ = some (.int .i64 0) := h6.cell (by simp; omega) (by omega) (by omega) (by go_simp)
  have t1 : w3.cell? ⟨W.heap.size, 1, none⟩ = some (.int .i64 0) := h6.cell (by simp; omega) (by omega) (by omega) (by go_simp)
  have t2 : w3.cell? ⟨W.heap.size, 2, none⟩ = some (.slice none 0 0) := h6.cell (by simp; omega) (by omega) (by omega) (by go_simp)
  have r0 : w3.frozen? ⟨W.heap.size, 0, none⟩ = false := h6.frozen (by simp; omega) (by omega) (by omega) (by go_simp)
  have r1 : w3.frozen? ⟨W.heap.size, 1, none⟩ = false := h6.frozen (by simp; omega) (by omega) (by omega) (by go_simp)
  have r2 : w3.frozen? ⟨W.heap.size, 2, none⟩ = false := h6.frozen (by simp; omega) (by omega) (by omega) (by go_simp)
  have lw3 : W.heap.size < w3.heap.size := by omega
  have H6 := hid (H4.out.trans h6)
  have HL := hid (listInstr_anyO h5 q3.1 hq3)
  generalize rInstrsO bs q3.1 q3.2 = q4 at *
  clear h5 h6 z0 z1 z2 g0 g1 g2 HC3 H4
  go_wp2_with fail
  refine HL.out.mono ?_
  rintro e w4 ⟨v4, ⟨rfl, h7, h8⟩, hrow⟩
  obtain ⟨la, lc, rfl⟩ := owns_form hrow
  have p0 := h8.cell l23 (by omega) (by omega) u0
  have p1 := h8.cell l23 (by omega) (by omega) u1
  have p2 := h8.cell l23 (by omega) (by omega) u2
  have k2 := h8.frozen l23 (by omega) (by omega) v2
  have s0 := h8.cell lw3 (by omega) (by omega) t0
  have s1 := h8.cell lw3 (by omega) (by omega) t1
  have s2 := h8.cell lw3 (by omega) (by omega) t2
  have m0 := h8.frozen lw3 (by omega) (by omega) r0
  have m1 := h8.frozen lw3 (by omega) (by omega) r1
  have m2 := h8.frozen lw3 (by omega) (by omega) r2
  have l24 : w2.heap.size < w4.heap.size := Nat.lt_of_lt_of_le l23 h8.size
  have lw4 : W.heap.size < w4.heap.size := Nat.lt_of_lt_of_le lw3 h8.size
  have hrowlt : ∀ b, (Value.slice la q4.1.length lc).ownBlock = some b → w3.heap.size ≤ b := fun b hb => (hrow.lt b hb).1
  have hbase : W.heap.size ≤ w3.heap.size := by omega
  have HROW := hid hrow
  have HRLT := hid hrowlt
  have H7 := hid h7
  have H8 := hid (H6.out.trans h8)
  clear hrow hrowlt h7 h8 u0 u1 u2 v2 t0 t1 t2 r0 r1 r2 HL H6
  have hne : W.heap.size ≠ w2.heap.size := by omega
  go_wp2_with fail
  refine bodyPost_ret (v := .agg #[.int .i64 q1.1, .int .i64 q2.1, .slice la q4.1.length lc]) (by simp [results, Tryz.results115, go_sem, s0, s1, s2]) rfl ?_
  rw [HE.out]
  refine ⟨.slice la q4.1.length lc, ⟨rfl, ?_, ?_⟩, ?_⟩
  · repeat (first | exact H7.out | refine HW.out.setNew ?_ (by omega) _ _)
  · repeat (first | exact H8.out | refine Wrote.setNew ?_ (by omega) _ _)
  · refine owns_base ?_ hbase
    repeat (first | exact HROW.out | refine ownsRow_setCell_other ?_ (by intro hb; have := HRLT.out _ hb; simp at this; omega) _)

def rFuncsO (bs : List Int) (n : Int) (s : Rs) : List FnL × Rs := rList (rFuncO bs) (bs.length + 2) n [] s

set_option maxRecDepth 100000 in
set_option maxHeartbeats 4000000 in
theorem listFunc_anyO {W : World} {rb c : Nat} {a : Option Addr} {bs : List Int} {s : Rs} (h : RdAtO W rb a c bs s) (n : Int) (hn : n ≤ 9223372036854775807) :
    Calls Tryz.prog 113 #[.pointer (some ⟨rb, 0, none⟩), .int .i64 n, .func (.func 115) #[.pointer (some ⟨rb, 0, none⟩)] #[]] W fun e w' => ∃ v fl, RdPostO rb a c bs (rFuncsO bs n s).2 v W e w' ∧ FnRows w' W.heap.size v fl ∧ fl.map (·.1) = (rFuncsO bs n s).1 := by
  obtain ⟨i68, hi, hz, hsz, hby⟩ := info_parts info35'
  have HI := hid hi
  have HZ := hid hz
  have HSZ := hid hsz
  have HBY := hid hby
  have HH := hid h
  have hlen := h.len
  unfold rFuncsO
  clear h hi hz hsz hby
  go_enter Tryz.func113, Tryz.ntmps113
  go_wp2_with fail
  go_loopw [7] (fun vl wr => ∃ (acc : List FnV) (la : Option Addr) (lc : Nat) (s' : Rs), vl = .slice la acc.length lc ∧ FnRows wr W.heap.size vl acc ∧ RdAtO wr rb a c bs s' ∧ Rd rb W wr ∧ (s'.f = true ∨ s.p + acc.length ≤ s'.p) ∧ acc.length ≤ bs.length + 1 ∧ rList (rFuncO bs) (bs.length + 2) n [] s = rList (rFuncO bs) (bs.length + 2 - acc.length) n (acc.map (·.1)) s') (fun vl _ => bs.length + 2 - sliceLen vl)
  case atStart => exact ⟨[], none, 0, s, rfl, ⟨World.ownsRow_nil _ _ _ _, fun x hx => by cases hx⟩, HH.out, Wrote.refl _ _ _, Or.inr (Nat.le_refl _), Nat.zero_le _, rfl⟩
  case round =>
    obtain ⟨acc, la, lc, s', rfl, hrow, hrd, hwr, hpp, hal, heq⟩ := hrel
    have c2 := hrd.c2
    have hlt := hrd.lt
    have hps := hrd.pos
    have HRD := hid hrd
    have HWR := hid hwr
    have HROW := hid hrow
    have hml : (acc.map (·.1)).length = acc.length := by simp
    by_cases hgo : (acc.length : Int) < n ∧ s'.f = false
    · obtain ⟨h1, h2⟩ := hgo
      have hal2 : acc.length ≤ bs.length := by
        rcases hpp with e | e
        · rw [h2] at e; cases e
        · omega
      have HEQ : Hid (rList (rFuncO bs) (bs.length + 2) n [] s = rList (rFuncO bs) (bs.length + 2 - (acc.length + 1)) n (acc.map (·.1) ++ [(rFuncO bs s').1]) (rFuncO bs s').2) := by
        refine hid ?_
        rw [heq, show bs.length + 2 - acc.length = (bs.length + 2 - (acc.length + 1)) + 1 by omega]
        exact rList_go ⟨by rw [hml]; exact h1, h2⟩
      have htk := takes_funcO bs s'
      have HPP : Hid ((rFuncO bs s').2.f = true ∨ s.p + (acc.length + 1) ≤ (rFuncO bs s').2.p) := by
        refine hid ?_
        rcases htk.2 with e | e
        · exact Or.inl e
        · rcases hpp with e' | e'
          · rw [h2] at e'; cases e'
          · exact Or.inr (by omega)
      rw [h2] at c2
      have HV := hid (rfunc_anyO hrd)
      generalize rFuncO bs s' = r at *
      obtain ⟨⟨x1, x2, x3⟩, s2⟩ := r
      simp only at HV HPP HEQ
      clear hrd hwr hrow hpp heq htk h2 hml
      generalize hk : acc.length = k at *
      have HK := hid hk
      clear hk
      go_wp2_with fail
      refine HV.out.mono ?_
      rintro e w1 ⟨cv, ⟨rfl, h3, h4⟩, hcode⟩
      obtain ⟨ca, cc, rfl⟩ := owns_form hcode
      have keep : ∀ b, W.heap.size ≤ b → b < wr.heap.size → w1.heap[b]? = wr.heap[b]? := fun b h1 h2 => h4.block b h2 (by have := HH.out.lt; omega) (by have := HH.out.lt; omega)
      have hr1 : w1.ownsRow W.heap.size 68 3 (.slice la k lc) k (acc.flatMap fvcells) := by
        have := HROW.out.row
        rw [HK.out] at this
        exact ownsRow_of_block this fun b hb => keep b (this.lt b hb).1 (this.lt b hb).2
      have hcod : ∀ x, x ∈ acc ++ [((x1, x2, x3), .slice ca x3.length cc)] → w1.ownsRow W.heap.size 62 2 x.2 x.1.2.2.length (cellsL x.1.2.2) ∧ ∀ b, (Value.slice la k lc).ownBlock = some b → x.2.ownBlock ≠ some b := fun x hx => by
        rcases List.mem_append.1 hx with hx | hx
        · obtain ⟨q1, q2⟩ := HROW.out.code x hx
          exact ⟨ownsRow_of_block q1 fun b hb => keep b (q1.lt b hb).1 (q1.lt b hb).2, fun b hb => q2 b hb⟩
        · rw [List.mem_singleton] at hx
          subst hx
          refine ⟨owns_base hcode (by exact HWR.out.size), fun b hb e => ?_⟩
          have h5 := (hcode.lt b e).1
          have h6 := HROW.out.row.lt b hb
          omega
      have H3 := hid h3
      have H4 := hid (HWR.out.trans h4)
      have HR1 := hid hr1
      have HCOD := hid hcod
      have hz1 : W.heap.size ≤ w1.heap.size := H4.out.size
      clear h3 h4 hr1 hcod hcode keep
      go_wp2_with (at_builtin; go_must (refine wpList_append_any _ rfl (.tmp 20) (.tmp 23) 25 rfl W.heap.size 68 i68 _ 3 40 Tryz.underlying25 HI.out HZ.out HSZ.out HBY.out rfl (by decide) (.slice la k lc) k (acc.flatMap fvcells) rfl (HR1.out.alloc _) (some ⟨w1.heap.size, 0, none⟩) 1 1 [.int .i64 x1, .int .i64 x2, .slice ca x3.length cc] rfl rfl (fun _ => ⟨_, rfl, World.news_of_block (cs := #[.int .i64 x1, .int .i64 x2, .slice ca x3.length cc]) (t := 68) (fr := (0, 0)) (blk_new (by simp))⟩) (by intro u hu; simp at hu; rcases hu with rfl | rfl | rfl <;> rfl) (by unfold maxLen; omega) (by omega) (by simp; omega) ?_))
      intro v5 w5 hown5 hgrow5 hwhere
      obtain ⟨a5, c5, rfl⟩ := owns_form hown5
      have hlow := grown_low HR1.out hz1 hgrow5
      have H5 := hid (HH.out.low H3.out hlow.1 hlow.2.1)
      have H6 := hid (H4.out.low hlow)
      have hfn : FnRows w5 W.heap.size (.slice a5 (k + 1) c5) (acc ++ [((x1, x2, x3), .slice ca x3.length cc)]) := by
        refine ⟨?_, fun x hx => ?_⟩
        · rw [List.length_append, HK.out, List.flatMap_append]
          exact hown5
        · obtain ⟨q1, q2⟩ := HCOD.out x hx
          have hb1 : ∀ b, x.2.ownBlock = some b → b < w1.heap.size := fun b hb => (q1.lt b hb).2
          refine ⟨ownsRow_of_block q1 fun b hb => ?_, fun b hb e => ?_⟩
          · rw [hgrow5.block b (by have := hb1 b hb; simp; omega) (fun e => q2 b e.symm hb)]
            exact (Below.alloc (Below.refl _ _) (Nat.le_refl _) _).block b (hb1 b hb)
          · rcases hwhere b hb with e' | e'
            · exact q2 b e' e
            · have := hb1 b e
              first | omega | (simp at e'; omega)
      have HFN := hid hfn
      clear hown5 hgrow5 hlow hfn hwhere
      go_wp2_with fail
      go_roundw
      case rel => exact ⟨acc ++ [((x1, x2, x3), .slice ca x3.length cc)], a5, c5, s2, by rw [List.length_append, HK.out]; rfl, HFN.out, H5.out, H6.out, by rw [List.length_append, HK.out]; exact HPP.out, by rw [List.length_append, HK.out]; simp; omega, by rw [List.length_append, HK.out, List.map_append]; exact HEQ.out⟩
      case measure => simp [sliceLen]; omega
    · have HEQ : Hid (rList (rFuncO bs) (bs.length + 2) n [] s = (acc.map (·.1), s')) := by
        refine hid ?_
        rw [heq, show bs.length + 2 - acc.length = (bs.length + 1 - acc.length) + 1 by omega]
        exact rList_end (by rw [hml]; exact hgo)
      have HP : Hid (∀ v, v = .slice la acc.length lc → ∃ fl, RdPostO rb a c bs (rList (rFuncO bs) (bs.length + 2) n [] s).2 v W (.returned v) wr ∧ FnRows wr W.heap.size v fl ∧ fl.map (·.1) = (rList (rFuncO bs) (bs.length + 2) n [] s).1) := fun v hv => by
        rw [HEQ.out, hv]
        exact ⟨acc, ⟨rfl, HRD.out, HWR.out⟩, HROW.out, rfl⟩
      clear hrd hwr hrow hpp heq hml
      by_cases hn2 : (acc.length : Int) < n
      · have hf : s'.f = true := by
          cases e : s'.f
          · exact absurd ⟨hn2, e⟩ hgo
          · rfl
        rw [hf] at c2
        clear hgo
        go_wp2_with fail
        go_ret
        obtain ⟨fl, hq⟩ := HP.out _ rfl
        exact ⟨_, fl, hq⟩
      · clear hgo
        go_wp2_with fail
        go_ret
        obtain ⟨fl, hq⟩ := HP.out _ rfl
        exact ⟨_, hq.1, fl, hq.2⟩

theorem rFuncs_bdO (bs : List Int) (hb : bs.length ≤ 20000) (n : Int) (s : Rs) : (rFuncsO bs n s).1.length ≤ 20002 ∧ ∀ x, x ∈ (rFuncsO bs n s).1 → x.2.2.length ≤ 20002 := by
  constructor
  · have := rList_len (rFuncO bs) (bs.length + 2) n [] s
    unfold rFuncsO
    simp at this
    omega
  · intro x hx
    rcases rList_mem (rFuncO bs) _ _ _ _ x hx with h | ⟨s', rfl⟩
    · cases h
    · unfold rFuncO
      have := rList_len (rInstrO bs) (bs.length + 2) (rCountO bs (rCountO bs (rCountO bs s').2).2).1 [] (rCountO bs (rCountO bs (rCountO bs s').2).2).2
      simp at this
      simp only [rInstrsO]
      omega

def rProgO (bs : List Int) (s : Rs) : List FnL × Rs := rFuncsO bs (rCountO bs s).1 (rCountO bs s).2

set_option maxRecDepth 100000 in
set_option maxHeartbeats 4000000 in
theorem rprogram_anyO {W : World} {rb c : Nat} {a : Option Addr} {bs : List Int} {s : Rs} (h : RdAtO W rb a c bs s) (ht : Tab W) (h0 : rb ≠ 0) :
    Calls Tryz.prog 79 #[.pointer (some ⟨rb, 0, none⟩)] W fun e w' => ∃ g x y, RdPostO rb a c bs (rMust (rProgO bs s).2 (x == 0)) (.agg #[.slice g.a g.n g.c]) W e w' ∧ PgIn w'.heap.size w' g ∧ (∀ k, g.blk k → W.heap.size ≤ k) ∧ PgIs g (rProgO bs s).1 ∧ CheckIs g x y := by
  have hlt := h.lt
  have HW := hid h
  have HLEN := hid h.len
  have HT := hid ht
  have hB0 : Below W.heap.size W (W.alloc (.cells #[.slice none 0 0] 27)) := Below.alloc (Below.refl _ _) (Nat.le_refl _) _
  have HB0 := hid hB0
  have HC := hid (rcount_anyO (h.later hB0))
  have HE : Hid (rProgO bs s = rFuncsO bs (rCountO bs s).1 (rCountO bs s).2) := hid rfl
  have hq : (rCountO bs s).1 ≤ 9223372036854775807 := (rUpTo_leO h.rng (by decide) s).2
  generalize rProgO bs s = r at *
  generalize rCountO bs s = q1 at *
  clear h hB0 ht
  go_enter Tryz.func79, Tryz.ntmps79
  go_wp2_with fail
  refine HC.out.mono ?_
  rintro e w1 ⟨rfl, h1, h2⟩
  have y0 : w1.cell? ⟨W.heap.size, 0, none⟩ = some (.slice none 0 0) := h2.cell (by simp) (by omega) (by omega) (by go_simp)
  have f0 : w1.frozen? ⟨W.heap.size, 0, none⟩ = false := h2.frozen (by simp) (by omega) (by omega) (by go_simp)
  have lw1 : W.heap.size < w1.heap.size := by have := h2.size; simp at this; omega
  have HL := hid (listFunc_anyO h1 q1.1 hq)
  have HBD := hid (rFuncs_bdO bs HLEN.out q1.1 q1.2)
  have H2 := hid ((Wrote.of_below HB0.out).trans h2)
  generalize rFuncsO bs q1.1 q1.2 = q2 at *
  clear h1 h2 HC HB0
  go_wp2_with fail
  refine HL.out.mono ?_
  rintro e w2 ⟨v, fl, ⟨rfl, h3, h4⟩, hrow, hfl⟩
  have z0 := h4.cell lw1 (by omega) (by omega) y0
  have g0 := h4.frozen lw1 (by omega) (by omega) f0
  have lw2 : W.heap.size < w2.heap.size := Nat.lt_of_lt_of_le lw1 h4.size
  have hbd := HBD.out
  rw [← hfl] at hbd
  have hpi : PgIn w2.heap.size w2 (pgF v fl) := pgIn_of hrow (by have := hbd.1; rw [List.length_map] at this; omega) (fun x hx => by have := hbd.2 _ (List.mem_map_of_mem hx); omega)
  have hbl : ∀ k, (pgF v fl).blk k → w1.heap.size ≤ k := fun k hk => (pgF_blk hrow k hk).1
  have his := pgIs_of v fl
  rw [hfl] at his
  obtain ⟨va, vc, rfl⟩ := owns_form hrow.row
  have hg1 : (pgF (.slice va fl.length vc) fl).a = va := rfl
  have hg2 : (pgF (.slice va fl.length vc) fl).n = fl.length := rfl
  have hg3 : (pgF (.slice va fl.length vc) fl).c = vc := rfl
  generalize pgF (.slice va fl.length vc) fl = g at *
  rw [← hg1, ← hg2, ← hg3]
  have hB2 : Below w2.heap.size w2 (w2.alloc (.cells #[.slice g.a g.n g.c] 27)) := Below.alloc (Below.refl _ _) (Nat.le_refl _) _
  have H4 := hid (H2.out.trans h4)
  have H3 := hid h3
  have HPI := hid hpi
  have HBL := hid hbl
  have HIS := hid his
  have HB2 := hid hB2
  have HK := hid (check_any g _ (hpi.below hB2 |>.mono hB2.size) ((HT.out.wrote h0 H4.out).held hB2.size (hB2.block 0 (by omega))))
  clear h3 h4 hpi hbl his hB2 y0 f0 hg1 hg2 hg3 hrow hfl hbd HL HBD H2
  go_wp2_with fail
  refine HK.out.mono ?_
  rintro e w3 ⟨x, y, rfl, hck, hB3⟩
  have t0 : w3.cell? ⟨W.heap.size, 0, none⟩ = some (.slice none 0 0) := by rw [hB3.cell (p := ⟨W.heap.size, 0, none⟩) (by simp; omega)]; go_simp
  have t1 : w3.frozen? ⟨W.heap.size, 0, none⟩ = false := by rw [hB3.frozen (p := ⟨W.heap.size, 0, none⟩) (by simp; omega)]; go_simp
  have u0 : w3.cell? ⟨w2.heap.size, 0, none⟩ = some (.slice g.a g.n g.c) := by rw [hB3.cell (p := ⟨w2.heap.size, 0, none⟩) (by simp)]; go_simp
  have hB23 : Below w2.heap.size w2 w3 := below_via' hB3 HB2.out
  have l3 : w2.heap.size < w3.heap.size := by have := hB3.size; simp at this; omega
  have H5 := hid (H3.out.later hB23)
  have HM := hid (must_anyO H5.out (x == 0))
  have H6 := hid (H4.out.trans (Wrote.of_below hB23))
  have HPI3 := hid ((HPI.out.below hB23).mono hB23.size)
  have HCK := hid hck
  clear hB3 hB23 hck HK HB2 HPI H4 H3 z0 g0
  go_wp2_with fail
  refine HM.out.mono ?_
  rintro e w4 ⟨rfl, h7, h8⟩
  have s0 := h8.cell (by omega) (by omega) (by omega) t0
  have s1 := h8.frozen (by omega) (by omega) (by omega) t1
  have p0 := h8.cell l3 (by omega) (by omega) u0
  have hpi4 : PgIn w4.heap.size w4 g := HPI3.out.held h8.size fun k hk => h8.block k (HPI3.out.blk_lt hk) (by have := HBL.out k hk; omega) (by have := HBL.out k hk; omega)
  have H7 := hid h7
  have H8 := hid (H6.out.trans h8)
  have HPI4 := hid hpi4
  have hne : W.heap.size ≠ w2.heap.size := by omega
  clear h7 h8 hpi4 t0 t1 u0 HM H6 H5 HPI3
  go_wp2_with fail
  refine bodyPost_ret (v := .agg #[.slice g.a g.n g.c]) (by simp [results, Tryz.results79, go_sem, s0]) rfl ?_
  rw [HE.out]
  refine ⟨g, x, y, ⟨rfl, ?_, ?_⟩, ?_, fun k hk => ?_, HIS.out, HCK.out⟩
  · repeat (first | exact H7.out | refine HW.out.setNew ?_ (by omega) _ _)
  · repeat (first | exact H8.out | refine Wrote.setNew ?_ (by omega) _ _)
  · refine HPI4.out.held (by simp) fun k hk => ?_
    have := HBL.out k hk
    exact Below.heap_setCell _ _ _ _ (by simp; omega)
  · have := HBL.out k hk
    omega

set_option maxHeartbeats 1000000 in
theorem atEnd_anyO {W : World} {rb c : Nat} {a : Option Addr} {bs : List Int} {s : Rs} (h : RdAtO W rb a c bs s) :
    Calls Tryz.prog 84 #[.pointer (some ⟨rb, 0, none⟩)] W fun e w' => e = .returned (.bool (s.p == bs.length)) ∧ Below W.heap.size W w' := by
  have c0 := h.c0
  have c1 := h.c1
  have hlt := h.lt
  clear h
  go_enter Tryz.func84, Tryz.ntmps84
  go_wp2_with fail
  go_region
  all_goals
    go_wp2_with fail
    go_ret
    refine ⟨congrArg (fun b => Ending.returned (Value.bool b)) ?_, Below.drew (Below.refl _ _)⟩
    rw [Bool.eq_iff_iff]
    simp only [beq_iff_eq]
    omega


end Go.Proofs.YtbkmgoffiigdbabGreatDoor

namespace Go.Proofs.YtbkmgoffiigdbabGreatDoor
open Go.RowKit Go.Sort

/-! The older version: a machine is read behind a fault. -/

/-- A reader that has met a fault. -/
def FAO (W : World) (rb : Nat) (a : Option Addr) (c : Nat) (bs : List Int) : Prop := ∃ s, RdAtO W rb a c bs s ∧ s.f = true

theorem FAO.later {W V : World} {rb c : Nat} {a : Option Addr} {bs : List Int} (h : FAO W rb a c bs) (hB : Below W.heap.size W V) : FAO V rb a c bs := by
  obtain ⟨s, h, hf⟩ := h
  exact ⟨s, h.later hB, hf⟩
theorem FAO.lt {W : World} {rb c : Nat} {a : Option Addr} {bs : List Int} (h : FAO W rb a c bs) : rb < W.heap.size := by
  obtain ⟨s, h, hf⟩ := h
  exact h.lt
theorem FAO.flag {W : World} {rb c : Nat} {a : Option Addr} {bs : List Int} (h : FAO W rb a c bs) : W.cell? ⟨rb, 2, none⟩ = some (.bool true) := by
  obtain ⟨s, h, hf⟩ := h
  have := h.c2
  rw [hf] at this
  exact this

def FPostO (rb : Nat) (a : Option Addr) (c : Nat) (bs : List Int) (v : Value) (W : World) (e : Ending) (w' : World) : Prop := e = .returned v ∧ FAO w' rb a c bs ∧ Rd rb W w'

theorem rUpTo_faultO {bs : List Int} {s : Rs} (h : s.f = true) (m : Int) : (rUpToO bs m s).1 = 0 ∧ (rUpToO bs m s).2.f = true := by
  have h2 := (fwd_upToO bs m s).f h
  refine ⟨?_, h2⟩
  unfold rUpToO at h2 ⊢
  simp only at h2 ⊢
  rw [h2]
  rfl

theorem upTo_fO {W : World} {rb c : Nat} {a : Option Addr} {bs : List Int} (h : FAO W rb a c bs) (most : Nat) (hm : most ≤ 9223372036854775807) :
    Calls Tryz.prog 80 #[.pointer (some ⟨rb, 0, none⟩), .int .i64 (most : Int)] W fun e w' => FPostO rb a c bs (.int .i64 0) W e w' := by
  obtain ⟨s, h, hf⟩ := h
  refine (upTo_anyO h most hm).mono ?_
  rintro e w' ⟨rfl, h1, h2⟩
  obtain ⟨e1, e2⟩ := rUpTo_faultO (bs := bs) hf (most : Int)
  rw [e1]
  exact ⟨rfl, ⟨_, h1, e2⟩, h2⟩

theorem must_fO {W : World} {rb c : Nat} {a : Option Addr} {bs : List Int} (h : FAO W rb a c bs) (hold : Bool) :
    Calls Tryz.prog 82 #[.pointer (some ⟨rb, 0, none⟩), .bool hold] W fun e w' => FPostO rb a c bs (.tuple #[]) W e w' := by
  obtain ⟨s, h, hf⟩ := h
  refine (must_anyO h hold).mono ?_
  rintro e w' ⟨rfl, h1, h2⟩
  exact ⟨rfl, ⟨_, h1, (fwd_must s hold).f hf⟩, h2⟩

theorem atEnd_fO {W : World} {rb c : Nat} {a : Option Addr} {bs : List Int} (h : FAO W rb a c bs) :
    Calls Tryz.prog 84 #[.pointer (some ⟨rb, 0, none⟩)] W fun e w' => (∃ b, e = .returned (.bool b)) ∧ Below W.heap.size W w' := by
  obtain ⟨s, h, hf⟩ := h
  refine (atEnd_anyO h).mono ?_
  rintro e w' ⟨rfl, h1⟩
  exact ⟨⟨_, rfl⟩, h1⟩

set_option maxHeartbeats 1000000 in
theorem objects_fO {W : World} {rb c : Nat} {a : Option Addr} {bs : List Int} (h : FAO W rb a c bs) :
    Calls Tryz.prog 83 #[.pointer (some ⟨rb, 0, none⟩)] W fun e w' => FPostO rb a c bs (.slice none 0 0) W e w' := by
  have HN := hid (upTo_fO h 40 (by decide))
  clear h
  go_enter Tryz.func83, Tryz.ntmps83
  go_wp2_with (first | (go_at_call 80; refine HN.out.mono ?_; rintro e w1 ⟨rfl, h1, h2⟩) | (go_at_call 117; refine (list117_none rb _).mono ?_; rintro e w2 ⟨rfl, hw⟩; rw [hw]; clear hw w2))
  go_ret
  exact ⟨rfl, h1, h2⟩

set_option maxRecDepth 100000 in
set_option maxHeartbeats 2000000 in
theorem frames_fO {W : World} {rb c : Nat} {a : Option Addr} {bs : List Int} (h : FAO W rb a c bs) (pa : Option Addr) (pn pc : Nat) :
    Calls Tryz.prog 81 #[.pointer (some ⟨rb, 0, none⟩), .agg #[.slice pa pn pc]] W fun e w' => FPostO rb a c bs (.slice none 0 0) W e w' := by
  have hB0 : Below W.heap.size W (W.alloc (.cells #[.slice pa pn pc] 27)) := Below.alloc (Below.refl _ _) (Nat.le_refl _) _
  have HB0 := hid hB0
  have HU := hid (upTo_fO (h.later hB0) 12 (by decide))
  simp only [show ((12 : Nat) : Int) = 12 from rfl] at HU
  clear h hB0
  go_enter Tryz.func81, Tryz.ntmps81
  go_wp2_with fail
  refine HU.out.mono ?_
  rintro e w1 ⟨rfl, h1, h2⟩
  have H1 := hid h1
  have H2 := hid ((Wrote.of_below HB0.out).trans h2)
  clear h1 h2 HU HB0
  go_wp2_with fail
  go_loopw [5, 6, 7] (fun vl vc vn wr => vl = .slice none 0 0 ∧ vc = .int .i64 0 ∧ vn = .int .i64 0 ∧ wr = w1) (fun _ _ _ _ => 0)
  case atStart => exact ⟨rfl, rfl, rfl, rfl⟩
  case round =>
    obtain ⟨rfl, rfl, rfl, rfl⟩ := hrel
    go_wp2_with fail
    go_ret
    exact ⟨rfl, H1.out, H2.out⟩


theorem out_fO {W : World} {rb c : Nat} {a : Option Addr} {bs : List Int} (h : FAO W rb a c bs) :
    Calls Tryz.prog 106 #[.pointer (some ⟨rb, 0, none⟩)] W fun e w' => FPostO rb a c bs (.slice none 0 0) W e w' := by
  refine (noOutput_any rb W).mono ?_
  rintro e w' ⟨rfl, rfl⟩
  exact ⟨rfl, h, Wrote.refl _ _ _⟩

structure MmFO (W w : World) (M rb : Nat) (a : Option Addr) (c : Nat) (bs : List Int) (g : PgR) : Prop where
  mm : MmAt w M g 0 (.slice none 0 0) (.slice none 0 0) (.slice none 0 0)
  rd : FAO w rb a c bs
  wr : Wrote rb rb W w
  pg : PgIn w.heap.size w g
  tab : Tab w
  M0 : W.heap.size ≤ M
  gM : ∀ k, g.blk k → W.heap.size ≤ k ∧ k ≠ M

theorem MmFO.next {W w w' : World} {M rb : Nat} {a : Option Addr} {c : Nat} {bs : List Int} {g : PgR} (h : MmFO W w M rb a c bs g) (hl : rb < W.heap.size) (h0 : rb ≠ 0) (hr : FAO w' rb a c bs) (hw : Wrote rb rb w w') : MmFO W w' M rb a c bs g := by
  have := h.M0
  exact ⟨h.mm.kept hw.size (hw.block M h.mm.lt (by omega) (by omega)), hr, h.wr.trans hw, h.pg.wrote (fun k hk => by have := h.gM k hk; omega) hw, h.tab.wrote h0 hw, h.M0, h.gM⟩
theorem MmFO.below {W w w' : World} {M rb : Nat} {a : Option Addr} {c : Nat} {bs : List Int} {g : PgR} (h : MmFO W w M rb a c bs g) (hl : rb < W.heap.size) (h0 : rb ≠ 0) (hw : Below w.heap.size w w') : MmFO W w' M rb a c bs g :=
  h.next hl h0 (h.rd.later hw) (Wrote.of_below hw)
theorem MmFO.put {W w : World} {M rb : Nat} {a : Option Addr} {c : Nat} {bs : List Int} {g : PgR} {s0 : Rs} (hW : RdAtO W rb a c bs s0) (h : MmFO W w M rb a c bs g) (j : Nat) (v : Value) (hm : MmAt (w.setCell ⟨M, j, none⟩ v) M g 0 (.slice none 0 0) (.slice none 0 0) (.slice none 0 0)) : MmFO W (w.setCell ⟨M, j, none⟩ v) M rb a c bs g := by
  have hM0 := h.M0
  have hz := h.tab.1
  have hWz := hW.lt
  obtain ⟨s, hrd, hf⟩ := h.rd
  refine ⟨hm, ⟨s, hW.setNew hrd hM0 j v, hf⟩, h.wr.setNew hM0 j v, h.pg.held (by simp) fun k hk => ?_, h.tab.held (by simp) ?_, hM0, h.gM⟩
  · exact heap_setCell_other _ _ _ _ (show k ≠ M from (h.gM k hk).2)
  · exact heap_setCell_other _ _ _ _ (show 0 ≠ M by omega)

theorem MmFO.mach {W w : World} {M rb : Nat} {a : Option Addr} {c : Nat} {bs : List Int} {g : PgR} (h : MmFO W w M rb a c bs g) (hl : rb < W.heap.size) : ∃ own, MachAt w own M g emptyR := by
  have hM0 := h.M0
  have hp : ∀ b t, IsPart M emptyR b t → t = .mach ∧ b = M := fun b t hp => by
    cases t with
    | mach => exact ⟨rfl, hp⟩
    | out => cases hp
    | called => cases hp
    | slots => cases hp
    | draws => cases hp
    | loc i => obtain ⟨f, hf, _⟩ := hp; simp [emptyR] at hf
    | stk i => obtain ⟨f, hf, _⟩ := hp; simp [emptyR] at hf
    | fld j => obtain ⟨f, hf, _⟩ := hp; simp [emptyR] at hf
  obtain ⟨own, hm, _⟩ := machAt_parts (w := w) (mb := M) (g := g) (R := emptyR) (fun b t t' h1 h2 => by rw [(hp b t h1).1, (hp b t' h2).1]) (fun b t h1 => by rw [(hp b t h1).2]; exact h.mm.lt)
    h.mm.c0 h.mm.c1 h.mm.c2 h.mm.c3 h.mm.c4 h.mm.c5 h.mm.z (World.ownsRow_nil _ _ _ _) (World.ownsRow_nil _ _ _ _) (World.ownsRow_nil _ _ _ _) (World.ownsRow_nil _ _ _ _) (fun i f hf => by simp [emptyR] at hf) (fun i f hf => by simp [emptyR] at hf) (fun i f hf => by simp [emptyR] at hf)
    h.pg (fun k hk t h1 => (h.gM k hk).2 (hp k t h1).2) h.tab (fun t h1 => by have := (hp 0 t h1).2; omega)
  exact ⟨own, hm⟩

set_option maxRecDepth 100000 in
set_option maxHeartbeats 4000000 in
theorem rmachine_badO {W : World} {rb c : Nat} {a : Option Addr} {bs : List Int} {s : Rs} (h : RdAtO W rb a c bs s) (ht : Tab W) (h0 : rb ≠ 0) (hbad : ∀ g x y, PgIs g (rProgO bs s).1 → CheckIs g x y → (rMust (rProgO bs s).2 (x == 0)).f = true) :
    Calls Tryz.prog 51 #[.pointer (some ⟨rb, 0, none⟩)] W fun e w' => ∃ mb, FPostO rb a c bs (.pointer (some ⟨mb, 0, none⟩)) W e w' := by
  have hlt := h.lt
  have HW := hid h
  have HP := hid (rprogram_anyO h ht h0)
  have HT := hid ht
  have HCK := hid hbad
  clear h ht hbad
  go_enter Tryz.func51, Tryz.ntmps51
  go_wp2_with fail
  refine HP.out.mono ?_
  rintro e w1 ⟨g, x, y, ⟨rfl, h1, h2⟩, hpi, hbl, his, hck⟩
  have hfa : FAO w1 rb a c bs := ⟨_, h1, HCK.out g x y his hck⟩
  have hB1 : Below w1.heap.size w1 (w1.alloc (.cells #[.slice g.a g.n g.c, .int .i64 0, .slice none 0 0, .slice none 0 0, .slice none 0 0, .slice none 0 0] 81)) := Below.alloc (Below.refl _ _) (Nat.le_refl _) _
  have hW1 := (h2.trans (Wrote.of_below hB1) : Wrote rb rb W _)
  have hs1 : W.heap.size ≤ w1.heap.size := h2.size
  have S1 : Hid (MmFO W (w1.alloc (.cells #[.slice g.a g.n g.c, .int .i64 0, .slice none 0 0, .slice none 0 0, .slice none 0 0, .slice none 0 0] 81)) w1.heap.size rb a c bs g) :=
    hid ⟨⟨by go_simp, by go_simp, by go_simp, by go_simp, by go_simp, by go_simp, fun j => by go_simp, by simp⟩, hfa.later hB1, hW1, hpi.held hB1.size (fun k hk => hB1.block k (hpi.blk_lt hk)), HT.out.wrote h0 hW1, hs1, fun k hk => ⟨hbl k hk, by have := hpi.blk_lt hk; omega⟩⟩
  have HU := hid (upTo_fO S1.out.rd 7 (by decide))
  simp only [show ((7 : Nat) : Int) = 7 from rfl] at HU
  clear h1 h2 hpi hbl his hck hB1 hW1 HP HCK hfa
  go_wp2_with fail
  refine HU.out.mono ?_
  rintro e w2 ⟨rfl, h3, h4⟩
  have S2 := hid (S1.out.next hlt h0 h3 h4)
  clear h3 h4 HU S1
  have hM0 := S2.out.M0
  have hMr : w1.heap.size ≠ rb := by omega
  have y1 := S2.out.mm.c1
  have z1 := S2.out.mm.z 1
  have l2 := S2.out.mm.lt
  obtain ⟨s2, hr2, _⟩ := S2.out.rd
  have c5 := hr2.c5
  have lr := hr2.lt
  clear hr2
  have S3 := hid (S2.out.put HW.out 1 (.int .i64 0) (S2.out.mm.set1 0))
  have HO := hid (out_fO S3.out.rd)
  go_wp2_with fail
  refine HO.out.mono ?_
  rintro e w4 ⟨rfl, h5, h6⟩
  have S4 := hid (S3.out.next hlt h0 h5 h6)
  clear h5 h6 HO y1 z1 l2 c5 lr S3 S2
  have y2 := S4.out.mm.c2
  have z2 := S4.out.mm.z 2
  have l4 := S4.out.mm.lt
  have y0 := S4.out.mm.c0
  have lr := S4.out.rd.lt
  have S5 := hid (S4.out.put HW.out 2 (.slice none 0 0) (S4.out.mm.set2 _))
  have HF := hid (frames_fO S5.out.rd g.a g.n g.c)
  go_wp2_with fail
  refine HF.out.mono ?_
  rintro e w6 ⟨rfl, h7, h8⟩
  have S6 := hid (S5.out.next hlt h0 h7 h8)
  clear h7 h8 HF y2 z2 l4 y0 lr S5 S4
  have y3 := S6.out.mm.c3
  have z3 := S6.out.mm.z 3
  have l6 := S6.out.mm.lt
  have y1 := S6.out.mm.c1
  have lr := S6.out.rd.lt
  have S7 := hid (S6.out.put HW.out 3 (.slice none 0 0) (S6.out.mm.set3 _))
  go_wp2_with fail
  generalize w6.setCell ⟨w1.heap.size, 3, none⟩ (.slice none 0 0) = w7 at *
  clear y3 z3 l6 y1 lr S6
  have y1 := S7.out.mm.c1
  have y3 := S7.out.mm.c3
  have l7 := S7.out.mm.lt
  have HRE : Hid (∀ V, Below w7.heap.size w7 V → FAO V rb a c bs) := hid fun V hV => S7.out.rd.later hV
  go_region_held3 (fun u => u.cell? ⟨w1.heap.size, 1, none⟩ = some (.int .i64 0) ∧ u.cell? ⟨w1.heap.size, 3, none⟩ = some (.slice none 0 0)) (first | go_keep | exact ⟨y1, y3⟩ | exact ⟨s1, s3⟩) (first | (go_at_call 82; refine (must_fO (HRE.out _ (by repeat (first | exact Below.refl _ _ | refine Below.drew ?_ | refine Below.drewQ ?_ _))) _).mono ?_; rintro e w8 ⟨rfl, h9, h10⟩; have S8 := hid ((S7.out.below hlt h0 (by repeat (first | exact Below.refl _ _ | refine Below.drew ?_ | refine Below.drewQ ?_ _))).next hlt h0 h9 h10); have s1 := S8.out.mm.c1; have s3 := S8.out.mm.c3; clear h9 h10))
  rename_i hHeld
  clear hHeld s1 s3 y1 y3 l7 S7 HRE
  have HO := hid (objects_fO S8.out.rd)
  go_wp2_with fail
  refine HO.out.mono ?_
  rintro e w9 ⟨rfl, h11, h12⟩
  have S9 := hid (S8.out.next hlt h0 h11 h12)
  clear h11 h12 HO S8
  have y4 := S9.out.mm.c4
  have z4 := S9.out.mm.z 4
  have l9 := S9.out.mm.lt
  have lr := S9.out.rd.lt
  have S10 := hid (S9.out.put HW.out 4 (.slice none 0 0) (S9.out.mm.set4 _))
  go_wp2_with fail
  generalize w9.setCell ⟨w1.heap.size, 4, none⟩ (.slice none 0 0) = w10 at *
  clear y4 z4 l9 lr S9
  have HAE : Hid (∀ V, Below w10.heap.size w10 V → Calls Tryz.prog 84 #[.pointer (some ⟨rb, 0, none⟩)] V fun e w' => (∃ b, e = .returned (.bool b)) ∧ Below V.heap.size V w') := hid fun V hV => atEnd_fO (S10.out.rd.later hV)
  go_region_with (first | (go_at_call 84; refine (HAE.out _ (by repeat (first | exact Below.refl _ _ | refine Below.drew ?_ | refine Below.drewQ ?_ _))).mono ?_; rintro e w11 ⟨⟨b0, rfl⟩, hb11⟩; have HB11 : Hid (Below w10.heap.size w10 w11) := below_via' hb11 (by repeat (first | exact Below.refl _ _ | refine Below.drew ?_ | refine Below.drewQ ?_ _)); clear hb11) | (go_at_call 82; refine (must_fO (S10.out.rd.later HB11.out) _).mono ?_; rintro e w12 ⟨rfl, h13, h14⟩; have S12 := hid ((S10.out.below hlt h0 HB11.out).next hlt h0 h13 h14); clear h13 h14))
  all_goals
    obtain ⟨own, hmach⟩ := S12.out.mach hlt
    have HIP : Hid (∀ V, Below w12.heap.size w12 V → Calls Tryz.prog 85 #[.pointer (some ⟨w1.heap.size, 0, none⟩)] V fun e w' => ∃ b, e = .returned (.bool b) ∧ Below V.heap.size V w') := hid fun V hV => (isPacked_any (hmach.same hV.size fun k hk => hV.block k hk) empty_in (fun ha => by have h9 := aliveFree_le (empty_in.free ha); have h8 : emptyR.obs.length = 0 := rfl; omega)).mono fun e w' ⟨b, h1, h2, _⟩ => ⟨b, h1, h2⟩
    clear hmach HAE HB11 S10
    go_wp2_with fail
    go_region_with (first | (go_at_call 85; refine (HIP.out _ (by repeat (first | exact Below.refl _ _ | refine Below.drew ?_ | refine Below.drewQ ?_ _))).mono ?_; rintro e w13 ⟨b, rfl, hb13⟩; have HB13 : Hid (Below w12.heap.size w12 w13) := below_via' hb13 (by repeat (first | exact Below.refl _ _ | refine Below.drew ?_ | refine Below.drewQ ?_ _)); clear hb13) | (go_at_call 82; refine (must_fO (S12.out.rd.later HB13.out) _).mono ?_; rintro e w14 ⟨rfl, h15, h16⟩; have H15 := hid h15; have H16 := hid h16; clear h15 h16))
  all_goals
    go_wp2_with fail
    go_ret
    exact ⟨w1.heap.size, rfl, H15.out, (S12.out.wr.trans (Wrote.of_below HB13.out)).trans H16.out⟩


end Go.Proofs.YtbkmgoffiigdbabGreatDoor

namespace Go.Proofs.YtbkmgoffiigdbabGreatDoor
open Go.RowKit Go.Sort

/-! PLAIN: what is an image of the newer version is none of the older. -/

theorem pos_next {bs : List Int} {s : Rs} (h : s.p ≤ bs.length) : (rNext bs s).2.p ≤ bs.length := by
  unfold rNext
  split
  · exact h
  · show s.p + 1 ≤ _
    omega
theorem pos_must {bs : List Int} {s : Rs} (b : Bool) (h : s.p ≤ bs.length) : (rMust s b).p ≤ bs.length := by rw [rMust_p]; exact h
theorem pos_fourN {bs : List Int} : ∀ (m : Nat) (s : Rs) (n : Int) (k : Nat), s.p ≤ bs.length → (rFourN bs m s n k).2.p ≤ bs.length
  | 0, _, _, _, h => h
  | m + 1, _, _, _, h => pos_fourN m _ _ _ (pos_next h)
theorem pos_four {bs : List Int} {s : Rs} (h : s.p ≤ bs.length) : (rFour bs s).2.p ≤ bs.length := by
  rw [rFour]
  exact pos_fourN 4 _ _ _ h
theorem pos_num {bs : List Int} {s : Rs} (h : s.p ≤ bs.length) : (rNumO bs s).2.p ≤ bs.length := by
  rw [rNumO_2]
  exact pos_must _ (pos_four h)
theorem pos_int {bs : List Int} {s : Rs} (h : s.p ≤ bs.length) : (rIntO bs s).2.p ≤ bs.length := by
  rw [rIntO_2]
  exact pos_four h
theorem pos_count {bs : List Int} {s : Rs} (h : s.p ≤ bs.length) : (rCountO bs s).2.p ≤ bs.length := pos_must _ (pos_num h)
theorem pos_instr {bs : List Int} {s : Rs} (h : s.p ≤ bs.length) : (rInstrO bs s).2.p ≤ bs.length := pos_must _ (pos_int (pos_count h))
theorem pos_list {α : Type} {bs : List Int} {rd : Rs → α × Rs} (hd : ∀ s, s.p ≤ bs.length → (rd s).2.p ≤ bs.length) : ∀ (F : Nat) (n : Int) (acc : List α) (s : Rs), s.p ≤ bs.length → (rList rd F n acc s).2.p ≤ bs.length
  | 0, _, _, _, h => h
  | F + 1, n, acc, s, h => by
    rw [rList]
    split
    · exact pos_list hd F n _ _ (hd s h)
    · exact h
theorem pos_func {bs : List Int} {s : Rs} (h : s.p ≤ bs.length) : (rFuncO bs s).2.p ≤ bs.length := pos_list (fun _ h => pos_instr h) _ _ _ _ (pos_count (pos_count (pos_count h)))

/-- A list that ends without a fault is whole. -/
theorem list_whole {α : Type} {bs : List Int} {rd : Rs → α × Rs} (ht : ∀ s, Takes s (rd s).2) (hd : ∀ s, s.p ≤ bs.length → (rd s).2.p ≤ bs.length) (n : Int) : ∀ (F : Nat) (acc : List α) (s : Rs), s.p ≤ bs.length → bs.length < s.p + F → (rList rd F n acc s).2.f = false → n ≤ ((rList rd F n acc s).1.length : Int)
  | 0, _, s, h, hF, _ => by omega
  | F + 1, acc, s, h, hF, hf => by
    by_cases hg : (acc.length : Int) < n ∧ s.f = false
    · rw [rList_go hg] at hf ⊢
      have hfs : (rd s).2.f = false := by
        cases q : (rd s).2.f
        · rfl
        · cases F with
          | zero => rw [show rList rd 0 n (acc ++ [(rd s).1]) (rd s).2 = (acc ++ [(rd s).1], (rd s).2) from rfl] at hf; rw [q] at hf; cases hf
          | succ F =>
            rw [rList_end (fun hh => by rw [q] at hh; cases hh.2)] at hf
            rw [q] at hf
            cases hf
      have hp : s.p < (rd s).2.p := by
        rcases (ht s).2 with q | q
        · rw [hfs] at q; cases q
        · exact q
      exact list_whole ht hd n F _ _ (hd s h) (by omega) hf
    · rw [rList_end hg] at hf ⊢
      have hf' : s.f = false := hf
      show n ≤ (acc.length : Int)
      exact Decidable.byContradiction fun hh => hg ⟨by omega, hf'⟩

theorem or32 (a b : Nat) (ha : a < 4294967296) (hb : b < 4294967296) : bits .or .u32 (a : Int) (b : Int) = ((a ||| b : Nat) : Int) := by
  have hx : a ||| b < 2 ^ 32 := Nat.or_lt_two_pow (by omega) (by omega)
  have h1 : (BitVec.ofInt 32 (a : Int)).toNat = a := by
    rw [BitVec.ofInt_natCast, BitVec.toNat_ofNat]; exact Nat.mod_eq_of_lt (by omega)
  have h2 : (BitVec.ofInt 32 (b : Int)).toNat = b := by
    rw [BitVec.ofInt_natCast, BitVec.toNat_ofNat]; exact Nat.mod_eq_of_lt (by omega)
  show IntKind.u32.wrap ((BitVec.ofInt 32 (a : Int) ||| BitVec.ofInt 32 (b : Int)).toNat : Int) = _
  rw [BitVec.toNat_or, h1, h2, wrap_u32n]
  omega

theorem four_big {bs : List Int} {s : Rs} {x : Nat} (h : ∃ a b c : Int, rNext bs s = (a, ⟨s.p + 1, false⟩) ∧ rNext bs ⟨s.p + 1, false⟩ = (b, ⟨s.p + 2, false⟩) ∧ rNext bs ⟨s.p + 2, false⟩ = (c, ⟨s.p + 3, false⟩) ∧ rNext bs ⟨s.p + 3, false⟩ = ((x : Int), ⟨s.p + 4, false⟩)) (h1 : 1 ≤ x) (h2 : x < 128) : 16777216 ≤ (rFour bs s).1 := by
  obtain ⟨a, b, c, e1, e2, e3, e4⟩ := h
  rw [rFour, rFourN, e1]
  simp only
  rw [rFourN, e2]
  simp only
  rw [rFourN, e3]
  simp only
  rw [rFourN, e4]
  simp only
  rw [rFourN]
  simp only
  have hb := or32_bd (bits .or .u32 (bits .or .u32 0 (shl32 a 0)) (shl32 b (0 + 8))) (shl32 c (0 + 8 + 8))
  obtain ⟨m, hm⟩ := Int.eq_ofNat_of_zero_le hb.1
  rw [hm] at hb ⊢
  have hs : shl32 (x : Int) (0 + 8 + 8 + 8) = ((x * 16777216 : Nat) : Int) := by
    unfold shl32
    have e : (2 : Int) ^ (0 + 8 + 8 + 8) = 16777216 := by decide
    rw [e]
    omega
  rw [hs, or32 m _ (by omega) (by omega)]
  have : x * 16777216 ≤ m ||| x * 16777216 := Nat.right_le_or
  omega

theorem numB_one {n : Nat} (h : n < 128) : numB n = [(n : Int)] := by rw [numB, if_pos h]

/-- The numbers at the beginning of a program, read as one number of the older version, are far too many functions. -/
theorem old_bad {bs pre post : List Int} {g : PgR} (hp : PgOk g) (hb : bs = pre ++ (progB g ++ post)) (hl : bs.length ≤ 20000) : (rProgO bs ⟨pre.length, false⟩).2.f = true := by
  have h0 : 0 < g.n := hp.sized.1
  have hn8 : g.n ≤ 8 := hp.sized.2.1
  obtain ⟨b1, b2, b3, b4, _⟩ := sized_l hp h0
  have hbd := hp.sized.bd h0
  have hpos : 1 ≤ (g.f 0).n := by omega
  have hpr : ∃ rest, bs = pre ++ ((g.n : Int) :: (((g.f 0).p.toNat : Nat) : Int) :: (((g.f 0).l.toNat : Nat) : Int) :: (((g.f 0).n : Nat) : Int) :: rest) := by
    have e : List.range g.n = 0 :: (List.range (g.n - 1)).map Nat.succ := by
      conv => lhs; rw [show g.n = (g.n - 1) + 1 by omega]
      exact List.range_succ_eq_map
    refine ⟨codeB (g.f 0) (g.f 0).n ++ ((List.range (g.n - 1)).map Nat.succ).flatMap (fun i => fnB (g.f i)) ++ post, ?_⟩
    rw [hb]
    unfold progB fnsB
    rw [e, List.flatMap_cons]
    unfold fnB
    rw [numB_one (show g.n < 128 by omega), numB_one (show (g.f 0).p.toNat < 128 by omega), numB_one (show (g.f 0).l.toNat < 128 by omega), numB_one (show (g.f 0).n < 128 by omega)]
    simp
  obtain ⟨rest, hb⟩ := hpr
  have n1 : rNext bs ⟨pre.length, false⟩ = ((g.n : Int), ⟨pre.length + 1, false⟩) := rNext_at hb
  have n2 : rNext bs ⟨pre.length + 1, false⟩ = ((((g.f 0).p.toNat : Nat) : Int), ⟨pre.length + 2, false⟩) := by
    have := rNext_at (bs := bs) (pre := pre ++ [(g.n : Int)]) (x := (((g.f 0).p.toNat : Nat) : Int)) (by rw [hb]; simp; rfl)
    simpa using this
  have n3 : rNext bs ⟨pre.length + 2, false⟩ = ((((g.f 0).l.toNat : Nat) : Int), ⟨pre.length + 3, false⟩) := by
    have := rNext_at (bs := bs) (pre := pre ++ [(g.n : Int), (((g.f 0).p.toNat : Nat) : Int)]) (x := (((g.f 0).l.toNat : Nat) : Int)) (by rw [hb]; simp; rfl)
    simpa using this
  have n4 : rNext bs ⟨pre.length + 3, false⟩ = ((((g.f 0).n : Nat) : Int), ⟨pre.length + 4, false⟩) := by
    have := rNext_at (bs := bs) (pre := pre ++ [(g.n : Int), (((g.f 0).p.toNat : Nat) : Int), (((g.f 0).l.toNat : Nat) : Int)]) (x := (((g.f 0).n : Nat) : Int)) (by rw [hb]; simp; rfl)
    simpa using this
  have hbig := four_big (bs := bs) (s := ⟨pre.length, false⟩) (x := (g.f 0).n) ⟨_, _, _, n1, n2, n3, n4⟩ hpos (by omega)
  have hps : pre.length ≤ bs.length := by rw [hb]; simp
  cases hf : (rProgO bs ⟨pre.length, false⟩).2.f
  · exfalso
    have hf' : (rFuncsO bs (rCountO bs ⟨pre.length, false⟩).1 (rCountO bs ⟨pre.length, false⟩).2).2.f = false := hf
    have f1 := noF (fwd_list (fun s => (takes_funcO bs s).1) _ _ _ _ : Fwd _ (rFuncsO bs (rCountO bs ⟨pre.length, false⟩).1 (rCountO bs ⟨pre.length, false⟩).2).2) hf'
    have hcnt : (rCountO bs ⟨pre.length, false⟩).1 = (rFour bs ⟨pre.length, false⟩).1 := by
      have f1' : (rMust (rNumO bs ⟨pre.length, false⟩).2 (decide ((rNumO bs ⟨pre.length, false⟩).1 ≤ 9223372036854775807))).f = false := f1
      show (if (rMust (rNumO bs ⟨pre.length, false⟩).2 (decide ((rNumO bs ⟨pre.length, false⟩).1 ≤ 9223372036854775807))).f then 0 else (rNumO bs ⟨pre.length, false⟩).1) = _
      rw [f1', if_neg (by decide), rNumO]
    have hw := list_whole (bs := bs) (rd := rFuncO bs) (fun s => takes_funcO bs s) (fun _ h => pos_func h) (rCountO bs ⟨pre.length, false⟩).1 (bs.length + 2) [] (rCountO bs ⟨pre.length, false⟩).2 (pos_count hps) (by omega) hf'
    have hlen := rList_len (rFuncO bs) (bs.length + 2) (rCountO bs ⟨pre.length, false⟩).1 [] (rCountO bs ⟨pre.length, false⟩).2
    rw [hcnt] at hw hlen
    simp only [List.length_nil] at hlen
    omega
  · rfl

end Go.Proofs.YtbkmgoffiigdbabGreatDoor
