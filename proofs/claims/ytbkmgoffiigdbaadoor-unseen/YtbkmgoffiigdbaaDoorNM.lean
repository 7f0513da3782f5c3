import Derived.Test.YtbkmgoffiigdbaaDoorNL
import Derived.Lib.LazyBuf
namespace Go.Proofs.YtbkmgoffiigdbaaDoor
open Go.RowKit Go.Sort

/-- A copy of a list. -/
def ClonePost (ty size n : Nat) (xs : List Value) (w : World) (e : Ending) (w' : World) : Prop :=
  ∃ gb cap, e = .returned (.slice (some ⟨gb, 0, none⟩) n cap) ∧ w'.ownsRow w.heap.size ty size (.slice (some ⟨gb, 0, none⟩) n cap) n xs ∧ Below w.heap.size w w'

theorem info35' : (Tryd.prog.info? 35).map (fun i => (i.zero, i.size, i.bytes)) = some (some (.agg #[.int .i64 0, .int .i64 0, .slice none 0 0]), 3, 40) := by kernel_rfl
theorem info37'' : (Tryd.prog.info? 37).map (fun i => (i.zero, i.size, i.bytes)) = some (some (.agg #[.int .i64 0, .int .i64 0]), 2, 16) := by kernel_rfl

theorem addr_add' (b o j : Nat) : (⟨b, o, none⟩ : Addr).add j = ⟨b, o + j, none⟩ := by unfold Addr.add; split <;> simp_all
theorem grown_below {w W w5 : World} {v : Value} {b : Nat} (hB : Below w.heap.size w W) (hv : v.ownBlock = some b) (hb : w.heap.size ≤ b) (hg : W.grownBy w5 v.ownBlock) : Below w.heap.size w w5 :=
  ⟨hg.os.trans hB.os, hg.tape.trans hB.tape, hg.output.trans hB.output, Nat.le_trans hB.size hg.size, fun k hk => (hg.block k (Nat.lt_of_lt_of_le hk hB.size) (by rw [hv]; intro e; cases e; omega)).trans (hB.block k hk)⟩

set_option maxRecDepth 100000 in
set_option maxHeartbeats 1000000 in
theorem clone_int (b o n c : Nat) (xs : List Value) (w : World) (hn : 0 < n) (hm : n ≤ 100000) (hl : xs.length = n * 1) (hx : ∀ j u, xs[j]? = some u → w.cell? ⟨b, o + j, none⟩ = some u) (h1 : ∀ u ∈ xs, u.oneCell' = true) (hb : b < w.heap.size) :
    Calls Tryd.prog 44 #[.slice (some ⟨b, o, none⟩) n c] w fun e w' => ClonePost 3 1 n xs w e w' := by
  have HX := hid hx
  have HL := hid hl
  have H1 := hid h1
  clear hx hl h1
  go_enter Tryd.func44, Tryd.ntmps44
  have heq : ∀ W : World, (binOp .eql 31 (.slice (some ⟨b, o, none⟩) n c) (.slice none 0 0)).run Tryd.prog W = .ok (.bool false) W := fun W => Go.Lib.run_eql_slice_nil W 31 3 _ n c 0 0 Tryd.underlying31
  obtain ⟨i, hi, hz, hsz, hby⟩ := info_parts info3
  have HI := hid hi
  have HZ := hid hz
  have HSZ := hid hsz
  have HBY := hid hby
  clear hi hz hsz hby
  go_wp2_with (at_builtin; go_must (refine wpList_append_lies _ rfl (.tmp 5) (.tmp 6) 31 rfl w.heap.size 3 i _ 1 8 Tryd.underlying31 HI.out HZ.out HSZ.out HBY.out rfl (by decide) (.slice (some ⟨w.heap.size, 0, none⟩) 0 0) 0 [] rfl (World.ownsRow_made w #[] 0 (Nat.le_refl _) (Nat.zero_le _) rfl) ⟨b, o, none⟩ n c xs rfl HL.out (fun j u hj => by rw [addr_add']; have := HX.out j u hj; go_simp) H1.out hn (by unfold maxLen; omega) (by omega) (by simp) _ rfl ?_))
  intro g cap w5 hown hgrow hat hlt
  have HB : Hid (Below w.heap.size w w5) := grown_below (v := .slice (some ⟨w.heap.size, 0, none⟩) 0 0) (Below.alloc (Below.refl _ _) (Nat.le_refl _) _) rfl (Nat.le_refl _) hgrow
  have ho : w5.ownsRow w.heap.size 3 1 (.slice (some ⟨g, 0, none⟩) n cap) n xs := by simpa using hown
  have HO := hid ho
  clear hown hgrow hat hlt ho
  go_wp2_with fail
  go_ret
  exact ⟨g, cap, rfl, HO.out, HB.out⟩

set_option maxRecDepth 100000 in
set_option maxHeartbeats 1000000 in
theorem clone_func (b o n c : Nat) (xs : List Value) (w : World) (hn : 0 < n) (hm : n ≤ 100000) (hl : xs.length = n * 3) (hx : ∀ j u, xs[j]? = some u → w.cell? ⟨b, o + j, none⟩ = some u) (h1 : ∀ u ∈ xs, u.oneCell' = true) (hb : b < w.heap.size) :
    Calls Tryd.prog 91 #[.slice (some ⟨b, o, none⟩) n c] w fun e w' => ClonePost 35 3 n xs w e w' := by
  have HX := hid hx
  have HL := hid hl
  have H1 := hid h1
  clear hx hl h1
  go_enter Tryd.func91, Tryd.ntmps91
  have heq : ∀ W : World, (binOp .eql 22 (.slice (some ⟨b, o, none⟩) n c) (.slice none 0 0)).run Tryd.prog W = .ok (.bool false) W := fun W => Go.Lib.run_eql_slice_nil W 22 35 _ n c 0 0 Tryd.underlying22
  obtain ⟨i, hi, hz, hsz, hby⟩ := info_parts info35'
  have HI := hid hi
  have HZ := hid hz
  have HSZ := hid hsz
  have HBY := hid hby
  clear hi hz hsz hby
  go_wp2_with (at_builtin; go_must (refine wpList_append_lies _ rfl (.tmp 5) (.tmp 6) 22 rfl w.heap.size 35 i _ 3 40 Tryd.underlying22 HI.out HZ.out HSZ.out HBY.out rfl (by decide) (.slice (some ⟨w.heap.size, 0, none⟩) 0 0) 0 [] rfl (World.ownsRow_made w #[] 0 (Nat.le_refl _) (Nat.zero_le _) rfl) ⟨b, o, none⟩ n c xs rfl HL.out (fun j u hj => by rw [addr_add']; have := HX.out j u hj; go_simp) H1.out hn (by unfold maxLen; omega) (by omega) (by simp) _ rfl ?_))
  intro g cap w5 hown hgrow hat hlt
  have HB : Hid (Below w.heap.size w w5) := grown_below (v := .slice (some ⟨w.heap.size, 0, none⟩) 0 0) (Below.alloc (Below.refl _ _) (Nat.le_refl _) _) rfl (Nat.le_refl _) hgrow
  have ho : w5.ownsRow w.heap.size 35 3 (.slice (some ⟨g, 0, none⟩) n cap) n xs := by simpa using hown
  have HO := hid ho
  clear hown hgrow hat hlt ho
  go_wp2_with fail
  go_ret
  exact ⟨g, cap, rfl, HO.out, HB.out⟩

set_option maxRecDepth 100000 in
set_option maxHeartbeats 1000000 in
theorem clone_instr (b o n c : Nat) (xs : List Value) (w : World) (hn : 0 < n) (hm : n ≤ 100000) (hl : xs.length = n * 2) (hx : ∀ j u, xs[j]? = some u → w.cell? ⟨b, o + j, none⟩ = some u) (h1 : ∀ u ∈ xs, u.oneCell' = true) (hb : b < w.heap.size) :
    Calls Tryd.prog 92 #[.slice (some ⟨b, o, none⟩) n c] w fun e w' => ClonePost 37 2 n xs w e w' := by
  have HX := hid hx
  have HL := hid hl
  have H1 := hid h1
  clear hx hl h1
  go_enter Tryd.func92, Tryd.ntmps92
  have heq : ∀ W : World, (binOp .eql 33 (.slice (some ⟨b, o, none⟩) n c) (.slice none 0 0)).run Tryd.prog W = .ok (.bool false) W := fun W => Go.Lib.run_eql_slice_nil W 33 37 _ n c 0 0 Tryd.underlying33
  obtain ⟨i, hi, hz, hsz, hby⟩ := info_parts info37''
  have HI := hid hi
  have HZ := hid hz
  have HSZ := hid hsz
  have HBY := hid hby
  clear hi hz hsz hby
  go_wp2_with (at_builtin; go_must (refine wpList_append_lies _ rfl (.tmp 5) (.tmp 6) 33 rfl w.heap.size 37 i _ 2 16 Tryd.underlying33 HI.out HZ.out HSZ.out HBY.out rfl (by decide) (.slice (some ⟨w.heap.size, 0, none⟩) 0 0) 0 [] rfl (World.ownsRow_made w #[] 0 (Nat.le_refl _) (Nat.zero_le _) rfl) ⟨b, o, none⟩ n c xs rfl HL.out (fun j u hj => by rw [addr_add']; have := HX.out j u hj; go_simp) H1.out hn (by unfold maxLen; omega) (by omega) (by simp) _ rfl ?_))
  intro g cap w5 hown hgrow hat hlt
  have HB : Hid (Below w.heap.size w w5) := grown_below (v := .slice (some ⟨w.heap.size, 0, none⟩) 0 0) (Below.alloc (Below.refl _ _) (Nat.le_refl _) _) rfl (Nat.le_refl _) hgrow
  have ho : w5.ownsRow w.heap.size 37 2 (.slice (some ⟨g, 0, none⟩) n cap) n xs := by simpa using hown
  have HO := hid ho
  clear hown hgrow hat hlt ho
  go_wp2_with fail
  go_ret
  exact ⟨g, cap, rfl, HO.out, HB.out⟩

end Go.Proofs.YtbkmgoffiigdbaaDoor
