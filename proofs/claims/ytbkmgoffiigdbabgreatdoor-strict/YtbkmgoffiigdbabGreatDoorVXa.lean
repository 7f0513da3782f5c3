import Derived.Test.YtbkmgoffiigdbabGreatDoorVT
import Derived.Laws.Bits64b
import Derived.Laws.Shifts
import Derived.Test.YtbkmgoffiigdbabGreatDoorVPa
import Derived.Test.YtbkmgoffiigdbabGreatDoorVO
namespace Go.Proofs.YtbkmgoffiigdbabGreatDoor
open Go.RowKit Go.Sort

/-! PLAIN: reading, as a function of the bytes. -/

/-- Where a reader is, and whether there was a fault. -/
structure Rs where
  p : Nat
  f : Bool

def rNext (bs : List Int) (s : Rs) : Int × Rs := if s.f = true ∨ bs.length ≤ s.p then (0, ⟨s.p, true⟩) else (bs.getD s.p 0, ⟨s.p + 1, false⟩)
def rMust (s : Rs) (h : Bool) : Rs := if h then s else ⟨s.p, true⟩

def shlU (x : Int) (k : Nat) : Int := x * 2 ^ min k 64 % 18446744073709551616
def shrU (x : Int) (k : Nat) : Int := x / 2 ^ min k 64

def rShort (bs : List Int) : Nat → Rs → Int → Nat → Int × Rs
  | 0, s, n, _ => (n, s)
  | F + 1, s, n, k =>
    if (rNext bs s).1 < 128 then (bits .or .u64 n (shlU (bits .andNot .u8 (rNext bs s).1 128) k), rMust (rMust (rNext bs s).2 (shrU (shlU (bits .andNot .u8 (rNext bs s).1 128) k) k == bits .andNot .u8 (rNext bs s).1 128)) ((rNext bs s).1 != 0 || k == 0))
    else rShort bs F (rMust (rNext bs s).2 (shrU (shlU (bits .andNot .u8 (rNext bs s).1 128) k) k == bits .andNot .u8 (rNext bs s).1 128)) (bits .or .u64 n (shlU (bits .andNot .u8 (rNext bs s).1 128) k)) (k + 7)
def rNum (bs : List Int) (s : Rs) : Int × Rs := rShort bs (bs.length + 1) s 0 0

set_option maxRecDepth 100000 in
theorem andNot128 {b : Int} (h0 : 0 ≤ b) (h1 : b < 256) : bits .andNot .u8 b 128 = b % 128 := by
  obtain ⟨m, rfl⟩ := Int.eq_ofNat_of_zero_le h0
  have hm : m < 256 := by omega
  have : ∀ m, m < 256 → bits .andNot .u8 ((m : Nat) : Int) 128 = (m : Int) % 128 := by decide
  exact this m hm

theorem rNext_at {bs pre post : List Int} {x : Int} (h : bs = pre ++ x :: post) : rNext bs ⟨pre.length, false⟩ = (x, ⟨pre.length + 1, false⟩) := by
  unfold rNext
  have hl : ¬ (((⟨pre.length, false⟩ : Rs).f = true) ∨ bs.length ≤ (⟨pre.length, false⟩ : Rs).p) := by
    rw [h]
    simp
  rw [if_neg hl, h]
  simp [List.getD_eq_getElem?_getD]

theorem or_join {n x k : Nat} (hn : n < 2 ^ k) (h64 : n + x * 2 ^ k < 18446744073709551616) : bits .or .u64 (n : Int) ((x * 2 ^ k : Nat) : Int) = ((n + x * 2 ^ k : Nat) : Int) := by
  rw [bits_or_u64_nat n _ (by omega) (by omega)]
  congr 1
  have := Nat.shiftLeft_add_eq_or_of_lt hn x
  rw [Nat.shiftLeft_eq] at this
  rw [Nat.or_comm, ← this]
  omega

theorem pow64 {k q : Nat} (hq : q ≠ 0) (h : q * 2 ^ k < 18446744073709551616) : k < 64 := by
  have h1 : 2 ^ k ≤ q * 2 ^ k := Nat.le_mul_of_pos_left _ (by omega)
  have h2 : 2 ^ k < 2 ^ 64 := by
    have : (2 : Nat) ^ 64 = 18446744073709551616 := by decide
    omega
  exact (Nat.pow_lt_pow_iff_right (by decide)).1 h2

theorem shl_ok {x k : Nat} (hk : k < 64) (hx : x * 2 ^ k < 18446744073709551616) : shlU (x : Int) k = ((x * 2 ^ k : Nat) : Int) := by
  unfold shlU
  rw [Nat.min_eq_left (by omega)]
  have e : (x : Int) * 2 ^ k = ((x * 2 ^ k : Nat) : Int) := by rw [Int.natCast_mul, Int.natCast_pow]; rfl
  rw [e]
  omega
theorem shr_ok {x k : Nat} (hk : k < 64) : shrU ((x * 2 ^ k : Nat) : Int) k = (x : Int) := by
  unfold shrU
  rw [Nat.min_eq_left (by omega)]
  have e : ((2 : Int) ^ k) = ((2 ^ k : Nat) : Int) := by rw [Int.natCast_pow]; rfl
  rw [e, ← Int.natCast_ediv, Nat.mul_div_cancel _ (Nat.pow_pos (by decide))]

theorem numB_pos (n : Nat) : 1 ≤ (numB n).length := by rw [numB]; split <;> simp

theorem rShort_ok {bs post : List Int} : ∀ (F q n k : Nat) (pre : List Int), bs = pre ++ (numB q ++ post) → (numB q).length ≤ F → n < 2 ^ k → n + q * 2 ^ k < 18446744073709551616 → (0 < k → q ≠ 0) →
    rShort bs F ⟨pre.length, false⟩ (n : Int) k = (((n + q * 2 ^ k : Nat) : Int), ⟨pre.length + (numB q).length, false⟩)
  | 0, q, _, _, _, _, hF, _, _, _ => by have := numB_pos q; omega
  | F + 1, q, n, k, pre, hb, hF, hn, h64, hq => by
    have hk : k < 64 := by
      by_cases h0 : q = 0
      · have : k = 0 := by
          rcases Nat.eq_zero_or_pos k with h | h
          · exact h
          · exact absurd h0 (hq h)
        omega
      · exact pow64 h0 (by omega)
    rw [rShort]
    by_cases hlt : q < 128
    · have hnum : numB q = [(q : Int)] := by rw [numB, if_pos hlt]
      rw [hnum] at hb ⊢
      rw [rNext_at hb]
      simp only
      have hpart : bits .andNot .u8 (q : Int) 128 = (q : Int) := by rw [andNot128 (by omega) (by omega)]; omega
      rw [if_pos (by omega), hpart, shl_ok hk (by omega), shr_ok hk, or_join hn h64]
      have h1 : ((q : Int) == (q : Int)) = true := by simp
      have h2 : ((q : Int) != 0 || k == 0) = true := by
        rcases Nat.eq_zero_or_pos k with h | h
        · simp [h]
        · have := hq h
          simp
          exact Or.inl (by omega)
      rw [h1, h2]
      rfl
    · have hnum : numB q = ((q % 128 + 128 : Nat) : Int) :: numB (q / 128) := by rw [numB, if_neg hlt]
      rw [hnum] at hb hF ⊢
      rw [rNext_at hb]
      simp only
      have hpart : bits .andNot .u8 ((q % 128 + 128 : Nat) : Int) 128 = ((q % 128 : Nat) : Int) := by rw [andNot128 (by omega) (by omega)]; omega
      have hmul : q * 2 ^ k = q % 128 * 2 ^ k + q / 128 * 2 ^ (k + 7) := by
        have h1 : (2 : Nat) ^ (k + 7) = 2 ^ k * 128 := by rw [Nat.pow_add]
        have h2 : q = q % 128 + 128 * (q / 128) := (Nat.mod_add_div q 128).symm
        rw [h1]
        conv => lhs; rw [h2, Nat.add_mul]
        congr 1
        rw [Nat.mul_comm (2 ^ k) 128, ← Nat.mul_assoc, Nat.mul_comm 128 (q / 128)]
      have hle : q % 128 * 2 ^ k ≤ q * 2 ^ k := Nat.mul_le_mul_right _ (Nat.mod_le _ _)
      have hn7 : n + q % 128 * 2 ^ k < 2 ^ (k + 7) := by
        have h1 : (2 : Nat) ^ (k + 7) = 128 * 2 ^ k := by rw [Nat.pow_add, Nat.mul_comm]
        have h2 : q % 128 * 2 ^ k ≤ 127 * 2 ^ k := Nat.mul_le_mul_right _ (by omega)
        have h3 : 128 * 2 ^ k = 127 * 2 ^ k + 2 ^ k := by rw [show 128 = 127 + 1 from rfl, Nat.add_mul, Nat.one_mul]
        omega
      rw [if_neg (by omega), hpart, shl_ok hk (by omega), shr_ok hk, or_join hn (by omega)]
      have h1 : (((q % 128 : Nat) : Int) == ((q % 128 : Nat) : Int)) = true := by simp
      rw [h1]
      show rShort bs F ⟨pre.length + 1, false⟩ _ _ = _
      have key := rShort_ok (bs := bs) (post := post) F (q / 128) (n + q % 128 * 2 ^ k) (k + 7) (pre ++ [((q % 128 + 128 : Nat) : Int)]) (by rw [hb]; simp) (by simpa using hF) hn7 (by omega) (fun _ => by omega)
      rw [List.length_append, List.length_singleton] at key
      rw [key]
      congr 1
      · rw [hmul, Nat.add_assoc]
      · congr 1
        simp only [List.length_cons]
        omega

/-- A reading gives just this, of these bytes. -/
def Enc {α : Type} (bs : List Int) (rd : Rs → α × Rs) (x : α) (e : List Int) : Prop := ∀ pre post, bs = pre ++ (e ++ post) → rd ⟨pre.length, false⟩ = (x, ⟨pre.length + e.length, false⟩)

theorem num_enc (bs : List Int) {m : Nat} (hm : m < 18446744073709551616) : Enc bs (rNum bs) (m : Int) (numB m) := fun pre post hb => by
  have hl : (numB m).length ≤ bs.length + 1 := by rw [hb]; simp; omega
  have := rShort_ok (bs := bs) (post := post) (bs.length + 1) m 0 0 pre hb hl (by decide) (by omega) (fun h => by omega)
  unfold rNum
  simpa using this

def rInt (bs : List Int) (s : Rs) : Int × Rs := (if (rNum bs s).1 % 2 = 1 then -1 - (rNum bs s).1 / 2 else (rNum bs s).1 / 2, (rNum bs s).2)
theorem int_enc (bs : List Int) {z : Int} (hz : I64 z) : Enc bs (rInt bs) z (intB z) := fun pre post hb => by
  have h := num_enc bs (intN_lt hz.1 hz.2) pre post hb
  unfold rInt
  rw [h]
  simp only
  have e : (if ((intN z : Nat) : Int) % 2 = 1 then -1 - ((intN z : Nat) : Int) / 2 else ((intN z : Nat) : Int) / 2) = z := by
    unfold intN
    split <;> split <;> omega
  rw [e]
  rfl

def rUpTo (bs : List Int) (most : Int) (s : Rs) : Int × Rs := (if (rMust (rNum bs s).2 (decide ((rNum bs s).1 ≤ most))).f then 0 else (rNum bs s).1, rMust (rNum bs s).2 (decide ((rNum bs s).1 ≤ most)))
theorem upTo_enc (bs : List Int) {m : Nat} {most : Int} (hm : m < 18446744073709551616) (hle : (m : Int) ≤ most) : Enc bs (rUpTo bs most) (m : Int) (numB m) := fun pre post hb => by
  have h := num_enc bs hm pre post hb
  unfold rUpTo
  rw [h]
  simp only
  rw [decide_eq_true hle]
  rfl
def rCount (bs : List Int) (s : Rs) : Int × Rs := rUpTo bs 9223372036854775807 s
theorem count_enc (bs : List Int) {m : Nat} (hm : m < 9223372036854775808) : Enc bs (rCount bs) (m : Int) (numB m) := upTo_enc bs (by omega) (by omega)

def rValue (bs : List Int) (s : Rs) : Val × Rs :=
  if (rNext bs s).1 = 0 then ((0, 0), (rNext bs s).2)
  else if (rNext bs s).1 = 1 then ((1, (rInt bs (rNext bs s).2).1), (rInt bs (rNext bs s).2).2)
  else if (rNext bs s).1 = 2 then ((2, (rCount bs (rNext bs s).2).1), (rCount bs (rNext bs s).2).2)
  else ((0, 0), rMust (rNext bs s).2 false)

/-- A value as images have it. -/
def VGood (v : Val) : Prop := VI64 v ∧ (v = (0, 0) ∨ v.1 = 1 ∨ v.1 = 2)

theorem value_enc (bs : List Int) {v : Val} (h : VGood v) : Enc bs (rValue bs) v (valB v) := fun pre post hb => by
  obtain ⟨⟨hi, hr⟩, hk⟩ := h
  unfold valB at hb ⊢
  rw [List.cons_append] at hb
  unfold rValue
  rw [rNext_at hb]
  simp only
  obtain ⟨k, z⟩ := v
  simp only at hi hr hk hb ⊢
  rcases hk with hk | hk | hk
  · cases hk
    simp
  · subst hk
    rw [if_pos rfl] at hb ⊢
    rw [if_neg (by decide), if_pos rfl]
    have := int_enc bs hi (pre ++ [1]) post (by rw [hb]; simp)
    rw [List.length_append, List.length_singleton] at this
    rw [this]
    simp only [List.length_cons]
    congr 2
    omega
  · subst hk
    rw [if_neg (by decide), if_pos rfl] at hb ⊢
    rw [if_neg (by decide), if_neg (by decide), if_pos rfl]
    obtain ⟨m, rfl⟩ := Int.eq_ofNat_of_zero_le (hr rfl)
    have hm : ((m : Int)).toNat = m := by omega
    rw [hm] at hb ⊢
    have := count_enc bs (m := m) (by have := hi.2; omega) (pre ++ [2]) post (by rw [hb]; simp)
    rw [List.length_append, List.length_singleton] at this
    rw [this]
    simp only [List.length_cons]
    congr 2
    omega

/-- A list of entries. -/
def rList {α : Type} (rd : Rs → α × Rs) : Nat → Int → List α → Rs → List α × Rs
  | 0, _, acc, s => (acc, s)
  | F + 1, n, acc, s => if (acc.length : Int) < n ∧ s.f = false then rList rd F n (acc ++ [(rd s).1]) (rd s).2 else (acc, s)

theorem list_enc {α : Type} {bs : List Int} {rd : Rs → α × Rs} {e : α → List Int} : ∀ (l acc : List α) (F : Nat) (pre post : List Int), (∀ x, x ∈ l → Enc bs rd x (e x)) → bs = pre ++ (l.flatMap e ++ post) → l.length < F →
    rList rd F ((acc.length + l.length : Nat) : Int) acc ⟨pre.length, false⟩ = (acc ++ l, ⟨pre.length + (l.flatMap e).length, false⟩)
  | [], acc, 0, _, _, _, _, hF => by simp at hF
  | [], acc, F + 1, pre, post, _, _, _ => by
    rw [rList, if_neg (by simp)]
    simp
  | x :: l, acc, 0, _, _, _, _, hF => by simp at hF
  | x :: l, acc, F + 1, pre, post, h, hb, hF => by
    rw [rList, if_pos ⟨by simp; omega, rfl⟩]
    rw [List.flatMap_cons, List.append_assoc] at hb
    rw [h x (by simp) pre _ hb]
    simp only
    have key := list_enc l (acc ++ [x]) F (pre ++ e x) post (fun y hy => h y (by simp [hy])) (by rw [hb]; simp) (by simpa using hF)
    have hn : (acc ++ [x]).length + l.length = acc.length + (x :: l).length := by simp; omega
    rw [hn, List.length_append] at key
    rw [key]
    congr 1
    · simp
    · rw [List.flatMap_cons, List.length_append, Nat.add_assoc]

end Go.Proofs.YtbkmgoffiigdbabGreatDoor

namespace Go.Proofs.YtbkmgoffiigdbabGreatDoor
open Go.RowKit Go.Sort

/-! The reader in memory. -/

theorem rMust_true (s : Rs) : rMust s true = s := rfl

structure RdAt (W : World) (rb : Nat) (a : Option Addr) (c : Nat) (bs : List Int) (s : Rs) : Prop where
  c0 : W.cell? ⟨rb, 0, none⟩ = some (.slice a bs.length c)
  c1 : W.cell? ⟨rb, 1, none⟩ = some (.int .i64 (s.p : Int))
  c2 : W.cell? ⟨rb, 2, none⟩ = some (.bool s.f)
  c3 : W.cell? ⟨rb, 3, none⟩ = some (.func (.func 109) #[] #[])
  c4 : W.cell? ⟨rb, 4, none⟩ = some (.func (.func 110) #[] #[])
  c5 : W.cell? ⟨rb, 5, none⟩ = some (.func (.func 111) #[] #[])
  c6 : W.cell? ⟨rb, 6, none⟩ = some (.func (.func 112) #[] #[])
  c7 : W.cell? ⟨rb, 7, none⟩ = some (.func (.func 112) #[] #[])
  z : ∀ j, W.frozen? ⟨rb, j, none⟩ = false
  bytes : BytesAt W a bs
  ne : ∀ b o, a = some ⟨b, o, none⟩ → b ≠ rb
  lt : rb < W.heap.size
  rng : ∀ x, x ∈ bs → 0 ≤ x ∧ x < 256
  len : bs.length ≤ 20000
  pos : s.p ≤ bs.length

/-- What reading leaves alone. -/
abbrev Rd (rb : Nat) (W W' : World) : Prop := Wrote rb rb W W'

theorem RdAt.held {W V : World} {rb c : Nat} {a : Option Addr} {bs : List Int} {s : Rs} (h : RdAt W rb a c bs s) (hs : W.heap.size ≤ V.heap.size) (hb : ∀ k, k < W.heap.size → V.heap[k]? = W.heap[k]?) : RdAt V rb a c bs s := by
  have e := hb rb h.lt
  have hc : ∀ j, V.cell? ⟨rb, j, none⟩ = W.cell? ⟨rb, j, none⟩ := fun j => World.cell?_of_block (w := W) (a := ⟨rb, j, none⟩) e
  refine ⟨(hc 0).trans h.c0, (hc 1).trans h.c1, (hc 2).trans h.c2, (hc 3).trans h.c3, (hc 4).trans h.c4, (hc 5).trans h.c5, (hc 6).trans h.c6, (hc 7).trans h.c7, fun j => (World.frozen?_of_block (w := W) (a := ⟨rb, j, none⟩) e).trans (h.z j), fun h0 => ?_, h.ne, Nat.lt_of_lt_of_le h.lt hs, h.rng, h.len, h.pos⟩
  obtain ⟨b, o, e, hbl, hc⟩ := h.bytes h0
  exact ⟨b, o, e, Nat.lt_of_lt_of_le hbl hs, fun i x hx => by rw [World.cell?_of_block (w := W) (a := ⟨b, o + i, none⟩) (hb b hbl)]; exact hc i x hx⟩
theorem RdAt.later {W V : World} {rb c : Nat} {a : Option Addr} {bs : List Int} {s : Rs} (h : RdAt W rb a c bs s) (hB : Below W.heap.size W V) : RdAt V rb a c bs s := h.held hB.size fun k hk => hB.block k hk

/-- The reader goes on. -/
theorem RdAt.setP {W : World} {rb c : Nat} {a : Option Addr} {bs : List Int} {s : Rs} (h : RdAt W rb a c bs s) (q : Nat) (hq : q ≤ bs.length) : RdAt (W.setCell ⟨rb, 1, none⟩ (.int .i64 (q : Int))) rb a c bs ⟨q, s.f⟩ := by
  have hc : ∀ j, j ≠ 1 → (W.setCell ⟨rb, 1, none⟩ (.int .i64 (q : Int))).cell? ⟨rb, j, none⟩ = W.cell? ⟨rb, j, none⟩ := fun j hj => World.cell?_setCell_other _ _ _ _ (fun e => hj (by injection e with e1 e2; exact e2.symm))
  refine ⟨(hc 0 (by decide)).trans h.c0, World.cell?_setCell_same _ _ _ h.c1, (hc 2 (by decide)).trans h.c2, (hc 3 (by decide)).trans h.c3, (hc 4 (by decide)).trans h.c4, (hc 5 (by decide)).trans h.c5, (hc 6 (by decide)).trans h.c6, (hc 7 (by decide)).trans h.c7, fun j => (World.frozen?_setCell _ _ _ _).trans (h.z j), fun h0 => ?_, h.ne, by simpa using h.lt, h.rng, h.len, hq⟩
  obtain ⟨b, o, e, hbl, hx⟩ := h.bytes h0
  exact ⟨b, o, e, by simpa using hbl, fun i x hi => by rw [World.cell?_setCell_far _ _ _ _ (by exact Ne.symm (h.ne b o e))]; exact hx i x hi⟩
theorem RdAt.setF {W : World} {rb c : Nat} {a : Option Addr} {bs : List Int} {s : Rs} (h : RdAt W rb a c bs s) : RdAt (W.setCell ⟨rb, 2, none⟩ (.bool true)) rb a c bs ⟨s.p, true⟩ := by
  have hc : ∀ j, j ≠ 2 → (W.setCell ⟨rb, 2, none⟩ (.bool true)).cell? ⟨rb, j, none⟩ = W.cell? ⟨rb, j, none⟩ := fun j hj => World.cell?_setCell_other _ _ _ _ (fun e => hj (by injection e with e1 e2; exact e2.symm))
  refine ⟨(hc 0 (by decide)).trans h.c0, (hc 1 (by decide)).trans h.c1, World.cell?_setCell_same _ _ _ h.c2, (hc 3 (by decide)).trans h.c3, (hc 4 (by decide)).trans h.c4, (hc 5 (by decide)).trans h.c5, (hc 6 (by decide)).trans h.c6, (hc 7 (by decide)).trans h.c7, fun j => (World.frozen?_setCell _ _ _ _).trans (h.z j), fun h0 => ?_, h.ne, by simpa using h.lt, h.rng, h.len, h.pos⟩
  obtain ⟨b, o, e, hbl, hx⟩ := h.bytes h0
  exact ⟨b, o, e, by simpa using hbl, fun i x hi => by rw [World.cell?_setCell_far _ _ _ _ (by exact Ne.symm (h.ne b o e))]; exact hx i x hi⟩

/-- A question to the reader ends so. -/
def RdPost (rb : Nat) (a : Option Addr) (c : Nat) (bs : List Int) (s : Rs) (v : Value) (W : World) (e : Ending) (w' : World) : Prop := e = .returned v ∧ RdAt w' rb a c bs s ∧ Rd rb W w'

set_option maxHeartbeats 400000 in
theorem mustF_any (rb : Nat) (w : World) (v : Value) (h : w.cell? ⟨rb, 2, none⟩ = some v) (hz : w.frozen? ⟨rb, 2, none⟩ = false) : Calls Tryz.prog 82 #[.pointer (some ⟨rb, 0, none⟩), .bool false] w fun e w' => e = .returned (.tuple #[]) ∧ w' = w.setCell ⟨rb, 2, none⟩ (.bool true) := by
  go_enter Tryz.func82, Tryz.ntmps82
  go_wp2_with fail
  go_end0
  exact ⟨rfl, rfl⟩

/-- must, whatever holds. -/
theorem must_any {W : World} {rb c : Nat} {a : Option Addr} {bs : List Int} {s : Rs} (h : RdAt W rb a c bs s) (hold : Bool) :
    Calls Tryz.prog 82 #[.pointer (some ⟨rb, 0, none⟩), .bool hold] W fun e w' => RdPost rb a c bs (rMust s hold) (.tuple #[]) W e w' := by
  cases hold
  · refine (mustF_any rb W _ h.c2 (h.z 2)).mono ?_
    rintro e w' ⟨rfl, rfl⟩
    exact ⟨rfl, h.setF, Wrote.setW _⟩
  · refine (must_true _ W).mono ?_
    rintro e w' ⟨rfl, rfl⟩
    exact ⟨rfl, h, Wrote.refl _ _ _⟩

def NextPost (rb : Nat) (a : Option Addr) (c : Nat) (bs : List Int) (s : Rs) (W : World) (e : Ending) (w' : World) : Prop :=
  ∃ b o, e = .returned (.pointer (some ⟨b, o, none⟩)) ∧ w'.cell? ⟨b, o, none⟩ = some (.int .u8 (rNext bs s).1) ∧ b < w'.heap.size ∧ RdAt w' rb a c bs (rNext bs s).2 ∧ Rd rb W w'

set_option maxRecDepth 100000 in
set_option maxHeartbeats 2000000 in
theorem next_ok {W : World} {rb b o c : Nat} {bs : List Int} {s : Rs} (h : RdAt W rb (some ⟨b, o, none⟩) c bs s) (hf : s.f = false) (hn : s.p < bs.length) :
    Calls Tryz.prog 67 #[.pointer (some ⟨rb, 0, none⟩)] W fun e w' => e = .returned (.pointer (some ⟨b, o + s.p, none⟩)) ∧ Like (W.setCell ⟨rb, 1, none⟩ (.int .i64 ((s.p : Int) + 1))) w' := by
  have c0 := h.c0
  have c1 := h.c1
  have c2 := h.c2
  rw [hf] at c2
  have z1 := h.z 1
  have hw := h.lt
  have hl := h.len
  generalize s.p = n at *
  generalize bs.length = m at *
  have hn' : (n : Int) < (m : Int) := by omega
  clear h hf
  go_enter Tryz.func67, Tryz.ntmps67
  go_wp2_with fail
  have hd : decide ((n : Int) < (m : Int)) = true := decide_eq_true hn'
  have he1 : (n : Int) + 1 - 1 = (n : Int) := by omega
  have he2 : IntKind.i64.wrap ((n : Int) + 1 - 1) = (n : Int) := by rw [he1]; exact Go.IntWalk.i64_in _ (by omega)
  have he3 : (0 : Int) ≤ (n : Int) := by omega
  go_region_with (go_at_call 82; refine (must_true _ _).mono ?_; rintro e w' ⟨rfl, hw⟩; rw [hw]; clear hw w')
  all_goals go_wp2_with fail
  all_goals go_region
  all_goals go_wp2_with fail
  all_goals go_ret
  all_goals exact ⟨rfl, ⟨rfl, rfl, rfl, rfl⟩⟩

set_option maxRecDepth 100000 in
set_option maxHeartbeats 2000000 in
theorem next_fault {W : World} {rb c : Nat} {a : Option Addr} {bs : List Int} {s : Rs} (h : RdAt W rb a c bs s) (hf : s.f = true) :
    Calls Tryz.prog 67 #[.pointer (some ⟨rb, 0, none⟩)] W fun e w' => ∃ b, e = .returned (.pointer (some ⟨b, 0, none⟩)) ∧ w'.cell? ⟨b, 0, none⟩ = some (.int .u8 0) ∧ b < w'.heap.size ∧ RdAt w' rb a c bs ⟨s.p, true⟩ ∧ Rd rb W w' := by
  have c0 := h.c0
  have c1 := h.c1
  have hw := h.lt
  have hl := h.len
  have HM : Hid (∀ (hold : Bool) (V : World), Below W.heap.size W V → Calls Tryz.prog 82 #[.pointer (some ⟨rb, 0, none⟩), .bool hold] V fun e w' => e = .returned (.tuple #[]) ∧ w'.cell? ⟨rb, 2, none⟩ = some (.bool true) ∧ RdAt w' rb a c bs ⟨s.p, true⟩ ∧ Rd rb W w') := fun hold V hV => by
    refine (must_any (h.later hV) hold).mono ?_
    rintro e w' ⟨rfl, h1, h2⟩
    have e : rMust s hold = ⟨s.p, true⟩ := by
      cases hold
      · rfl
      · show s = _; rw [← hf]
    rw [e] at h1
    exact ⟨rfl, h1.c2, h1, (Wrote.of_below hV).trans h2⟩
  clear h hf
  generalize s.p = n at *
  generalize bs.length = m at *
  go_enter Tryz.func67, Tryz.ntmps67
  go_wp2_with fail
  go_region_with (go_at_call 82; refine (HM.out _ _ ?_).mono ?_; exact (by repeat (first | exact Below.refl _ _ | refine Below.drew ?_ | refine Below.drewQ ?_ _)); rintro e w1 ⟨rfl, d2, h1, h2⟩; have H1 := hid h1; have H2 := hid h2; clear h1 h2)
  all_goals
    go_wp2_with fail
    go_ret
    exact ⟨_, rfl, by go_simp, by simp, H1.out.later (Below.alloc (Below.refl _ _) (Nat.le_refl _) _), H2.out.trans (Wrote.of_below (Below.alloc (Below.refl _ _) (Nat.le_refl _) _))⟩

set_option maxRecDepth 100000 in
set_option maxHeartbeats 2000000 in
theorem next_end {W : World} {rb c : Nat} {a : Option Addr} {bs : List Int} {s : Rs} (h : RdAt W rb a c bs s) (hn : bs.length ≤ s.p) :
    Calls Tryz.prog 67 #[.pointer (some ⟨rb, 0, none⟩)] W fun e w' => ∃ b, e = .returned (.pointer (some ⟨b, 0, none⟩)) ∧ w'.cell? ⟨b, 0, none⟩ = some (.int .u8 0) ∧ b < w'.heap.size ∧ RdAt w' rb a c bs ⟨s.p, true⟩ ∧ Rd rb W w' := by
  have c0 := h.c0
  have c1 := h.c1
  have hw := h.lt
  have hl := h.len
  have HM : Hid (∀ (V : World), Below W.heap.size W V → Calls Tryz.prog 82 #[.pointer (some ⟨rb, 0, none⟩), .bool false] V fun e w' => e = .returned (.tuple #[]) ∧ w'.cell? ⟨rb, 2, none⟩ = some (.bool true) ∧ RdAt w' rb a c bs ⟨s.p, true⟩ ∧ Rd rb W w') := fun V hV => by
    refine (must_any (h.later hV) false).mono ?_
    rintro e w' ⟨rfl, h1, h2⟩
    have h1' : RdAt w' rb a c bs ⟨s.p, true⟩ := h1
    exact ⟨rfl, h1'.c2, h1', (Wrote.of_below hV).trans h2⟩
  clear h
  generalize s.p = n at *
  generalize bs.length = m at *
  have HD : Hid (decide (n < m) = false) := hid (decide_eq_false (by omega))
  go_enter Tryz.func67, Tryz.ntmps67
  go_wp2_with fail
  go_region_with (go_at_call 82; rw [HD.out]; refine (HM.out _ ?_).mono ?_; exact (by repeat (first | exact Below.refl _ _ | refine Below.drew ?_ | refine Below.drewQ ?_ _)); rintro e w1 ⟨rfl, d2, h1, h2⟩; have H1 := hid h1; have H2 := hid h2; clear h1 h2)
  all_goals
    go_wp2_with fail
    go_ret
    exact ⟨_, rfl, by go_simp, by simp, H1.out.later (Below.alloc (Below.refl _ _) (Nat.le_refl _) _), H2.out.trans (Wrote.of_below (Below.alloc (Below.refl _ _) (Nat.le_refl _) _))⟩

theorem next_any {W : World} {rb c : Nat} {a : Option Addr} {bs : List Int} {s : Rs} (h : RdAt W rb a c bs s) :
    Calls Tryz.prog 67 #[.pointer (some ⟨rb, 0, none⟩)] W fun e w' => NextPost rb a c bs s W e w' := by
  by_cases hf : s.f = true
  · have e : rNext bs s = (0, ⟨s.p, true⟩) := by unfold rNext; rw [if_pos (Or.inl hf)]
    refine (next_fault h hf).mono ?_
    rintro e' w' ⟨b, rfl, h1, h2, h3, h4⟩
    exact ⟨b, 0, rfl, by rw [e]; exact h1, h2, by rw [e]; exact h3, h4⟩
  · by_cases hn : s.p < bs.length
    · have hf' : s.f = false := by simpa using hf
      have e : rNext bs s = (bs.getD s.p 0, ⟨s.p + 1, false⟩) := by
        unfold rNext
        rw [if_neg (fun hc => by rcases hc with hc | hc; exact hf hc; omega)]
      obtain ⟨b, o, rfl, hb, hx⟩ := h.bytes (by omega)
      refine (next_ok h hf' hn).mono ?_
      rintro e' w' ⟨rfl, hl⟩
      have hset := h.setP (s.p + 1) (by omega)
      rw [hf'] at hset
      have hcast : ((s.p + 1 : Nat) : Int) = (s.p : Int) + 1 := by omega
      rw [hcast] at hset
      have hB := hl.below
      have hsz : (W.setCell ⟨rb, 1, none⟩ (.int .i64 ((s.p : Int) + 1))).heap.size = W.heap.size := by simp
      have hget : bs[s.p]? = some (bs.getD s.p 0) := by rw [List.getD_eq_getElem?_getD, List.getElem?_eq_getElem hn]; rfl
      refine ⟨b, o + s.p, rfl, ?_, ?_, by rw [e]; exact hset.later hB, Wrote.trans (Wrote.setW _) (Wrote.of_below hB)⟩
      · rw [e, hB.cell (p := ⟨b, o + s.p, none⟩) (by rw [hsz]; exact hb), World.cell?_setCell_far _ _ _ _ (by exact Ne.symm (h.ne b o rfl))]
        exact hx s.p _ hget
      · have := hB.size; rw [hsz] at this; omega
    · have e : rNext bs s = (0, ⟨s.p, true⟩) := by unfold rNext; rw [if_pos (Or.inr (by omega))]
      refine (next_end h (by omega)).mono ?_
      rintro e' w' ⟨b, rfl, h1, h2, h3, h4⟩
      exact ⟨b, 0, rfl, by rw [e]; exact h1, h2, by rw [e]; exact h3, h4⟩

end Go.Proofs.YtbkmgoffiigdbabGreatDoor

namespace Go.Proofs.YtbkmgoffiigdbabGreatDoor
open Go.RowKit Go.Sort

theorem rNext_bd {bs : List Int} (h : ∀ x, x ∈ bs → 0 ≤ x ∧ x < 256) (s : Rs) : 0 ≤ (rNext bs s).1 ∧ (rNext bs s).1 < 256 := by
  unfold rNext
  split
  · exact ⟨by show (0 : Int) ≤ 0; decide, by show (0 : Int) < 256; decide⟩
  · rename_i hc
    have hn : s.p < bs.length := by
      rcases Nat.lt_or_ge s.p bs.length with h1 | h1
      · exact h1
      · exact absurd (Or.inr h1) hc
    have hm : bs.getD s.p 0 ∈ bs := by
      rw [List.getD_eq_getElem?_getD, List.getElem?_eq_getElem hn]
      exact List.getElem_mem hn
    exact h _ hm
theorem rNext_on {bs : List Int} {s : Rs} (h : ¬ (rNext bs s).1 < 128) : s.p < bs.length ∧ (rNext bs s).2.p = s.p + 1 := by
  unfold rNext at h ⊢
  split
  · rename_i hc
    rw [if_pos hc] at h
    exact absurd (by show (0 : Int) < 128; decide) h
  · rename_i hc
    refine ⟨?_, rfl⟩
    rcases Nat.lt_or_ge s.p bs.length with h1 | h1
    · exact h1
    · exact absurd (Or.inr h1) hc
theorem rMust_p (s : Rs) (b : Bool) : (rMust s b).p = s.p := by unfold rMust; split <;> rfl

theorem rShort_succ {bs : List Int} (F : Nat) {s s1 : Rs} (n : Int) (k : Nat) {b : Int} (hb : rNext bs s = (b, s1)) : rShort bs (F + 1) s n k =
    if b < 128 then (bits .or .u64 n (shlU (bits .andNot .u8 b 128) k), rMust (rMust s1 (shrU (shlU (bits .andNot .u8 b 128) k) k == bits .andNot .u8 b 128)) (b != 0 || k == 0))
    else rShort bs F (rMust s1 (shrU (shlU (bits .andNot .u8 b 128) k) k == bits .andNot .u8 b 128)) (bits .or .u64 n (shlU (bits .andNot .u8 b 128) k)) (k + 7) := by
  rw [rShort, hb]

set_option maxRecDepth 100000 in
set_option maxHeartbeats 4000000 in
theorem shortNumber_any {W : World} {rb c : Nat} {a : Option Addr} {bs : List Int} {s : Rs} (h : RdAt W rb a c bs s) :
    Calls Tryz.prog 109 #[.pointer (some ⟨rb, 0, none⟩)] W fun e w' => RdPost rb a c bs (rNum bs s).2 (.int .u64 (rNum bs s).1) W e w' := by
  have HH := hid h
  have hlen := h.len
  have HRNG := hid h.rng
  unfold rNum
  clear h
  go_enter Tryz.func109, Tryz.ntmps109
  go_wp2_with fail
  go_loopw [3, 4] (fun vn vk wr => ∃ (i k : Nat) (s' : Rs) (n' : Int), i ≤ bs.length ∧ k = 7 * i ∧ vn = .int .u64 n' ∧ vk = .int .i64 (k : Int) ∧ RdAt wr rb a c bs s' ∧ Rd rb W wr ∧ s'.p = s.p + i ∧ rShort bs (bs.length + 1) s 0 0 = rShort bs (bs.length + 1 - i) s' n' k) (fun _ vk _ => 7 * bs.length + 7 - (intOf vk).toNat)
  case atStart => exact ⟨0, 0, s, 0, Nat.zero_le _, rfl, rfl, rfl, HH.out, Wrote.refl _ _ _, rfl, rfl⟩
  case round =>
    obtain ⟨i, k, s', n', hi, hk, rfl, rfl, hrd, hwr, hp, heq⟩ := hrel
    have HK := hid hk
    have hk0 : (0 : Int) ≤ (k : Int) := by omega
    have hkb : k ≤ 140000 := by omega
    clear hk
    have HRD := hid hrd
    have HWR := hid hwr
    have hbd := rNext_bd HRNG.out s'
    have hon := rNext_on (bs := bs) (s := s')
    obtain ⟨b, s1, hb⟩ : ∃ b s1, rNext bs s' = (b, s1) := ⟨_, _, rfl⟩
    have hstep := rShort_succ (bs.length - i) n' k hb
    rw [show bs.length - i + 1 = bs.length + 1 - i by omega] at hstep
    have HEQ := hid (heq.trans hstep)
    have hpl := hrd.pos
    clear hrd hwr heq hstep
    go_wp2_with fail
    refine (next_any HRD.out).mono ?_
    rintro e w1 ⟨b1, o1, rfl, x0, l1, h1, h2⟩
    rw [hb] at x0 h1 hbd hon
    simp only at x0 h1 hbd hon
    have H1 := hid h1
    have H2 := hid (HWR.out.trans h2)
    clear h1 h2 HRD HWR
    have hand : bits BinOp.andNot IntKind.u8 b 128 = b % 128 := andNot128 hbd.1 hbd.2
    rw [hand] at HEQ
    obtain ⟨q, hq⟩ : ∃ q, q = b % 128 := ⟨_, rfl⟩
    rw [← hq] at HEQ hand
    have hq0 : 0 ≤ q ∧ q < 128 := by omega
    have hwq : IntKind.u64.wrap q = q := by simp [IntKind.wrap, IntKind.bits, IntKind.signed]; omega
    obtain ⟨y, hy⟩ : ∃ y, IntKind.u64.wrap (q * 2 ^ min k 64) = y := ⟨_, rfl⟩
    have hsy : shlU q k = y := by rw [← hy]; rfl
    obtain ⟨t, ht⟩ : ∃ t, y / 2 ^ min k 64 = t := ⟨_, rfl⟩
    have hst : shrU y k = t := ht
    rw [hsy, hst] at HEQ
    clear hq hb hsy hst
    go_wp2_with fail
    go_region_with (go_at_call 82; refine (must_any (H1.out.later ?_) _).mono ?_; exact (by repeat (first | exact Below.refl _ _ | refine Below.drew ?_ | refine Below.drewQ ?_ _)); rintro e w2 ⟨rfl, h3, h4⟩; have H3 := hid h3; have H4 := hid (H2.out.trans ((Wrote.of_below (by repeat (first | exact Below.refl _ _ | refine Below.drew ?_ | refine Below.drewQ ?_ _))).trans h4)); clear h3 h4)
    all_goals
      clear H1 H2
      by_cases hlt : b < 128
      · rw [if_pos hlt] at HEQ
        by_cases hb0 : b = 0
        · subst hb0
          have HB : Hid (((k : Int) == 0) = (((0 : Int) != 0) || (k == 0))) := by
            refine hid ?_
            rw [Bool.eq_iff_iff]
            simp
          go_wp2_with fail
          rw [HB.out]
          refine (must_any H3.out _).mono ?_
          rintro e w3 ⟨rfl, h5, h6⟩
          have H5 := hid h5
          have H6 := hid (H4.out.trans h6)
          clear h5 h6
          go_wp2_with fail
          go_ret
          exact ⟨by rw [HEQ.out]; rfl, by rw [HEQ.out]; exact H5.out, H6.out⟩
        · have hb1 : (b == 0) = false := beq_eq_false_iff_ne.2 hb0
          have HB : Hid ((b != 0 || k == 0) = true) := by
            refine hid ?_
            simp [hb0]
          rw [HB.out] at HEQ
          go_wp2_with fail
          refine (must_any H3.out _).mono ?_
          rintro e w3 ⟨rfl, h5, h6⟩
          have H5 := hid h5
          have H6 := hid (H4.out.trans h6)
          clear h5 h6
          go_wp2_with fail
          go_ret
          exact ⟨by rw [HEQ.out]; rfl, by rw [HEQ.out]; exact H5.out, H6.out⟩
      · rw [if_neg hlt] at HEQ
        obtain ⟨q1, q2⟩ := hon (by omega)
        go_wp2_with fail
        go_roundw
        case rel => exact ⟨i + 1, k + 7, _, _, by omega, by have := HK.out; omega, rfl, by go_num, H3.out, H4.out, by rw [rMust_p]; omega, by rw [HEQ.out]; congr 1; omega⟩
        case measure => simp [intOf]; have := HK.out; omega

end Go.Proofs.YtbkmgoffiigdbabGreatDoor

namespace Go.Proofs.YtbkmgoffiigdbabGreatDoor
open Go.RowKit Go.Sort

theorem rShort_bd {bs : List Int} (h : ∀ x, x ∈ bs → 0 ≤ x ∧ x < 256) : ∀ (F : Nat) (s : Rs) (n : Int) (k : Nat), 0 ≤ n → n < 18446744073709551616 → 0 ≤ (rShort bs F s n k).1 ∧ (rShort bs F s n k).1 < 18446744073709551616
  | 0, _, _, _, h0, h1 => ⟨h0, h1⟩
  | F + 1, s, n, k, h0, h1 => by
    have hor : 0 ≤ bits .or .u64 n (shlU (bits .andNot .u8 (rNext bs s).1 128) k) ∧ bits .or .u64 n (shlU (bits .andNot .u8 (rNext bs s).1 128) k) < 18446744073709551616 := by
      have hy0 : 0 ≤ shlU (bits .andNot .u8 (rNext bs s).1 128) k ∧ shlU (bits .andNot .u8 (rNext bs s).1 128) k < 18446744073709551616 := by unfold shlU; omega
      obtain ⟨y, hy⟩ := Int.eq_ofNat_of_zero_le hy0.1
      obtain ⟨m, hm⟩ := Int.eq_ofNat_of_zero_le h0
      rw [hy, hm, bits_or_u64_nat m y (by omega) (by omega)]
      have : m ||| y < 2 ^ 64 := Nat.or_lt_two_pow (by omega) (by omega)
      omega
    rw [rShort]
    split
    · exact hor
    · exact rShort_bd h F _ _ _ hor.1 hor.2
theorem rNum_bd {bs : List Int} (h : ∀ x, x ∈ bs → 0 ≤ x ∧ x < 256) (s : Rs) : 0 ≤ (rNum bs s).1 ∧ (rNum bs s).1 < 18446744073709551616 := rShort_bd h _ _ _ _ (by decide) (by decide)
theorem rInt_bd {bs : List Int} (h : ∀ x, x ∈ bs → 0 ≤ x ∧ x < 256) (s : Rs) : I64 (rInt bs s).1 := by
  have := rNum_bd h s
  unfold rInt I64
  simp only
  split <;> omega

set_option maxRecDepth 100000 in
set_option maxHeartbeats 1000000 in
theorem shortInt_any {W : World} {rb c : Nat} {a : Option Addr} {bs : List Int} {s : Rs} (h : RdAt W rb a c bs s) :
    Calls Tryz.prog 110 #[.pointer (some ⟨rb, 0, none⟩)] W fun e w' => RdPost rb a c bs (rInt bs s).2 (.int .i64 (rInt bs s).1) W e w' := by
  have HN := hid (shortNumber_any h)
  have hbd := rNum_bd h.rng s
  have HI : Hid (rInt bs s = (if (rNum bs s).1 % 2 = 1 then -1 - (rNum bs s).1 / 2 else (rNum bs s).1 / 2, (rNum bs s).2)) := hid rfl
  generalize rInt bs s = r at *
  generalize (rNum bs s).1 = n at *
  generalize (rNum bs s).2 = s' at *
  clear h
  go_enter Tryz.func110, Tryz.ntmps110
  go_wp2_with fail
  refine HN.out.mono ?_
  rintro e w1 ⟨rfl, h1, h2⟩
  have H1 := hid h1
  have H2 := hid h2
  clear h1 h2
  have hw : IntKind.i64.wrap (n / 2) = n / 2 := Go.IntWalk.i64_in _ (by omega)
  by_cases hodd : n % 2 = 1
  · rw [if_pos hodd] at HI
    go_wp2_with fail
    go_ret
    exact ⟨by rw [HI.out]; first | rfl | (congr 2; omega), by rw [HI.out]; exact H1.out, H2.out⟩
  · rw [if_neg hodd] at HI
    have hodd' : n % 2 = 0 := by omega
    go_wp2_with fail
    go_ret
    exact ⟨by rw [HI.out]; rfl, by rw [HI.out]; exact H1.out, H2.out⟩

set_option maxRecDepth 100000 in
set_option maxHeartbeats 1000000 in
theorem upTo_any {W : World} {rb c : Nat} {a : Option Addr} {bs : List Int} {s : Rs} (h : RdAt W rb a c bs s) (most : Nat) (hm : most ≤ 9223372036854775807) :
    Calls Tryz.prog 80 #[.pointer (some ⟨rb, 0, none⟩), .int .i64 (most : Int)] W fun e w' => RdPost rb a c bs (rUpTo bs most s).2 (.int .i64 (rUpTo bs most s).1) W e w' := by
  have HN : Hid (∀ V, Below W.heap.size W V → Calls Tryz.prog 109 #[.pointer (some ⟨rb, 0, none⟩)] V fun e w' => RdPost rb a c bs (rNum bs s).2 (.int .u64 (rNum bs s).1) V e w') := fun V hV => shortNumber_any (h.later hV)
  have hbd := rNum_bd h.rng s
  have c3 := h.c3
  have hlt := h.lt
  have HI : Hid (rUpTo bs most s = (if (rMust (rNum bs s).2 (decide ((rNum bs s).1 ≤ (most : Int)))).f then 0 else (rNum bs s).1, rMust (rNum bs s).2 (decide ((rNum bs s).1 ≤ (most : Int))))) := hid rfl
  generalize rUpTo bs most s = r at *
  generalize (rNum bs s).1 = n at *
  generalize (rNum bs s).2 = s' at *
  clear h
  go_enter Tryz.func80, Tryz.ntmps80
  go_wp2_with (go_at_call 109; refine (HN.out _ ?_).mono ?_; exact (by repeat (first | exact Below.refl _ _ | refine Below.drew ?_ | refine Below.drewQ ?_ _)); rintro e w1 ⟨rfl, h1, h2⟩; have H1 := hid h1; have H2 := hid h2; clear h1 h2)
  refine (must_any H1.out _).mono ?_
  rintro e w2 ⟨rfl, h3, h4⟩
  have d2 := h3.c2
  have l2 := h3.lt
  have H3 := hid h3
  have H4 := hid (H2.out.trans h4)
  clear h3 h4 H1 H2
  generalize hs2 : rMust s' (decide (n ≤ (most : Int))) = s2 at *
  cases hf : s2.f
  · rw [hf] at d2 HI
    have hle : n ≤ (most : Int) := by
      rcases Int.lt_or_le (most : Int) n with hgt | hle
      · rw [decide_eq_false (by omega)] at hs2
        rw [← hs2] at hf
        cases hf
      · exact hle
    have hw : IntKind.i64.wrap n = n := Go.IntWalk.i64_in _ (by omega)
    clear hs2
    go_wp2_with fail
    go_ret
    exact ⟨by rw [HI.out]; rfl, by rw [HI.out]; exact H3.out, H4.out⟩
  · rw [hf] at d2 HI
    clear hs2
    go_wp2_with fail
    go_ret
    exact ⟨by rw [HI.out]; rfl, by rw [HI.out]; exact H3.out, H4.out⟩

set_option maxHeartbeats 1000000 in
theorem rcount_any {W : World} {rb c : Nat} {a : Option Addr} {bs : List Int} {s : Rs} (h : RdAt W rb a c bs s) :
    Calls Tryz.prog 114 #[.pointer (some ⟨rb, 0, none⟩)] W fun e w' => RdPost rb a c bs (rCount bs s).2 (.int .i64 (rCount bs s).1) W e w' := by
  have HN := hid (upTo_any h 9223372036854775807 (by decide))
  clear h
  go_enter Tryz.func114, Tryz.ntmps114
  go_wp2_with (go_at_call 80; refine HN.out.mono ?_; rintro e w1 ⟨rfl, h1, h2⟩)
  go_ret
  exact ⟨rfl, h1, h2⟩

set_option maxHeartbeats 1000000 in
theorem rsigned_any {W : World} {rb c : Nat} {a : Option Addr} {bs : List Int} {s : Rs} (h : RdAt W rb a c bs s) :
    Calls Tryz.prog 134 #[.pointer (some ⟨rb, 0, none⟩)] W fun e w' => RdPost rb a c bs (rInt bs s).2 (.int .i64 (rInt bs s).1) W e w' := by
  have HN : Hid (∀ V, Below W.heap.size W V → Calls Tryz.prog 110 #[.pointer (some ⟨rb, 0, none⟩)] V fun e w' => RdPost rb a c bs (rInt bs s).2 (.int .i64 (rInt bs s).1) V e w') := fun V hV => shortInt_any (h.later hV)
  have c4 := h.c4
  have hlt := h.lt
  clear h
  go_enter Tryz.func134, Tryz.ntmps134
  go_wp2_with (go_at_call 110; refine (HN.out _ ?_).mono ?_; exact (by repeat (first | exact Below.refl _ _ | refine Below.drew ?_ | refine Below.drewQ ?_ _)); rintro e w1 ⟨rfl, h1, h2⟩)
  go_ret
  exact ⟨rfl, h1, h2⟩

set_option maxHeartbeats 400000 in
theorem every_any (n : Int) (w : World) : Calls Tryz.prog 112 #[.int .i64 n] w fun e w' => e = .returned (.bool true) ∧ w' = w := by
  go_enter Tryz.func112, Tryz.ntmps112
  go_wp2
  go_ret
  exact ⟨rfl, rfl⟩

end Go.Proofs.YtbkmgoffiigdbabGreatDoor

namespace Go.Proofs.YtbkmgoffiigdbabGreatDoor
open Go.RowKit Go.Sort

/-! Reading goes on, and a fault stays. -/

structure Fwd (s s' : Rs) : Prop where
  p : s.p ≤ s'.p
  f : s.f = true → s'.f = true

theorem Fwd.refl (s : Rs) : Fwd s s := ⟨Nat.le_refl _, id⟩
theorem Fwd.trans {s t u : Rs} (h : Fwd s t) (k : Fwd t u) : Fwd s u := ⟨Nat.le_trans h.p k.p, fun e => k.f (h.f e)⟩
theorem fwd_next (bs : List Int) (s : Rs) : Fwd s (rNext bs s).2 := by
  unfold rNext
  split
  · exact ⟨Nat.le_refl _, fun _ => rfl⟩
  · rename_i h
    exact ⟨Nat.le_succ _, fun e => absurd (Or.inl e) h⟩
theorem fwd_must (s : Rs) (b : Bool) : Fwd s (rMust s b) := by
  unfold rMust
  split
  · exact Fwd.refl s
  · exact ⟨Nat.le_refl _, fun _ => rfl⟩
theorem fwd_short (bs : List Int) : ∀ (F : Nat) (s : Rs) (n : Int) (k : Nat), Fwd s (rShort bs F s n k).2
  | 0, s, _, _ => Fwd.refl s
  | F + 1, s, n, k => by
    rw [rShort]
    split
    · exact (fwd_next bs s).trans ((fwd_must _ _).trans (fwd_must _ _))
    · exact (fwd_next bs s).trans ((fwd_must _ _).trans (fwd_short bs F _ _ _))
theorem fwd_num (bs : List Int) (s : Rs) : Fwd s (rNum bs s).2 := fwd_short bs _ _ _ _
theorem fwd_int (bs : List Int) (s : Rs) : Fwd s (rInt bs s).2 := fwd_num bs s
theorem fwd_upTo (bs : List Int) (most : Int) (s : Rs) : Fwd s (rUpTo bs most s).2 := (fwd_num bs s).trans (fwd_must _ _)
theorem fwd_count (bs : List Int) (s : Rs) : Fwd s (rCount bs s).2 := fwd_upTo bs _ s

/-- A reading that takes a byte, if there is no fault. -/
def Takes (s s' : Rs) : Prop := Fwd s s' ∧ (s'.f = true ∨ s.p < s'.p)
theorem takes_next (bs : List Int) (s : Rs) : Takes s (rNext bs s).2 := ⟨fwd_next bs s, by
  unfold rNext
  split
  · exact Or.inl rfl
  · exact Or.inr (Nat.lt_succ_self _)⟩
theorem Takes.then {s t u : Rs} (h : Takes s t) (k : Fwd t u) : Takes s u := ⟨h.1.trans k, by
  rcases h.2 with e | e
  · exact Or.inl (k.f e)
  · exact Or.inr (Nat.lt_of_lt_of_le e k.p)⟩
theorem takes_num (bs : List Int) (s : Rs) : Takes s (rNum bs s).2 := by
  unfold rNum
  rw [rShort]
  split
  · exact (takes_next bs s).then ((fwd_must _ _).trans (fwd_must _ _))
  · exact (takes_next bs s).then ((fwd_must _ _).trans (fwd_short bs _ _ _ _))
theorem takes_int (bs : List Int) (s : Rs) : Takes s (rInt bs s).2 := takes_num bs s
theorem takes_upTo (bs : List Int) (most : Int) (s : Rs) : Takes s (rUpTo bs most s).2 := (takes_num bs s).then (fwd_must _ _)
theorem takes_value (bs : List Int) (s : Rs) : Takes s (rValue bs s).2 := by
  unfold rValue
  split
  · exact takes_next bs s
  · split
    · exact (takes_next bs s).then (fwd_int bs _)
    · split
      · exact (takes_next bs s).then (fwd_count bs _)
      · exact (takes_next bs s).then (fwd_must (rNext bs s).2 false)

theorem Wrote.frozen {wb ab : Nat} {W V : World} (h : Wrote wb ab W V) {b i : Nat} (hb : b < W.heap.size) (h1 : b ≠ wb) (h2 : b ≠ ab) (hc : W.frozen? ⟨b, i, none⟩ = false) : V.frozen? ⟨b, i, none⟩ = false := by
  rw [World.frozen?_of_block (w := W) (a := ⟨b, i, none⟩) (h.block b hb h1 h2)]; exact hc

theorem Wrote.setNew {wb ab : Nat} {W V : World} (h : Wrote wb ab W V) {b : Nat} (hb : W.heap.size ≤ b) (i : Nat) (v : Value) : Wrote wb ab W (V.setCell ⟨b, i, none⟩ v) :=
  ⟨h.os, h.tape, h.output, by simpa using h.size, fun k hk h1 h2 => by rw [heap_setCell_other _ _ _ _ (show k ≠ b by omega)]; exact h.block k hk h1 h2⟩
theorem RdAt.setNew {W V : World} {rb c : Nat} {a : Option Addr} {bs : List Int} {s s' : Rs} (h0 : RdAt W rb a c bs s) (h : RdAt V rb a c bs s') {b : Nat} (hb : W.heap.size ≤ b) (i : Nat) (v : Value) : RdAt (V.setCell ⟨b, i, none⟩ v) rb a c bs s' := by
  have hl := h0.lt
  have e : (V.setCell ⟨b, i, none⟩ v).heap[rb]? = V.heap[rb]? := heap_setCell_other _ _ _ _ (show rb ≠ b by omega)
  have hc : ∀ j, (V.setCell ⟨b, i, none⟩ v).cell? ⟨rb, j, none⟩ = V.cell? ⟨rb, j, none⟩ := fun j => World.cell?_of_block (w := V) (a := ⟨rb, j, none⟩) e
  refine ⟨(hc 0).trans h.c0, (hc 1).trans h.c1, (hc 2).trans h.c2, (hc 3).trans h.c3, (hc 4).trans h.c4, (hc 5).trans h.c5, (hc 6).trans h.c6, (hc 7).trans h.c7, fun j => (World.frozen?_of_block (w := V) (a := ⟨rb, j, none⟩) e).trans (h.z j), fun hp => ?_, h.ne, by simpa using h.lt, h.rng, h.len, h.pos⟩
  obtain ⟨b1, o1, e1, hb1, _⟩ := h0.bytes hp
  obtain ⟨b2, o2, e2, hb2, hx⟩ := h.bytes hp
  rw [e1] at e2
  cases e2
  exact ⟨b1, o1, e1, by simpa using hb2, fun j x hj => by rw [World.cell?_of_block (w := V) (a := ⟨b1, o1 + j, none⟩) (heap_setCell_other _ _ _ _ (show b1 ≠ b by omega))]; exact hx j x hj⟩

set_option maxRecDepth 100000 in
set_option maxHeartbeats 4000000 in
theorem rvalue_any {W : World} {rb c : Nat} {a : Option Addr} {bs : List Int} {s : Rs} (h : RdAt W rb a c bs s) :
    Calls Tryz.prog 149 #[.pointer (some ⟨rb, 0, none⟩)] W fun e w' => RdPost rb a c bs (rValue bs s).2 (.agg #[.int .u8 (rValue bs s).1.1, .int .i64 (rValue bs s).1.2]) W e w' := by
  have hlt := h.lt
  have HH := hid h
  have HW := hid h
  obtain ⟨b, s1, hb⟩ : ∃ b s1, rNext bs s = (b, s1) := ⟨_, _, rfl⟩
  have HV : Hid (rValue bs s = if b = 0 then ((0, 0), s1) else if b = 1 then ((1, (rInt bs s1).1), (rInt bs s1).2) else if b = 2 then ((2, (rCount bs s1).1), (rCount bs s1).2) else ((0, 0), rMust s1 false)) := by
    refine hid ?_
    unfold rValue
    rw [hb]
  have HNB := hid hb
  have hB0 : Below W.heap.size W (W.alloc (.cells #[.int .u8 0, .int .i64 0] 73)) := Below.alloc (Below.refl _ _) (Nat.le_refl _) _
  have HB0 := hid hB0
  generalize rValue bs s = r at *
  clear h hB0 hb
  go_enter Tryz.func149, Tryz.ntmps149
  go_wp2_with fail
  refine (next_any (HH.out.later HB0.out)).mono ?_
  rintro e w1 ⟨b1, o1, rfl, x0, l1, h1, h2⟩
  rw [HNB.out] at x0 h1
  simp only at x0 h1
  have y0 : w1.cell? ⟨W.heap.size, 0, none⟩ = some (.int .u8 0) := h2.cell (by simp) (by omega) (by omega) (by go_simp)
  have y1 : w1.cell? ⟨W.heap.size, 1, none⟩ = some (.int .i64 0) := h2.cell (by simp) (by omega) (by omega) (by go_simp)
  have f0 : w1.frozen? ⟨W.heap.size, 0, none⟩ = false := h2.frozen (by simp) (by omega) (by omega) (by go_simp)
  have f1 : w1.frozen? ⟨W.heap.size, 1, none⟩ = false := h2.frozen (by simp) (by omega) (by omega) (by go_simp)
  have lw1 : W.heap.size < w1.heap.size := by have := h2.size; simp at this; omega
  have H1 := hid h1
  have H2 := hid ((Wrote.of_below HB0.out).trans h2)
  clear h1 h2 HNB HH HB0
  by_cases hb0 : b = 0
  · subst hb0
    rw [if_pos rfl] at HV
    go_wp2_with fail
    refine bodyPost_ret (v := .agg #[.int .u8 0, .int .i64 0]) (by simp [results, Tryz.results149, go_sem, y0, y1]) rfl ?_
    rw [HV.out]
    exact ⟨rfl, (by repeat (first | exact H1.out | refine HW.out.setNew ?_ (Nat.le_refl _) _ _ | refine RdAt.later ?_ (Below.alloc (Below.refl _ _) (Nat.le_refl _) _))), (by repeat (first | exact H2.out | refine Wrote.setNew ?_ (Nat.le_refl _) _ _ | refine Wrote.trans ?_ (Wrote.of_below (Below.alloc (Below.refl _ _) (Nat.le_refl _) _))))⟩
  · have hb0' : (b == 0) = false := beq_eq_false_iff_ne.2 hb0
    rw [if_neg hb0] at HV
    by_cases hb1 : b = 1
    · subst hb1
      rw [if_pos rfl] at HV
      have HS := hid (rsigned_any H1.out)
      generalize rInt bs s1 = q at *
      go_wp2_with fail
      refine HS.out.mono ?_
      rintro e w2 ⟨rfl, h3, h4⟩
      have z0 := h4.cell lw1 (by omega) (by omega) y0
      have z1 := h4.cell lw1 (by omega) (by omega) y1
      have g0 := h4.frozen lw1 (by omega) (by omega) f0
      have g1 := h4.frozen lw1 (by omega) (by omega) f1
      have lw2 : W.heap.size < w2.heap.size := Nat.lt_of_lt_of_le lw1 h4.size
      have H3 := hid h3
      have H4 := hid (H2.out.trans h4)
      clear h3 h4 y0 y1 f0 f1 x0
      go_wp2_with (go_at_call 152; refine (number_any _ _).mono ?_; rintro e w' ⟨rfl, o4, rfl⟩)
      refine bodyPost_ret (v := .agg #[.int .u8 1, .int .i64 q.1]) (by simp [results, Tryz.results149, go_sem, z0, z1, lw2]) rfl ?_
      rw [HV.out]
      exact ⟨rfl, (by repeat (first | exact H3.out | refine HW.out.setNew ?_ (Nat.le_refl _) _ _ | refine RdAt.later ?_ (Below.alloc (Below.refl _ _) (Nat.le_refl _) _))), (by repeat (first | exact H4.out | refine Wrote.setNew ?_ (Nat.le_refl _) _ _ | refine Wrote.trans ?_ (Wrote.of_below (Below.alloc (Below.refl _ _) (Nat.le_refl _) _))))⟩
    · have hb1' : (b == 1) = false := beq_eq_false_iff_ne.2 hb1
      rw [if_neg hb1] at HV
      by_cases hb2 : b = 2
      · subst hb2
        rw [if_pos rfl] at HV
        have HS := hid (rcount_any H1.out)
        generalize rCount bs s1 = q at *
        go_wp2_with fail
        refine HS.out.mono ?_
        rintro e w2 ⟨rfl, h3, h4⟩
        have z0 := h4.cell lw1 (by omega) (by omega) y0
        have z1 := h4.cell lw1 (by omega) (by omega) y1
        have g0 := h4.frozen lw1 (by omega) (by omega) f0
        have g1 := h4.frozen lw1 (by omega) (by omega) f1
        have lw2 : W.heap.size < w2.heap.size := Nat.lt_of_lt_of_le lw1 h4.size
        have H3 := hid h3
        have H4 := hid (H2.out.trans h4)
        clear h3 h4 y0 y1 f0 f1 x0
        go_wp2_with (go_at_call 131; refine (reference_any _ _).mono ?_; rintro e w' ⟨rfl, o4, rfl⟩)
        refine bodyPost_ret (v := .agg #[.int .u8 2, .int .i64 q.1]) (by simp [results, Tryz.results149, go_sem, z0, z1, lw2]) rfl ?_
        rw [HV.out]
        exact ⟨rfl, (by repeat (first | exact H3.out | refine HW.out.setNew ?_ (Nat.le_refl _) _ _ | refine RdAt.later ?_ (Below.alloc (Below.refl _ _) (Nat.le_refl _) _))), (by repeat (first | exact H4.out | refine Wrote.setNew ?_ (Nat.le_refl _) _ _ | refine Wrote.trans ?_ (Wrote.of_below (Below.alloc (Below.refl _ _) (Nat.le_refl _) _))))⟩
      · have hb2' : (b == 2) = false := beq_eq_false_iff_ne.2 hb2
        rw [if_neg hb2] at HV
        go_wp2_with fail
        refine (must_any H1.out false).mono ?_
        rintro e w2 ⟨rfl, h3, h4⟩
        have z0 := h4.cell lw1 (by omega) (by omega) y0
        have z1 := h4.cell lw1 (by omega) (by omega) y1
        have g0 := h4.frozen lw1 (by omega) (by omega) f0
        have g1 := h4.frozen lw1 (by omega) (by omega) f1
        have lw2 : W.heap.size < w2.heap.size := Nat.lt_of_lt_of_le lw1 h4.size
        have H3 := hid h3
        have H4 := hid (H2.out.trans h4)
        clear h3 h4 y0 y1 f0 f1 x0
        go_wp2_with fail
        refine bodyPost_ret (v := .agg #[.int .u8 0, .int .i64 0]) (by simp [results, Tryz.results149, go_sem, z0, z1]) rfl ?_
        rw [HV.out]
        exact ⟨rfl, (by repeat (first | exact H3.out | refine HW.out.setNew ?_ (Nat.le_refl _) _ _ | refine RdAt.later ?_ (Below.alloc (Below.refl _ _) (Nat.le_refl _) _))), (by repeat (first | exact H4.out | refine Wrote.setNew ?_ (Nat.le_refl _) _ _ | refine Wrote.trans ?_ (Wrote.of_below (Below.alloc (Below.refl _ _) (Nat.le_refl _) _))))⟩

end Go.Proofs.YtbkmgoffiigdbabGreatDoor

namespace Go.Proofs.YtbkmgoffiigdbabGreatDoor
open Go.RowKit Go.Sort

def sliceLen : Value → Nat
  | .slice _ n _ => n
  | _ => 0

def rVals (bs : List Int) (n : Int) (s : Rs) : List Val × Rs := rList (rValue bs) (bs.length + 2) n [] s

theorem rList_go {α : Type} {rd : Rs → α × Rs} {F : Nat} {n : Int} {acc : List α} {s : Rs} (h : (acc.length : Int) < n ∧ s.f = false) : rList rd (F + 1) n acc s = rList rd F n (acc ++ [(rd s).1]) (rd s).2 := by rw [rList, if_pos h]
theorem rList_end {α : Type} {rd : Rs → α × Rs} {F : Nat} {n : Int} {acc : List α} {s : Rs} (h : ¬ ((acc.length : Int) < n ∧ s.f = false)) : rList rd (F + 1) n acc s = (acc, s) := by rw [rList, if_neg h]

/-- Old blocks that stay: the reader stays. -/
theorem RdAt.low {W V V' : World} {rb c : Nat} {a : Option Addr} {bs : List Int} {s s' : Rs} (h0 : RdAt W rb a c bs s) (h : RdAt V rb a c bs s') (hs : V.heap.size ≤ V'.heap.size) (hb : ∀ k, k < W.heap.size → V'.heap[k]? = V.heap[k]?) : RdAt V' rb a c bs s' := by
  have e := hb rb h0.lt
  have hc : ∀ j, V'.cell? ⟨rb, j, none⟩ = V.cell? ⟨rb, j, none⟩ := fun j => World.cell?_of_block (w := V) (a := ⟨rb, j, none⟩) e
  refine ⟨(hc 0).trans h.c0, (hc 1).trans h.c1, (hc 2).trans h.c2, (hc 3).trans h.c3, (hc 4).trans h.c4, (hc 5).trans h.c5, (hc 6).trans h.c6, (hc 7).trans h.c7, fun j => (World.frozen?_of_block (w := V) (a := ⟨rb, j, none⟩) e).trans (h.z j), fun hp => ?_, h.ne, Nat.lt_of_lt_of_le h.lt hs, h.rng, h.len, h.pos⟩
  obtain ⟨b1, o1, e1, hb1, _⟩ := h0.bytes hp
  obtain ⟨b2, o2, e2, hb2, hx⟩ := h.bytes hp
  rw [e1] at e2
  cases e2
  exact ⟨b1, o1, e1, Nat.lt_of_lt_of_le hb2 hs, fun j x hj => by rw [World.cell?_of_block (w := V) (a := ⟨b1, o1 + j, none⟩) (hb b1 hb1)]; exact hx j x hj⟩

/-- A list of one's own grows behind a new block: what is old stays. -/
theorem grown_low {W V w5 : World} {o : Obj} {v : Value} {e size n : Nat} {xs : List Value} (hr : V.ownsRow W.heap.size e size v n xs) (hs : W.heap.size ≤ V.heap.size) (hg : (V.alloc o).grownBy w5 v.ownBlock) : V.heap.size ≤ w5.heap.size ∧ (∀ k, k < W.heap.size → w5.heap[k]? = V.heap[k]?) ∧ w5.os = V.os ∧ w5.tape = V.tape ∧ w5.output = V.output := by
  have h1 := hg.size
  simp at h1
  refine ⟨by omega, fun k hk => ?_, hg.os, hg.tape, hg.output⟩
  rw [hg.block k (by simp; omega) (fun e => by have := (hr.lt k e.symm).1; omega)]
  exact (Below.alloc (Below.refl _ _) (Nat.le_refl _) _).block k (by omega)

theorem Wrote.low {wb ab : Nat} {W V V' : World} (h : Wrote wb ab W V) (hl : V.heap.size ≤ V'.heap.size ∧ (∀ k, k < W.heap.size → V'.heap[k]? = V.heap[k]?) ∧ V'.os = V.os ∧ V'.tape = V.tape ∧ V'.output = V.output) : Wrote wb ab W V' :=
  ⟨hl.2.2.1.trans h.os, hl.2.2.2.1.trans h.tape, hl.2.2.2.2.trans h.output, Nat.le_trans h.size hl.1, fun k hk h1 h2 => (hl.2.1 k hk).trans (h.block k hk h1 h2)⟩

theorem vflat_snoc (l : List Val) (x y : Int) : vflat l ++ [.int .u8 x, .int .i64 y] = vflat (l ++ [(x, y)]) := by simp [vflat, vcells]

set_option maxRecDepth 100000 in
set_option maxHeartbeats 4000000 in
theorem listVal_any {W : World} {rb c : Nat} {a : Option Addr} {bs : List Int} {s : Rs} (h : RdAt W rb a c bs s) (n : Int) (hn : n ≤ 9223372036854775807) :
    Calls Tryz.prog 148 #[.pointer (some ⟨rb, 0, none⟩), .int .i64 n, .func (.func 149) #[.pointer (some ⟨rb, 0, none⟩)] #[]] W fun e w' => ∃ v, RdPost rb a c bs (rVals bs n s).2 v W e w' ∧ w'.ownsRow W.heap.size 73 2 v (rVals bs n s).1.length (vflat (rVals bs n s).1) := by
  obtain ⟨i73, hi, hz, hsz, hby⟩ := info_parts info101
  have HI := hid hi
  have HZ := hid hz
  have HSZ := hid hsz
  have HBY := hid hby
  have HH := hid h
  have hlen := h.len
  unfold rVals
  clear h hi hz hsz hby
  go_enter Tryz.func148, Tryz.ntmps148
  go_wp2_with fail
  go_loopw [7] (fun vl wr => ∃ (acc : List Val) (la : Option Addr) (lc : Nat) (s' : Rs), vl = .slice la acc.length lc ∧ wr.ownsRow W.heap.size 73 2 vl acc.length (vflat acc) ∧ RdAt wr rb a c bs s' ∧ Rd rb W wr ∧ (s'.f = true ∨ s.p + acc.length ≤ s'.p) ∧ acc.length ≤ bs.length + 1 ∧ rList (rValue bs) (bs.length + 2) n [] s = rList (rValue bs) (bs.length + 2 - acc.length) n acc s') (fun vl _ => bs.length + 2 - sliceLen vl)
  case atStart => exact ⟨[], none, 0, s, rfl, World.ownsRow_nil _ _ _ _, HH.out, Wrote.refl _ _ _, Or.inr (Nat.le_refl _), Nat.zero_le _, rfl⟩
  case round =>
    obtain ⟨acc, la, lc, s', rfl, hrow, hrd, hwr, hpp, hal, heq⟩ := hrel
    have c2 := hrd.c2
    have hlt := hrd.lt
    have hps := hrd.pos
    have HRD := hid hrd
    have HWR := hid hwr
    have HROW := hid hrow
    by_cases hgo : (acc.length : Int) < n ∧ s'.f = false
    · obtain ⟨h1, h2⟩ := hgo
      have hal2 : acc.length ≤ bs.length := by
        rcases hpp with e | e
        · rw [h2] at e; cases e
        · omega
      have HEQ : Hid (rList (rValue bs) (bs.length + 2) n [] s = rList (rValue bs) (bs.length + 2 - (acc.length + 1)) n (acc ++ [(rValue bs s').1]) (rValue bs s').2) := by
        refine hid ?_
        rw [heq, show bs.length + 2 - acc.length = (bs.length + 2 - (acc.length + 1)) + 1 by omega]
        exact rList_go ⟨h1, h2⟩
      have htk := takes_value bs s'
      have HPP : Hid ((rValue bs s').2.f = true ∨ s.p + (acc.length + 1) ≤ (rValue bs s').2.p) := by
        refine hid ?_
        rcases htk.2 with e | e
        · exact Or.inl e
        · rcases hpp with e' | e'
          · rw [h2] at e'; cases e'
          · exact Or.inr (by omega)
      rw [h2] at c2
      have HV := hid (rvalue_any hrd)
      generalize rValue bs s' = r at *
      obtain ⟨⟨x1, x2⟩, s2⟩ := r
      simp only at HV HPP HEQ
      clear hrd hwr hrow hpp heq htk h2
      generalize hk : acc.length = k at *
      have HK := hid hk
      clear hk
      go_wp2_with fail
      refine HV.out.mono ?_
      rintro e w1 ⟨rfl, h3, h4⟩
      have hr1 : w1.ownsRow W.heap.size 73 2 (.slice la k lc) k (vflat acc) := ownsRow_of_block HROW.out fun b hb => h4.block b (HROW.out.lt b hb).2 (by have := (HROW.out.lt b hb).1; have := HH.out.lt; omega) (by have := (HROW.out.lt b hb).1; have := HH.out.lt; omega)
      have H3 := hid h3
      have H4 := hid (HWR.out.trans h4)
      have HR1 := hid hr1
      have hz1 : W.heap.size ≤ w1.heap.size := H4.out.size
      clear h3 h4 hr1
      go_wp2_with (at_builtin; go_must (refine wpList_append_any _ rfl (.tmp 20) (.tmp 23) 45 rfl W.heap.size 73 i73 _ 2 16 Tryz.underlying45 HI.out HZ.out HSZ.out HBY.out rfl (by decide) (.slice la k lc) k (vflat acc) rfl (HR1.out.alloc _) (some ⟨w1.heap.size, 0, none⟩) 1 1 [.int .u8 x1, .int .i64 x2] rfl rfl (fun _ => ⟨_, rfl, World.news_of_block (cs := #[.int .u8 x1, .int .i64 x2]) (t := 73) (fr := (0, 0)) (blk_new (by simp))⟩) (by intro u hu; simp at hu; rcases hu with rfl | rfl <;> rfl) (by unfold maxLen; omega) (by omega) (by simp; omega) ?_))
      intro v5 w5 hown5 hgrow5 _
      obtain ⟨a5, c5, rfl⟩ := owns_form hown5
      have hlow := grown_low HR1.out hz1 hgrow5
      have H5 := hid (HH.out.low H3.out hlow.1 hlow.2.1)
      have H6 := hid (H4.out.low hlow)
      have hown6 : w5.ownsRow W.heap.size 73 2 (.slice a5 (k + 1) c5) (k + 1) (vflat (acc ++ [(x1, x2)])) := by rw [← vflat_snoc]; exact hown5
      have HO5 := hid hown6
      clear hown5 hgrow5 hlow hown6
      go_wp2_with fail
      go_roundw
      case rel => exact ⟨acc ++ [(x1, x2)], a5, c5, s2, by rw [List.length_append, HK.out]; rfl, by rw [List.length_append, HK.out]; exact HO5.out, H5.out, H6.out, by rw [List.length_append, HK.out]; exact HPP.out, by rw [List.length_append, HK.out]; simp; omega, by rw [List.length_append, HK.out]; exact HEQ.out⟩
      case measure => simp [sliceLen]; omega
    · have HEQ : Hid (rList (rValue bs) (bs.length + 2) n [] s = (acc, s')) := by
        refine hid ?_
        rw [heq, show bs.length + 2 - acc.length = (bs.length + 1 - acc.length) + 1 by omega]
        exact rList_end hgo
      have HP : Hid (∀ v, v = .slice la acc.length lc → RdPost rb a c bs (rList (rValue bs) (bs.length + 2) n [] s).2 v W (.returned v) wr ∧ wr.ownsRow W.heap.size 73 2 v (rList (rValue bs) (bs.length + 2) n [] s).1.length (vflat (rList (rValue bs) (bs.length + 2) n [] s).1)) := fun v hv => by
        rw [HEQ.out, hv]
        exact ⟨⟨rfl, HRD.out, HWR.out⟩, HROW.out⟩
      clear hrd hwr hrow hpp heq
      by_cases hn2 : (acc.length : Int) < n
      · have hf : s'.f = true := by
          cases e : s'.f
          · exact absurd ⟨hn2, e⟩ hgo
          · rfl
        rw [hf] at c2
        clear hgo
        go_wp2_with fail
        go_ret
        exact ⟨_, HP.out _ rfl⟩
      · clear hgo
        go_wp2_with fail
        go_ret
        exact ⟨_, HP.out _ rfl⟩

set_option maxHeartbeats 1000000 in
theorem rvalues_any {W : World} {rb c : Nat} {a : Option Addr} {bs : List Int} {s : Rs} (h : RdAt W rb a c bs s) (n : Int) (hn : n ≤ 9223372036854775807) :
    Calls Tryz.prog 137 #[.pointer (some ⟨rb, 0, none⟩), .int .i64 n] W fun e w' => ∃ v, RdPost rb a c bs (rVals bs n s).2 v W e w' ∧ w'.ownsRow W.heap.size 73 2 v (rVals bs n s).1.length (vflat (rVals bs n s).1) := by
  have HN := hid (listVal_any h n hn)
  clear h
  go_enter Tryz.func137, Tryz.ntmps137
  go_wp2_with (go_at_call 148; refine HN.out.mono ?_; rintro e w1 ⟨v, ⟨rfl, h1, h2⟩, h3⟩)
  go_ret
  exact ⟨v, ⟨rfl, h1, h2⟩, h3⟩

end Go.Proofs.YtbkmgoffiigdbabGreatDoor
