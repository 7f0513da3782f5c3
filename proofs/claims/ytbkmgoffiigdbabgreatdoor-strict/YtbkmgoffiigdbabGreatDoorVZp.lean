import Derived.Test.YtbkmgoffiigdbabGreatDoorVT
import Derived.Test.YtbkmgoffiigdbabGreatDoorVYa
namespace Go.Proofs.YtbkmgoffiigdbabGreatDoor
open Go.RowKit Go.Sort

/-! PLAIN: the sum tells that a byte was turned. -/

theorem wrap_u32n (n : Int) : IntKind.u32.wrap n = n % 4294967296 := by simp [IntKind.wrap, IntKind.bits, IntKind.signed]

theorem xor32 (a b : Nat) (ha : a < 4294967296) (hb : b < 4294967296) : bits .xor .u32 (a : Int) (b : Int) = ((a ^^^ b : Nat) : Int) := by
  have hx : a ^^^ b < 2 ^ 32 := Nat.xor_lt_two_pow (by omega) (by omega)
  have h1 : (BitVec.ofInt 32 (a : Int)).toNat = a := by
    rw [BitVec.ofInt_natCast, BitVec.toNat_ofNat]; exact Nat.mod_eq_of_lt (by omega)
  have h2 : (BitVec.ofInt 32 (b : Int)).toNat = b := by
    rw [BitVec.ofInt_natCast, BitVec.toNat_ofNat]; exact Nat.mod_eq_of_lt (by omega)
  show IntKind.u32.wrap ((BitVec.ofInt 32 (a : Int) ^^^ BitVec.ofInt 32 (b : Int)).toNat : Int) = _
  rw [BitVec.toNat_xor, h1, h2, wrap_u32n]
  omega
theorem and32 (a b : Nat) (ha : a < 4294967296) (hb : b < 4294967296) : bits .and .u32 (a : Int) (b : Int) = ((a &&& b : Nat) : Int) := by
  have hx : a &&& b < 2 ^ 32 := Nat.and_lt_two_pow _ (by omega)
  have h1 : (BitVec.ofInt 32 (a : Int)).toNat = a := by
    rw [BitVec.ofInt_natCast, BitVec.toNat_ofNat]; exact Nat.mod_eq_of_lt (by omega)
  have h2 : (BitVec.ofInt 32 (b : Int)).toNat = b := by
    rw [BitVec.ofInt_natCast, BitVec.toNat_ofNat]; exact Nat.mod_eq_of_lt (by omega)
  show IntKind.u32.wrap ((BitVec.ofInt 32 (a : Int) &&& BitVec.ofInt 32 (b : Int)).toNat : Int) = _
  rw [BitVec.toNat_and, h1, h2, wrap_u32n]
  omega

def bitN (r : Nat) : Nat := if r % 2 = 1 then r / 2 ^^^ 3988292384 else r / 2
def bitsN : Nat → Nat → Nat
  | 0, r => r
  | n + 1, r => bitN (bitsN n r)
def byteN (r b : Nat) : Nat := bitsN 8 (r ^^^ b)
def regN (l : List Nat) : Nat := l.foldl byteN 4294967295

theorem bitN_lt {r : Nat} (h : r < 4294967296) : bitN r < 4294967296 := by
  unfold bitN
  split
  · have : r / 2 ^^^ 3988292384 < 2 ^ 32 := Nat.xor_lt_two_pow (by omega) (by decide)
    omega
  · omega
theorem bitsN_lt {r : Nat} (h : r < 4294967296) : ∀ n, bitsN n r < 4294967296
  | 0 => h
  | n + 1 => bitN_lt (bitsN_lt h n)
theorem byteN_lt {r b : Nat} (h : r < 4294967296) (hb : b < 4294967296) : byteN r b < 4294967296 := by
  have : r ^^^ b < 2 ^ 32 := Nat.xor_lt_two_pow (by omega) (by omega)
  exact bitsN_lt (by omega) 8
theorem fold_lt : ∀ (l : List Nat) {r : Nat}, r < 4294967296 → (∀ b, b ∈ l → b < 256) → l.foldl byteN r < 4294967296
  | [], _, h, _ => h
  | b :: l, r, h, hl => fold_lt l (byteN_lt h (by have := hl b (by simp); omega)) fun x hx => hl x (by simp [hx])

theorem top_bit {x : Nat} (h : x < 2147483648) : (x ^^^ 3988292384).testBit 31 = true := by
  rw [Nat.testBit_xor]
  have h1 : x.testBit 31 = false := Nat.testBit_lt_two_pow (by omega)
  have h2 : (3988292384 : Nat).testBit 31 = true := by decide
  rw [h1, h2]
  rfl

theorem xor_cancel {a b c : Nat} (h : a ^^^ c = b ^^^ c) : a = b := by
  have := congrArg (· ^^^ c) h
  simp only [Nat.xor_assoc, Nat.xor_self, Nat.xor_zero] at this
  exact this

theorem bitN_inj {a b : Nat} (ha : a < 4294967296) (hb : b < 4294967296) (h : bitN a = bitN b) : a = b := by
  unfold bitN at h
  by_cases h1 : a % 2 = 1 <;> by_cases h2 : b % 2 = 1
  · rw [if_pos h1, if_pos h2] at h
    have := xor_cancel h
    omega
  · rw [if_pos h1, if_neg h2] at h
    have t1 := top_bit (x := a / 2) (by omega)
    rw [h, Nat.testBit_lt_two_pow (show b / 2 < 2 ^ 31 by omega)] at t1
    cases t1
  · rw [if_neg h1, if_pos h2] at h
    have t1 := top_bit (x := b / 2) (by omega)
    rw [← h, Nat.testBit_lt_two_pow (show a / 2 < 2 ^ 31 by omega)] at t1
    cases t1
  · rw [if_neg h1, if_neg h2] at h
    omega
theorem bitsN_inj {a b : Nat} (ha : a < 4294967296) (hb : b < 4294967296) : ∀ n, bitsN n a = bitsN n b → a = b
  | 0, h => h
  | n + 1, h => bitsN_inj ha hb n (bitN_inj (bitsN_lt ha n) (bitsN_lt hb n) h)
theorem byteN_inj {a b x : Nat} (ha : a < 4294967296) (hb : b < 4294967296) (hx : x < 4294967296) (h : byteN a x = byteN b x) : a = b := by
  have h1 : a ^^^ x < 2 ^ 32 := Nat.xor_lt_two_pow (by omega) (by omega)
  have h2 : b ^^^ x < 2 ^ 32 := Nat.xor_lt_two_pow (by omega) (by omega)
  exact xor_cancel (bitsN_inj (by omega) (by omega) 8 h)
theorem byteN_inj2 {a x y : Nat} (ha : a < 4294967296) (hx : x < 4294967296) (hy : y < 4294967296) (h : byteN a x = byteN a y) : x = y := by
  have h1 : a ^^^ x < 2 ^ 32 := Nat.xor_lt_two_pow (by omega) (by omega)
  have h2 : a ^^^ y < 2 ^ 32 := Nat.xor_lt_two_pow (by omega) (by omega)
  have := bitsN_inj (by omega) (by omega) 8 h
  rw [Nat.xor_comm a x, Nat.xor_comm a y] at this
  exact xor_cancel this
theorem fold_inj : ∀ (l : List Nat) {a b : Nat}, a < 4294967296 → b < 4294967296 → (∀ x, x ∈ l → x < 256) → l.foldl byteN a = l.foldl byteN b → a = b
  | [], _, _, _, _, _, h => h
  | x :: l, a, b, ha, hb, hl, h => by
    have hx := hl x (by simp)
    exact byteN_inj ha hb (by omega) (fold_inj l (byteN_lt ha (by omega)) (byteN_lt hb (by omega)) (fun y hy => hl y (by simp [hy])) h)

theorem reg_turned {pre post : List Nat} {x y : Nat} (h1 : ∀ b, b ∈ pre → b < 256) (h2 : ∀ b, b ∈ post → b < 256) (hx : x < 256) (hy : y < 256) (hne : x ≠ y) : regN (pre ++ x :: post) ≠ regN (pre ++ y :: post) := by
  unfold regN
  rw [List.foldl_append, List.foldl_append, List.foldl_cons, List.foldl_cons]
  have hp := fold_lt pre (r := 4294967295) (by decide) h1
  intro h
  exact hne (byteN_inj2 hp (by omega) (by omega) (fold_inj post (byteN_lt hp (by omega)) (byteN_lt hp (by omega)) h2 h))

/-! The same, of ints. -/

theorem bitStep_nat {r : Nat} (h : r < 4294967296) : bitStep (r : Int) = ((bitN r : Nat) : Int) := by
  unfold bitStep bitN
  have e1 : bits BinOp.and IntKind.u32 (r : Int) 1 = ((r &&& 1 : Nat) : Int) := and32 r 1 h (by decide)
  rw [e1, Nat.and_one_is_mod]
  by_cases h1 : r % 2 = 1
  · rw [if_pos (by omega), if_pos h1]
    have e2 : (r : Int) / 2 = ((r / 2 : Nat) : Int) := by omega
    rw [e2]
    exact xor32 (r / 2) 3988292384 (by omega) (by decide)
  · rw [if_neg (by omega), if_neg h1]
    omega
theorem bitSteps_nat {r : Nat} (h : r < 4294967296) : ∀ n, bitSteps n (r : Int) = ((bitsN n r : Nat) : Int)
  | 0 => rfl
  | n + 1 => by
    rw [bitSteps, bitSteps_nat h n, bitStep_nat (bitsN_lt h n)]
    rfl
theorem byteStep_nat {r b : Nat} (h : r < 4294967296) (hb : b < 256) : byteStep (r : Int) (b : Int) = ((byteN r b : Nat) : Int) := by
  unfold byteStep byteN
  have e1 : (b : Int) % 4294967296 = (b : Int) := by omega
  have hx : r ^^^ b < 2 ^ 32 := Nat.xor_lt_two_pow (by omega) (by omega)
  rw [e1, xor32 r b h (by omega), bitSteps_nat (by omega)]
theorem fold_nat : ∀ (l : List Nat) {r : Nat}, r < 4294967296 → (∀ b, b ∈ l → b < 256) → (l.map fun n : Nat => (n : Int)).foldl byteStep (r : Int) = ((l.foldl byteN r : Nat) : Int)
  | [], _, _, _ => rfl
  | b :: l, r, h, hl => by
    have hb := hl b (by simp)
    rw [List.map_cons, List.foldl_cons, List.foldl_cons, byteStep_nat h hb]
    exact fold_nat l (byteN_lt h (by omega)) fun x hx => hl x (by simp [hx])
theorem regOf_nat {l : List Nat} (hl : ∀ b, b ∈ l → b < 256) : regOf (l.map fun n : Nat => (n : Int)) = ((regN l : Nat) : Int) := fold_nat l (by decide) hl

def sumN (l : List Nat) : Nat := regN l ^^^ 4294967295
theorem sumN_lt {l : List Nat} (hl : ∀ b, b ∈ l → b < 256) : sumN l < 4294967296 := by
  have h := fold_lt l (r := 4294967295) (by decide) hl
  have : regN l ^^^ 4294967295 < 2 ^ 32 := Nat.xor_lt_two_pow (by unfold regN; omega) (by decide)
  unfold sumN
  omega
theorem sumB_nat {l : List Nat} (hl : ∀ b, b ∈ l → b < 256) : sumB (l.map fun n : Nat => (n : Int)) = [((sumN l % 256 : Nat) : Int), ((sumN l / 256 % 256 : Nat) : Int), ((sumN l / 65536 % 256 : Nat) : Int), ((sumN l / 16777216 % 256 : Nat) : Int)] := by
  have h := fold_lt l (r := 4294967295) (by decide) hl
  unfold sumB
  rw [regOf_nat hl]
  have e : bits BinOp.xor IntKind.u32 IntKind.u32.max ((regN l : Nat) : Int) = ((sumN l : Nat) : Int) := by
    have : bits BinOp.xor IntKind.u32 ((4294967295 : Nat) : Int) ((regN l : Nat) : Int) = ((4294967295 ^^^ regN l : Nat) : Int) := xor32 _ _ (by decide) h
    rw [Nat.xor_comm] at this
    exact this
  rw [e]
  simp

def Byts (l : List Int) : Prop := ∀ x, x ∈ l → 0 ≤ x ∧ x < 256
theorem byts_nat {l : List Int} (h : Byts l) : ∃ k : List Nat, l = k.map (fun n : Nat => (n : Int)) ∧ ∀ b, b ∈ k → b < 256 := by
  refine ⟨l.map Int.toNat, ?_, fun b hb => ?_⟩
  · rw [List.map_map]
    conv => lhs; rw [← List.map_id l]
    refine List.map_congr_left fun x hx => ?_
    have := (h x hx).1
    show x = ((x.toNat : Nat) : Int)
    omega
  · obtain ⟨x, hx, rfl⟩ := List.mem_map.1 hb
    have := h x hx
    omega

theorem sumB_inj {k l : List Nat} (hk : ∀ b, b ∈ k → b < 256) (hl : ∀ b, b ∈ l → b < 256) (h : sumB (k.map fun n : Nat => (n : Int)) = sumB (l.map fun n : Nat => (n : Int))) : regN k = regN l := by
  rw [sumB_nat hk, sumB_nat hl] at h
  simp only [List.cons.injEq, and_true] at h
  obtain ⟨h1, h2, h3, h4⟩ := h
  have b1 := sumN_lt hk
  have b2 := sumN_lt hl
  have e : sumN k = sumN l := by omega
  exact xor_cancel e

/-- A byte that is turned changes the sum. -/
theorem sum_turned {pre post : List Int} {x y : Int} (h1 : Byts (pre ++ x :: post)) (hy : 0 ≤ y ∧ y < 256) (hne : x ≠ y) : sumB (pre ++ x :: post) ≠ sumB (pre ++ y :: post) := by
  have hpre : Byts pre := fun z hz => h1 z (by simp [hz])
  have hpost : Byts post := fun z hz => h1 z (by simp [hz])
  have hx := h1 x (by simp)
  obtain ⟨p, rfl, hp⟩ := byts_nat hpre
  obtain ⟨q, rfl, hq⟩ := byts_nat hpost
  obtain ⟨x, rfl⟩ := Int.eq_ofNat_of_zero_le hx.1
  obtain ⟨y, rfl⟩ := Int.eq_ofNat_of_zero_le hy.1
  intro h
  have e : ∀ z : Nat, p.map (fun n : Nat => (n : Int)) ++ (z : Int) :: q.map (fun n : Nat => (n : Int)) = (p ++ z :: q).map fun n : Nat => (n : Int) := fun z => by simp
  rw [e, e] at h
  have hb : ∀ z : Nat, z < 256 → ∀ b, b ∈ p ++ z :: q → b < 256 := fun z hz b hb => by
    rcases List.mem_append.1 hb with hb | hb
    · exact hp b hb
    · rcases List.mem_cons.1 hb with hb | hb
      · omega
      · exact hq b hb
  exact reg_turned hp hq (by omega) (by omega) (by omega) (sumB_inj (hb x (by omega)) (hb y (by omega)) h)

end Go.Proofs.YtbkmgoffiigdbabGreatDoor

namespace Go.Proofs.YtbkmgoffiigdbabGreatDoor
open Go.RowKit Go.Sort

/-! PLAIN: what is read without a fault was written so. -/

/-- If there is no fault behind a reading, there was none ahead of it, and the bytes are these. -/
def Dec {α : Type} (bs : List Int) (rd : Rs → α × Rs) (e : α → List Int) (G : α → Prop) : Prop :=
  ∀ s, s.p ≤ bs.length → (rd s).2.f = false → s.f = false ∧ (rd s).2.p ≤ bs.length ∧ bs.drop s.p = e (rd s).1 ++ bs.drop (rd s).2.p ∧ G (rd s).1

theorem must_no {s : Rs} {b : Bool} (h : (rMust s b).f = false) : b = true ∧ s.f = false := by
  have hb := rMust_ok h
  subst hb
  exact ⟨rfl, h⟩

theorem Dec.len {α : Type} {bs : List Int} {rd : Rs → α × Rs} {e : α → List Int} {G : α → Prop} (h : Dec bs rd e G) {s : Rs} (hp : s.p ≤ bs.length) (hf : (rd s).2.f = false) : (rd s).2.p = s.p + (e (rd s).1).length := by
  obtain ⟨_, h1, h2, _⟩ := h s hp hf
  have := congrArg List.length h2
  rw [List.length_drop, List.length_append, List.length_drop] at this
  omega

theorem next_dec (bs : List Int) (hr : Byts bs) : Dec bs (rNext bs) (fun x => [x]) (fun x => 0 ≤ x ∧ x < 256) := fun s hp hf => by
  unfold rNext at hf ⊢
  by_cases h : s.f = true ∨ bs.length ≤ s.p
  · rw [if_pos h] at hf
    cases hf
  · rw [if_neg h]
    have h1 : s.f = false := by
      cases e : s.f
      · rfl
      · exact absurd (Or.inl e) h
    have h2 : s.p < bs.length := by omega
    refine ⟨h1, by show s.p + 1 ≤ _; omega, ?_, ?_⟩
    · show bs.drop s.p = [bs.getD s.p 0] ++ bs.drop (s.p + 1)
      rw [List.drop_eq_getElem_cons h2, List.getD_eq_getElem?_getD, List.getElem?_eq_getElem h2]
      rfl
    · show 0 ≤ bs.getD s.p 0 ∧ bs.getD s.p 0 < 256
      rw [List.getD_eq_getElem?_getD, List.getElem?_eq_getElem h2]
      exact hr _ (List.getElem_mem h2)

theorem mul_room {q k : Nat} (hk : k < 64) (h : q * 2 ^ k < 18446744073709551616) : q * 2 ^ k + 2 ^ k ≤ 18446744073709551616 := by
  have e : (18446744073709551616 : Nat) = 2 ^ (64 - k) * 2 ^ k := by rw [← Nat.pow_add, Nat.sub_add_cancel (by omega)]
  have h1 : q < 2 ^ (64 - k) := by
    rw [e] at h
    exact Nat.lt_of_mul_lt_mul_right h
  have h2 : (q + 1) * 2 ^ k ≤ 2 ^ (64 - k) * 2 ^ k := Nat.mul_le_mul_right _ h1
  rw [Nat.add_mul, Nat.one_mul] at h2
  omega

theorem shl_back {x k : Nat} (h : (shrU (shlU (x : Int) k) k == (x : Int)) = true) (hx : x < 128) : (k < 64 ∧ x * 2 ^ k < 18446744073709551616) ∨ (64 ≤ k ∧ x = 0) := by
  have h := beq_iff_eq.1 h
  rcases Nat.lt_or_ge k 64 with hk | hk
  · refine Or.inl ⟨hk, ?_⟩
    unfold shrU shlU at h
    rw [Nat.min_eq_left (by omega)] at h
    have e : (x : Int) * 2 ^ k = ((x * 2 ^ k : Nat) : Int) := by rw [Int.natCast_mul, Int.natCast_pow]; rfl
    have e2 : ((2 : Int) ^ k) = ((2 ^ k : Nat) : Int) := by rw [Int.natCast_pow]; rfl
    rw [e, e2] at h
    have e3 : (((x * 2 ^ k : Nat) : Int) % 18446744073709551616) = ((x * 2 ^ k % 18446744073709551616 : Nat) : Int) := by omega
    rw [e3, ← Int.natCast_ediv] at h
    have h' : x * 2 ^ k % 18446744073709551616 / 2 ^ k = x := by exact_mod_cast h
    refine Decidable.byContradiction fun hn => ?_
    have h1 : x * 2 ^ k % 18446744073709551616 < x * 2 ^ k := by
      have := Nat.mod_lt (x * 2 ^ k) (show 0 < 18446744073709551616 by decide)
      omega
    have h2 : x * 2 ^ k ≤ x * 2 ^ k % 18446744073709551616 := by
      conv => lhs; rw [← h']
      exact Nat.div_mul_le_self _ _
    omega
  · refine Or.inr ⟨hk, ?_⟩
    unfold shrU shlU at h
    rw [Nat.min_eq_right hk] at h
    have e : (2 : Int) ^ 64 = 18446744073709551616 := by decide
    rw [e] at h
    omega

theorem short_dec {bs : List Int} (hr : Byts bs) : ∀ (F : Nat) (s : Rs) (n k : Nat), s.p ≤ bs.length → bs.length < s.p + F → n < 2 ^ k → n < 18446744073709551616 → (rShort bs F s (n : Int) k).2.f = false →
    s.f = false ∧ (rShort bs F s (n : Int) k).2.p ≤ bs.length ∧ ∃ q : Nat, (rShort bs F s (n : Int) k).1 = ((n + q * 2 ^ k : Nat) : Int) ∧ n + q * 2 ^ k < 18446744073709551616 ∧ bs.drop s.p = numB q ++ bs.drop (rShort bs F s (n : Int) k).2.p ∧ (0 < k → q ≠ 0)
  | 0, s, _, _, hp, hF, _, _, _ => by omega
  | F + 1, s, n, k, hp, hF, hn, h64, hf => by
    rw [rShort] at hf ⊢
    have hnx := next_dec bs hr s hp
    generalize rNext bs s = r at hnx hf ⊢
    obtain ⟨b, s1⟩ := r
    simp only at hnx hf ⊢
    by_cases hlt : b < 128
    · rw [if_pos hlt] at hf ⊢
      obtain ⟨m2, hf1⟩ := must_no hf
      obtain ⟨m1, hf0⟩ := must_no hf1
      obtain ⟨h1, h2, h3, h4⟩ := hnx hf0
      obtain ⟨q, rfl⟩ := Int.eq_ofNat_of_zero_le h4.1
      have hq : q < 128 := by omega
      have hpart : bits .andNot .u8 (q : Int) 128 = (q : Int) := by rw [andNot128 (by omega) (by omega)]; omega
      rw [hpart] at m1 ⊢
      have hk : k < 64 ∧ q * 2 ^ k < 18446744073709551616 := by
        rcases shl_back m1 hq with h | ⟨h, h0⟩
        · exact h
        · exfalso
          subst h0
          have : (k == 0) = true := by simpa using m2
          have := beq_iff_eq.1 this
          omega
      have hroom := mul_room hk.1 hk.2
      have es : rMust (rMust s1 (shrU (shlU (q : Int) k) k == (q : Int))) ((q : Int) != 0 || k == 0) = s1 := by rw [m1, m2]; rfl
      rw [es]
      refine ⟨h1, h2, q, ?_, by omega, ?_, fun h0 => ?_⟩
      · show bits .or .u64 (n : Int) (shlU (q : Int) k) = _
        rw [shl_ok hk.1 hk.2, or_join hn (by omega)]
      · rw [h3]
        show [(q : Int)] ++ bs.drop s1.p = _
        rw [numB, if_pos hq]
      · rintro rfl
        have : (k == 0) = true := by simpa using m2
        have := beq_iff_eq.1 this
        omega
    · rw [if_neg hlt] at hf ⊢
      generalize hs2 : rMust s1 (shrU (shlU (bits .andNot .u8 b 128) k) k == bits .andNot .u8 b 128) = s2 at hf ⊢
      have hfw : ∀ n' : Int, (rShort bs F s2 n' (k + 7)).2.f = false → s2.f = false := fun n' h => by
        have h0 := (fwd_short bs F s2 n' (k + 7)).f
        cases e : s2.f
        · rfl
        · rw [h0 e] at h
          cases h
      have hf2 := hfw _ hf
      rw [← hs2] at hf2
      obtain ⟨m1, hf0⟩ := must_no hf2
      obtain ⟨h1, h2, h3, h4⟩ := hnx hf0
      obtain ⟨b, rfl⟩ := Int.eq_ofNat_of_zero_le h4.1
      have hpart : bits .andNot .u8 (b : Int) 128 = ((b - 128 : Nat) : Int) := by rw [andNot128 (by omega) (by omega)]; omega
      rw [hpart] at m1 hs2 hf ⊢
      rw [m1] at hs2
      have hs2 : s1 = s2 := hs2
      subst hs2
      have hb : b - 128 < 128 := by omega
      have hor : bits .or .u64 (n : Int) (shlU ((b - 128 : Nat) : Int) k) = ((n + (b - 128) * 2 ^ k : Nat) : Int) ∧ n + (b - 128) * 2 ^ k < 2 ^ (k + 7) ∧ n + (b - 128) * 2 ^ k < 18446744073709551616 := by
        have hp7 : (2 : Nat) ^ (k + 7) = 128 * 2 ^ k := by rw [Nat.pow_add, Nat.mul_comm]
        rcases shl_back m1 hb with ⟨hk, hm⟩ | ⟨hk, h0⟩
        · have hroom := mul_room hk hm
          have h127 : (b - 128) * 2 ^ k ≤ 127 * 2 ^ k := Nat.mul_le_mul_right _ (by omega)
          refine ⟨by rw [shl_ok hk hm, or_join hn (by omega)], ?_, by omega⟩
          have : 128 * 2 ^ k = 127 * 2 ^ k + 2 ^ k := by rw [show 128 = 127 + 1 from rfl, Nat.add_mul, Nat.one_mul]
          omega
        · rw [h0]
          have e0 : shlU ((0 : Nat) : Int) k = ((0 : Nat) : Int) := by unfold shlU; simp
          rw [e0, bits_or_u64_nat n 0 h64 (by decide)]
          refine ⟨by simp, ?_, by omega⟩
          have : 2 ^ k ≤ 2 ^ (k + 7) := Nat.pow_le_pow_right (by decide) (by omega)
          omega
      rw [hor.1] at hf ⊢
      have hs1p : s1.p = s.p + 1 := by
        have := congrArg List.length h3
        rw [List.length_drop, List.length_append, List.length_drop] at this
        simp at this
        omega
      obtain ⟨_, i2, q', i3, i4, i5, i6⟩ := short_dec hr F s1 _ (k + 7) h2 (by omega) hor.2.1 hor.2.2 hf
      have hq' := i6 (by omega)
      have hmul : (b - 128 + 128 * q') * 2 ^ k = (b - 128) * 2 ^ k + q' * 2 ^ (k + 7) := by
        rw [Nat.add_mul, Nat.pow_add, Nat.mul_assoc, Nat.mul_comm 128, Nat.mul_assoc]
      refine ⟨h1, i2, b - 128 + 128 * q', ?_, by omega, ?_, fun _ => by omega⟩
      · rw [i3]
        congr 1
        omega
      · rw [h3, i5]
        rw [show numB (b - 128 + 128 * q') = (((b - 128 + 128 * q') % 128 + 128 : Nat) : Int) :: numB ((b - 128 + 128 * q') / 128) by rw [numB, if_neg (by omega)]]
        have e1 : (b - 128 + 128 * q') % 128 + 128 = b := by omega
        have e2 : (b - 128 + 128 * q') / 128 = q' := by omega
        rw [e1, e2]
        rfl

theorem num_dec {bs : List Int} (hr : Byts bs) : Dec bs (rNum bs) (fun x => numB x.toNat) (fun x => 0 ≤ x ∧ x < 18446744073709551616) := fun s hp hf => by
  unfold rNum at hf ⊢
  have hf' : (rShort bs (bs.length + 1) s ((0 : Nat) : Int) 0).2.f = false := hf
  obtain ⟨h1, h2, q, h3, h4, h5, _⟩ := short_dec hr (bs.length + 1) s 0 0 hp (by omega) (by decide) (by decide) hf'
  have e : 0 + q * 2 ^ 0 = q := by simp
  rw [e] at h3 h4
  have h3' : (rShort bs (bs.length + 1) s 0 0).1 = (q : Int) := h3
  refine ⟨h1, h2, ?_, by rw [h3']; omega⟩
  rw [h3']
  show bs.drop s.p = numB ((q : Int)).toNat ++ _
  rw [Int.toNat_natCast]
  exact h5

theorem int_dec {bs : List Int} (hr : Byts bs) : Dec bs (rInt bs) intB I64 := fun s hp hf => by
  obtain ⟨h1, h2, h3, h4⟩ := num_dec hr s hp hf
  unfold rInt
  obtain ⟨m, hm⟩ := Int.eq_ofNat_of_zero_le h4.1
  have h3 : bs.drop s.p = numB ((rNum bs s).1).toNat ++ bs.drop (rNum bs s).2.p := h3
  rw [hm, Int.toNat_natCast] at h3
  rw [hm] at h4
  refine ⟨h1, h2, ?_, ?_⟩
  · show bs.drop s.p = intB (if (rNum bs s).1 % 2 = 1 then -1 - (rNum bs s).1 / 2 else (rNum bs s).1 / 2) ++ _
    rw [hm]
    have e : intB (if (m : Int) % 2 = 1 then -1 - (m : Int) / 2 else (m : Int) / 2) = numB m := by
      unfold intB
      congr 1
      unfold intN
      split <;> split <;> omega
    rw [e]
    exact h3
  · show I64 (if (rNum bs s).1 % 2 = 1 then -1 - (rNum bs s).1 / 2 else (rNum bs s).1 / 2)
    rw [hm]
    unfold I64
    split <;> omega

theorem upTo_dec {bs : List Int} (hr : Byts bs) (most : Int) : Dec bs (rUpTo bs most) (fun x => numB x.toNat) (fun x => 0 ≤ x ∧ x ≤ most ∧ x < 18446744073709551616) := fun s hp hf => by
  have hf' : (rMust (rNum bs s).2 (decide ((rNum bs s).1 ≤ most))).f = false := hf
  obtain ⟨m, hf0⟩ := must_no hf'
  obtain ⟨h1, h2, h3, h4⟩ := num_dec hr s hp hf0
  unfold rUpTo
  rw [m] at hf' ⊢
  have e : (rMust (rNum bs s).2 true) = (rNum bs s).2 := rfl
  simp only [e] at hf' ⊢
  rw [hf', if_neg (by decide)]
  exact ⟨h1, h2, h3, h4.1, of_decide_eq_true m, h4.2⟩
theorem count_dec {bs : List Int} (hr : Byts bs) : Dec bs (rCount bs) (fun x => numB x.toNat) (fun x => 0 ≤ x ∧ x ≤ 9223372036854775807) := fun s hp hf => by
  obtain ⟨h1, h2, h3, h4⟩ := upTo_dec hr 9223372036854775807 s hp hf
  exact ⟨h1, h2, h3, h4.1, h4.2.1⟩

theorem value_dec {bs : List Int} (hr : Byts bs) : Dec bs (rValue bs) valB VGood := fun s hp hf => by
  unfold rValue at hf ⊢
  have hnx := next_dec bs hr s hp
  generalize rNext bs s = r at hnx hf ⊢
  obtain ⟨b, s1⟩ := r
  simp only at hnx hf ⊢
  by_cases h0 : b = 0
  · rw [if_pos h0] at hf ⊢
    obtain ⟨h1, h2, h3, h4⟩ := hnx hf
    subst h0
    exact ⟨h1, h2, h3, ⟨⟨i64_small (show (-1000000 : Int) ≤ 0 by decide) (show (0 : Int) ≤ 1000000 by decide), fun _ => Int.le_refl _⟩, Or.inl rfl⟩⟩
  · rw [if_neg h0] at hf ⊢
    by_cases e1 : b = 1
    · rw [if_pos e1] at hf ⊢
      have hd := int_dec hr s1
      have hfs1 : s1.f = false := by
        have h0 := (fwd_int bs s1).f
        cases e : s1.f
        · rfl
        · rw [h0 e] at hf; cases hf
      obtain ⟨h1, h2, h3, h4⟩ := hnx hfs1
      obtain ⟨g1, g2, g3, g4⟩ := hd h2 hf
      subst e1
      refine ⟨h1, g2, ?_, ⟨⟨g4, fun e => absurd (show (1 : Int) = 2 from e) (by decide)⟩, Or.inr (Or.inl rfl)⟩⟩
      show bs.drop s.p = (1 :: intB (rInt bs s1).1) ++ bs.drop (rInt bs s1).2.p
      rw [h3, g3]
      rfl
    · rw [if_neg e1] at hf ⊢
      by_cases e2 : b = 2
      · rw [if_pos e2] at hf ⊢
        have hfs1 : s1.f = false := by
          have h0 := (fwd_count bs s1).f
          cases e : s1.f
          · rfl
          · rw [h0 e] at hf; cases hf
        obtain ⟨h1, h2, h3, h4⟩ := hnx hfs1
        obtain ⟨g1, g2, g3, g4⟩ := count_dec hr s1 h2 hf
        subst e2
        refine ⟨h1, g2, ?_, ⟨⟨⟨by show -9223372036854775808 ≤ (rCount bs s1).1; omega, by show (rCount bs s1).1 ≤ _; omega⟩, fun _ => g4.1⟩, Or.inr (Or.inr rfl)⟩⟩
        show bs.drop s.p = (2 :: numB (rCount bs s1).1.toNat) ++ bs.drop (rCount bs s1).2.p
        rw [h3, g3]
        rfl
      · rw [if_neg e2] at hf
        cases hf

/-- Lists of entries. -/
theorem list_dec {α : Type} {bs : List Int} {rd : Rs → α × Rs} {e : α → List Int} {G : α → Prop} (h : Dec bs rd e G) (hpos : ∀ x, 1 ≤ (e x).length) (n : Int) : ∀ (F : Nat) (acc : List α) (s : Rs), s.p ≤ bs.length → bs.length < s.p + F → (rList rd F n acc s).2.f = false →
    s.f = false ∧ (rList rd F n acc s).2.p ≤ bs.length ∧ ∃ l, (rList rd F n acc s).1 = acc ++ l ∧ bs.drop s.p = l.flatMap e ++ bs.drop (rList rd F n acc s).2.p ∧ (∀ x, x ∈ l → G x) ∧ n ≤ ((acc ++ l).length : Int) ∧ (l ≠ [] → ((acc ++ l).length : Int) = n)
  | 0, acc, s, hp, hF, hf => by omega
  | F + 1, acc, s, hp, hF, hf => by
    by_cases hg : (acc.length : Int) < n ∧ s.f = false
    · rw [rList_go hg] at hf ⊢
      have hfs : (rd s).2.f = false := by
        cases q : (rd s).2.f
        · rfl
        · cases F with
          | zero => rw [show rList rd 0 n (acc ++ [(rd s).1]) (rd s).2 = (acc ++ [(rd s).1], (rd s).2) from rfl] at hf; rw [q] at hf; cases hf
          | succ F =>
            rw [rList_end (fun hh => by rw [q] at hh; cases hh.2)] at hf
            rw [q] at hf
            cases hf
      obtain ⟨h1, h2, h3, h4⟩ := h s hp hfs
      have hl := h.len hp hfs
      have hp1 := hpos (rd s).1
      obtain ⟨i1, i2, l, i3, i4, i5, i6, i7⟩ := list_dec h hpos n F (acc ++ [(rd s).1]) (rd s).2 h2 (by omega) hf
      have ea : acc ++ [(rd s).1] ++ l = acc ++ (rd s).1 :: l := by simp
      rw [ea] at i3 i6 i7
      refine ⟨h1, i2, (rd s).1 :: l, i3, ?_, fun x hx => ?_, i6, fun _ => ?_⟩
      · rw [h3, i4, List.flatMap_cons, List.append_assoc]
      · rcases List.mem_cons.1 hx with rfl | hx
        · exact h4
        · exact i5 x hx
      · by_cases hl0 : l = []
        · subst hl0
          have := hg.1
          simp at i6 ⊢
          omega
        · exact i7 hl0
    · rw [rList_end hg] at hf ⊢
      have hf' : s.f = false := hf
      refine ⟨hf', hp, [], by simp, by simp, fun x hx => (by cases hx), ?_, fun h => absurd rfl h⟩
      rw [List.append_nil]
      show n ≤ (acc.length : Int)
      exact Decidable.byContradiction fun hh => hg ⟨by omega, hf'⟩

theorem listN_dec {α : Type} {bs : List Int} {rd : Rs → α × Rs} {e : α → List Int} {G : α → Prop} (h : Dec bs rd e G) (hpos : ∀ x, 1 ≤ (e x).length) {n : Int} (hn : 0 ≤ n) : Dec bs (rList rd (bs.length + 2) n []) (fun l => l.flatMap e) (fun l => (l.length : Int) = n ∧ ∀ x, x ∈ l → G x) := fun s hp hf => by
  obtain ⟨h1, h2, l, h3, h4, h5, h6, h7⟩ := list_dec h hpos n (bs.length + 2) [] s hp (by omega) hf
  rw [List.nil_append] at h3 h6 h7
  rw [h3]
  refine ⟨h1, h2, h4, ?_, h5⟩
  by_cases hl : l = []
  · subst hl
    simp at h6 ⊢
    omega
  · exact h7 hl

end Go.Proofs.YtbkmgoffiigdbabGreatDoor

namespace Go.Proofs.YtbkmgoffiigdbabGreatDoor
open Go.RowKit Go.Sort

/-! PLAIN: decoding: lists of values, the program, objects. -/

theorem noF {s t : Rs} (h : Fwd s t) (ht : t.f = false) : s.f = false := by
  cases e : s.f
  · rfl
  · rw [h.f e] at ht; cases ht

theorem vals_dec {bs : List Int} (hr : Byts bs) {n : Int} (hn : 0 ≤ n) : Dec bs (rVals bs n) valsB (fun l => (l.length : Int) = n ∧ ∀ x, x ∈ l → VGood x) := listN_dec (value_dec hr) valB_pos hn
theorem ints_dec {bs : List Int} (hr : Byts bs) {n : Int} (hn : 0 ≤ n) : Dec bs (rInts bs n) intsB (fun l => (l.length : Int) = n ∧ ∀ x, x ∈ l → I64 x) := listN_dec (int_dec hr) (fun _ => numB_pos _) hn

theorem out_dec {bs : List Int} (hr : Byts bs) : Dec bs (rOut bs) outB (fun l => l.length ≤ 40 ∧ ∀ x, x ∈ l → I64 x) := fun s hp hf => by
  have hf' : (rInts bs (rUpTo bs 40 s).1 (rUpTo bs 40 s).2).2.f = false := hf
  have hf0 := noF (fwd_list (fun s => (takes_int bs s).1) _ _ _ _ : Fwd _ (rInts bs (rUpTo bs 40 s).1 (rUpTo bs 40 s).2).2) hf'
  obtain ⟨h1, h2, h3, h4⟩ := upTo_dec hr 40 s hp hf0
  obtain ⟨g1, g2, g3, g4, g5⟩ := ints_dec hr h4.1 _ h2 hf'
  refine ⟨h1, g2, ?_, ?_, g5⟩
  · show bs.drop s.p = outB (rInts bs (rUpTo bs 40 s).1 (rUpTo bs 40 s).2).1 ++ _
    unfold outB
    have e : (rInts bs (rUpTo bs 40 s).1 (rUpTo bs 40 s).2).1.length = ((rUpTo bs 40 s).1).toNat := by omega
    rw [e, h3, g3, List.append_assoc]
    rfl
  · show (rInts bs (rUpTo bs 40 s).1 (rUpTo bs 40 s).2).1.length ≤ 40
    omega

theorem instr_dec {bs : List Int} (hr : Byts bs) : Dec bs (rInstr bs) instrB (fun x => 0 ≤ x.1 ∧ I64 x.2) := fun s hp hf => by
  have hf' : (rInt bs (rCount bs s).2).2.f = false := hf
  have hf0 := noF (fwd_int bs _) hf'
  obtain ⟨h1, h2, h3, h4⟩ := count_dec hr s hp hf0
  obtain ⟨g1, g2, g3, g4⟩ := int_dec hr _ h2 hf'
  refine ⟨h1, g2, ?_, h4.1, g4⟩
  show bs.drop s.p = (numB ((rCount bs s).1).toNat ++ intB (rInt bs (rCount bs s).2).1) ++ _
  rw [h3, g3, List.append_assoc]
  rfl

def funcB (x : FnL) : List Int := numB x.1.toNat ++ numB x.2.1.toNat ++ numB x.2.2.length ++ x.2.2.flatMap instrB
theorem instrB_pos (x : Int × Int) : 1 ≤ (instrB x).length := by
  unfold instrB
  rw [List.length_append]
  have := numB_pos x.1.toNat
  omega
theorem funcB_pos (x : FnL) : 1 ≤ (funcB x).length := by
  unfold funcB
  simp only [List.length_append]
  have := numB_pos x.1.toNat
  omega

theorem func_dec {bs : List Int} (hr : Byts bs) : Dec bs (rFunc bs) funcB (fun x => ∀ y, y ∈ x.2.2 → I64 y.2) := fun s hp hf => by
  have hf' : (rInstrs bs (rCount bs (rCount bs (rCount bs s).2).2).1 (rCount bs (rCount bs (rCount bs s).2).2).2).2.f = false := hf
  have f3 := noF (fwd_instrs bs _ _) hf'
  have f2 := noF (fwd_count bs _) f3
  have f1 := noF (fwd_count bs _) f2
  obtain ⟨h1, h2, h3, h4⟩ := count_dec hr s hp f1
  obtain ⟨g1, g2, g3, g4⟩ := count_dec hr _ h2 f2
  obtain ⟨k1, k2, k3, k4⟩ := count_dec hr _ g2 f3
  obtain ⟨l1, l2, l3, l4, l5⟩ := listN_dec (instr_dec hr) instrB_pos k4.1 _ k2 hf'
  refine ⟨h1, l2, ?_, fun y hy => (l5 y hy).2⟩
  show bs.drop s.p = (numB ((rCount bs s).1).toNat ++ numB ((rCount bs (rCount bs s).2).1).toNat ++ numB (rList (rInstr bs) (bs.length + 2) (rCount bs (rCount bs (rCount bs s).2).2).1 [] (rCount bs (rCount bs (rCount bs s).2).2).2).1.length ++ (rList (rInstr bs) (bs.length + 2) (rCount bs (rCount bs (rCount bs s).2).2).1 [] (rCount bs (rCount bs (rCount bs s).2).2).2).1.flatMap instrB) ++ _
  have e : (rList (rInstr bs) (bs.length + 2) (rCount bs (rCount bs (rCount bs s).2).2).1 [] (rCount bs (rCount bs (rCount bs s).2).2).2).1.length = ((rCount bs (rCount bs (rCount bs s).2).2).1).toNat := by omega
  rw [e, h3, g3, k3, l3]
  simp only [List.append_assoc]
  rfl

theorem prog_dec {bs : List Int} (hr : Byts bs) : Dec bs (rProg bs) (fun L => numB L.length ++ L.flatMap funcB) (fun L => ∀ x, x ∈ L → ∀ y, y ∈ x.2.2 → I64 y.2) := fun s hp hf => by
  have hf' : (rFuncs bs (rCount bs s).1 (rCount bs s).2).2.f = false := hf
  have f1 := noF (fwd_list (fun s => (takes_func bs s).1) _ _ _ _ : Fwd _ (rFuncs bs (rCount bs s).1 (rCount bs s).2).2) hf'
  obtain ⟨h1, h2, h3, h4⟩ := count_dec hr s hp f1
  obtain ⟨l1, l2, l3, l4, l5⟩ := listN_dec (func_dec hr) funcB_pos h4.1 _ h2 hf'
  refine ⟨h1, l2, ?_, l5⟩
  show bs.drop s.p = (numB (rList (rFunc bs) (bs.length + 2) (rCount bs s).1 [] (rCount bs s).2).1.length ++ (rList (rFunc bs) (bs.length + 2) (rCount bs s).1 [] (rCount bs s).2).1.flatMap funcB) ++ _
  have e : (rList (rFunc bs) (bs.length + 2) (rCount bs s).1 [] (rCount bs s).2).1.length = ((rCount bs s).1).toNat := by omega
  rw [e, h3, l3, List.append_assoc]
  rfl

theorem map_range_get {α : Type} (l : List α) (f : Nat → α) (h : ∀ i x, l[i]? = some x → f i = x) : (List.range l.length).map f = l := by
  refine List.ext_getElem? fun i => ?_
  rw [List.getElem?_map]
  by_cases hi : i < l.length
  · rw [List.getElem?_range hi, List.getElem?_eq_getElem hi]
    show some (f i) = _
    rw [h i _ (List.getElem?_eq_getElem hi)]
  · rw [List.getElem?_eq_none_iff.2 (by rw [List.length_range]; omega), List.getElem?_eq_none_iff.2 (by omega)]
    rfl

theorem PgIs.progB {g : PgR} {L : List FnL} (h : PgIs g L) : progB g = numB L.length ++ L.flatMap funcB := by
  unfold YtbkmgoffiigdbabGreatDoor.progB fnsB
  rw [h.n]
  congr 1
  have e : ((List.range L.length).map fun i => fnB (g.f i)) = L.map funcB := by
    rw [← map_range_get (L.map funcB) (fun i => fnB (g.f i)) (fun i x hx => ?_), List.length_map]
    rw [List.getElem?_map] at hx
    obtain ⟨y, hy, rfl⟩ := Option.map_eq_some_iff.1 hx
    obtain ⟨q1, q2, q3, q4⟩ := h.f i y hy
    unfold fnB codeB funcB
    rw [q1, q2, q3]
    congr 1
    have e2 : ((List.range y.2.2.length).map (inB (g.f i))) = y.2.2.map instrB := by
      rw [← map_range_get (y.2.2.map instrB) (inB (g.f i)) (fun j z hz => ?_), List.length_map]
      rw [List.getElem?_map] at hz
      obtain ⟨u, hu, rfl⟩ := Option.map_eq_some_iff.1 hz
      obtain ⟨r1, r2⟩ := q4 j u hu
      unfold inB instrB
      rw [r1, r2]
    rw [List.flatMap_def, List.flatMap_def, e2]
  rw [List.flatMap_def, List.flatMap_def, e]

theorem PgIs.arI {g : PgR} {L : List FnL} (h : PgIs g L) (hL : ∀ x, x ∈ L → ∀ y, y ∈ x.2.2 → I64 y.2) : ArI g := fun i hi j hj => by
  rw [h.n] at hi
  obtain ⟨_, _, q3, q4⟩ := h.f i _ (List.getElem?_eq_getElem hi)
  rw [q3] at hj
  rw [(q4 j _ (List.getElem?_eq_getElem hj)).2]
  exact hL _ (List.getElem_mem hi) _ (List.getElem_mem hj)

theorem obj_dec {bs : List Int} (hr : Byts bs) : Dec bs (rObj bs) obB ObGood := fun s hp hf => by
  unfold rObj at hf ⊢
  obtain ⟨m, f2⟩ := must_no hf
  have f1 := noF (fwd_vals bs _ _) f2
  have f0 := noF (fwd_size bs _ _) f1
  obtain ⟨h1, h2, h3, h4⟩ := upTo_dec hr 3 s hp f0
  have em : ∀ t : Rs, rMust t true = t := fun _ => rfl
  rw [m, em]
  simp only
  generalize hk : (rUpTo bs 3 s).1 = k at *
  generalize (rUpTo bs 3 s).2 = s1 at *
  have hk4 : k = 0 ∨ k = 1 ∨ k = 2 ∨ k = 3 := by omega
  have hs1 : bs.drop s.p = numB k.toNat ++ bs.drop s1.p := h3
  rcases hk4 with rfl | rfl | rfl | rfl
  · have : (rSize bs 0 s1).2.f = true := rfl
    rw [this] at f1
    cases f1
  · have es : rSize bs 1 s1 = rUpTo bs 8 s1 := rfl
    rw [es] at f1 f2 ⊢
    obtain ⟨g1, g2, g3, g4⟩ := upTo_dec hr 8 s1 h2 f1
    obtain ⟨l1, l2, l3, l4, l5⟩ := vals_dec hr g4.1 _ g2 f2
    refine ⟨h1, l2, ?_, l5, Or.inl ⟨rfl, by show (rVals bs (rUpTo bs 8 s1).1 (rUpTo bs 8 s1).2).1.length ≤ 8; omega⟩⟩
    have e : (rVals bs (rUpTo bs 8 s1).1 (rUpTo bs 8 s1).2).1.length = ((rUpTo bs 8 s1).1).toNat := by omega
    have g3 : bs.drop s1.p = numB ((rUpTo bs 8 s1).1).toNat ++ bs.drop (rUpTo bs 8 s1).2.p := g3
    unfold obB
    simp only
    rw [if_neg (by decide), e, hs1, g3, l3]
    simp only [List.append_assoc]
  · have es : rSize bs 2 s1 = rUpTo bs 12 s1 := rfl
    rw [es] at f1 f2 ⊢
    obtain ⟨g1, g2, g3, g4⟩ := upTo_dec hr 12 s1 h2 f1
    obtain ⟨l1, l2, l3, l4, l5⟩ := vals_dec hr g4.1 _ g2 f2
    refine ⟨h1, l2, ?_, l5, Or.inr (Or.inl ⟨rfl, by show (rVals bs (rUpTo bs 12 s1).1 (rUpTo bs 12 s1).2).1.length ≤ 12; omega⟩)⟩
    have e : (rVals bs (rUpTo bs 12 s1).1 (rUpTo bs 12 s1).2).1.length = ((rUpTo bs 12 s1).1).toNat := by omega
    have g3 : bs.drop s1.p = numB ((rUpTo bs 12 s1).1).toNat ++ bs.drop (rUpTo bs 12 s1).2.p := g3
    unfold obB
    simp only
    rw [if_neg (by decide), e, hs1, g3, l3]
    simp only [List.append_assoc]
  · have es : rSize bs 3 s1 = (1, s1) := rfl
    rw [es] at f1 f2 m ⊢
    obtain ⟨l1, l2, l3, l4, l5⟩ := vals_dec hr (show (0 : Int) ≤ 1 by decide) _ h2 f2
    refine ⟨h1, l2, ?_, l5, Or.inr (Or.inr ⟨rfl, by show (rVals bs 1 s1).1.length = 1; omega, fun v hv => ?_⟩)⟩
    · unfold obB
      simp only
      rw [if_pos trivial, hs1, l3]
      simp
    · have ha : (rVals bs 1 s1).1.any isI = false := by
        simpa using m
      have := List.any_eq_false.1 ha v hv
      unfold isI at this
      simpa using this

theorem heap_dec {bs : List Int} (hr : Byts bs) : Dec bs (rHeap bs) objectsB (fun l => l.length ≤ 40 ∧ ∀ x, x ∈ l → ObGood x) := fun s hp hf => by
  have hf' : (rObjs bs (rUpTo bs 40 s).1 (rUpTo bs 40 s).2).2.f = false := hf
  have hf0 := noF (fwd_list (fun s => (takes_obj bs s).1) _ _ _ _ : Fwd _ (rObjs bs (rUpTo bs 40 s).1 (rUpTo bs 40 s).2).2) hf'
  obtain ⟨h1, h2, h3, h4⟩ := upTo_dec hr 40 s hp hf0
  obtain ⟨g1, g2, g3, g4, g5⟩ := listN_dec (obj_dec hr) obB_pos h4.1 _ h2 hf'
  refine ⟨h1, g2, ?_, ?_, g5⟩
  · show bs.drop s.p = (numB (rList (rObj bs) (bs.length + 2) (rUpTo bs 40 s).1 [] (rUpTo bs 40 s).2).1.length ++ (rList (rObj bs) (bs.length + 2) (rUpTo bs 40 s).1 [] (rUpTo bs 40 s).2).1.flatMap obB) ++ _
    have e : (rList (rObj bs) (bs.length + 2) (rUpTo bs 40 s).1 [] (rUpTo bs 40 s).2).1.length = ((rUpTo bs 40 s).1).toNat := by omega
    rw [e, h3, g3, List.append_assoc]
    rfl
  · show (rList (rObj bs) (bs.length + 2) (rUpTo bs 40 s).1 [] (rUpTo bs 40 s).2).1.length ≤ 40
    omega

end Go.Proofs.YtbkmgoffiigdbabGreatDoor

namespace Go.Proofs.YtbkmgoffiigdbabGreatDoor
open Go.RowKit Go.Sort

/-! PLAIN: decoding: frames, the machine; a machine that was read is sound. -/

theorem sized_l {g : PgR} (hp : PgOk g) {fn : Nat} (hfn : fn < g.n) : 0 ≤ (g.f fn).p ∧ 0 ≤ (g.f fn).l ∧ (g.f fn).n ≤ 60 ∧ (g.f fn).l ≤ 8 ∧ g.n ≤ 8 := by
  have h := hp.sized.bd hfn
  have h2 := hp.sized.2.1
  refine ⟨by omega, by omega, by omega, by omega, h2⟩

theorem frame_dec {bs : List Int} (hr : Byts bs) {g : PgR} (hp : PgOk g) {fn : Nat} (hfn : fn < g.n) (calls : Bool) {s : Rs} (hps : s.p ≤ bs.length) (hf : (rFrame bs g fn calls s).2.f = false) :
    s.f = false ∧ (rFrame bs g fn calls s).2.p ≤ bs.length ∧ bs.drop s.p = frB ⟨fn, (rFrame bs g fn calls s).1.1.toNat, (rFrame bs g fn calls s).1.2.1, (rFrame bs g fn calls s).1.2.2⟩ ++ bs.drop (rFrame bs g fn calls s).2.p ∧
      FrGood ⟨fn, (rFrame bs g fn calls s).1.1.toNat, (rFrame bs g fn calls s).1.2.1, (rFrame bs g fn calls s).1.2.2⟩ ∧ (calls = true → (g.f fn).op (rFrame bs g fn calls s).1.1.toNat = 14) ∧
      FrOk g ⟨fn, (rFrame bs g fn calls s).1.1.toNat, (rFrame bs g fn calls s).1.2.1, (rFrame bs g fn calls s).1.2.2⟩ (if calls then (g.f ((g.f fn).ar (rFrame bs g fn calls s).1.1.toNat).toNat).p else 0) := by
  obtain ⟨b1, b2, b3, b4, b5⟩ := sized_l hp hfn
  have htop : (rFrTop bs g fn s).2.f = false → s.f = false ∧ (rFrTop bs g fn s).2.p ≤ bs.length ∧ bs.drop s.p = numB fn ++ numB (rFrTop bs g fn s).1.toNat ++ bs.drop (rFrTop bs g fn s).2.p ∧ (0 ≤ (rFrTop bs g fn s).1 ∧ (rFrTop bs g fn s).1.toNat < 1000) ∧ ∃ b, (flowOf g (g.f fn)).Reach (rFrTop bs g fn s).1.toNat b ∧ heightA (flowOf g (g.f fn)) (rFrTop bs g fn s).1.toNat = b := fun hf => by
    unfold rFrTop at hf ⊢
    simp only at hf ⊢
    obtain ⟨m2, f2⟩ := must_no hf
    have em : ∀ t : Rs, rMust t true = t := fun _ => rfl
    have f1 := noF (fwd_upTo bs _ _) f2
    obtain ⟨m1, f0⟩ := must_no f1
    rw [m1, em] at f2 m2 ⊢
    rw [m2, em]
    obtain ⟨h1, h2, h3, h4⟩ := count_dec hr s hps f0
    obtain ⟨g1, g2, g3, g4⟩ := upTo_dec hr _ _ h2 f2
    have e1 : (rCount bs s).1 = (fn : Int) := beq_iff_eq.1 m1
    have h3 : bs.drop s.p = numB ((rCount bs s).1).toNat ++ _ := h3
    rw [e1, Int.toNat_natCast] at h3
    have g3 : bs.drop (rCount bs s).2.p = numB ((rUpTo bs (((g.f fn).n - 1 : Nat) : Int) (rCount bs s).2).1).toNat ++ _ := g3
    refine ⟨h1, g2, by rw [h3, g3, List.append_assoc], ⟨g4.1, by omega⟩, ?_⟩
    by_cases hh : ∃ b, (flowOf g (g.f fn)).Reach (rUpTo bs (((g.f fn).n - 1 : Nat) : Int) (rCount bs s).2).1.toNat b
    · obtain ⟨b, hb⟩ := hh
      exact ⟨b, hb, heightA_reach (hp.fits fn hfn) hb⟩
    · rw [heightA_none hh] at m2
      exact absurd m2 (by decide)
  cases calls with
  | false =>
    have hf' : (rFrVals bs (g.f fn).l (heightA (flowOf g (g.f fn)) (rFrTop bs g fn s).1.toNat) (rFrTop bs g fn s).1 (rFrTop bs g fn s).2).2.f = false := hf
    have f2 : (rVals bs (heightA (flowOf g (g.f fn)) (rFrTop bs g fn s).1.toNat) (rVals bs (g.f fn).l (rFrTop bs g fn s).2).2).2.f = false := hf'
    have f1 := noF (fwd_vals bs _ _) f2
    have f0 := noF (fwd_vals bs _ _) f1
    obtain ⟨h1, h2, h3, h4, b, hb, hh⟩ := htop f0
    have hfit := (hp.fits fn hfn).1 _ _ hb
    have hb0 : 0 ≤ b := Flow.reach_bd (fun a => by show 0 ≤ pushD _; unfold pushD; split <;> first | decide | (split <;> decide)) (hp.fits fn hfn) hb
    obtain ⟨k1, k2, k3, k4, k5⟩ := vals_dec hr b2 _ h2 f1
    rw [hh] at f2
    obtain ⟨l1, l2, l3, l4, l5⟩ := vals_dec hr hb0 _ k2 f2
    have key : rFrame bs g fn false s = (((rFrTop bs g fn s).1, (rVals bs (g.f fn).l (rFrTop bs g fn s).2).1, (rVals bs b (rVals bs (g.f fn).l (rFrTop bs g fn s).2).2).1), (rVals bs b (rVals bs (g.f fn).l (rFrTop bs g fn s).2).2).2) := by
      unfold rFrame
      rw [if_neg (by decide), hh]
      rfl
    rw [key]
    simp only
    refine ⟨h1, l2, ?_, ⟨by show fn < 1000; omega, h4.2, k5, l5⟩, fun e => (by cases e), ?_⟩
    · unfold frB
      simp only
      rw [h3, k3, l3]
      simp only [List.append_assoc]
    · refine ⟨hfn, k4, ?_⟩
      show (flowOf g (g.f fn)).Reach (rFrTop bs g fn s).1.toNat (((rVals bs b (rVals bs (g.f fn).l (rFrTop bs g fn s).2).2).1.length : Int) + (if false = true then (g.f ((g.f fn).ar (rFrTop bs g fn s).1.toNat).toNat).p else 0))
      rw [if_neg (by decide), l4, Int.add_zero]
      exact hb
  | true =>
    have f2 : (rVals bs (heightA (flowOf g (g.f fn)) (rFrTop bs g fn s).1.toNat - popD ((g.f fn).op (rFrTop bs g fn s).1.toNat) (g.f ((g.f fn).ar (rFrTop bs g fn s).1.toNat).toNat).p) (rVals bs (g.f fn).l (rMust (rFrTop bs g fn s).2 ((g.f fn).op (rFrTop bs g fn s).1.toNat == 14))).2).2.f = false := hf
    have f1 := noF (fwd_vals bs _ _) f2
    have fm := noF (fwd_vals bs _ _) f1
    obtain ⟨m, f0⟩ := must_no fm
    have h14 : (g.f fn).op (rFrTop bs g fn s).1.toNat = 14 := beq_iff_eq.1 m
    have em : rMust (rFrTop bs g fn s).2 ((g.f fn).op (rFrTop bs g fn s).1.toNat == 14) = (rFrTop bs g fn s).2 := by rw [m]; rfl
    obtain ⟨h1, h2, h3, h4, b, hb, hh⟩ := htop f0
    have hfit := (hp.fits fn hfn).1 _ _ hb
    have hpop : popD ((g.f fn).op (rFrTop bs g fn s).1.toNat) (g.f ((g.f fn).ar (rFrTop bs g fn s).1.toNat).toNat).p = (g.f ((g.f fn).ar (rFrTop bs g fn s).1.toNat).toNat).p := by rw [h14]; rfl
    have hpl : (g.f ((g.f fn).ar (rFrTop bs g fn s).1.toNat).toNat).p ≤ b := by
      have : (flowOf g (g.f fn)).pop (rFrTop bs g fn s).1.toNat ≤ b := hfit.2.1
      have e : (flowOf g (g.f fn)).pop (rFrTop bs g fn s).1.toNat = popD ((g.f fn).op (rFrTop bs g fn s).1.toNat) (g.f ((g.f fn).ar (rFrTop bs g fn s).1.toNat).toNat).p := rfl
      rw [e, hpop] at this
      exact this
    rw [em] at f1 f2
    obtain ⟨k1, k2, k3, k4, k5⟩ := vals_dec hr b2 _ h2 f1
    rw [hh, hpop] at f2
    obtain ⟨l1, l2, l3, l4, l5⟩ := vals_dec hr (show 0 ≤ b - (g.f ((g.f fn).ar (rFrTop bs g fn s).1.toNat).toNat).p by omega) _ k2 f2
    have key : rFrame bs g fn true s = (((rFrTop bs g fn s).1, (rVals bs (g.f fn).l (rFrTop bs g fn s).2).1, (rVals bs (b - (g.f ((g.f fn).ar (rFrTop bs g fn s).1.toNat).toNat).p) (rVals bs (g.f fn).l (rFrTop bs g fn s).2).2).1), (rVals bs (b - (g.f ((g.f fn).ar (rFrTop bs g fn s).1.toNat).toNat).p) (rVals bs (g.f fn).l (rFrTop bs g fn s).2).2).2) := by
      unfold rFrame
      rw [if_pos rfl, em, hh, hpop]
      rfl
    rw [key]
    simp only
    refine ⟨h1, l2, ?_, ⟨by show fn < 1000; omega, h4.2, k5, l5⟩, fun _ => h14, ?_⟩
    · unfold frB
      simp only
      rw [h3, k3, l3]
      simp only [List.append_assoc]
    · refine ⟨hfn, k4, ?_⟩
      show (flowOf g (g.f fn)).Reach (rFrTop bs g fn s).1.toNat (((rVals bs (b - (g.f ((g.f fn).ar (rFrTop bs g fn s).1.toNat).toNat).p) (rVals bs (g.f fn).l (rFrTop bs g fn s).2).2).1.length : Int) + (if true = true then (g.f ((g.f fn).ar (rFrTop bs g fn s).1.toNat).toNat).p else 0))
      rw [if_pos rfl, l4, Int.sub_add_cancel]
      exact hb

theorem up_head {g : PgR} {fn : Nat} {c : FrA} {r : List FrA} (h : Up g fn (c :: r)) : c.fn = fn := by
  cases r with
  | nil => exact h.1
  | cons d r => exact h.1

theorem frs_dec {bs : List Int} (hr : Byts bs) {g : PgR} (hp : PgOk g) : ∀ (n fn : Nat) (acc : List FrA) (s : Rs), fn < g.n → s.p ≤ bs.length → (rFrs bs g n (fn : Int) acc s).2.f = false →
    s.f = false ∧ (rFrs bs g n (fn : Int) acc s).2.p ≤ bs.length ∧ ∃ l, (rFrs bs g n (fn : Int) acc s).1 = acc ++ l ∧ l.length = n ∧ bs.drop s.p = frsB l ++ bs.drop (rFrs bs g n (fn : Int) acc s).2.p ∧ Up g fn l ∧ ∀ f, f ∈ l → FrGood f
  | 0, fn, acc, s, _, hps, hf => by
    have hf' : s.f = false := hf
    exact ⟨hf', hps, [], by show acc = acc ++ []; simp, rfl, by show bs.drop s.p = [] ++ bs.drop s.p; simp, trivial, fun f hf => by cases hf⟩
  | n + 1, fn, acc, s, hfn, hps, hf => by
    have hs : s.f = false := by
      cases e : s.f
      · rfl
      · rw [rFrs, if_pos e, e] at hf
        cases hf
    have D := fun h => frame_dec hr hp hfn (decide ((1 : Int) < ((n + 1 : Nat) : Int))) (s := s) hps h
    obtain ⟨r, hrf⟩ : ∃ r, rFrame bs g fn (decide ((1 : Int) < ((n + 1 : Nat) : Int))) s = r := ⟨_, rfl⟩
    obtain ⟨⟨pc, loc, stk⟩, s2⟩ := r
    have hgo := rFrs_go (bs := bs) (g := g) (n := n + 1) (by omega) fn acc hs hrf
    rw [hrf] at D
    rw [hgo] at hf ⊢
    rw [Nat.add_sub_cancel] at hf ⊢
    simp only at D hf ⊢
    have hf2 : s2.f = false := by
      cases n with
      | zero => exact hf
      | succ n =>
        cases e : s2.f
        · rfl
        · rw [rFrs, if_pos e, e] at hf
          cases hf
    obtain ⟨h1, h2, h3, h4, h5, h6⟩ := D hf2
    cases n with
    | zero =>
      have hd : decide ((1 : Int) < ((0 + 1 : Nat) : Int)) = false := by decide
      rw [hd] at h6
      refine ⟨h1, h2, [⟨fn, pc.toNat, loc, stk⟩], rfl, rfl, ?_, ⟨rfl, h6⟩, fun f hf => by rw [List.mem_singleton] at hf; rw [hf]; exact h4⟩
      show bs.drop s.p = frsB [⟨fn, pc.toNat, loc, stk⟩] ++ bs.drop s2.p
      rw [h3]
      simp [frsB]
    | succ n =>
      have hd : decide ((1 : Int) < ((n + 1 + 1 : Nat) : Int)) = true := decide_eq_true (by omega)
      rw [hd] at h5 h6
      have h14 := h5 rfl
      have hpc : pc.toNat < (g.f fn).n := h6.pc_lt hp
      have hl : legalB g.n (g.f fn).l (g.f fn).n ((g.f fn).op pc.toNat) ((g.f fn).ar pc.toNat) = true := hp.legal fn hfn pc.toNat hpc
      have hc := legal_call hl h14
      obtain ⟨a, hA⟩ := Int.eq_ofNat_of_zero_le hc.1
      rw [hA] at hf ⊢
      have ha : a < g.n := by omega
      obtain ⟨i1, i2, l, i3, i4, i5, i6, i7⟩ := frs_dec hr hp (n + 1) a (acc ++ [⟨fn, pc.toNat, loc, stk⟩]) s2 ha h2 hf
      cases l with
      | nil => simp at i4
      | cons c r =>
        have hcf := up_head i6
        refine ⟨h1, i2, ⟨fn, pc.toNat, loc, stk⟩ :: c :: r, by rw [i3]; simp, by simp at i4 ⊢; omega, ?_, ⟨rfl, ?_, h14, by rw [hcf]; exact hA, by rw [hcf]; exact i6⟩, fun f hf => ?_⟩
        · rw [h3, i5]
          simp [frsB, List.flatMap_cons]
        · rw [if_pos rfl, hA, Int.toNat_natCast] at h6
          rw [hcf]
          exact h6
        · rcases List.mem_cons.1 hf with rfl | hf
          · exact h4
          · exact i7 f hf

theorem lower_up {g : PgR} : ∀ (l low : List FrA) (fn : Nat), Lower g fn low → Up g fn l → l ≠ [] → Frames g (l.reverse ++ low)
  | [], _, _, _, _, h => absurd rfl h
  | [f], low, fn, hl, hu, _ => by
    obtain ⟨rfl, h2⟩ := hu
    exact ⟨h2, hl⟩
  | f :: c :: r, low, fn, hl, hu, _ => by
    obtain ⟨rfl, h2, h3, h4, h5⟩ := hu
    rw [List.reverse_cons, List.append_assoc]
    exact lower_up (c :: r) (f :: low) c.fn ⟨h2, h3, h4, hl⟩ h5 (by simp)
theorem frames_up {g : PgR} {l : List FrA} (h : Up g 0 l) : Frames g l.reverse := by
  cases l with
  | nil => trivial
  | cons f r =>
    have := lower_up (f :: r) [] 0 rfl h (by simp)
    rwa [List.append_nil] at this

theorem frames_dec {bs : List Int} (hr : Byts bs) {g : PgR} (hp : PgOk g) : Dec bs (rFrames bs g) framesB (fun l => l.length ≤ 12 ∧ Up g 0 l ∧ ∀ f, f ∈ l → FrGood f) := fun s hps hf => by
  have hf' : (rFrs bs g (rUpTo bs 12 s).1.toNat ((0 : Nat) : Int) [] (rUpTo bs 12 s).2).2.f = false := hf
  have hg0 : 0 < g.n := hp.sized.1
  have hf0 : (rUpTo bs 12 s).2.f = false := by
    cases e : (rUpTo bs 12 s).2.f
    · rfl
    · cases hn : (rUpTo bs 12 s).1.toNat with
      | zero => rw [hn] at hf'; rw [show rFrs bs g 0 ((0 : Nat) : Int) [] (rUpTo bs 12 s).2 = ([], (rUpTo bs 12 s).2) from rfl] at hf'; rw [e] at hf'; cases hf'
      | succ n => rw [hn, rFrs, if_pos e, e] at hf'; cases hf'
  obtain ⟨h1, h2, h3, h4⟩ := upTo_dec hr 12 s hps hf0
  obtain ⟨g1, g2, l, g3, g4, g5, g6, g7⟩ := frs_dec hr hp _ 0 [] _ hg0 h2 hf'
  rw [List.nil_append] at g3
  have e : (rFrames bs g s).1 = l := g3
  rw [e]
  have h3 : bs.drop s.p = numB ((rUpTo bs 12 s).1).toNat ++ _ := h3
  refine ⟨h1, g2, ?_, by omega, g6, g7⟩
  unfold framesB
  rw [g4, h3, g5, List.append_assoc]
  rfl

theorem mach_dec {bs : List Int} (hr : Byts bs) {g : PgR} (hp : PgOk g) {s : Rs} (hps : s.p ≤ bs.length) (hg : PgIs g (rProg bs s).1) (hf : (rM6 bs g s).f = false) :
    bs.drop s.p = machB g ⟨(rM1 bs s).1, (rM2 bs s).1, (rM3 bs g s).1, (rM5 bs g s).1, []⟩ ∧ PackGood g ⟨(rM1 bs s).1, (rM2 bs s).1, (rM3 bs g s).1, (rM5 bs g s).1, []⟩ ∧ ArI g := by
  obtain ⟨m6, f5⟩ := must_no hf
  have f4 : (rM4 bs g s).f = false := noF ((fwd_upTo bs _ _).trans (fwd_list (fun s => (takes_obj bs s).1) _ _ _ _) : Fwd _ (rHeap bs (rM4 bs g s)).2) f5
  obtain ⟨m4, f3⟩ := must_no f4
  have e4 : rM4 bs g s = (rM3 bs g s).2 := by unfold rM4; rw [m4]; rfl
  have hfw3 : (rM2 bs s).2.f = false := by
    have : (rFrames bs g (rM2 bs s).2).2.f = false := f3
    cases e : (rM2 bs s).2.f
    · rfl
    · have h0 := (fwd_upTo bs 12 (rM2 bs s).2).f e
      unfold rFrames at this
      cases hn : (rUpTo bs 12 (rM2 bs s).2).1.toNat with
      | zero => rw [hn] at this; rw [show rFrs bs g 0 0 [] (rUpTo bs 12 (rM2 bs s).2).2 = ([], (rUpTo bs 12 (rM2 bs s).2).2) from rfl] at this; rw [h0] at this; cases this
      | succ n => rw [hn, rFrs, if_pos h0, h0] at this; cases this
  have f1 : (rM1 bs s).2.f = false := noF ((fwd_upTo bs _ _).trans (fwd_list (fun s => (takes_int bs s).1) _ _ _ _) : Fwd _ (rOut bs (rM1 bs s).2).2) hfw3
  have f0 : (rProg bs s).2.f = false := noF (fwd_upTo bs _ _) f1
  obtain ⟨a1, a2, a3, a4⟩ := prog_dec hr s hps f0
  obtain ⟨b1, b2, b3, b4⟩ := upTo_dec hr 7 _ a2 f1
  obtain ⟨c1, c2, c3, c4⟩ := out_dec hr _ b2 hfw3
  obtain ⟨d1, d2, d3, d4⟩ := frames_dec hr hp _ c2 f3
  have f5' : (rHeap bs (rM3 bs g s).2).2.f = false := by rw [← e4]; exact f5
  obtain ⟨k1, k2, k3, k4⟩ := heap_dec hr _ d2 f5'
  have e5 : rM5 bs g s = rHeap bs (rM3 bs g s).2 := by unfold rM5; rw [e4]
  have hend : bs.drop (rHeap bs (rM3 bs g s).2).2.p = [] := by
    rw [e5] at m6
    rw [beq_iff_eq.1 m6]
    exact List.drop_length
  have k3 : bs.drop (rM3 bs g s).2.p = objectsB (rHeap bs (rM3 bs g s).2).1 ++ bs.drop (rHeap bs (rM3 bs g s).2).2.p := k3
  rw [hend, List.append_nil] at k3
  refine ⟨?_, ⟨⟨b4.1, b4.2.1⟩, c4, d4.2.1, ⟨d4.1, d4.2.2⟩, ?_, ?_⟩, hg.arI a4⟩
  · rw [a3]
    unfold machB
    rw [hg.progB]
    have b3 : bs.drop (rProg bs s).2.p = numB ((rM1 bs s).1).toNat ++ bs.drop (rM1 bs s).2.p := b3
    have c3 : bs.drop (rM1 bs s).2.p = outB (rM2 bs s).1 ++ bs.drop (rM2 bs s).2.p := c3
    have d3 : bs.drop (rM2 bs s).2.p = framesB (rM3 bs g s).1 ++ bs.drop (rM3 bs g s).2.p := d3
    have k3 : bs.drop (rM3 bs g s).2.p = objectsB (rM5 bs g s).1 := by rw [e5]; exact k3
    simp only
    rw [b3, c3, d3, k3]
    simp only [List.append_assoc]
  · show (rM5 bs g s).1.length ≤ 40 ∧ _
    rw [e5]
    exact k4
  · show (rM1 bs s).1 = 1 ↔ (rM3 bs g s).1 = []
    have m4 := beq_iff_eq.1 m4
    constructor
    · intro h
      have : ((rM1 bs s).1 == 1) = true := by simpa using h
      rw [this] at m4
      have := m4.symm
      simpa using this
    · intro h
      rw [h] at m4
      have : ((rM1 bs s).1 == 1) = true := m4
      simpa using this

end Go.Proofs.YtbkmgoffiigdbabGreatDoor

namespace Go.Proofs.YtbkmgoffiigdbabGreatDoor
open Go.RowKit Go.Sort

/-! PLAIN: a machine that was read is one that a sound machine saves. -/

theorem inc_range {l : List Nat} {n : Nat} (hl : l.length = n) (hlt : ∀ x, x ∈ l → x < n) (hn : l.Nodup) (hs : Sorted l) : l = List.range n := by
  have hstep : ∀ i x y, l[i]? = some x → l[i + 1]? = some y → x < y := fun i x y h1 h2 => by
    have := hs i x y h1 h2
    have hne : x ≠ y := fun e => by
      rw [e] at h1
      have := nodup_at hn h1 h2
      omega
    omega
  have low : ∀ (i x : Nat), l[i]? = some x → i ≤ x := fun i => by
    induction i with
    | zero => intro x _; omega
    | succ i ih =>
      intro x hx
      have hi := (List.getElem?_eq_some_iff.1 hx).1
      obtain ⟨y, hy⟩ : ∃ y, l[i]? = some y := ⟨_, List.getElem?_eq_getElem (by omega)⟩
      have := ih y hy
      have := hstep i y x hy hx
      omega
  have high : ∀ (k i x : Nat), i + k + 1 = n → l[i]? = some x → x ≤ i := fun k => by
    induction k with
    | zero => intro i x hi hx; have := hlt x (List.mem_of_getElem? hx); omega
    | succ k ih =>
      intro i x hi hx
      obtain ⟨y, hy⟩ : ∃ y, l[i + 1]? = some y := ⟨_, List.getElem?_eq_getElem (by omega)⟩
      have := ih (i + 1) y (by omega) hy
      have := hstep i x y hx hy
      omega
  refine List.ext_getElem? fun i => ?_
  by_cases hi : i < n
  · rw [List.getElem?_range hi, List.getElem?_eq_getElem (by omega)]
    have h1 := low i _ (List.getElem?_eq_getElem (by omega))
    have h2 := high (n - 1 - i) i _ (by omega) (List.getElem?_eq_getElem (by omega))
    congr 1
    omega
  · rw [List.getElem?_eq_none_iff.2 (by omega), List.getElem?_eq_none_iff.2 (by rw [List.length_range]; omega)]

/-- References lead to objects that there are. -/
structure RefsA (p : McA) : Prop where
  frs : ∀ f, f ∈ p.frs → ∀ v, v ∈ f.loc ++ f.stk → v.1 = 2 → 0 ≤ v.2 ∧ v.2.toNat < p.obs.length
  obs : ∀ o, o ∈ p.obs → ∀ v, v ∈ o.2 → v.1 = 2 → 0 ≤ v.2 ∧ v.2.toNat < p.obs.length

theorem refs_of {R : McR} (h : IsPacked R) : RefsA R.abs := by
  have hl : R.abs.obs.length = R.obs.length := List.length_map _
  refine ⟨fun f hf v hv h2 => ?_, fun o ho v hv h2 => ?_⟩
  · obtain ⟨x, hx, rfl⟩ := List.mem_map.1 hf
    obtain ⟨i, hi⟩ := List.getElem?_of_mem hx
    rw [hl]
    rcases List.mem_append.1 hv with hv | hv
    · exact h.1 _ _ _ _ (Or.inl ⟨i, x, hi, rfl, rfl, rfl, rfl⟩) v hv h2
    · exact h.1 _ _ _ _ (Or.inr (Or.inl ⟨i, x, hi, rfl, rfl, rfl, rfl⟩)) v hv h2
  · obtain ⟨x, hx, rfl⟩ := List.mem_map.1 ho
    obtain ⟨i, hi⟩ := List.getElem?_of_mem hx
    rw [hl]
    exact h.1 _ _ _ _ (Or.inr (Or.inr ⟨i, x, hi, rfl, rfl, rfl, rfl⟩)) v hv h2

/-- A heap of at least one slot. -/
def roomy (p : McA) : McA := if p.obs = [] then { p with obs := [(0, [])] } else p

theorem good_kind {o : Ob} (h : ObGood o) : o.1 ≠ 0 := by
  rcases h.2 with ⟨e, _⟩ | ⟨e, _⟩ | ⟨e, _⟩ <;> omega

theorem good_vok {obs : List Ob} (hk : ∀ o, o ∈ obs → o.1 ≠ 0) {v : Val} (h : VGood v) (hr : v.1 = 2 → 0 ≤ v.2 ∧ v.2.toNat < obs.length) : VOk obs v := by
  rcases h.2 with h | h | h
  · exact Or.inl h
  · exact Or.inr (Or.inl h)
  · obtain ⟨h0, hl⟩ := hr h
    exact Or.inr (Or.inr ⟨h, h0, _, List.getElem?_eq_getElem hl, hk _ (List.getElem_mem hl)⟩)

theorem roomy_inv {g : PgR} {p : McA} (h : PackGood g p) (hr : RefsA p) (hd : p.dr = []) : InvA g (roomy p) ∧ IntsA (roomy p) ∧ HaltA (roomy p) := by
  have hk : ∀ o, o ∈ p.obs → o.1 ≠ 0 := fun o ho => good_kind (h.obs.2 o ho)
  have hfv : ∀ f, f ∈ p.frs → ∀ v, v ∈ f.loc ++ f.stk → VGood v := fun f hf v hv => by
    rcases List.mem_append.1 hv with hv | hv
    · exact (h.frs.2 f hf).loc v hv
    · exact (h.frs.2 f hf).stk v hv
  have hrun : p.st = 0 → p.frs ≠ [] := fun h0 e => by
    have := h.halt.2 e
    omega
  unfold roomy
  by_cases he : p.obs = []
  · rw [if_pos he]
    refine ⟨⟨hrun, frames_up h.up, h.frs.1, fun f hf v hv => ?_, fun o ho => ?_, ⟨by show 1 ≤ 1; omega, by show 1 ≤ 40; omega⟩, h.out.1, by show p.dr.length ≤ 200; rw [hd]; exact Nat.zero_le _⟩, ⟨h.st, h.out.2, fun f hf v hv => (hfv f hf v hv).1.1, fun o ho v hv => ?_⟩, h.halt⟩
    · rcases (hfv f hf v hv).2 with q | q | q
      · exact Or.inl q
      · exact Or.inr (Or.inl q)
      · have := (hr.frs f hf v hv q).2
        rw [he] at this
        simp at this
    · have ho : o ∈ [((0, []) : Ob)] := ho
      rw [List.mem_singleton] at ho
      rw [ho]
      exact Or.inl ⟨rfl, rfl⟩
    · have ho : o ∈ [((0, []) : Ob)] := ho
      rw [List.mem_singleton] at ho
      rw [ho] at hv
      cases hv
  · rw [if_neg he]
    have hpos : 1 ≤ p.obs.length := by
      rcases Nat.eq_zero_or_pos p.obs.length with q | q
      · exact absurd (List.length_eq_zero_iff.1 q) he
      · exact q
    refine ⟨⟨hrun, frames_up h.up, h.frs.1, fun f hf v hv => good_vok hk (hfv f hf v hv) (hr.frs f hf v hv), fun o ho => ?_, ⟨hpos, h.obs.1⟩, h.out.1, by rw [hd]; exact Nat.zero_le _⟩, ⟨h.st, h.out.2, fun f hf v hv => (hfv f hf v hv).1.1, fun o ho v hv => ((h.obs.2 o ho).1 v hv).1.1⟩, h.halt⟩
    have hv : ∀ v, v ∈ o.2 → VOk p.obs v := fun v hv => good_vok hk ((h.obs.2 o ho).1 v hv) (hr.obs o ho v hv)
    rcases (h.obs.2 o ho).2 with ⟨e, e2⟩ | ⟨e, e2⟩ | ⟨e, e2, e3⟩
    · exact Or.inr (Or.inl ⟨e, e2, hv⟩)
    · exact Or.inr (Or.inr (Or.inl ⟨e, e2, hv⟩))
    · obtain ⟨u, hu⟩ := List.length_eq_one_iff.1 e2
      exact Or.inr (Or.inr (Or.inr ⟨e, u, hu, hv u (by rw [hu]; simp), e3 u (by rw [hu]; simp)⟩))

theorem packV_range {n : Nat} {v : Val} (h : v.1 = 2 → 0 ≤ v.2 ∧ v.2.toNat < n) : packV (List.range n) v = v := by
  unfold packV
  by_cases h2 : v.1 = 2
  · obtain ⟨h0, hl⟩ := h h2
    rw [if_pos h2, ixA_of List.nodup_range (List.getElem?_range hl)]
    show (2, ((v.2.toNat : Nat) : Int)) = v
    exact Prod.ext h2.symm (by show ((v.2.toNat : Nat) : Int) = v.2; omega)
  · rw [if_neg h2]

theorem map_same {α : Type} {l : List α} {f : α → α} (h : ∀ x, x ∈ l → f x = x) : l.map f = l := by
  conv => rhs; rw [← List.map_id l]
  exact List.map_congr_left h

/-- It is saved as it was read. -/
theorem roomy_pack {g : PgR} {p : McA} (h : PackGood g p) (hr : RefsA p) (hd : p.dr = []) (h1 : (aliveA p).length = p.obs.length) (hs : Sorted (aliveA p)) : packA (roomy p) = p := by
  have hI := (roomy_inv h hr hd).1
  have hfr : ∀ n, (∀ f, f ∈ p.frs → ∀ v, v ∈ f.loc ++ f.stk → v.1 = 2 → 0 ≤ v.2 ∧ v.2.toNat < n) → p.frs.map (packF (List.range n)) = p.frs := fun n hn => map_same fun f hf => by
    show FrA.mk f.fn f.pc (f.loc.map _) (f.stk.map _) = f
    rw [map_same fun v hv => packV_range (hn f hf v (by simp [hv])), map_same fun v hv => packV_range (hn f hf v (by simp [hv]))]
  by_cases he : p.obs = []
  · have e : roomy p = { p with obs := [(0, [])] } := by unfold roomy; rw [if_pos he]
    have hnor : ∀ f, f ∈ p.frs → ∀ v, v ∈ f.loc ++ f.stk → v.1 ≠ 2 := fun f hf v hv h2 => by
      have := (hr.frs f hf v hv h2).2
      rw [he] at this
      simp at this
    have hal : aliveA (roomy p) = [] := by
      have hm : meetA [] (valuesA p.frs) = [] := by
        have : ∀ j, j ∉ meetA [] (valuesA p.frs) := fun j hj => by
          rcases (meetA_mem _ _ _).1 hj with q | ⟨v, hv, h2, _⟩
          · cases q
          · obtain ⟨f, hf, hv⟩ := mem_valuesA.1 hv
            exact hnor f hf v hv h2
        exact List.eq_nil_iff_forall_not_mem.2 this
      rw [e]
      show walkA [(0, [])] 1 0 (meetA [] (valuesA p.frs)) = []
      rw [hm]
      rfl
    unfold packA
    rw [hal]
    rw [e]
    show McA.mk p.st p.out (p.frs.map (packF [])) [] [] = p
    have : p.frs.map (packF []) = p.frs := hfr 0 fun f hf v hv h2 => absurd h2 (hnor f hf v hv)
    rw [this]
    obtain ⟨a, b, c, d, e'⟩ := p
    simp only at he hd
    rw [he, hd]
  · have e : roomy p = p := by unfold roomy; rw [if_neg he]
    rw [e] at hI ⊢
    have hal : aliveA p = List.range p.obs.length := inc_range h1 (fun x hx => hI.alive.lt x hx) hI.alive.nodup hs
    unfold packA
    rw [hal, hfr _ hr.frs]
    have ho : (List.range p.obs.length).map (packO p) = p.obs := map_range_get p.obs (packO p) fun i x hx => by
      unfold packO
      rw [hx, hal]
      show (x.1, x.2.map _) = x
      rw [map_same fun v hv => packV_range (hr.obs x (List.mem_of_getElem? hx) v hv)]
    rw [ho]
    obtain ⟨a, b, c, d, e'⟩ := p
    simp only at hd
    rw [hd]

end Go.Proofs.YtbkmgoffiigdbabGreatDoor
