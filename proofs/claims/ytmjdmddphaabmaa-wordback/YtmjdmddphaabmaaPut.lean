/-
  Contracts of fits, put, and the document's bytes.
-/
import Derived.Test.YtmjdmddphaabmaaCut
import Derived.Outline
namespace Go.Proofs.Ytmjdmddphaabmaa
open Go.RowKit

/-- The k lowest bytes of a number, the highest of them first. -/
def lowB (v : Int) : Nat → List Int
  | 0 => []
  | k + 1 => (v / 256 ^ k % 256) :: lowB v k
theorem lowB_len (v : Int) (k : Nat) : (lowB v k).length = k := by induction k <;> simp_all [lowB]
theorem lowB_wf (v : Int) (k : Nat) : ∀ x ∈ lowB v k, (Lit.int .u8 x).wf = true := by
  induction k with
  | zero => simp [lowB]
  | succ k ih =>
    intro x hx
    simp [lowB] at hx
    rcases hx with rfl | hx
    · exact u8_mk (by omega)
    · exact ih x hx

theorem splice_cons (xs ys : List Int) (p : Nat) (y : Int) (h : p + 1 + ys.length ≤ xs.length) : splice xs p (y :: ys) = (splice xs (p + 1) ys).set p y := by
  apply List.ext_getElem
  · simp [splice]; omega
  · intro i h1 h2
    simp only [splice, List.getElem_set, List.getElem_append, List.length_take, List.length_cons, List.getElem_take, List.getElem_drop, List.getElem_cons]
    split <;> split <;> (repeat' split) <;> first | rfl | omega | (congr 1; omega)
theorem splice_nil (xs : List Int) (p : Nat) : splice xs p [] = xs := by simp [splice]
theorem splice_len (xs ys : List Int) (p : Nat) (h : p + ys.length ≤ xs.length) : (splice xs p ys).length = xs.length := by simp [splice]; omega
theorem splice_wf {xs ys : List Int} {p : Nat} (h : ∀ x ∈ xs, (Lit.int .u8 x).wf = true) (h' : ∀ x ∈ ys, (Lit.int .u8 x).wf = true) : ∀ x ∈ splice xs p ys, (Lit.int .u8 x).wf = true := by
  intro x hx
  simp only [splice, List.mem_append] at hx
  rcases hx with hx | hx | hx
  · exact h x (List.mem_of_mem_take hx)
  · exact h' x hx
  · exact h x (List.mem_of_mem_drop hx)

theorem ret_bool {a b : Bool} (h : a = b) : Ending.returned (.bool a) = .returned (.bool b) := by rw [h]

set_option maxHeartbeats 1000000 in
theorem fits_any (v : Int) (s : Nat) (w : World) (h0 : 0 ≤ v) (h64 : v ≤ 18446744073709551615) (h1 : 1 ≤ s) (h8 : s ≤ 8) :
    Calls Try.prog 25 #[.int .u64 v, .int .i64 s] w fun e w' => e = .returned (.bool (decide (v < 256 ^ s))) ∧ w = w' := by
  have : s = 1 ∨ s = 2 ∨ s = 3 ∨ s = 4 ∨ s = 5 ∨ s = 6 ∨ s = 7 ∨ s = 8 := by omega
  rcases this with h | h | h | h | h | h | h | h <;> subst h
  all_goals
    go_enter Try.func25, Try.ntmps25
    go_wp2
    go_ret
    exact ⟨ret_bool (by rw [Bool.eq_iff_iff]; simp; omega), rfl⟩

/-- What a store of a byte does to a number's low bytes. -/
theorem low_step (v : Int) (_h : 0 ≤ v) (k : Nat) : v / 256 ^ k / 256 = v / 256 ^ (k + 1) := by
  rw [Int.pow_succ, Int.ediv_ediv_of_nonneg (Int.pow_nonneg (by omega))]
theorem div_bd (v : Int) (h : 0 ≤ v) (h64 : v ≤ 18446744073709551615) (k : Nat) : 0 ≤ v / 256 ^ k ∧ v / 256 ^ k ≤ 18446744073709551615 := by
  have hp : (0 : Int) < 256 ^ k := Int.pow_pos (by omega)
  refine ⟨Int.ediv_nonneg h (by omega), ?_⟩
  have := Int.ediv_le_self (256 ^ k) h
  omega

theorem put_step (xs : List Int) (v : Int) (off s k : Nat) (q : Int) (hlt : k < s) (hfit : off + s ≤ xs.length) (hq : v / 256 ^ k = q) :
    splice xs (off + s - (k + 1)) (lowB v (k + 1)) = (splice xs (off + s - k) (lowB v k)).set (off + (s - 1 - k)) (q % 256) := by
  have hl := lowB_len v k
  have e1 : off + s - (k + 1) = off + (s - 1 - k) := by omega
  have e2 : off + s - k = off + (s - 1 - k) + 1 := by omega
  rw [e1, e2, lowB, hq]
  exact splice_cons xs (lowB v k) _ _ (by omega)
theorem div_zero (v : Int) (h : 0 ≤ v) (k : Nat) : (v / 256 ^ k == 0) = decide (v < 256 ^ k) := by
  have hp : (0 : Int) < 256 ^ k := Int.pow_pos (by omega)
  rw [Bool.eq_iff_iff]
  simp only [beq_iff_eq, decide_eq_true_eq]
  constructor
  · intro e
    have := Int.lt_ediv_add_one_mul_self v hp
    rw [e] at this
    omega
  · intro e
    exact Int.ediv_eq_zero_of_lt h e

set_option maxHeartbeats 1000000 in
theorem put_any (g off s c : Nat) (xs : List Int) (v : Int) (w : World) (hrow : Row w g xs) (hfit : off + s ≤ xs.length) (hs : s ≤ 8) (h0 : 0 ≤ v) (h64 : v ≤ 18446744073709551615) :
    Calls Try.prog 26 #[.slice (some ⟨g, off, none⟩) s c, .int .u64 v] w fun e w' => e = .returned (.tuple #[]) ∧ Row w' g (splice xs off (lowB v s)) ∧ Below g w w' := by
  go_enter Try.func26, Try.ntmps26
  go_wp2
  go_loopw [1, 4] (fun x i wr => ∃ k : Nat, k ≤ s ∧ i = .int .i64 ((s : Int) - 1 - k) ∧ x = .int .u64 (v / 256 ^ k) ∧ Row wr g (splice xs (off + s - k) (lowB v k)) ∧ Below g w wr) (fun _ i _ => (intOf i + 1).toNat)
  case atStart => exact ⟨0, Nat.zero_le _, by go_num, by simp, by simpa [lowB, splice_nil] using hrow, Below.refl _ _⟩
  case round =>
    obtain ⟨k, hk, rfl, rfl, hr, hb⟩ := hrel
    have hbd := div_bd v h0 h64 k
    have Hst := Lib.hid (low_step v h0 k)
    have hll := lowB_len v k
    have HLL := Lib.hid hll; clear hll
    by_cases hlt : k < s
    · have hc := hr.cell (i := off + (s - 1 - k)) (by rw [splice_len _ _ _ (by rw [HLL.out]; omega)]; omega)
      have hf := hr.frozen (off + (s - 1 - k))
      have H2 := Lib.hid (hr.set (off + (s - 1 - k)) (v / 256 ^ k % 256))
      generalize (splice xs (off + s - k) (lowB v k)).getD (off + (s - 1 - k)) 0 = y at *
      generalize hq : v / 256 ^ k = q at *
      have HP := Lib.hid (put_step xs v off s k q hlt hfit hq)
      clear hq
      have e1 : ((s : Int) - 1 - (k : Int)).toNat = s - 1 - k := by omega
      go_wp2
      go_roundw
      case rel => exact ⟨k + 1, by omega, by go_num, by rw [Hst.out], by rw [HP.out]; exact H2.out, hb.setCell (Nat.le_refl _) _⟩
      case measure => simp [intOf]; omega
    · obtain rfl : k = s := by omega
      go_wp2
      go_end0
      exact ⟨rfl, by simpa using hr, hb⟩

set_option maxHeartbeats 1000000 in
theorem bytes_any (s : Nat) (v : Int) (w : World) (h1 : 1 ≤ s) (hs : s ≤ 8) (h0 : 0 ≤ v) (h64 : v ≤ 18446744073709551615) :
    Calls Try.prog 24 #[.int .u64 v, .int .i64 s] w fun e w' => e = .returned (.tuple #[.slice (some ⟨w.heap.size, 0, none⟩) s s, .bool (decide (v < 256 ^ s))]) ∧ Row w' w.heap.size (lowB v s) ∧ Below w.heap.size w w' := by
  go_enter Try.func24, Try.ntmps24
  go_wp2_with (at_make; refine wpList_mk rfl _ _ 22 rfl Try.underlying22 info5 s _ _ rfl rfl rfl rfl (by omega) ?_; intro w1 hrow hsz hb1)
  go_loopw [0, 7] (fun x i wr => ∃ k : Nat, k ≤ s ∧ i = .int .i64 ((s : Int) - 1 - k) ∧ x = .int .u64 (v / 256 ^ k) ∧ Row wr w.heap.size (splice (List.replicate s 0) (0 + s - k) (lowB v k)) ∧ Below w.heap.size w wr) (fun _ i _ => (intOf i + 1).toNat)
  case atStart => exact ⟨0, Nat.zero_le _, by go_num, by simp, by simpa [lowB, splice_nil] using hrow, hb1⟩
  case round =>
    obtain ⟨k, hk, rfl, rfl, hr, hb⟩ := hrel
    have hbd := div_bd v h0 h64 k
    have Hst := Lib.hid (low_step v h0 k)
    have hll := lowB_len v k
    have HLL := Lib.hid hll; clear hll
    clear hsz
    by_cases hlt : k < s
    · have hc := hr.cell (i := 0 + (s - 1 - k)) (by rw [splice_len _ _ _ (by rw [HLL.out]; simp; omega)]; simp; omega)
      have hf := hr.frozen (0 + (s - 1 - k))
      have H2 := Lib.hid (hr.set (0 + (s - 1 - k)) (v / 256 ^ k % 256))
      generalize (splice (List.replicate s 0) (0 + s - k) (lowB v k)).getD (0 + (s - 1 - k)) 0 = y at *
      generalize hq : v / 256 ^ k = q at *
      have HP := Lib.hid (put_step (List.replicate s 0) v 0 s k q hlt (by simp) hq)
      clear hq
      have e1 : ((s : Int) - 1 - (k : Int)).toNat = s - 1 - k := by omega
      rw [Nat.zero_add] at hc hf H2
      go_wp2
      go_roundw
      case rel => exact ⟨k + 1, by omega, by go_num, by rw [Hst.out], by rw [HP.out, Nat.zero_add]; simpa using H2.out, hb.setCell (Nat.le_refl _) _⟩
      case measure => simp [intOf]; omega
    · obtain rfl : k = s := by omega
      have hz := lowB_len v k
      have HZ := Lib.hid (div_zero v h0 k)
      have hr' : Row wr w.heap.size (lowB v k) := by
        have : splice (List.replicate k (0 : Int)) (0 + k - k) (lowB v k) = lowB v k := by
          rw [show 0 + k - k = 0 by omega]; exact splice_all _ _ (by simp [hz])
        rw [this] at hr; exact hr
      clear hz hr
      go_wp2
      go_ret2
      refine ⟨?_, hr', hb⟩
      rw [← HZ.out]
      rfl
end Go.Proofs.Ytmjdmddphaabmaa
