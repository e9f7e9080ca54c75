/-
  The contract of Parse (the program's).
-/
import Derived.Test.YtemhahfodblehaaDoorParts
import Derived.Test.YtemhahfodblehaaDoorJoin
namespace Go.Proofs.YtemhahfodblehaaDoor
open Go.RowKit Go.Shelf
attribute [local go_sem] Oper.semAt_some

theorem partsF_len (m : UInt8) : ∀ (n : Nat) (l : List UInt8), ∀ x ∈ partsF m n l, x.length ≤ l.length
  | 0, l, x, h => by simp [partsF] at h
  | n + 1, l, x, h => by
    rw [partsF] at h
    rcases List.mem_cons.1 h with rfl | h
    · exact cut_fst
    · split at h
      · rename_i hc
        have := partsF_len m n _ x h
        have := cut_rest hc
        omega
      · simp at h
/-- The Ip of a text and what is wrong with it. -/
def IsText (s : List UInt8) (n : Nat) : Prop := n < 4294967296 ∧ textL n = s
open Classical in
noncomputable def parseV (s : List UInt8) : Int × Int := if h : ∃ n, IsText s n then ((h.choose : Nat), 0) else (0, 10)
theorem parse_none {s : List UInt8} (h : ¬ ∃ n, IsText s n) : parseV s = (0, 10) := by unfold parseV; rw [dif_neg h]
/-- Four parts, and the number that they make so far. -/
theorem text_at {n : Nat} (hn : n < 4294967296) {pre : List (List UInt8)} {x : List UInt8} (h : pre ++ [x] <+: partsV 46 (textL n)) :
    (pre.length = 0 ∧ x = dec3 (n / 16777216)) ∨ (pre.length = 1 ∧ x = dec3 (n / 65536 % 256)) ∨ (pre.length = 2 ∧ x = dec3 (n / 256 % 256)) ∨ (pre.length = 3 ∧ x = dec3 (n % 256)) := by
  rw [text_parts hn] at h
  have hl := h.length_le
  have hx := h.getElem (i := pre.length) (by simp)
  simp at hl hx
  have : pre.length = 0 ∨ pre.length = 1 ∨ pre.length = 2 ∨ pre.length = 3 := by omega
  rcases this with e | e | e | e <;> simp only [e] at hx <;> simp at hx <;> simp [e, hx]
/-- What the parts so far make of a text. -/
def Made (s : List UInt8) (k : Nat) (a : Int) : Prop := W32 a ∧ ∀ n, IsText s n → a = ((n / 256 ^ (4 - k) : Nat) : Int)
theorem text_inj {n n' : Nat} (hn : n < 4294967296) (hn' : n' < 4294967296) (h : textL n = textL n') : n = n' := by
  have h1 := text_parts hn
  rw [h, text_parts hn'] at h1
  simp only [List.cons.injEq, and_true] at h1
  have inj : ∀ a b, a < 256 → b < 256 → dec3 a = dec3 b → a = b := fun a b ha hb e => by
    have h1 := (dec3_all a ha).2
    rw [e, (dec3_all b hb).2] at h1
    injection h1 with h1
    exact h1.symm
  have e1 := inj _ _ (by omega) (by omega) h1.1
  have e2 := inj _ _ (by omega) (by omega) h1.2.1
  have e3 := inj _ _ (by omega) (by omega) h1.2.2.1
  have e4 := inj _ _ (by omega) (by omega) h1.2.2.2
  omega
theorem parse_some {s : List UInt8} {n : Nat} (h : IsText s n) : parseV s = ((n : Int), 0) := by
  have hex : ∃ n, IsText s n := ⟨n, h⟩
  unfold parseV
  rw [dif_pos hex]
  have hc := hex.choose_spec
  rw [text_inj hc.1 h.1 (hc.2.trans h.2.symm)]
theorem or_low (a u : Int) (ha : W32 a) (hu : 0 ≤ u ∧ u ≤ 255) : W32 (bits .or .u32 (a * 256 % 4294967296) u) ∧ (a < 16777216 → bits .or .u32 (a * 256 % 4294967296) u = a * 256 + u) := by
  unfold W32 at *
  constructor
  · rw [u32_or _ _ (by omega) (by omega) (by omega) (by omega)]
    have : (a * 256 % 4294967296).toNat ||| u.toNat < 2 ^ 32 := Nat.or_lt_two_pow (by omega) (by omega)
    omega
  · intro h
    have e : a * 256 % 4294967296 = a * 256 := by omega
    rw [e, u32_or _ _ (by omega) (by omega) (by omega) (by omega)]
    obtain ⟨x, rfl⟩ := Int.eq_ofNat_of_zero_le ha.1
    obtain ⟨y, rfl⟩ := Int.eq_ofNat_of_zero_le hu.1
    have e : ((x : Int) * 256).toNat = x <<< 8 := by rw [Nat.shiftLeft_eq]; omega
    rw [e, Int.toNat_natCast, ← Nat.shiftLeft_add_eq_or_of_lt (by omega), Nat.shiftLeft_eq]
    omega
theorem Made.step {s : List UInt8} {pre : List (List UInt8)} {x : List UInt8} {a u : Int} (h : Made s pre.length a) (hpre : pre ++ [x] <+: partsV 46 s) (hu : ∃ y : Nat, Lib.parseUintB 8 x = .ok y ∧ u = y) (hb : 0 ≤ u ∧ u ≤ 255) :
    Made s (pre ++ [x]).length (bits .or .u32 (a * 256 % 4294967296) u) := by
  refine ⟨(or_low a u h.1 hb).1, fun n hn => ?_⟩
  have ha := h.2 n hn
  obtain ⟨hn1, hn2⟩ := hn
  subst hn2
  obtain ⟨y, hy, rfl⟩ := hu
  have hlt : a < 16777216 ∧ a * 256 + y = ((n / 256 ^ (4 - (pre ++ [x]).length) : Nat) : Int) := by
    rcases text_at hn1 hpre with ⟨e, rfl⟩ | ⟨e, rfl⟩ | ⟨e, rfl⟩ | ⟨e, rfl⟩ <;> rw [e] at ha <;> (rw [(dec3_all _ (by omega)).2] at hy; injection hy with hy; subst hy; simp only [List.length_append, e, List.length_cons, List.length_nil]; simp at ha ⊢; omega)
  rw [(or_low a y h.1 hb).2 hlt.1]
  exact hlt.2
theorem Made.bad {s : List UInt8} {pre : List (List UInt8)} {x : List UInt8} (hpre : pre ++ [x] <+: partsV 46 s) (hu : ∀ y, Lib.parseUintB 8 x ≠ .ok y) : ¬ ∃ n, IsText s n := by
  rintro ⟨n, hn1, rfl⟩
  rcases text_at hn1 hpre with ⟨e, rfl⟩ | ⟨e, rfl⟩ | ⟨e, rfl⟩ | ⟨e, rfl⟩ <;> exact hu _ (dec3_all _ (by omega)).2
end Go.Proofs.YtemhahfodblehaaDoor
