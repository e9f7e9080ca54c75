/-
  The sums' arithmetic in plain words: adding, pairs of bytes, totals, turns, patches. Nothing of the program.
-/
import Derived.Test.YtbefoapnlehdmaaDoorBase
namespace Go.Proofs.YtbefoapnlehdmaaDoor
open Go.RowKit

theorem u16_bd {x : Int} (h : (Lit.int .u16 x).wf = true) : 0 ≤ x ∧ x ≤ 65535 := by
  simpa [Lit.wf, IntKind.min, IntKind.max, IntKind.signed, IntKind.bits] using h
theorem u16_mk {x : Int} (h : 0 ≤ x ∧ x ≤ 65535) : (Lit.int .u16 x).wf = true := by
  simpa [Lit.wf, IntKind.min, IntKind.max, IntKind.signed, IntKind.bits] using h

/-- A number of 16 bits. -/
def W16 (x : Int) : Prop := 0 ≤ x ∧ x ≤ 65535
/-- All are bytes. -/
def Byts (xs : List Int) : Prop := ∀ x ∈ xs, 0 ≤ x ∧ x ≤ 255
theorem byts_of {xs : List Int} (h : ∀ x ∈ xs, (Lit.int .u8 x).wf = true) : Byts xs := fun x hx => u8_bd (h x hx)

/-- Two numbers of 16 bits, added. -/
def addV (a b : Int) : Int := if 65535 < a + b then a + b - 65535 else a + b
theorem addV_bd {a b : Int} (ha : W16 a) (hb : W16 b) : W16 (addV a b) := by unfold W16 addV at *; split <;> omega
/-- A sum behind a change. -/
def turnV (s a b : Int) : Int := 65535 - addV (addV (65535 - s) (65535 - a)) b
theorem flip_bd {a : Int} (ha : W16 a) : W16 (65535 - a) := by unfold W16 at *; omega
theorem turnV_bd {s a b : Int} (hs : W16 s) (ha : W16 a) (hb : W16 b) : W16 (turnV s a b) := flip_bd (addV_bd (addV_bd (flip_bd hs) (flip_bd ha)) hb)

/-- Two bytes as a number, the higher one first. -/
def numP (p : Int × Int) : Int := p.1 * 256 + p.2
/-- Each two of them, the last one with a 0 behind it, if they are odd. -/
def pairsV : List Int → List (Int × Int)
  | [] => []
  | [x] => [(x, 0)]
  | x :: y :: r => (x, y) :: pairsV r
theorem pairsV_nil : pairsV [] = [] := by simp [pairsV]
theorem pairsV_one (x : Int) : pairsV [x] = [(x, 0)] := by simp [pairsV]
theorem pairsV_two (x y : Int) (r : List Int) : pairsV (x :: y :: r) = (x, y) :: pairsV r := by simp [pairsV]
def BP (p : Int × Int) : Prop := (0 ≤ p.1 ∧ p.1 ≤ 255) ∧ (0 ≤ p.2 ∧ p.2 ≤ 255)
theorem pairsV_bd : ∀ (xs : List Int), Byts xs → ∀ p ∈ pairsV xs, BP p
  | [], _, p, hp => by simp [pairsV] at hp
  | [x], h, p, hp => by
    simp [pairsV] at hp; subst hp
    exact ⟨h x (by simp), by simp, by simp⟩
  | x :: y :: r, h, p, hp => by
    rw [pairsV_two] at hp
    rcases List.mem_cons.1 hp with rfl | hp
    · exact ⟨h x (by simp), h y (by simp)⟩
    · exact pairsV_bd r (fun z hz => h z (by simp [hz])) p hp
theorem numP_bd {p : Int × Int} (h : BP p) : W16 (numP p) := by unfold BP at h; unfold W16 numP; omega

/-- All added to s. -/
def sumF (s : Int) (ps : List (Int × Int)) : Int := ps.foldl (fun s p => addV s (numP p)) s
theorem sumF_nil (s : Int) : sumF s [] = s := rfl
theorem sumF_cons (s : Int) (p : Int × Int) (ps : List (Int × Int)) : sumF s (p :: ps) = sumF (addV s (numP p)) ps := rfl
theorem sumF_snoc (s : Int) (ps : List (Int × Int)) (p : Int × Int) : sumF s (ps ++ [p]) = addV (sumF s ps) (numP p) := by simp [sumF]
theorem sumF_bd : ∀ (ps : List (Int × Int)) (s : Int), W16 s → (∀ p ∈ ps, BP p) → W16 (sumF s ps)
  | [], _, h, _ => h
  | p :: ps, s, h, hp => sumF_bd ps _ (addV_bd h (numP_bd (hp p (by simp)))) (fun q hq => hp q (by simp [hq]))
/-- The total of bytes. -/
def totV (xs : List Int) : Int := sumF 0 (pairsV xs)
theorem totV_bd {xs : List Int} (h : Byts xs) : W16 (totV xs) := sumF_bd _ _ (by unfold W16; omega) (pairsV_bd xs h)

/-- A sum behind changes. -/
def turnF (s : Int) (ps : List ((Int × Int) × (Int × Int))) : Int := ps.foldl (fun s q => turnV s (numP q.1) (numP q.2)) s
theorem turnF_cons (s : Int) (p : (Int × Int) × (Int × Int)) (ps : List ((Int × Int) × (Int × Int))) : turnF s (p :: ps) = turnF (turnV s (numP p.1) (numP p.2)) ps := rfl
theorem turnF_snoc (s : Int) (ps : List ((Int × Int) × (Int × Int))) (p : (Int × Int) × (Int × Int)) : turnF s (ps ++ [p]) = turnV (turnF s ps) (numP p.1) (numP p.2) := by simp [turnF]
theorem turnF_bd : ∀ (ps : List ((Int × Int) × (Int × Int))) (s : Int), W16 s → (∀ p ∈ ps, BP p.1 ∧ BP p.2) → W16 (turnF s ps)
  | [], _, h, _ => h
  | p :: ps, s, h, hp => turnF_bd ps _ (turnV_bd h (numP_bd (hp p (by simp)).1) (numP_bd (hp p (by simp)).2)) (fun q hq => hp q (by simp [hq]))
def patF (s : Int) (a b : List Int) : Int := turnF s ((pairsV a).zip (pairsV b))
theorem patF_bd {s : Int} {a b : List Int} (hs : W16 s) (ha : Byts a) (hb : Byts b) : W16 (patF s a b) :=
  turnF_bd _ _ hs fun _ hp => ⟨pairsV_bd a ha _ (List.of_mem_zip hp).1, pairsV_bd b hb _ (List.of_mem_zip hp).2⟩
/-- What Patch answers: the error, and the sum. -/
def patE (n m : Nat) : Int := if n = m ∧ n % 2 = 0 then 0 else 11
def patV (s : Int) (a b : List Int) : Int := if a.length = b.length ∧ a.length % 2 = 0 then patF s a b else 0

theorem drop_two (xs : List Int) (i : Nat) (h : i + 1 < xs.length) : xs.drop i = xs.getD i 0 :: xs.getD (i + 1) 0 :: xs.drop (i + 2) := by
  rw [List.drop_eq_getElem_cons (by omega), List.drop_eq_getElem_cons h]
  simp [List.getD, List.getElem?_eq_getElem (show i < xs.length by omega), List.getElem?_eq_getElem h]
theorem drop_one (xs : List Int) (i : Nat) (h : i + 1 = xs.length) : xs.drop i = [xs.getD i 0] := by
  rw [List.drop_eq_getElem_cons (by omega), List.drop_eq_nil_of_le (by omega)]
  simp [List.getD, List.getElem?_eq_getElem (show i < xs.length by omega)]
theorem pairsV_len : ∀ (xs : List Int), (pairsV xs).length = (xs.length + 1) / 2
  | [] => by simp [pairsV]
  | [x] => by simp [pairsV]
  | x :: y :: r => by rw [pairsV_two, List.length_cons, pairsV_len r]; simp; omega
/-- One pair more of was: its pair of now. -/
theorem zip_step : ∀ (pre : List (Int × Int)) (x : Int × Int) (ys : List Int), 2 * pre.length + 1 < ys.length → (pre ++ [x]).zip (pairsV ys) = pre.zip (pairsV ys) ++ [(x, (ys.getD (2 * pre.length) 0, ys.getD (2 * pre.length + 1) 0))]
  | [], x, ys, h => by
    match ys, h with
    | u :: v :: r, _ => simp [pairsV_two]
  | p :: pre, x, ys, h => by
    match ys, h with
    | u :: v :: r, h =>
      have ih := zip_step pre x r (by simp at h; omega)
      have e1 : 2 * (pre.length + 1) = 2 * pre.length + 2 := by omega
      simp only [pairsV_two, List.cons_append, List.zip_cons_cons, ih, List.length_cons, e1]
      rfl
end Go.Proofs.YtbefoapnlehdmaaDoor
