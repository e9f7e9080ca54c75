/-
  Totals by residues of 65,535, and the two noughts. Plain arithmetic.
-/
import Derived.Test.YtbefoapnlehdmaaDoorSNum
namespace Go.Proofs.YtbefoapnlehdmaaDoor

/-- The number of 16 bits to which a sum of such numbers comes. -/
def red (n : Int) : Int := if n ≤ 0 then 0 else (n - 1) % 65535 + 1
theorem red_bd (n : Int) : W16 (red n) := by unfold red W16; split <;> omega
theorem red_id {n : Int} (h : W16 n) : red n = n := by unfold red; unfold W16 at h; split <;> omega
theorem addV_red {a b : Int} (ha : W16 a) (hb : W16 b) : addV a b = red (a + b) := by unfold addV red; unfold W16 at *; split <;> split <;> omega
theorem red_add {x y : Int} (hx : 0 ≤ x) (hy : 0 ≤ y) : red (red x + y) = red (x + y) := by unfold red; split <;> split <;> split <;> omega
theorem red_pos {n : Int} (h : 0 < n) : 0 < red n := by unfold red; split <;> omega
theorem red_mul {x : Int} (h : 0 < x) (m : Nat) : red (x + 65535 * (m : Int)) = red x := by unfold red; split <;> split <;> omega
theorem red_mod (n : Int) (h : 0 ≤ n) : red n % 65535 = n % 65535 := by unfold red; split <;> omega
theorem red_full {n : Int} (h : 0 < n) : red n = 65535 ↔ n % 65535 = 0 := by unfold red; split <;> omega

/-- The plain sum of pairs. -/
def plain : List (Int × Int) → Int
  | [] => 0
  | p :: ps => numP p + plain ps
theorem plain_append : ∀ (a b : List (Int × Int)), plain (a ++ b) = plain a + plain b
  | [], b => by simp [plain]
  | p :: a, b => by rw [List.cons_append, plain, plain, plain_append a b]; omega
theorem plain_nn : ∀ (ps : List (Int × Int)), (∀ p ∈ ps, BP p) → 0 ≤ plain ps
  | [], _ => by simp [plain]
  | p :: ps, h => by
    have h1 := numP_bd (h p (by simp))
    have h2 := plain_nn ps (fun q hq => h q (by simp [hq]))
    unfold W16 at h1
    rw [plain]; omega
theorem sumF_red : ∀ (ps : List (Int × Int)) (s : Int), W16 s → (∀ p ∈ ps, BP p) → sumF s ps = red (s + plain ps)
  | [], s, hs, _ => by rw [sumF_nil, plain, Int.add_zero, red_id hs]
  | p :: ps, s, hs, hp => by
    have h1 := numP_bd (hp p (by simp))
    have h2 := plain_nn ps (fun q hq => hp q (by simp [hq]))
    rw [sumF_cons, sumF_red ps _ (addV_bd hs h1) (fun q hq => hp q (by simp [hq])), addV_red hs h1, plain]
    unfold W16 at hs h1
    rw [red_add (by omega) h2, Int.add_assoc]
/-- The plain sum of bytes, two by two. -/
def S (xs : List Int) : Int := plain (pairsV xs)
theorem S_nn {xs : List Int} (h : Byts xs) : 0 ≤ S xs := plain_nn _ (pairsV_bd xs h)
theorem totV_red {xs : List Int} (h : Byts xs) : totV xs = red (S xs) := by
  have := sumF_red (pairsV xs) 0 (by unfold W16; omega) (pairsV_bd xs h)
  rw [Int.zero_add] at this
  exact this

theorem pairsV_append : ∀ (a b : List Int), a.length % 2 = 0 → pairsV (a ++ b) = pairsV a ++ pairsV b
  | [], b, _ => by simp [pairsV]
  | [x], b, h => by simp at h
  | x :: y :: r, b, h => by
    rw [List.cons_append, List.cons_append, pairsV_two, pairsV_two, pairsV_append r b (by simp at h; omega), List.cons_append]
theorem S_append (a b : List Int) (h : a.length % 2 = 0) : S (a ++ b) = S a + S b := by unfold S; rw [pairsV_append a b h, plain_append]
theorem Byts.app {a b : List Int} (ha : Byts a) (hb : Byts b) : Byts (a ++ b) := fun x hx => (List.mem_append.1 hx).elim (ha x) (hb x)
theorem totV_append {a b : List Int} (ha : Byts a) (hb : Byts b) (h : a.length % 2 = 0) : totV (a ++ b) = addV (totV a) (totV b) := by
  rw [addV_red (totV_bd ha) (totV_bd hb), totV_red (ha.app hb), totV_red ha, totV_red hb, S_append a b h]
  rw [red_add (S_nn ha) (red_bd _).1, Int.add_comm (S a) (red (S b)), red_add (S_nn hb) (S_nn ha), Int.add_comm]
theorem addV_comm (a b : Int) : addV a b = addV b a := by unfold addV; rw [Int.add_comm]
theorem pairsV_odd : ∀ (a : List Int), a.length % 2 = 1 → pairsV (a ++ [0]) = pairsV a
  | [], h => by simp at h
  | [x], _ => by simp [pairsV]
  | x :: y :: r, h => by rw [List.cons_append, List.cons_append, pairsV_two, pairsV_two, pairsV_odd r (by simp at h; omega)]
theorem totV_odd {a : List Int} (h : a.length % 2 = 1) : totV (a ++ [0]) = totV a := by unfold totV; rw [pairsV_odd a h]

/-- What changes come to. -/
def delta : List ((Int × Int) × (Int × Int)) → Int
  | [] => 0
  | q :: qs => (65535 - numP q.1 + numP q.2) + delta qs
theorem delta_nn : ∀ (qs : List ((Int × Int) × (Int × Int))), (∀ q ∈ qs, BP q.1 ∧ BP q.2) → 0 ≤ delta qs
  | [], _ => by simp [delta]
  | q :: qs, h => by
    have h1 := numP_bd (h q (by simp)).1
    have h3 := numP_bd (h q (by simp)).2
    have h2 := delta_nn qs (fun r hr => h r (by simp [hr]))
    unfold W16 at h1 h3
    rw [delta]; omega
theorem turnF_red : ∀ (qs : List ((Int × Int) × (Int × Int))) (s : Int), W16 s → (∀ q ∈ qs, BP q.1 ∧ BP q.2) → 65535 - turnF s qs = red ((65535 - s) + delta qs)
  | [], s, hs, _ => by
    have h1 : turnF s [] = s := rfl
    rw [h1, delta, Int.add_zero, red_id (flip_bd hs)]
  | q :: qs, s, hs, hq => by
    have h1 := numP_bd (hq q (by simp)).1
    have h3 := numP_bd (hq q (by simp)).2
    have h2 := delta_nn qs (fun r hr => hq r (by simp [hr]))
    rw [turnF_cons, turnF_red qs _ (turnV_bd hs h1 h3) (fun r hr => hq r (by simp [hr])), delta]
    unfold turnV
    rw [addV_red (addV_bd (flip_bd hs) (flip_bd h1)) h3, addV_red (flip_bd hs) (flip_bd h1)]
    unfold W16 at hs h1 h3
    rw [red_add (by omega) h3.1]
    have e : 65535 - (65535 - red (65535 - s + (65535 - numP q.1) + numP q.2)) = red (65535 - s + (65535 - numP q.1) + numP q.2) := by omega
    rw [e, red_add (by omega) h2]
    congr 1
    omega
theorem delta_zip : ∀ (a b : List (Int × Int)), a.length = b.length → delta (a.zip b) = 65535 * (a.length : Int) - plain a + plain b
  | [], [], _ => by simp [delta, plain]
  | p :: a, q :: b, h => by
    have ih := delta_zip a b (by simpa using h)
    rw [List.zip_cons_cons, delta, ih, plain, plain]
    simp only [List.length_cons]
    omega
  | [], _ :: _, h => by simp at h
  | _ :: _, [], h => by simp at h
theorem zip_bp {a b : List Int} (ha : Byts a) (hb : Byts b) : ∀ q ∈ (pairsV a).zip (pairsV b), BP q.1 ∧ BP q.2 := fun _ hq => ⟨pairsV_bd a ha _ (List.of_mem_zip hq).1, pairsV_bd b hb _ (List.of_mem_zip hq).2⟩
theorem patF_red {s : Int} {a b : List Int} (hs : W16 s) (ha : Byts a) (hb : Byts b) (hl : a.length = b.length) : 65535 - patF s a b = red ((65535 - s) + (65535 * ((pairsV a).length : Int) - S a + S b)) := by
  unfold patF
  rw [turnF_red _ _ hs (zip_bp ha hb), delta_zip _ _ (by rw [pairsV_len, pairsV_len, hl])]
  rfl
/-- The sum of changed bytes is the sum that was, patched. -/
theorem patch_law {l o r m : List Int} (hl : Byts l) (ho : Byts o) (hr : Byts r) (hm : Byts m) (h1 : l.length % 2 = 0) (h2 : o.length % 2 = 0) (h3 : o.length = m.length) (hb : 0 < S (l ++ o ++ r)) (hc : 0 < S (l ++ m ++ r)) :
    patF (65535 - totV (l ++ o ++ r)) o m = 65535 - totV (l ++ m ++ r) := by
  have b1 := (hl.app ho).app hr
  have b2 := (hl.app hm).app hr
  have e := patF_red (flip_bd (totV_bd b1)) ho hm h3
  have s1 : S (l ++ o ++ r) = S l + S o + S r := by rw [S_append _ _ (by simp; omega), S_append _ _ h1]
  have s2 : S (l ++ m ++ r) = S l + S m + S r := by rw [S_append _ _ (by simp; omega), S_append _ _ h1]
  have e2 : 65535 - (65535 - totV (l ++ o ++ r)) = red (S (l ++ o ++ r)) := by rw [totV_red b1]; omega
  have nn : 0 ≤ 65535 * ((pairsV o).length : Int) - S o + S m := by
    have := delta_nn _ (zip_bp ho hm)
    rw [delta_zip _ _ (by rw [pairsV_len, pairsV_len, h3])] at this
    exact this
  rw [e2, red_add (by omega) nn] at e
  have e3 : S (l ++ o ++ r) + (65535 * ((pairsV o).length : Int) - S o + S m) = S (l ++ m ++ r) + 65535 * ((pairsV o).length : Int) := by omega
  rw [e3, red_mul hc] at e
  rw [totV_red b2]
  omega
/-- Not all are 0: the plain sum is no 0; and back. -/
theorem S_zero : ∀ (xs : List Int), Byts xs → (S xs = 0 ↔ ∀ x ∈ xs, x = 0)
  | [], _ => by simp [S, plain, pairsV]
  | [x], h => by
    have := h x (by simp)
    simp [S, plain, pairsV, numP]
    omega
  | x :: y :: r, h => by
    have hx := h x (by simp)
    have hy := h y (by simp)
    have hr : Byts r := fun z hz => h z (by simp [hz])
    have ih := S_zero r hr
    have hn := S_nn hr
    have e : S (x :: y :: r) = x * 256 + y + S r := by unfold S; rw [pairsV_two, plain, numP]
    rw [e]
    constructor
    · intro h0
      have h1 : x = 0 := by omega
      have h2 : y = 0 := by omega
      have h3 := ih.1 (by omega)
      intro z hz
      rcases List.mem_cons.1 hz with rfl | hz
      · exact h1
      · rcases List.mem_cons.1 hz with rfl | hz
        · exact h2
        · exact h3 z hz
    · intro h0
      have h1 := h0 x (by simp)
      have h2 := h0 y (by simp)
      have h3 := ih.2 (fun z hz => h0 z (by simp [hz]))
      omega
/-- One byte is another now. -/
theorem S_set : ∀ (xs : List Int) (i : Nat) (v : Int), i < xs.length → S (xs.set i v) = S xs + (v - xs.getD i 0) * (if i % 2 = 0 then 256 else 1)
  | [], i, v, h => by simp at h
  | [x], i, v, h => by
    obtain rfl : i = 0 := by simpa using h
    simp [S, plain, pairsV, numP]; omega
  | x :: y :: r, 0, v, _ => by
    show S (v :: y :: r) = _
    unfold S
    rw [pairsV_two, pairsV_two, plain, plain, numP, numP]
    simp; omega
  | x :: y :: r, 1, v, _ => by
    show S (x :: v :: r) = _
    unfold S
    rw [pairsV_two, pairsV_two, plain, plain, numP, numP]
    simp; omega
  | x :: y :: r, i + 2, v, h => by
    have ih := S_set r i v (by simp at h; omega)
    have e1 : S (x :: y :: r) = x * 256 + y + S r := by unfold S; rw [pairsV_two, plain, numP]
    have e2 : S ((x :: y :: r).set (i + 2) v) = x * 256 + y + S (r.set i v) := by
      show S (x :: y :: r.set i v) = _
      unfold S; rw [pairsV_two, plain, numP]
    have e3 : (x :: y :: r).getD (i + 2) 0 = r.getD i 0 := rfl
    have e4 : (i + 2) % 2 = i % 2 := by omega
    rw [e1, e2, e3, e4, ih]
    omega
theorem Byts.set {xs : List Int} (h : Byts xs) (i : Nat) {v : Int} (hv : 0 ≤ v ∧ v ≤ 255) : Byts (xs.set i v) := fun x hx => by
  rcases List.mem_or_eq_of_mem_set hx with hx | rfl
  · exact h x hx
  · exact hv
theorem getD_set_ne (xs : List Int) (i j : Nat) (v : Int) (h : i ≠ j) : (xs.set i v).getD j 0 = xs.getD j 0 := by simp [List.getD, h]
theorem getD_set_eq (xs : List Int) (i : Nat) (v : Int) (h : i < xs.length) : (xs.set i v).getD i 0 = v := by simp [List.getD, h]
/-- Bytes with their sum among them. -/
theorem own_law {xs : List Int} (hx : Byts xs) (a : Nat) (ha : a % 2 = 0) (hl : a + 1 < xs.length) (z0 : xs.getD a 0 = 0) (z1 : xs.getD (a + 1) 0 = 0) {n p q : Int} (hn : n = 65535 - totV xs) (hp : n = p * 256 + q) (bp : 0 ≤ p ∧ p ≤ 255) (bq : 0 ≤ q ∧ q ≤ 255) :
    totV ((xs.set a p).set (a + 1) q) = 65535 := by
  have b1 := (hx.set a bp).set (a + 1) bq
  have e1 := S_set xs a p (by omega)
  have e2 := S_set (xs.set a p) (a + 1) q (by simpa using hl)
  rw [getD_set_ne xs a (a + 1) p (by omega), z1, if_neg (by omega)] at e2
  rw [z0, if_pos ha] at e1
  have h1 := red_bd (S xs)
  have h2 := red_mod (S xs) (S_nn hx)
  have h3 := S_nn hx
  rw [totV_red hx] at hn
  rw [totV_red b1]
  unfold W16 at h1
  have h6 : 0 < S ((xs.set a p).set (a + 1) q) := by
    by_cases h0 : S xs = 0
    · have h7 : red (S xs) = 0 := by rw [h0]; rfl
      omega
    · omega
  rw [red_full h6]
  omega
theorem own_no {xs : List Int} (hx : Byts xs) (h : totV xs = 65535) (i : Nat) (hi : i < xs.length) {v : Int} (hv : 0 ≤ v ∧ v ≤ 255) (hne : v ≠ xs.getD i 0) : ¬ totV (xs.set i v) = 65535 := by
  have b1 := hx.set i hv
  have e1 := S_set xs i v hi
  have h3 := S_nn hx
  have h3' := S_nn b1
  have hg : 0 ≤ xs.getD i 0 ∧ xs.getD i 0 ≤ 255 := by
    have : xs.getD i 0 = xs[i] := by simp [List.getD, List.getElem?_eq_getElem hi]
    rw [this]; exact hx _ (List.getElem_mem _)
  rw [totV_red hx] at h
  rw [totV_red b1]
  have z : ∀ n : Int, 0 ≤ n → red n = 65535 → n % 65535 = 0 := fun n hn h => by have := red_mod n hn; rw [h] at this; omega
  have h5 := z _ h3 h
  intro h6
  have h7 := z _ h3' h6
  rw [e1] at h7
  split at h7 <;> omega

/-- Changes one by one, and at once. -/
theorem patF_cut {s : Int} {a b : List Int} {k : Nat} (hk : k % 2 = 0) (ha : k ≤ a.length) (hb : k ≤ b.length) : patF s a b = patF (patF s (a.take k) (b.take k)) (a.drop k) (b.drop k) := by
  have l1 : (a.take k).length = k := by simp; omega
  have l2 : (b.take k).length = k := by simp; omega
  have e1 : pairsV a = pairsV (a.take k) ++ pairsV (a.drop k) := by rw [← pairsV_append _ _ (by rw [l1]; exact hk), List.take_append_drop]
  have e2 : pairsV b = pairsV (b.take k) ++ pairsV (b.drop k) := by rw [← pairsV_append _ _ (by rw [l2]; exact hk), List.take_append_drop]
  unfold patF
  rw [e1, e2, List.zip_append (by rw [pairsV_len, pairsV_len, l1, l2])]
  unfold turnF
  rw [List.foldl_append]
theorem back_law {s : Int} {a b : List Int} (hs : W16 s) (ha : Byts a) (hb : Byts b) (hl : a.length = b.length) : patF (patF s a b) b a % 65535 = s % 65535 := by
  have hw := patF_bd hs ha hb
  have e1 := patF_red hs ha hb hl
  have e2 := patF_red hw hb ha hl.symm
  have hw2 := patF_bd hw hb ha
  have n1 : 0 ≤ 65535 * ((pairsV a).length : Int) - S a + S b := by
    have := delta_nn _ (zip_bp ha hb)
    rw [delta_zip _ _ (by rw [pairsV_len, pairsV_len, hl])] at this
    exact this
  have n2 : 0 ≤ 65535 * ((pairsV b).length : Int) - S b + S a := by
    have := delta_nn _ (zip_bp hb ha)
    rw [delta_zip _ _ (by rw [pairsV_len, pairsV_len, hl])] at this
    exact this
  unfold W16 at hs hw hw2
  have m1 := red_mod (65535 - s + (65535 * ((pairsV a).length : Int) - S a + S b)) (by omega)
  have m2 := red_mod (65535 - patF s a b + (65535 * ((pairsV b).length : Int) - S b + S a)) (by omega)
  rw [← e1] at m1
  rw [← e2] at m2
  omega
theorem turn_same {s a : Int} (hs : W16 s) (ha : W16 a) : turnV s a a % 65535 = s % 65535 := by
  have h1 := flip_bd ha
  unfold turnV addV
  unfold W16 at hs h1
  split <;> split <;> omega
theorem add_zero {s : Int} (hs : W16 s) : addV s 0 = s := by unfold addV; unfold W16 at hs; split <;> omega
end Go.Proofs.YtbefoapnlehdmaaDoor
