/-
  Contracts of what reads and lays numbers: two, four, layTwo, layFour, and the document's Num, Two, Four.
-/
import Derived.Test.YtbefoapnlehdmaaDoorSmall
import Derived.Test.YtbefoapnlehdmaaDoorCp
import Derived.Test.YtbefoapnlehdmaaDoorSLeaf
import Derived.Laws.BitsAllLaws
import Derived.Laws.BitsLemmas
namespace Go.Proofs.YtbefoapnlehdmaaDoor
open Go.RowKit

/-- The number of two bytes that stands ahead. -/
def num2 (xs : List Int) : Int := xs.getD 0 0 * 256 + xs.getD 1 0
/-- A number's two bytes. -/
def two2 (n : Int) : List Int := [n / 256, n % 256]
theorem two2_wf {n : Int} (h : 0 ≤ n ∧ n ≤ 65535) : ∀ x ∈ two2 n, (Lit.int .u8 x).wf = true := by
  intro x hx
  simp only [two2, List.mem_cons, List.not_mem_nil, or_false] at hx
  rcases hx with rfl | rfl <;> exact u8_mk (by omega)
/-- The number that stands ahead in bytes. -/
def num4 (xs : List Int) : Int := xs.getD 0 0 * 16777216 + xs.getD 1 0 * 65536 + xs.getD 2 0 * 256 + xs.getD 3 0
/-- A number's four bytes. -/
def four (n : Int) : List Int := [n / 16777216, n / 65536 % 256, n / 256 % 256, n % 256]
theorem four_wf {n : Int} (h : 0 ≤ n ∧ n < 4294967296) : ∀ x ∈ four n, (Lit.int .u8 x).wf = true := by
  intro x hx
  simp only [four, List.mem_cons, List.not_mem_nil, or_false] at hx
  rcases hx with rfl | rfl | rfl | rfl <;> exact u8_mk (by omega)
theorem or32 (x y : Int) (k p : Nat) (hp : (2 : Nat) ^ k = p) (hx : 0 ≤ x) (hy : 0 ≤ y) (hlt : y < (p : Int)) (h : x * (p : Int) + y < 4294967296) : bits .or .u32 (x * (p : Int)) y = x * (p : Int) + y := by
  obtain ⟨a, rfl⟩ := Int.eq_ofNat_of_zero_le hx
  obtain ⟨b, rfl⟩ := Int.eq_ofNat_of_zero_le hy
  have e0 : ((a : Int) * (p : Int)) = ((a * p : Nat) : Int) := by simp
  rw [e0] at h ⊢
  rw [u32_or _ _ (by omega) (by omega) (by omega) (by omega)]
  subst hp
  have e : (((a * 2 ^ k : Nat) : Int)).toNat = a <<< k := by rw [Nat.shiftLeft_eq]; omega
  rw [e, Int.toNat_natCast, ← Nat.shiftLeft_add_eq_or_of_lt (by omega), Nat.shiftLeft_eq]
  omega
/-- A call that leaves all memory as it was. -/
structure Still (w w' : World) : Prop where
  below : Below w.heap.size w w'
  heap : w'.heap = w.heap
theorem Still.drewN (w : World) (d : Nat) : Still w (w.drewN d) := ⟨below_drewN (Below.refl _ _) _, rfl⟩
/-- A call that draws alone. -/
def Draws (w w' : World) : Prop := ∃ m, w' = w.drewN m
theorem Draws.still {w w' : World} (h : Draws w w') : Still w w' := by
  obtain ⟨m, rfl⟩ := h
  exact Still.drewN w m
set_option maxHeartbeats 2000000 in
theorem two_any (A : Option Addr) (n c B : Nat) (xs : List Int) (w : World) (hr : Rd .u8 w B A n c xs) (h2 : 2 ≤ n) :
    Calls Tryd.prog 78 #[.slice A n c] w fun e w' => e = .returned (.int .u16 (num2 xs)) ∧ ∃ m, w' = w.drewN m := by
  obtain ⟨b, o, rfl, -, c0⟩ := hr.at_ (i := 0) (by omega)
  obtain ⟨b1, o1, e1, -, c1⟩ := hr.at_ (i := 1) (by omega)
  injection e1 with e1
  injection e1 with p1 q1
  subst p1 q1
  have hmax := hr.max
  have hcap := hr.cap
  have w0 := u8_bd (hr.wf (i := 0) (by omega))
  have w1 := u8_bd (hr.wf (i := 1) (by omega))
  unfold num2
  generalize xs.getD 0 0 = x0 at *
  generalize xs.getD 1 0 = x1 at *
  clear hr
  have v0 : IntKind.u16.wrap x0 = x0 := by rw [IntKind.wrap_u16]; omega
  have v1 : IntKind.u16.wrap x1 = x1 := by rw [IntKind.wrap_u16]; omega
  have u0 : IntKind.u16.wrap (x0 * 256) = x0 * 256 := by rw [IntKind.wrap_u16]; omega
  have o1 := or_two x0 x1 w0 w1
  have i0 : 0 < n := by omega
  rw [Nat.add_zero] at c0
  have i1 : (1 : Int) < (n : Int) := by omega
  go_enter Tryd.func78, Tryd.ntmps78
  go_wp2
  go_quiet (fail)
  go_wp2
  go_ret
  exact ⟨rfl, _, rfl⟩
theorem num2_bd {k : IntKind} {w : World} {B : Nat} {A : Option Addr} {n c : Nat} {xs : List Int} (hk : k = .u8) (hr : Rd k w B A n c xs) (h2 : 2 ≤ n) : 0 ≤ num2 xs ∧ num2 xs ≤ 65535 := by
  subst hk
  have w0 := u8_bd (hr.wf (i := 0) (by omega))
  have w1 := u8_bd (hr.wf (i := 1) (by omega))
  unfold num2
  omega
theorem num4_two (xs : List Int) : num4 xs = num2 xs * 65536 + num2 (xs.drop 2) := by
  have e0 : (xs.drop 2).getD 0 0 = xs.getD 2 0 := by simp [List.getD]
  have e1 : (xs.drop 2).getD 1 0 = xs.getD 3 0 := by simp [List.getD]
  unfold num4 num2
  rw [e0, e1]
  omega
set_option maxHeartbeats 2000000 in
theorem fourN_any (A : Option Addr) (n c B : Nat) (xs : List Int) (w : World) (hr : Rd .u8 w B A n c xs) (h4 : 4 ≤ n) :
    Calls Tryd.prog 79 #[.slice A n c] w fun e w' => e = .returned (.int .u32 (num4 xs)) ∧ ∃ m, w' = w.drewN m := by
  obtain ⟨b, o, rfl, -, c0⟩ := hr.at_ (i := 0) (by omega)
  clear c0
  have hmax := hr.max
  have hcap := hr.cap
  have hq := hr.cutFrom 2 (by omega)
  rw [cutA_ne (by omega)] at hq
  have w0 := num2_bd rfl hr (by omega)
  have w1 := num2_bd rfl hq (by omega)
  have t1 : ∀ m, Calls Tryd.prog 78 #[.slice (some ⟨b, o, none⟩) n c] (w.drewN m) fun e w' => e = .returned (.int .u16 (num2 xs)) ∧ ∃ m', w' = (w.drewN m).drewN m' := fun m => two_any _ n c B xs _ (hr.keep (fun _ _ => rfl)) (by omega)
  have t2 : ∀ m, Calls Tryd.prog 78 #[.slice (some ⟨b, o + 2, none⟩) (n - 2) (c - 2)] (w.drewN m) fun e w' => e = .returned (.int .u16 (num2 (xs.drop 2))) ∧ ∃ m', w' = (w.drewN m).drewN m' := fun m => by
    have := two_any _ (n - 2) (c - 2) B (xs.drop 2) (w.drewN m) (hq.keep (fun _ _ => rfl)) (by omega)
    simpa [Addr.add] using this
  rw [num4_two]
  generalize num2 xs = x at *
  generalize num2 (xs.drop 2) = y at *
  clear hr hq
  have v0 : IntKind.u32.wrap x = x := by rw [IntKind.wrap_u32]; omega
  have v1 : IntKind.u32.wrap y = y := by rw [IntKind.wrap_u32]; omega
  have u0 : IntKind.u32.wrap (x * 65536) = x * 65536 := by rw [IntKind.wrap_u32]; omega
  have o1 : bits .or .u32 (x * 65536) y = x * 65536 + y := or32 x y 16 65536 rfl (by omega) (by omega) (by omega) (by omega)
  have k2 : ¬ c = 2 := by omega
  have j2 : (2 : Int) ≤ (n : Int) := by omega
  go_enter Tryd.func79, Tryd.ntmps79
  go_wp2
  go_quiet (first | (go_at_call 78; with_reducible exact Calls.quiet_of (t1 _)) | (go_at_call 78; with_reducible exact Calls.quiet_of (t2 _)))
  go_wp2
  go_ret
  exact ⟨rfl, _, rfl⟩
set_option maxHeartbeats 2000000 in
theorem num_any (A : Option Addr) (n c B : Nat) (xs : List Int) (w : World) (hr : Rd .u8 w B A n c xs) (h4 : 4 ≤ n) :
    Calls Tryd.prog 80 #[.slice A n c] w fun e w' => e = .returned (.int .u32 (num4 xs)) ∧ Still w w' := by
  obtain ⟨b, o, rfl, -, c0⟩ := hr.at_ (i := 0) (by omega)
  obtain ⟨b1, o1, e1, -, c1⟩ := hr.at_ (i := 1) (by omega)
  injection e1 with e1
  injection e1 with p1 q1
  subst p1 q1
  obtain ⟨b2, o2, e2, -, c2⟩ := hr.at_ (i := 2) (by omega)
  injection e2 with e2
  injection e2 with p2 q2
  subst p2 q2
  obtain ⟨b3, o3, e3, -, c3⟩ := hr.at_ (i := 3) (by omega)
  injection e3 with e3
  injection e3 with p3 q3
  subst p3 q3
  have hmax := hr.max
  have hcap := hr.cap
  have w0 := u8_bd (hr.wf (i := 0) (by omega))
  have w1 := u8_bd (hr.wf (i := 1) (by omega))
  have w2 := u8_bd (hr.wf (i := 2) (by omega))
  have w3 := u8_bd (hr.wf (i := 3) (by omega))
  unfold num4
  generalize xs.getD 0 0 = x0 at *
  generalize xs.getD 1 0 = x1 at *
  generalize xs.getD 2 0 = x2 at *
  generalize xs.getD 3 0 = x3 at *
  clear hr
  have v0 : IntKind.u32.wrap x0 = x0 := by rw [IntKind.wrap_u32]; omega
  have v1 : IntKind.u32.wrap x1 = x1 := by rw [IntKind.wrap_u32]; omega
  have v2 : IntKind.u32.wrap x2 = x2 := by rw [IntKind.wrap_u32]; omega
  have v3 : IntKind.u32.wrap x3 = x3 := by rw [IntKind.wrap_u32]; omega
  have u0 : IntKind.u32.wrap (x0 * 16777216) = x0 * 16777216 := by rw [IntKind.wrap_u32]; omega
  have u1 : IntKind.u32.wrap (x1 * 65536) = x1 * 65536 := by rw [IntKind.wrap_u32]; omega
  have u2 : IntKind.u32.wrap (x2 * 256) = x2 * 256 := by rw [IntKind.wrap_u32]; omega
  have s1 : IntKind.u32.wrap (x0 * 16777216 + x1 * 65536) = x0 * 16777216 + x1 * 65536 := by rw [IntKind.wrap_u32]; omega
  have s2 : IntKind.u32.wrap (x0 * 16777216 + x1 * 65536 + x2 * 256) = x0 * 16777216 + x1 * 65536 + x2 * 256 := by rw [IntKind.wrap_u32]; omega
  have s3 : IntKind.u32.wrap (x0 * 16777216 + x1 * 65536 + x2 * 256 + x3) = x0 * 16777216 + x1 * 65536 + x2 * 256 + x3 := by rw [IntKind.wrap_u32]; omega
  have i0 : 0 < n := by omega
  rw [Nat.add_zero] at c0
  have i1 : (1 : Int) < (n : Int) := by omega
  have i2 : (2 : Int) < (n : Int) := by omega
  have i3 : (3 : Int) < (n : Int) := by omega
  go_enter Tryd.func80, Tryd.ntmps80
  go_wp2
  go_quiet (fail)
  go_wp2
  go_ret
  exact ⟨rfl, Still.drewN w _⟩
/-- A row of bytes of a call's own, known whole. -/
def GivesRow (w : World) (xs : List Int) (n : Nat) (ev : Ending) (w' : World) : Prop :=
  ∃ g, ev = .returned (.slice (some ⟨g, 0, none⟩) n n) ∧ Row w' g xs ∧ w.heap.size ≤ g ∧ Below w.heap.size w w'
set_option maxHeartbeats 1000000 in
theorem four_any (n : Int) (w : World) (hn : 0 ≤ n ∧ n < 4294967296) : Calls Tryd.prog 69 #[.int .u32 n] w (GivesRow w (four n) 4) := by
  go_enter Tryd.func69, Tryd.ntmps69
  go_wp2
  go_ret
  exact ⟨_, rfl, heap_alloc_new w _, Nat.le_refl _, alloc_below _ _⟩
set_option maxHeartbeats 1000000 in
theorem refTwo_any (n : Int) (w : World) (hn : 0 ≤ n ∧ n ≤ 65535) : Calls Tryd.prog 68 #[.int .i64 n] w (GivesRow w (two2 n) 2) := by
  have e1 : n / 256 % 256 = n / 256 := by omega
  have q1 : n.tdiv 256 = n / 256 := by rw [Int.tdiv_eq_ediv_of_nonneg (by omega)]
  have q2 : (n / 256).tmod 256 = n / 256 := by rw [Int.tmod_eq_emod_of_nonneg (by omega)]; exact e1
  have q3 : n.tmod 256 = n % 256 := by rw [Int.tmod_eq_emod_of_nonneg (by omega)]
  have v1 : IntKind.i64.wrap (n / 256) = n / 256 := by rw [IntKind.wrap_i64]; omega
  have v2 : IntKind.u8.wrap (n / 256) = n / 256 := by rw [IntKind.wrap_u8]; omega
  have v3 : IntKind.u8.wrap (n % 256) = n % 256 := by rw [IntKind.wrap_u8]; omega
  go_enter Tryd.func68, Tryd.ntmps68
  go_wp2
  go_ret
  refine ⟨_, rfl, ?_, Nat.le_refl _, alloc_below _ _⟩
  simpa [two2, Row] using heap_alloc_new w (.cells #[.int .u8 (n / 256), .int .u8 (n % 256)] 5)
theorem Only.setCell (g i : Nat) (W : World) (v : Value) : Only g W (W.setCell ⟨g, i, none⟩ v) :=
  ⟨(Below.refl g W).setCell (p := ⟨g, i, none⟩) (Nat.le_refl _) _, fun j hj => by simp [World.setCell, Array.getElem?_modify, Ne.symm hj], by simp⟩
theorem Only.trans {g : Nat} {w w' w'' : World} (h : Only g w w') (h' : Only g w' w'') : Only g w w'' := ⟨h.below.trans h'.below, fun j hj => (h'.other j hj).trans (h.other j hj), h'.size.trans h.size⟩
theorem set_splice2 (xs : List Int) (off : Nat) (a b : Int) (h : off + 2 ≤ xs.length) : (xs.set off a).set (off + 1) b = splice xs off [a, b] := by
  induction off generalizing xs with
  | zero =>
    match xs, h with
    | p :: q :: R, _ => simp [splice]
  | succ k ih =>
    cases xs with
    | nil => simp at h
    | cons y ys =>
      have := ih ys (by simp at h; omega)
      simp only [List.set_cons_succ]
      rw [this]
      simp [splice]
theorem splice_len (xs ys : List Int) (off : Nat) (h : off + ys.length ≤ xs.length) : (splice xs off ys).length = xs.length := by simp [splice]; omega
theorem splice_splice (xs : List Int) (off : Nat) (a b c d : Int) (h : off + 4 ≤ xs.length) : splice (splice xs off [a, b]) (off + 2) [c, d] = splice xs off [a, b, c, d] := by
  rw [← set_splice2 _ (off + 2) c d (by rw [splice_len _ _ _ (by simp; omega)]; omega), ← set_splice2 _ off a b (by omega)]
  induction off generalizing xs with
  | zero =>
    match xs, h with
    | p :: q :: r :: s :: R, _ => simp [splice]
  | succ k ih =>
    cases xs with
    | nil => simp at h
    | cons y ys =>
      have := ih ys (by simp at h; omega)
      rw [show k + 1 + 1 = (k + 1) + 1 from rfl, show k + 1 + 2 = (k + 2) + 1 from rfl]
      simp only [List.set_cons_succ]
      rw [show k + 2 + 1 = (k + 2) + 1 from rfl, this]
      simp [splice]
set_option maxHeartbeats 1000000 in
theorem layTwo_any (g off n c : Nat) (xs : List Int) (k : Int) (w : World) (hrow : Row w g xs) (h4 : off + 2 ≤ xs.length) (hn : 2 ≤ n) (hip : 0 ≤ k ∧ k ≤ 65535) :
    Calls Tryd.prog 66 #[.slice (some ⟨g, off, none⟩) n c, .int .u16 k] w fun e w' => e = .returned (.tuple #[]) ∧ Row w' g (splice xs off (two2 k)) ∧ Only g w w' := by
  have i0 : 0 < n := by omega
  have i1 : (1 : Int) < (n : Int) := by omega
  have c0 := hrow.cell (i := off) (by omega)
  have c1 := hrow.cell (i := off + 1) (by omega)
  have z0 := hrow.frozen off
  have z1 := hrow.frozen (off + 1)
  have e1 : IntKind.u8.wrap (k / 256) = k / 256 := by rw [IntKind.wrap_u8]; omega
  have e2 : IntKind.u8.wrap k = k % 256 := by rw [IntKind.wrap_u8]
  go_enter Tryd.func66, Tryd.ntmps66
  go_wp2
  refine bodyPost_end (v := .tuple #[]) (by simp [results, Tryd.results66, go_sem]) rfl ?_
  refine ⟨rfl, ?_, (Only.setCell g off w _).trans (Only.setCell g (off + 1) _ _)⟩
  have := (hrow.set off (k / 256)).set (off + 1) (k % 256)
  rwa [set_splice2 _ _ _ _ h4] at this
set_option maxHeartbeats 1000000 in
theorem layFour_any (g off n c : Nat) (xs : List Int) (ip : Int) (w : World) (hrow : Row w g xs) (h4 : off + 4 ≤ xs.length) (hn : 4 ≤ n) (hc : n ≤ c) (hip : 0 ≤ ip ∧ ip < 4294967296) :
    Calls Tryd.prog 67 #[.slice (some ⟨g, off, none⟩) n c, .int .u32 ip] w fun e w' => e = .returned (.tuple #[]) ∧ Row w' g (splice xs off (four ip)) ∧ Only g w w' := by
  have e1 : IntKind.u16.wrap (ip / 65536) = ip / 65536 := by rw [IntKind.wrap_u16]; omega
  have e2 : IntKind.u16.wrap ip = ip % 65536 := by rw [IntKind.wrap_u16]
  have k2 : ¬ c = 2 := by omega
  have j2 : (2 : Int) ≤ (n : Int) := by omega
  go_enter Tryd.func67, Tryd.ntmps67
  go_wp2_with fail
  with_reducible refine (layTwo_any g off n c xs (ip / 65536) _ hrow (by omega) (by omega) (by omega)).mono ?_
  rintro e w1 ⟨rfl, hrow1, ho1⟩
  go_wp2_with fail
  with_reducible refine (layTwo_any g (off + 2) (n - 2) (c - 2) _ (ip % 65536) _ hrow1 (by rw [splice_len _ _ _ (by simp [two2]; omega)]; omega) (by omega) (by omega)).mono ?_
  rintro e w2 ⟨rfl, hrow2, ho2⟩
  go_wp2
  refine bodyPost_end (v := .tuple #[]) (by simp [results, Tryd.results67, go_sem]) rfl ?_
  refine ⟨rfl, ?_, ho1.trans ho2⟩
  unfold two2 at hrow2
  rw [splice_splice _ _ _ _ _ _ h4] at hrow2
  have f1 : ip / 65536 / 256 = ip / 16777216 := by omega
  have f2 : ip / 65536 % 256 = ip / 65536 % 256 := rfl
  have f3 : ip % 65536 / 256 = ip / 256 % 256 := by omega
  have f4 : ip % 65536 % 256 = ip % 256 := by omega
  rw [f1, f3, f4] at hrow2
  exact hrow2
end Go.Proofs.YtbefoapnlehdmaaDoor
