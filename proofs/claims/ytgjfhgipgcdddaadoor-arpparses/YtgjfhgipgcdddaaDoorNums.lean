/-
  Contracts of what reads and lays numbers: ipOf, layIp, and the document's Head, Num, Four.
-/
import Derived.Test.YtgjfhgipgcdddaaDoorSmall
import Derived.Test.YtgjfhgipgcdddaaDoorCp
import Derived.Laws.BitsAllLaws
import Derived.Laws.BitsLemmas
namespace Go.Proofs.YtgjfhgipgcdddaaDoor
open Go.RowKit

/-- The number that stands ahead in bytes. -/
def num4 (xs : List Int) : Int := xs.getD 0 0 * 16777216 + xs.getD 1 0 * 65536 + xs.getD 2 0 * 256 + xs.getD 3 0
/-- A number's four bytes. -/
def four (n : Int) : List Int := [n / 16777216, n / 65536 % 256, n / 256 % 256, n % 256]
def head6 : List Int := [0, 1, 8, 0, 6, 4]
theorem head6_wf : ∀ x ∈ head6, (Lit.int .u8 x).wf = true := by decide
theorem four_wf {n : Int} (h : 0 ≤ n ∧ n < 4294967296) : ∀ x ∈ four n, (Lit.int .u8 x).wf = true := by
  intro x hx
  simp only [four, List.mem_cons, List.not_mem_nil, or_false] at hx
  rcases hx with rfl | rfl | rfl | rfl <;> exact u8_mk (by omega)
theorem or32 (x y : Int) (k p : Nat) (hp : (2 : Nat) ^ k = p) (hx : 0 ≤ x) (hy : 0 ≤ y) (hlt : y < (p : Int)) (h : x * (p : Int) + y < 4294967296) : bits .or .u32 (x * (p : Int)) y = x * (p : Int) + y := by
  obtain ⟨a, rfl⟩ := Int.eq_ofNat_of_zero_le hx
  obtain ⟨b, rfl⟩ := Int.eq_ofNat_of_zero_le hy
  have e0 : ((a : Int) * (p : Int)) = ((a * p : Nat) : Int) := by simp
  rw [e0] at h ⊢
  rw [u32_or _ _ (by omega) (by omega) (by omega) (by omega)]
  subst hp
  have e : (((a * 2 ^ k : Nat) : Int)).toNat = a <<< k := by rw [Nat.shiftLeft_eq]; omega
  rw [e, Int.toNat_natCast, ← Nat.shiftLeft_add_eq_or_of_lt (by omega), Nat.shiftLeft_eq]
  omega
/-- A call that leaves all memory as it was. -/
structure Still (w w' : World) : Prop where
  below : Below w.heap.size w w'
  heap : w'.heap = w.heap
theorem Still.drewN (w : World) (d : Nat) : Still w (w.drewN d) := ⟨below_drewN (Below.refl _ _) _, rfl⟩
set_option maxHeartbeats 2000000 in
theorem ipOf_any (A : Option Addr) (n c B : Nat) (xs : List Int) (w : World) (hr : Rd .u8 w B A n c xs) (h4 : 4 ≤ n) :
    Calls Tryd.prog 23 #[.slice A n c] w fun e w' => e = .returned (.int .u32 (num4 xs)) ∧ Still w w' := by
  obtain ⟨b, o, rfl, -, c0⟩ := hr.at_ (i := 0) (by omega)
  obtain ⟨b1, o1, e1, -, c1⟩ := hr.at_ (i := 1) (by omega)
  injection e1 with e1
  injection e1 with p1 q1
  subst p1 q1
  obtain ⟨b2, o2, e2, -, c2⟩ := hr.at_ (i := 2) (by omega)
  injection e2 with e2
  injection e2 with p2 q2
  subst p2 q2
  obtain ⟨b3, o3, e3, -, c3⟩ := hr.at_ (i := 3) (by omega)
  injection e3 with e3
  injection e3 with p3 q3
  subst p3 q3
  have hmax := hr.max
  have hcap := hr.cap
  have w0 := u8_bd (hr.wf (i := 0) (by omega))
  have w1 := u8_bd (hr.wf (i := 1) (by omega))
  have w2 := u8_bd (hr.wf (i := 2) (by omega))
  have w3 := u8_bd (hr.wf (i := 3) (by omega))
  unfold num4
  generalize xs.getD 0 0 = x0 at *
  generalize xs.getD 1 0 = x1 at *
  generalize xs.getD 2 0 = x2 at *
  generalize xs.getD 3 0 = x3 at *
  clear hr
  have v0 : IntKind.u32.wrap x0 = x0 := by rw [IntKind.wrap_u32]; omega
  have v1 : IntKind.u32.wrap x1 = x1 := by rw [IntKind.wrap_u32]; omega
  have v2 : IntKind.u32.wrap x2 = x2 := by rw [IntKind.wrap_u32]; omega
  have v3 : IntKind.u32.wrap x3 = x3 := by rw [IntKind.wrap_u32]; omega
  have u0 : IntKind.u32.wrap (x0 * 16777216) = x0 * 16777216 := by rw [IntKind.wrap_u32]; omega
  have u1 : IntKind.u32.wrap (x1 * 65536) = x1 * 65536 := by rw [IntKind.wrap_u32]; omega
  have u2 : IntKind.u32.wrap (x2 * 256) = x2 * 256 := by rw [IntKind.wrap_u32]; omega
  have o1 : bits .or .u32 (x0 * 16777216) (x1 * 65536) = x0 * 16777216 + x1 * 65536 := or32 x0 (x1 * 65536) 24 16777216 rfl (by omega) (by omega) (by omega) (by omega)
  have o2 : bits .or .u32 (x0 * 16777216 + x1 * 65536) (x2 * 256) = x0 * 16777216 + x1 * 65536 + x2 * 256 := by
    have := or32 (x0 * 256 + x1) (x2 * 256) 16 65536 rfl (by omega) (by omega) (by omega) (by omega)
    have e : (x0 * 256 + x1) * ((65536 : Nat) : Int) = x0 * 16777216 + x1 * 65536 := by omega
    rwa [e] at this
  have o3 : bits .or .u32 (x0 * 16777216 + x1 * 65536 + x2 * 256) x3 = x0 * 16777216 + x1 * 65536 + x2 * 256 + x3 := by
    have := or32 (x0 * 65536 + x1 * 256 + x2) x3 8 256 rfl (by omega) (by omega) (by omega) (by omega)
    have e : (x0 * 65536 + x1 * 256 + x2) * ((256 : Nat) : Int) = x0 * 16777216 + x1 * 65536 + x2 * 256 := by omega
    rwa [e] at this
  have i0 : 0 < n := by omega
  rw [Nat.add_zero] at c0
  have i1 : (1 : Int) < (n : Int) := by omega
  have i2 : (2 : Int) < (n : Int) := by omega
  have i3 : (3 : Int) < (n : Int) := by omega
  go_enter Tryd.func23, Tryd.ntmps23
  go_wp2
  go_quiet (fail)
  go_wp2
  go_ret
  exact ⟨rfl, Still.drewN w _⟩
set_option maxHeartbeats 2000000 in
theorem num_any (A : Option Addr) (n c B : Nat) (xs : List Int) (w : World) (hr : Rd .u8 w B A n c xs) (h4 : 4 ≤ n) :
    Calls Tryd.prog 28 #[.slice A n c] w fun e w' => e = .returned (.int .u32 (num4 xs)) ∧ Still w w' := by
  obtain ⟨b, o, rfl, -, c0⟩ := hr.at_ (i := 0) (by omega)
  obtain ⟨b1, o1, e1, -, c1⟩ := hr.at_ (i := 1) (by omega)
  injection e1 with e1
  injection e1 with p1 q1
  subst p1 q1
  obtain ⟨b2, o2, e2, -, c2⟩ := hr.at_ (i := 2) (by omega)
  injection e2 with e2
  injection e2 with p2 q2
  subst p2 q2
  obtain ⟨b3, o3, e3, -, c3⟩ := hr.at_ (i := 3) (by omega)
  injection e3 with e3
  injection e3 with p3 q3
  subst p3 q3
  have hmax := hr.max
  have hcap := hr.cap
  have w0 := u8_bd (hr.wf (i := 0) (by omega))
  have w1 := u8_bd (hr.wf (i := 1) (by omega))
  have w2 := u8_bd (hr.wf (i := 2) (by omega))
  have w3 := u8_bd (hr.wf (i := 3) (by omega))
  unfold num4
  generalize xs.getD 0 0 = x0 at *
  generalize xs.getD 1 0 = x1 at *
  generalize xs.getD 2 0 = x2 at *
  generalize xs.getD 3 0 = x3 at *
  clear hr
  have v0 : IntKind.u32.wrap x0 = x0 := by rw [IntKind.wrap_u32]; omega
  have v1 : IntKind.u32.wrap x1 = x1 := by rw [IntKind.wrap_u32]; omega
  have v2 : IntKind.u32.wrap x2 = x2 := by rw [IntKind.wrap_u32]; omega
  have v3 : IntKind.u32.wrap x3 = x3 := by rw [IntKind.wrap_u32]; omega
  have u0 : IntKind.u32.wrap (x0 * 16777216) = x0 * 16777216 := by rw [IntKind.wrap_u32]; omega
  have u1 : IntKind.u32.wrap (x1 * 65536) = x1 * 65536 := by rw [IntKind.wrap_u32]; omega
  have u2 : IntKind.u32.wrap (x2 * 256) = x2 * 256 := by rw [IntKind.wrap_u32]; omega
  have s1 : IntKind.u32.wrap (x0 * 16777216 + x1 * 65536) = x0 * 16777216 + x1 * 65536 := by rw [IntKind.wrap_u32]; omega
  have s2 : IntKind.u32.wrap (x0 * 16777216 + x1 * 65536 + x2 * 256) = x0 * 16777216 + x1 * 65536 + x2 * 256 := by rw [IntKind.wrap_u32]; omega
  have s3 : IntKind.u32.wrap (x0 * 16777216 + x1 * 65536 + x2 * 256 + x3) = x0 * 16777216 + x1 * 65536 + x2 * 256 + x3 := by rw [IntKind.wrap_u32]; omega
  have i0 : 0 < n := by omega
  rw [Nat.add_zero] at c0
  have i1 : (1 : Int) < (n : Int) := by omega
  have i2 : (2 : Int) < (n : Int) := by omega
  have i3 : (3 : Int) < (n : Int) := by omega
  go_enter Tryd.func28, Tryd.ntmps28
  go_wp2
  go_quiet (fail)
  go_wp2
  go_ret
  exact ⟨rfl, Still.drewN w _⟩
/-- A row of bytes of a call's own, known whole. -/
def GivesRow (w : World) (xs : List Int) (n : Nat) (ev : Ending) (w' : World) : Prop :=
  ∃ g, ev = .returned (.slice (some ⟨g, 0, none⟩) n n) ∧ Row w' g xs ∧ w.heap.size ≤ g ∧ Below w.heap.size w w'
theorem head_any (w : World) : Calls Tryd.prog 27 #[] w (GivesRow w head6 6) := by
  go_enter Tryd.func27, Tryd.ntmps27
  go_wp2
  go_ret
  exact ⟨_, rfl, heap_alloc_new w _, Nat.le_refl _, alloc_below _ _⟩
set_option maxHeartbeats 1000000 in
theorem four_any (n : Int) (w : World) (hn : 0 ≤ n ∧ n < 4294967296) : Calls Tryd.prog 32 #[.int .u32 n] w (GivesRow w (four n) 4) := by
  go_enter Tryd.func32, Tryd.ntmps32
  go_wp2
  go_ret
  exact ⟨_, rfl, heap_alloc_new w _, Nat.le_refl _, alloc_below _ _⟩
theorem set_splice (xs : List Int) (off : Nat) (a b c d : Int) (h : off + 4 ≤ xs.length) : (((xs.set off a).set (off + 1) b).set (off + 2) c).set (off + 3) d = splice xs off [a, b, c, d] := by
  induction off generalizing xs with
  | zero =>
    match xs, h with
    | p :: q :: r :: s :: R, _ => simp [splice]
  | succ k ih =>
    cases xs with
    | nil => simp at h
    | cons y ys =>
      have := ih ys (by simp at h; omega)
      rw [show k + 1 + 2 = (k + 2) + 1 from rfl, show k + 1 + 3 = (k + 3) + 1 from rfl]
      simp only [List.set_cons_succ]
      rw [this]
      simp [splice]
theorem Only.setCell (g i : Nat) (W : World) (v : Value) : Only g W (W.setCell ⟨g, i, none⟩ v) :=
  ⟨(Below.refl g W).setCell (p := ⟨g, i, none⟩) (Nat.le_refl _) _, fun j hj => by simp [World.setCell, Array.getElem?_modify, Ne.symm hj], by simp⟩
theorem Only.trans {g : Nat} {w w' w'' : World} (h : Only g w w') (h' : Only g w' w'') : Only g w w'' := ⟨h.below.trans h'.below, fun j hj => (h'.other j hj).trans (h.other j hj), h'.size.trans h.size⟩
set_option maxHeartbeats 1000000 in
theorem layIp_any (g off n c : Nat) (xs : List Int) (ip : Int) (w : World) (hrow : Row w g xs) (h4 : off + 4 ≤ xs.length) (hn : 4 ≤ n) (hip : 0 ≤ ip ∧ ip < 4294967296) :
    Calls Tryd.prog 31 #[.slice (some ⟨g, off, none⟩) n c, .int .u32 ip] w fun e w' => e = .returned (.tuple #[]) ∧ Row w' g (splice xs off (four ip)) ∧ Only g w w' := by
  have i0 : 0 < n := by omega
  have i1 : (1 : Int) < (n : Int) := by omega
  have i2 : (2 : Int) < (n : Int) := by omega
  have i3 : (3 : Int) < (n : Int) := by omega
  have c0 := hrow.cell (i := off) (by omega)
  have c1 := hrow.cell (i := off + 1) (by omega)
  have c2 := hrow.cell (i := off + 2) (by omega)
  have c3 := hrow.cell (i := off + 3) (by omega)
  have z0 := hrow.frozen off
  have z1 := hrow.frozen (off + 1)
  have z2 := hrow.frozen (off + 2)
  have z3 := hrow.frozen (off + 3)
  go_enter Tryd.func31, Tryd.ntmps31
  go_wp2
  refine bodyPost_end (v := .tuple #[]) (by simp [results, Tryd.results31, go_sem]) rfl ?_
  refine ⟨rfl, ?_, (((Only.setCell g off w _).trans (Only.setCell g (off + 1) _ _)).trans (Only.setCell g (off + 2) _ _)).trans (Only.setCell g (off + 3) _ _)⟩
  have := (((hrow.set off (ip / 16777216)).set (off + 1) (ip / 65536 % 256)).set (off + 2) (ip / 256 % 256)).set (off + 3) (ip % 256)
  rwa [set_splice _ _ _ _ _ _ h4] at this
end Go.Proofs.YtgjfhgipgcdddaaDoor
