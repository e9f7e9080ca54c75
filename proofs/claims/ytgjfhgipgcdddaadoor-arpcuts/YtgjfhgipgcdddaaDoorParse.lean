/-
  Contract of Parse.
-/
import Derived.Test.YtgjfhgipgcdddaaDoorBytes
import Derived.Deep.CutRange
namespace Go.Proofs.YtgjfhgipgcdddaaDoor
open Go.RowKit

/-- The Op that stands in bytes. -/
def opOf (xs : List Int) : Int := xs.getD 6 0 * 256 + xs.getD 7 0
/-- Are the first six these, and is there such an Op? -/
def kindB (xs : List Int) : Bool := bEq (xs.take 6) head6 && opB (opOf xs)
/-- Why bytes are no packet: the reason, the error; noughts where they are one. -/
def pE (xs : List Int) : Int × Int := if xs.length < 28 then (1, 12) else if kindB xs = false then (16, 14) else if grpV (six (xs.drop 8)) = true then (1, 10) else (0, 0)
theorem pE_cases (xs : List Int) : (xs.length < 28 ∧ pE xs = (1, 12)) ∨ (28 ≤ xs.length ∧ kindB xs = false ∧ pE xs = (16, 14)) ∨ (28 ≤ xs.length ∧ kindB xs = true ∧ grpV (six (xs.drop 8)) = true ∧ pE xs = (1, 10)) ∨ (28 ≤ xs.length ∧ kindB xs = true ∧ grpV (six (xs.drop 8)) = false ∧ pE xs = (0, 0)) := by
  unfold pE
  by_cases h1 : xs.length < 28
  · simp [h1]
  · cases h2 : kindB xs
    · simp [h1]; omega
    · cases h3 : grpV (six (xs.drop 8)) <;> simp [h1] <;> omega
@[reducible] def zeroP : Value := pkV 0 zero6 0 zero6 0
/-- The packet that stands in bytes. -/
@[reducible] def pkOf (xs : List Int) : Value := pkV (opOf xs) (six (xs.drop 8)) (num4 (xs.drop 14)) (six (xs.drop 18)) (num4 (xs.drop 24))
/-- What Parse answers. -/
def GivesP (w : World) (xs : List Int) (ev : Ending) (w' : World) : Prop :=
  Below w.heap.size w w' ∧ ((¬ (pE xs).2 = 0 ∧ ev = .returned (.tuple #[zeroP, errV (pE xs).1 (pE xs).2])) ∨ ((pE xs).2 = 0 ∧ ev = .returned (.tuple #[pkOf xs, .nilIface])))
theorem or_op (x y : Int) (hx : 0 ≤ x ∧ x ≤ 255) (hy : 0 ≤ y ∧ y ≤ 255) : bits .or .i64 (x * 256) y = x * 256 + y := by
  obtain ⟨a, rfl⟩ := Int.eq_ofNat_of_zero_le hx.1
  obtain ⟨b, rfl⟩ := Int.eq_ofNat_of_zero_le hy.1
  have e1 : ((a : Int) * 256) = ((a * 256 : Nat) : Int) := by simp
  show IntKind.i64.wrap ((BitVec.ofInt 64 ((a : Int) * 256) ||| BitVec.ofInt 64 (b : Int)).toNat : Nat) = _
  rw [e1, BitVec.ofInt_natCast, BitVec.ofInt_natCast, BitVec.toNat_or, BitVec.toNat_ofNat, BitVec.toNat_ofNat, Nat.mod_eq_of_lt (by omega), Nat.mod_eq_of_lt (by omega)]
  have e : a * 256 = a <<< 8 := by rw [Nat.shiftLeft_eq]
  rw [e, ← Nat.shiftLeft_add_eq_or_of_lt (by omega), Nat.shiftLeft_eq, IntKind.wrap_i64]
  omega
/-- What Parse's walk knows ahead of the packet: the answer's block, the bytes. -/
structure Q0 (w : World) (A : Option Addr) (n c : Nat) (xs : List Int) (W : World) : Prop where
  z : PkAt W w.heap.size 29 0 zero6 0 zero6 0
  rd : Rd .u8 W w.heap.size A n c xs
  below : Below w.heap.size w W
  sz : W.heap.size = w.heap.size + 1
/-- And behind it. -/
structure Q1 (w : World) (A : Option Addr) (n c : Nat) (xs : List Int) (op : Int) (m : Mac6) (ip : Int) (t : Mac6) (ti : Int) (W : World) : Prop where
  z : PkAt W w.heap.size 29 0 zero6 0 zero6 0
  rd : Rd .u8 W w.heap.size A n c xs
  below : Below w.heap.size w W
  sz : w.heap.size + 2 ≤ W.heap.size
  pk : PkAt W (w.heap.size + 1) 29 op m ip t ti
section
variable {w W V : World} {A : Option Addr} {n c : Nat} {xs : List Int} {op op' : Int} {m m' : Mac6} {ip ip' : Int} {t t' : Mac6} {ti ti' : Int}
theorem Q0.still (h : Q0 w A n c xs W) (hs : Still W V) : Q0 w A n c xs V := ⟨h.z.step hs.below, h.rd.below hs.below h.below.size, h.below.trans (hs.below.mono h.below.size), by rw [hs.heap]; exact h.sz⟩
theorem Q0.alloc (h : Q0 w A n c xs W) : Q1 w A n c xs 0 zero6 0 zero6 0 (W.alloc (.cells (pkC 0 zero6 0 zero6 0) 29)) :=
  ⟨h.z.step (alloc_below _ _), h.rd.below (alloc_below _ _) h.below.size, h.below.trans ((alloc_below _ _).mono h.below.size), by simp [h.sz], by have := PkAt.new W 29 0 zero6 0 zero6 0; rwa [h.sz] at this⟩
theorem Q1.step (h : Q1 w A n c xs op m ip t ti W) (hb : Below W.heap.size W V) : Q1 w A n c xs op m ip t ti V := ⟨h.z.step hb, h.rd.below hb h.below.size, h.below.trans (hb.mono h.below.size), Nat.le_trans h.sz hb.size, h.pk.step hb⟩
theorem Q1.only (h : Q1 w A n c xs op m ip t ti W) (ho : Only (w.heap.size + 1) W V) (hp : PkAt V (w.heap.size + 1) 29 op' m' ip' t' ti') : Q1 w A n c xs op' m' ip' t' ti' V :=
  ⟨h.z.below ho.below (by omega), h.rd.below ho.below (by omega), h.below.trans (ho.below.mono (by omega)), by rw [ho.size]; exact h.sz, hp⟩
end
set_option maxHeartbeats 1000000 in
theorem parse_short (A : Option Addr) (n c : Nat) (w : World) (hn : n < 28) :
    Calls Tryd.prog 9 #[.slice A n c] w fun e w' => e = .returned (.tuple #[zeroP, errV 1 12]) ∧ Below w.heap.size w w' := by
  go_enter Tryd.func9, Tryd.ntmps9
  go_wp2_with (go_at_call 22; refine (fault_any 1 12 _ (by decide) (by decide)).mono ?_; rintro e w1 ⟨rfl, rfl⟩)
  refine bodyPost_ret (v := .tuple #[zeroP, errV 1 12]) (by simp [results, Tryd.results9, go_sem]) rfl ⟨rfl, ?_⟩
  exact alloc_below _ _
theorem six_at (xs : List Int) (f : Nat) : (six (xs.drop f)).a = xs.getD f 0 := by simp [six, List.getD]
theorem head_eq {xs : List Int} (hx : ∀ x ∈ xs, (Lit.int .u8 x).wf = true) : ((strOfNums xs).toList == (⟨#[0, 1, 8, 0, 6, 4]⟩ : ByteArray).toList) = bEq xs head6 := str_eq hx head6_wf
theorem head_list : (⟨#[0, 1, 8, 0, 6, 4]⟩ : ByteArray).toList = [0, 1, 8, 0, 6, 4] := by rw [ByteArray.toList_eq]
theorem head_iff {xs : List Int} (hx : ∀ x ∈ xs, (Lit.int .u8 x).wf = true) : (strOfNums xs).toList = [0, 1, 8, 0, 6, 4] ↔ bEq xs head6 = true := by
  have := head_eq hx
  rw [head_list] at this
  rw [← this]
  exact beq_iff_eq.symm

set_option maxRecDepth 100000 in
set_option maxHeartbeats 4000000 in
theorem parse_long (A : Option Addr) (n c : Nat) (xs : List Int) (w : World) (hr : Rd .u8 w w.heap.size A n c xs) (h28 : 28 ≤ n) :
    Calls Tryd.prog 9 #[.slice A n c] w (GivesP w xs) := by
  have h8 : 0 ≤ (six (xs.drop 8)).a ∧ (six (xs.drop 8)).a ≤ 255 := by
    rw [six_at xs 8]
    exact u8_bd (hr.wf (i := 8) (by omega))
  obtain ⟨b, o, rfl, hb, hc6⟩ := hr.at_ (i := 6) (by omega)
  have hcell : ∀ W, Rd .u8 W w.heap.size (some ⟨b, o, none⟩) n c xs → W.cell? ⟨b, o + 6, none⟩ = some (.int .u8 (xs.getD 6 0)) ∧ W.cell? ⟨b, o + 7, none⟩ = some (.int .u8 (xs.getD 7 0)) := by
    intro W h
    obtain ⟨b', o', e', -, hc⟩ := h.at_ (i := 6) (by omega)
    obtain ⟨b'', o'', e'', -, hc'⟩ := h.at_ (i := 7) (by omega)
    injection e' with e'
    injection e' with e1 e2
    subst e1 e2
    injection e'' with e'
    injection e' with e1 e2
    subst e1 e2
    exact ⟨hc, hc'⟩
  clear hc6
  have hx6 := u8_bd (hr.wf (i := 6) (by omega))
  have hx7 := u8_bd (hr.wf (i := 7) (by omega))
  have hor := or_op _ _ hx6 hx7
  have hcap := hr.cap
  have hmax := hr.max
  have HL := Lib.hid hr.len
  have HC := pE_cases xs
  have Hk : Hid (opOf xs = xs.getD 6 0 * 256 + xs.getD 7 0) := Lib.hid rfl
  generalize xs.getD 6 0 = x at *
  generalize xs.getD 7 0 = y at *
  have Hc := Lib.hid hcell
  replace HC := Lib.hid HC
  clear hcell
  have wx : IntKind.i64.wrap x = x := by rw [IntKind.wrap_i64]; omega
  have wy : IntKind.i64.wrap y = y := by rw [IntKind.wrap_i64]; omega
  have wxy : IntKind.i64.wrap (x * 256) = x * 256 := by rw [IntKind.wrap_i64]; omega
  have i1 : (6 : Int) < (n : Int) := by omega
  have i2 : (7 : Int) < (n : Int) := by omega
  have i3 : ¬ (n : Int) < 28 := by omega
  have k8 : ¬ c = 8 := by omega
  have j8 : (8 : Int) ≤ (n : Int) := by omega
  have k14 : ¬ c = 14 := by omega
  have j14 : (14 : Int) ≤ (n : Int) := by omega
  have k18 : ¬ c = 18 := by omega
  have j18 : (18 : Int) ≤ (n : Int) := by omega
  have k24 : ¬ c = 24 := by omega
  have j24 : (24 : Int) ≤ (n : Int) := by omega
  have j6 : (6 : Int) ≤ (n : Int) := by omega
  have q0 : Q0 w (some ⟨b, o, none⟩) n c xs (w.alloc (.cells (pkC 0 zero6 0 zero6 0) 29)).drew := ⟨PkAt.new w 29 0 zero6 0 zero6 0, hr.below ((alloc_below w _).trans ⟨rfl, rfl, rfl, Nat.le_refl _, fun _ _ => rfl⟩) (Nat.le_refl _), (alloc_below w _).trans ⟨rfl, rfl, rfl, Nat.le_refl _, fun _ _ => rfl⟩, by show (w.alloc _).heap.size = _; simp⟩
  clear hr
  go_enter Tryd.func9, Tryd.ntmps9
  go_wp2_with fail
  go_cut [4] from 10 to 26 (fun x4 wc => x4 = .pointer (some ⟨w.heap.size + 1, 0, none⟩) ∧ Q1 w (some ⟨b, o, none⟩) n c xs (opOf xs) zero6 (num4 (xs.drop 14)) zero6 (num4 (xs.drop 24)) wc)
  case first =>
    refine wp_region_held_drew (S := fun w' => Rd .u8 w' w.heap.size (some ⟨b, o, none⟩) n c xs) (by kernel_rfl) q0.rd (fun hHeld => ?_)
    change wpAnyH _ _ _ _ _ _ _ _ (w.alloc (.cells (pkC 0 zero6 0 zero6 0) 29)).drew
    clear hHeld
    generalize (w.alloc (.cells (pkC 0 zero6 0 zero6 0) 29)).drew = W1 at *
    have hHeld := q0.rd
    refine wpAnyH_at (i := 0) (some 10) (v := ?v0z1) rfl rfl (by kernel_rfl) (by kernel_rfl) (by kernel_rfl) (fun _ _ _ h => h) (Or.inl ⟨by rfl, ?y0z1⟩) (by assumption) ?r0z1
    case y0z1 =>
      intro w9 hSw
      clear hSw
      go_simp
      all_goals with_reducible rfl
    simp only [Act.put, List.setIfInBounds_toArray, List.set_cons_zero, List.set_cons_succ]
    refine wpAnyH_at (i := 1) (some 11) (v := ?v1z2) rfl rfl (by kernel_rfl) (by kernel_rfl) (by kernel_rfl) (fun _ _ _ h => h) (Or.inl ⟨by rfl, ?y1z2⟩) (by assumption) ?r1z2
    case y1z2 =>
      intro w9 hSw
      clear hSw
      go_simp
      all_goals with_reducible rfl
    simp only [Act.put, List.setIfInBounds_toArray, List.set_cons_zero, List.set_cons_succ]
    refine wpAnyH_at (i := 2) (some 12) (v := ?v2z3) rfl rfl (by kernel_rfl) (by kernel_rfl) (by kernel_rfl) (fun _ _ _ h => h) (Or.inl ⟨by rfl, ?y2z3⟩) (by assumption) ?r2z3
    case y2z3 =>
      intro w9 hSw
      obtain ⟨p1, p2⟩ := Hc.out _ hSw; clear hSw
      go_simp
      all_goals with_reducible rfl
    simp only [Act.put, List.setIfInBounds_toArray, List.set_cons_zero, List.set_cons_succ]
    refine wpAnyH_at (i := 3) (some 13) (v := ?v3z4) rfl rfl (by kernel_rfl) (by kernel_rfl) (by kernel_rfl) (fun _ _ _ h => h) (Or.inl ⟨by rfl, ?y3z4⟩) (by assumption) ?r3z4
    case y3z4 =>
      intro w9 hSw
      clear hSw
      go_simp
      all_goals with_reducible rfl
    simp only [Act.put, List.setIfInBounds_toArray, List.set_cons_zero, List.set_cons_succ]
    refine wpAnyH_at (i := 4) (some 14) (v := ?v4z5) rfl rfl (by kernel_rfl) (by kernel_rfl) (by kernel_rfl) (fun _ _ _ h => h) (Or.inl ⟨by rfl, ?y4z5⟩) (by assumption) ?r4z5
    case y4z5 =>
      intro w9 hSw
      clear hSw
      go_simp
      all_goals with_reducible rfl
    simp only [Act.put, List.setIfInBounds_toArray, List.set_cons_zero, List.set_cons_succ]
    refine wpAnyH_at (i := 5) (some 15) (v := ?v5z6) rfl rfl (by kernel_rfl) (by kernel_rfl) (by kernel_rfl) (fun _ _ _ h => h) (Or.inl ⟨by rfl, ?y5z6⟩) (by assumption) ?r5z6
    case y5z6 =>
      intro w9 hSw
      clear hSw
      go_simp
      all_goals with_reducible rfl
    simp only [Act.put, List.setIfInBounds_toArray, List.set_cons_zero, List.set_cons_succ]
    refine wpAnyH_at (i := 6) (some 16) (v := ?v6z7) rfl rfl (by kernel_rfl) (by kernel_rfl) (by kernel_rfl) (fun _ _ _ h => h) (Or.inl ⟨by rfl, ?y6z7⟩) (by assumption) ?r6z7
    case y6z7 =>
      intro w9 hSw
      clear hSw
      go_simp
      all_goals with_reducible rfl
    simp only [Act.put, List.setIfInBounds_toArray, List.set_cons_zero, List.set_cons_succ]
    refine wpAnyH_at (i := 7) (some 17) (v := ?v7z8) rfl rfl (by kernel_rfl) (by kernel_rfl) (by kernel_rfl) (fun _ _ _ h => h) (Or.inl ⟨by rfl, ?y7z8⟩) (by assumption) ?r7z8
    case y7z8 =>
      intro w9 hSw
      obtain ⟨p1, p2⟩ := Hc.out _ hSw; clear hSw
      go_simp
      all_goals with_reducible rfl
    simp only [Act.put, List.setIfInBounds_toArray, List.set_cons_zero, List.set_cons_succ]
    refine wpAnyH_at (i := 8) (some 18) (v := ?v8z9) rfl rfl (by kernel_rfl) (by kernel_rfl) (by kernel_rfl) (fun _ _ _ h => h) (Or.inl ⟨by rfl, ?y8z9⟩) (by assumption) ?r8z9
    case y8z9 =>
      intro w9 hSw
      clear hSw
      go_simp
      all_goals with_reducible rfl
    simp only [Act.put, List.setIfInBounds_toArray, List.set_cons_zero, List.set_cons_succ]
    refine wpAnyH_at (i := 9) (some 19) (v := ?v9z10) rfl rfl (by kernel_rfl) (by kernel_rfl) (by kernel_rfl) (fun _ _ _ h => h) (Or.inl ⟨by rfl, ?y9z10⟩) (by assumption) ?r9z10
    case y9z10 =>
      intro w9 hSw
      clear hSw
      go_simp
      all_goals with_reducible rfl
    simp only [Act.put, List.setIfInBounds_toArray, List.set_cons_zero, List.set_cons_succ]
    refine wpAnyH_at (i := 10) (some 20) (v := ?v10z11) rfl rfl (by kernel_rfl) (by kernel_rfl) (by kernel_rfl) (fun _ _ _ h => h) (Or.inl ⟨by rfl, ?y10z11⟩) (by assumption) ?r10z11
    case y10z11 =>
      intro w9 hSw
      clear hSw
      go_simp
      all_goals with_reducible rfl
    simp only [Act.put, List.setIfInBounds_toArray, List.set_cons_zero, List.set_cons_succ]
    refine wpAnyH_at (i := 11) (some 21) (v := .slice (cutA (some ⟨b, o, none⟩) c 14) (n - 14) (c - 14)) rfl rfl (by kernel_rfl) (by kernel_rfl) (by kernel_rfl) (fun _ _ _ h => h) (Or.inl ⟨by rfl, ?y11z12⟩) (by assumption) ?r11z12
    case y11z12 =>
      intro w9 hSw
      clear hSw
      rw [cutA_ne k14]
      go_simp
    simp only [Act.put, List.setIfInBounds_toArray, List.set_cons_zero, List.set_cons_succ]
    refine wpAnyH_at (i := 13) (some 23) (v := ?v13z13) rfl rfl (by kernel_rfl) (by kernel_rfl) (by kernel_rfl) (fun _ _ _ h => h) (Or.inl ⟨by rfl, ?y13z13⟩) (by assumption) ?r13z13
    case y13z13 =>
      intro w9 hSw
      clear hSw
      go_simp
      all_goals with_reducible rfl
    simp only [Act.put, List.setIfInBounds_toArray, List.set_cons_zero, List.set_cons_succ]
    refine wpAnyH_at (i := 14) (some 24) (v := .slice (cutA (some ⟨b, o, none⟩) c 24) (n - 24) (c - 24)) rfl rfl (by kernel_rfl) (by kernel_rfl) (by kernel_rfl) (fun _ _ _ h => h) (Or.inl ⟨by rfl, ?y14z14⟩) (by assumption) ?r14z14
    case y14z14 =>
      intro w9 hSw
      clear hSw
      rw [cutA_ne k24]
      go_simp
    simp only [Act.put, List.setIfInBounds_toArray, List.set_cons_zero, List.set_cons_succ]
    refine wpAnyH_two (i := 12) (j := 17) (by kernel_rfl) rfl rfl ?_ ?_
    · go_wp2_with (go_at_call 23; refine (ipOf_any _ _ _ _ (xs.drop 14) _ (q0.rd.cutFrom 14 (by omega)) (by omega)).mono ?_; rintro e W2 ⟨rfl, hs9⟩)
      replace q0 := q0.still hs9
      clear hs9 hHeld
      have hHeld := q0.rd
      refine ⟨hHeld, ?_⟩
      try simp only [Act.put, List.setIfInBounds_toArray, List.set_cons_zero, List.set_cons_succ]
      refine wpAnyH_two (i := 15) (j := 17) (by kernel_rfl) rfl rfl ?_ ?_
      · go_wp2_with (go_at_call 23; refine (ipOf_any _ _ _ _ (xs.drop 24) _ (q0.rd.cutFrom 24 (by omega)) (by omega)).mono ?_; rintro e W3 ⟨rfl, hs9⟩)
        replace q0 := q0.still hs9
        clear hs9 hHeld
        have hHeld := q0.rd
        refine ⟨hHeld, ?_⟩
        try simp only [Act.put, List.setIfInBounds_toArray, List.set_cons_zero, List.set_cons_succ]
        refine wpAnyH_at (i := 16) (some 26) (v := ?v16z15) rfl rfl (by kernel_rfl) (by kernel_rfl) (by kernel_rfl) (fun _ _ _ h => h) (Or.inl ⟨by rfl, ?y16z15⟩) (by assumption) ?r16z15
        case y16z15 =>
          intro w9 hSw
          clear hSw
          go_simp
          all_goals with_reducible rfl
        simp only [Act.put, List.setIfInBounds_toArray, List.set_cons_zero, List.set_cons_succ]
        refine wpAnyH_one (i := 17) (by kernel_rfl) rfl ?_
        have hsz := q0.sz
        replace q0 := q0.alloc
        clear hHeld
        have hHeld := q0.rd
        go_wp2
        refine ⟨hHeld, ?_⟩
        change wpAnyH _ _ _ _ _ _ _ _ (W3.alloc (.cells (pkC 0 zero6 0 zero6 0) 29))
        generalize (W3.alloc (.cells (pkC 0 zero6 0 zero6 0) 29)) = VW3 at *
        clear hsz
        try simp only [Act.put, List.setIfInBounds_toArray, List.set_cons_zero, List.set_cons_succ]
        refine wpAnyH_one (i := 18) (by kernel_rfl) rfl ?_
        refine wpList_stF rfl rfl 29 _ _ rfl (w.heap.size + 1) (pkC (opOf xs) zero6 (num4 (xs.drop 14)) zero6 (num4 (xs.drop 24))) rfl ?_ 29 _ q0.pk (by kernel_rfl) rfl (pkC_one ..) ?_
        · rw [Hk.out]
          rfl
        intro w4 f4 hb4 ho4 hs4
        replace q0 := q0.only ⟨hb4, ho4, hs4⟩ f4
        clear hHeld
        have hHeld := q0.rd
        go_wp2
        refine ⟨hHeld, ?_⟩
        refine wpAnyH_done (by kernel_rfl) ?_ _
        go_wp2_with fail
        go_meet
        case rel => exact ⟨rfl, q0⟩
      · have hsz := q0.sz
        replace q0 := q0.alloc
        clear hHeld
        have hHeld := q0.rd
        go_wp2
        refine ⟨hHeld, ?_⟩
        change wpAnyH _ _ _ _ _ _ _ _ (W2.alloc (.cells (pkC 0 zero6 0 zero6 0) 29))
        generalize (W2.alloc (.cells (pkC 0 zero6 0 zero6 0) 29)) = VW2 at *
        clear hsz
        try simp only [Act.put, List.setIfInBounds_toArray, List.set_cons_zero, List.set_cons_succ]
        refine wpAnyH_one (i := 15) (by kernel_rfl) rfl ?_
        go_wp2_with (go_at_call 23; refine (ipOf_any _ _ _ _ (xs.drop 24) _ (q0.rd.cutFrom 24 (by omega)) (by omega)).mono ?_; rintro e W3 ⟨rfl, hs9⟩)
        replace q0 := q0.step hs9.below
        clear hs9 hHeld
        have hHeld := q0.rd
        refine ⟨hHeld, ?_⟩
        try simp only [Act.put, List.setIfInBounds_toArray, List.set_cons_zero, List.set_cons_succ]
        refine wpAnyH_at (i := 16) (some 26) (v := ?v16z16) rfl rfl (by kernel_rfl) (by kernel_rfl) (by kernel_rfl) (fun _ _ _ h => h) (Or.inl ⟨by rfl, ?y16z16⟩) (by assumption) ?r16z16
        case y16z16 =>
          intro w9 hSw
          clear hSw
          go_simp
          all_goals with_reducible rfl
        simp only [Act.put, List.setIfInBounds_toArray, List.set_cons_zero, List.set_cons_succ]
        refine wpAnyH_one (i := 18) (by kernel_rfl) rfl ?_
        refine wpList_stF rfl rfl 29 _ _ rfl (w.heap.size + 1) (pkC (opOf xs) zero6 (num4 (xs.drop 14)) zero6 (num4 (xs.drop 24))) rfl ?_ 29 _ q0.pk (by kernel_rfl) rfl (pkC_one ..) ?_
        · rw [Hk.out]
          rfl
        intro w4 f4 hb4 ho4 hs4
        replace q0 := q0.only ⟨hb4, ho4, hs4⟩ f4
        clear hHeld
        have hHeld := q0.rd
        go_wp2
        refine ⟨hHeld, ?_⟩
        refine wpAnyH_done (by kernel_rfl) ?_ _
        go_wp2_with fail
        go_meet
        case rel => exact ⟨rfl, q0⟩
    · have hsz := q0.sz
      replace q0 := q0.alloc
      clear hHeld
      have hHeld := q0.rd
      go_wp2
      refine ⟨hHeld, ?_⟩
      change wpAnyH _ _ _ _ _ _ _ _ (W1.alloc (.cells (pkC 0 zero6 0 zero6 0) 29))
      generalize (W1.alloc (.cells (pkC 0 zero6 0 zero6 0) 29)) = VW1 at *
      clear hsz
      try simp only [Act.put, List.setIfInBounds_toArray, List.set_cons_zero, List.set_cons_succ]
      refine wpAnyH_one (i := 12) (by kernel_rfl) rfl ?_
      go_wp2_with (go_at_call 23; refine (ipOf_any _ _ _ _ (xs.drop 14) _ (q0.rd.cutFrom 14 (by omega)) (by omega)).mono ?_; rintro e W2 ⟨rfl, hs9⟩)
      replace q0 := q0.step hs9.below
      clear hs9 hHeld
      have hHeld := q0.rd
      refine ⟨hHeld, ?_⟩
      try simp only [Act.put, List.setIfInBounds_toArray, List.set_cons_zero, List.set_cons_succ]
      refine wpAnyH_one (i := 15) (by kernel_rfl) rfl ?_
      go_wp2_with (go_at_call 23; refine (ipOf_any _ _ _ _ (xs.drop 24) _ (q0.rd.cutFrom 24 (by omega)) (by omega)).mono ?_; rintro e W3 ⟨rfl, hs9⟩)
      replace q0 := q0.step hs9.below
      clear hs9 hHeld
      have hHeld := q0.rd
      refine ⟨hHeld, ?_⟩
      try simp only [Act.put, List.setIfInBounds_toArray, List.set_cons_zero, List.set_cons_succ]
      refine wpAnyH_at (i := 16) (some 26) (v := ?v16z17) rfl rfl (by kernel_rfl) (by kernel_rfl) (by kernel_rfl) (fun _ _ _ h => h) (Or.inl ⟨by rfl, ?y16z17⟩) (by assumption) ?r16z17
      case y16z17 =>
        intro w9 hSw
        clear hSw
        go_simp
        all_goals with_reducible rfl
      simp only [Act.put, List.setIfInBounds_toArray, List.set_cons_zero, List.set_cons_succ]
      refine wpAnyH_one (i := 18) (by kernel_rfl) rfl ?_
      refine wpList_stF rfl rfl 29 _ _ rfl (w.heap.size + 1) (pkC (opOf xs) zero6 (num4 (xs.drop 14)) zero6 (num4 (xs.drop 24))) rfl ?_ 29 _ q0.pk (by kernel_rfl) rfl (pkC_one ..) ?_
      · rw [Hk.out]
        rfl
      intro w4 f4 hb4 ho4 hs4
      replace q0 := q0.only ⟨hb4, ho4, hs4⟩ f4
      clear hHeld
      have hHeld := q0.rd
      go_wp2
      refine ⟨hHeld, ?_⟩
      refine wpAnyH_done (by kernel_rfl) ?_ _
      go_wp2_with fail
      go_meet
      case rel => exact ⟨rfl, q0⟩
  case rest =>
    obtain ⟨rfl, pk⟩ := hcut
    go_wp2_with fail
    refine wp_region_held_drew (S := fun _ => True) (by kernel_rfl) trivial (fun hHeld => ?_)
    replace pk := pk.step (below_drew _)
    generalize wc.drew = Dwc at *
    refine wpAnyH_at (i := 0) (some 27) (v := ?v0z18) rfl rfl (by kernel_rfl) (by kernel_rfl) (by kernel_rfl) (fun _ _ _ h => h) (Or.inl ⟨by rfl, ?y0z18⟩) (by assumption) ?r0z18
    case y0z18 =>
      intro w9 hSw
      clear hSw
      go_simp
      all_goals with_reducible rfl
    simp only [Act.put, List.setIfInBounds_toArray, List.set_cons_zero, List.set_cons_succ]
    refine wpAnyH_at (i := 1) (some 28) (v := ?v1z19) rfl rfl (by kernel_rfl) (by kernel_rfl) (by kernel_rfl) (fun _ _ _ h => h) (Or.inl ⟨by rfl, ?y1z19⟩) (by assumption) ?r1z19
    case y1z19 =>
      intro w9 hSw
      clear hSw
      go_simp
      all_goals with_reducible rfl
    simp only [Act.put, List.setIfInBounds_toArray, List.set_cons_zero, List.set_cons_succ]
    refine wpAnyH_at (i := 2) (some 29) (v := ?v2z20) rfl rfl (by kernel_rfl) (by kernel_rfl) (by kernel_rfl) (fun _ _ _ h => h) (Or.inl ⟨by rfl, ?y2z20⟩) (by assumption) ?r2z20
    case y2z20 =>
      intro w9 hSw
      clear hSw
      go_simp
      all_goals with_reducible rfl
    simp only [Act.put, List.setIfInBounds_toArray, List.set_cons_zero, List.set_cons_succ]
    refine wpAnyH_at (i := 3) (some 30) (v := .slice (cutA (some ⟨b, o, none⟩) c 8) (n - 8) (c - 8)) rfl rfl (by kernel_rfl) (by kernel_rfl) (by kernel_rfl) (fun _ _ _ h => h) (Or.inl ⟨by rfl, ?y3z21⟩) (by assumption) ?r3z21
    case y3z21 =>
      intro w9 hSw
      clear hSw
      rw [cutA_ne k8]
      go_simp
    simp only [Act.put, List.setIfInBounds_toArray, List.set_cons_zero, List.set_cons_succ]
    refine wpAnyH_one (i := 4) (by kernel_rfl) rfl ?_
    refine wpList_cpMac (some 31) rfl rfl (.tmp 28) (.tmp 30) 22 22 rfl Tryd.underlying22 sz5 (w.heap.size + 1) 29 (opOf xs) zero6 (num4 (xs.drop 14)) zero6 (num4 (xs.drop 24)) pk.pk rfl (cutA (some ⟨b, o, none⟩) c 8) (n - 8) (c - 8) w.heap.size (xs.drop 8) rfl (pk.rd.cutFrom 8 (by omega)) (by omega) ?_
    intro w5 f6 ho6
    replace pk := pk.only ho6 f6
    clear f6 ho6 hHeld
    go_wp2
    refine ⟨trivial, ?_⟩
    refine wpAnyH_done (by kernel_rfl) ?_ _
    go_wp2_with fail
    refine wp_region_held_drew (S := fun _ => True) (by kernel_rfl) trivial (fun hHeld => ?_)
    replace pk := pk.step (below_drew _)
    generalize w5.drew = Dw5 at *
    refine wpAnyH_at (i := 0) (some 32) (v := ?v0z22) rfl rfl (by kernel_rfl) (by kernel_rfl) (by kernel_rfl) (fun _ _ _ h => h) (Or.inl ⟨by rfl, ?y0z22⟩) (by assumption) ?r0z22
    case y0z22 =>
      intro w9 hSw
      clear hSw
      go_simp
      all_goals with_reducible rfl
    simp only [Act.put, List.setIfInBounds_toArray, List.set_cons_zero, List.set_cons_succ]
    refine wpAnyH_at (i := 1) (some 33) (v := ?v1z23) rfl rfl (by kernel_rfl) (by kernel_rfl) (by kernel_rfl) (fun _ _ _ h => h) (Or.inl ⟨by rfl, ?y1z23⟩) (by assumption) ?r1z23
    case y1z23 =>
      intro w9 hSw
      clear hSw
      go_simp
      all_goals with_reducible rfl
    simp only [Act.put, List.setIfInBounds_toArray, List.set_cons_zero, List.set_cons_succ]
    refine wpAnyH_at (i := 2) (some 34) (v := ?v2z24) rfl rfl (by kernel_rfl) (by kernel_rfl) (by kernel_rfl) (fun _ _ _ h => h) (Or.inl ⟨by rfl, ?y2z24⟩) (by assumption) ?r2z24
    case y2z24 =>
      intro w9 hSw
      clear hSw
      go_simp
      all_goals with_reducible rfl
    simp only [Act.put, List.setIfInBounds_toArray, List.set_cons_zero, List.set_cons_succ]
    refine wpAnyH_at (i := 3) (some 35) (v := .slice (cutA (some ⟨b, o, none⟩) c 18) (n - 18) (c - 18)) rfl rfl (by kernel_rfl) (by kernel_rfl) (by kernel_rfl) (fun _ _ _ h => h) (Or.inl ⟨by rfl, ?y3z25⟩) (by assumption) ?r3z25
    case y3z25 =>
      intro w9 hSw
      clear hSw
      rw [cutA_ne k18]
      go_simp
    simp only [Act.put, List.setIfInBounds_toArray, List.set_cons_zero, List.set_cons_succ]
    refine wpAnyH_one (i := 4) (by kernel_rfl) rfl ?_
    refine wpList_cpTo (some 36) rfl rfl (.tmp 33) (.tmp 35) 22 22 rfl Tryd.underlying22 sz5 (w.heap.size + 1) 29 (opOf xs) (six (xs.drop 8)) (num4 (xs.drop 14)) zero6 (num4 (xs.drop 24)) pk.pk rfl (cutA (some ⟨b, o, none⟩) c 18) (n - 18) (c - 18) w.heap.size (xs.drop 18) rfl (pk.rd.cutFrom 18 (by omega)) (by omega) ?_
    intro w6 f6 ho6
    replace pk := pk.only ho6 f6
    clear f6 ho6 hHeld
    go_wp2
    refine ⟨trivial, ?_⟩
    refine wpAnyH_done (by kernel_rfl) ?_ _
    have f1 := conv_str (pk.rd.cutTo 6 (by omega))
    have f3 := head_iff (pk.rd.cutTo 6 (by omega)).2.2.2.1
    have HCo := HC.out
    rw [HL.out] at HCo
    by_cases hq : (strOfNums (xs.take 6)).toList = [0, 1, 8, 0, 6, 4]
    case' neg =>
      have hK : kindB xs = false := by
        have : ¬ bEq (xs.take 6) head6 = true := fun h => hq (f3.2 h)
        simp [kindB, this]
      have hE : pE xs = (16, 14) := by
        rcases HCo with h | h | h | h
        · omega
        · exact h.2.2
        · rw [hK] at h; cases h.2.1
        · rw [hK] at h; cases h.2.1
      clear HCo hK f3
      have fin : ∀ (w9 : World), w9.heap[w.heap.size]? = some (.cells (pkC 0 zero6 0 zero6 0) 29 (0, 0)) → Below w.heap.size w6 w9 → PkAt w9 w.heap.size 29 0 zero6 0 zero6 0 ∧ Below w.heap.size w w9 := fun w9 h1 h2 => ⟨h1, pk.below.trans h2⟩
      go_wp2_with (first
        | (go_at_call 22; refine (fault_any 16 14 _ (by decide) (by decide)).mono ?_; rintro e w1 ⟨rfl, rfl⟩)
        | (refine wpList_stF rfl rfl 29 _ _ rfl w.heap.size (pkC 0 zero6 0 zero6 0) rfl rfl 29 _ pk.z (by kernel_rfl) rfl (pkC_one ..) ?_; intro w9 f9 hb9 _ _; obtain ⟨k9, b9⟩ := fin w9 f9 hb9; clear fin f9 hb9))
      obtain ⟨z0, z1, z2, z3, z4, z5, z6, z7, z8, z9, z10, z11, z12, z13, z14⟩ := k9.cells
      exact bodyPost_ret (v := .tuple #[zeroP, errV 16 14]) (by simp [results, Tryd.results9, go_sem, *]) rfl ⟨b9, .inl ⟨by rw [hE]; decide, by rw [hE]⟩⟩

    have hb6 : bEq (xs.take 6) head6 = true := f3.1 hq
    clear f3
    by_cases ho : opB (opOf xs) = true
    case' neg =>
      have hK : kindB xs = false := by simp [kindB, ho]
      have hE : pE xs = (16, 14) := by
        rcases HCo with h | h | h | h
        · omega
        · exact h.2.2
        · rw [hK] at h; cases h.2.1
        · rw [hK] at h; cases h.2.1
      clear HCo hK
      replace ho : opB (opOf xs) = false := by simpa using ho
      obtain ⟨a0, a1, a2, a3, a4, a5, a6, a7, a8, a9, a10, a11, a12, a13, a14⟩ := pk.pk.cells
      have fin : ∀ (w9 : World), w9.heap[w.heap.size]? = some (.cells (pkC 0 zero6 0 zero6 0) 29 (0, 0)) → Below w.heap.size w6 w9 → PkAt w9 w.heap.size 29 0 zero6 0 zero6 0 ∧ Below w.heap.size w w9 := fun w9 h1 h2 => ⟨h1, pk.below.trans h2⟩
      go_wp2_with (first
        | (go_at_call 24; refine (isOp_any (opOf xs) _).mono ?_; rintro e w1 ⟨rfl, rfl⟩)
        | (go_at_call 22; refine (fault_any 16 14 _ (by decide) (by decide)).mono ?_; rintro e w1 ⟨rfl, rfl⟩)
        | (refine wpList_stF rfl rfl 29 _ _ rfl w.heap.size (pkC 0 zero6 0 zero6 0) rfl rfl 29 _ pk.z (by kernel_rfl) rfl (pkC_one ..) ?_; intro w9 f9 hb9 _ _; obtain ⟨k9, b9⟩ := fin w9 f9 hb9; clear fin f9 hb9; clear a0 a1 a2 a3 a4 a5 a6 a7 a8 a9 a10 a11 a12 a13 a14))
      obtain ⟨z0, z1, z2, z3, z4, z5, z6, z7, z8, z9, z10, z11, z12, z13, z14⟩ := k9.cells
      exact bodyPost_ret (v := .tuple #[zeroP, errV 16 14]) (by simp [results, Tryd.results9, go_sem, *]) rfl ⟨b9, .inl ⟨by rw [hE]; decide, by rw [hE]⟩⟩

    have hK : kindB xs = true := by simp [kindB, hb6, ho]
    obtain ⟨a0, a1, a2, a3, a4, a5, a6, a7, a8, a9, a10, a11, a12, a13, a14⟩ := pk.pk.cells
    go_wp2_with (go_at_call 24; refine (isOp_any (opOf xs) _).mono ?_; rintro e w1 ⟨rfl, rfl⟩)
    with_reducible refine (group_any (six (xs.drop 8)) _ h8).mono ?_
    rintro ev w8 ⟨rfl, hb8⟩
    replace pk := pk.step hb8
    clear a0 a1 a2 a3 a4 a5 a6 a7 a8 a9 a10 a11 a12 a13 a14
    clear hb8 f1
    by_cases hgr : grpV (six (xs.drop 8)) = true
    case' pos =>
      have hE : pE xs = (1, 10) := by
        rcases HCo with h | h | h | h
        · omega
        · rw [hK] at h; cases h.2.1
        · exact h.2.2.2
        · rw [hgr] at h; cases h.2.2.1
      clear HCo
      have fin : ∀ (w9 : World), w9.heap[w.heap.size]? = some (.cells (pkC 0 zero6 0 zero6 0) 29 (0, 0)) → Below w.heap.size w8 w9 → PkAt w9 w.heap.size 29 0 zero6 0 zero6 0 ∧ Below w.heap.size w w9 := fun w9 h1 h2 => ⟨h1, pk.below.trans h2⟩
      go_wp2_with (first
        | (go_at_call 22; refine (fault_any 1 10 _ (by decide) (by decide)).mono ?_; rintro e w1 ⟨rfl, rfl⟩)
        | (refine wpList_stF rfl rfl 29 _ _ rfl w.heap.size (pkC 0 zero6 0 zero6 0) rfl rfl 29 _ pk.z (by kernel_rfl) rfl (pkC_one ..) ?_; intro w9 f9 hb9 _ _; obtain ⟨k9, b9⟩ := fin w9 f9 hb9; clear fin f9 hb9))
      obtain ⟨z0, z1, z2, z3, z4, z5, z6, z7, z8, z9, z10, z11, z12, z13, z14⟩ := k9.cells
      exact bodyPost_ret (v := .tuple #[zeroP, errV 1 10]) (by simp [results, Tryd.results9, go_sem, *]) rfl ⟨b9, .inl ⟨by rw [hE]; decide, by rw [hE]⟩⟩

    have hgr : grpV (six (xs.drop 8)) = false := by simpa using hgr
    have hE : pE xs = (0, 0) := by
      rcases HCo with h | h | h | h
      · omega
      · rw [hK] at h; cases h.2.1
      · rw [hgr] at h; cases h.2.2.1
      · exact h.2.2.2
    clear HCo
    obtain ⟨a0, a1, a2, a3, a4, a5, a6, a7, a8, a9, a10, a11, a12, a13, a14⟩ := pk.pk.cells
    have fin : ∀ (w9 : World), w9.heap[w.heap.size]? = some (.cells (pkC (opOf xs) (six (xs.drop 8)) (num4 (xs.drop 14)) (six (xs.drop 18)) (num4 (xs.drop 24))) 29 (0, 0)) → Below w.heap.size w8 w9 → PkAt w9 w.heap.size 29 (opOf xs) (six (xs.drop 8)) (num4 (xs.drop 14)) (six (xs.drop 18)) (num4 (xs.drop 24)) ∧ Below w.heap.size w w9 := fun w9 h1 h2 => ⟨h1, pk.below.trans h2⟩
    go_wp2_with (first
      | (refine wpList_stF rfl rfl 29 _ _ rfl w.heap.size (pkC (opOf xs) (six (xs.drop 8)) (num4 (xs.drop 14)) (six (xs.drop 18)) (num4 (xs.drop 24))) rfl rfl 29 _ pk.z (by kernel_rfl) rfl (pkC_one ..) ?_; intro w9 f9 hb9 _ _; obtain ⟨k9, b9⟩ := fin w9 f9 hb9; clear fin f9 hb9; clear a0 a1 a2 a3 a4 a5 a6 a7 a8 a9 a10 a11 a12 a13 a14))
    obtain ⟨z0, z1, z2, z3, z4, z5, z6, z7, z8, z9, z10, z11, z12, z13, z14⟩ := k9.cells
    exact bodyPost_ret (v := .tuple #[pkOf xs, .nilIface]) (by simp [results, Tryd.results9, go_sem, *]) rfl ⟨b9, .inr ⟨by rw [hE], rfl⟩⟩
theorem parse_any (A : Option Addr) (n c : Nat) (xs : List Int) (w : World) (hr : Rd .u8 w w.heap.size A n c xs) : Calls Tryd.prog 9 #[.slice A n c] w (GivesP w xs) := by
  by_cases h : n < 28
  · refine (parse_short A n c w h).mono ?_
    rintro e w' ⟨rfl, hb⟩
    have hE : pE xs = (1, 12) := by unfold pE; rw [hr.len, if_pos h]
    exact ⟨hb, .inl ⟨by rw [hE]; decide, by rw [hE]⟩⟩
  · exact parse_long A n c xs w hr (by omega)
end Go.Proofs.YtgjfhgipgcdddaaDoor
