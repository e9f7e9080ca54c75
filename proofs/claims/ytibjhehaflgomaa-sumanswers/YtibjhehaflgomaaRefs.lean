/-
  Contracts of the document's Total, Of and Patch, and of zero and Own.
-/
import Derived.Test.YtibjhehaflgomaaLeaf
import Derived.BigQuiet
namespace Go.Proofs.Ytibjhehaflgomaa
open Go.RowKit

set_option maxHeartbeats 400000 in
theorem refTotal_any (A : Option Addr) (n c B : Nat) (xs : List Int) (w : World) (hr : Rd .u8 w B A n c xs) (hn : n ≤ 100000000) :
    Calls Try.prog 18 #[.slice A n c] w fun e w' => e = .returned (.int .u16 (totV xs)) ∧ w = w' := by
  have hmax := hr.max
  have hcap := hr.cap
  have HL := Lib.hid hr.len
  have hby := byts_of hr.2.2.2.1
  go_enter Try.func18, Try.ntmps18
  go_wp2
  go_loop [3, 4] (fun v i => ∃ (k : Nat) (s : Int), k ≤ n + 1 ∧ i = .int .i64 k ∧ v = .int .u16 s ∧ W16 s ∧ sumF s (pairsV (xs.drop k)) = totV xs) (fun _ i => n + 1 - (intOf i).toNat)
  case atStart => exact ⟨0, 0, Nat.zero_le _, rfl, rfl, by unfold W16; omega, rfl⟩
  case round =>
    obtain ⟨k, s, hk, rfl, rfl, hs, hsum⟩ := hrel
    by_cases hlt : k < n
    · obtain ⟨b, o, rfl, _, hc⟩ := hr.at_ (i := k) (by omega)
      have hx := u8_bd (hr.wf (i := k) hlt)
      by_cases h1 : k + 1 < n
      · obtain ⟨b', o', e, _, hc1⟩ := hr.at_ (i := k + 1) h1
        obtain ⟨rfl, rfl⟩ : b = b' ∧ o = o' := by simpa using e
        have hy := u8_bd (hr.wf (i := k + 1) h1)
        rw [drop_two xs k (by rw [HL.out]; exact h1), pairsV_two, sumF_cons] at hsum
        generalize xs.getD k 0 = x at *
        generalize xs.getD (k + 1) 0 = y at *
        have hv : W16 (x * 256 + y) := by unfold W16; omega
        have HS := Lib.hid hsum
        clear hsum e
        go_wp2_with (go_at_call 14; refine (refAdd_any _ _ _ hs hv).mono ?_; rintro e w' ⟨rfl, rfl⟩)
        go_round
        case rel => exact ⟨k + 2, addV s (x * 256 + y), by omega, by go_num, rfl, addV_bd hs hv, HS.out⟩
        case measure => simp [intOf]; omega
      · rw [drop_one xs k (by rw [HL.out]; omega), pairsV_one, sumF_cons, sumF_nil] at hsum
        generalize xs.getD k 0 = x at *
        have hv : W16 (x * 256) := by unfold W16; omega
        have HS := Lib.hid hsum
        clear hsum
        go_wp2_with (go_at_call 14; refine (refAdd_any _ _ _ hs hv).mono ?_; rintro e w' ⟨rfl, rfl⟩)
        go_round
        case rel =>
          refine ⟨k + 2, addV s (x * 256), by omega, by go_num, rfl, addV_bd hs hv, ?_⟩
          rw [List.drop_eq_nil_of_le (by rw [HL.out]; omega), pairsV_nil, sumF_nil, ← HS.out]
          simp [numP]
        case measure => simp [intOf]; omega
    · rw [List.drop_eq_nil_of_le (by rw [HL.out]; omega), pairsV_nil, sumF_nil] at hsum
      subst hsum
      go_wp2
      go_ret
      exact ⟨rfl, rfl⟩
theorem refOf_any (A : Option Addr) (n c B : Nat) (xs : List Int) (w : World) (hr : Rd .u8 w B A n c xs) (hn : n ≤ 100000000) :
    Calls Try.prog 20 #[.slice A n c] w fun e w' => e = .returned (.int .u16 (65535 - totV xs)) ∧ w = w' := by
  have hby := totV_bd (byts_of hr.2.2.2.1)
  unfold W16 at hby
  go_enter Try.func20, Try.ntmps20
  go_wp2_with (go_at_call 18; refine (refTotal_any _ _ _ _ xs _ hr hn).mono ?_; rintro e w' ⟨rfl, rfl⟩)
  go_ret
  exact ⟨rfl, rfl⟩

/-- Are all 0? -/
def zeroV (xs : List Int) : Bool := xs.all (fun x => x == 0)
theorem zeroV_take (xs : List Int) (k : Nat) (h : k < xs.length) : zeroV (xs.take (k + 1)) = (zeroV (xs.take k) && (xs.getD k 0 == 0)) := by
  have : xs.getD k 0 = xs[k] := by simp [List.getD, List.getElem?_eq_getElem h]
  rw [List.take_succ_eq_append_getElem h, this]
  simp only [zeroV, List.all_append, List.all_cons, List.all_nil, Bool.and_true]
theorem zeroV_no (xs : List Int) (k : Nat) (h : k < xs.length) (hx : ¬ xs.getD k 0 = 0) : zeroV xs = false := by
  have : xs.getD k 0 = xs[k] := by simp [List.getD, List.getElem?_eq_getElem h]
  rw [this] at hx
  simp only [zeroV, List.all_eq_false]
  exact ⟨xs[k], List.getElem_mem _, by simpa using hx⟩
theorem zero_any (A : Option Addr) (n c B : Nat) (xs : List Int) (w : World) (hr : Rd .u8 w B A n c xs) :
    Calls Try.prog 23 #[.slice A n c] w fun e w' => e = .returned (.bool (zeroV xs)) ∧ w = w' := by
  have hmax := hr.max
  have hcap := hr.cap
  have HL := Lib.hid hr.len
  go_enter Try.func23, Try.ntmps23
  go_wp2
  go_loop [3] (fun i => ∃ (k : Nat), k ≤ n ∧ i = .int .i64 k ∧ zeroV (xs.take k) = true) (fun i => n - (intOf i).toNat)
  case atStart => exact ⟨0, Nat.zero_le _, rfl, rfl⟩
  case round =>
    obtain ⟨k, hk, rfl, hz⟩ := hrel
    by_cases hlt : k < n
    · obtain ⟨b, o, rfl, _, hc⟩ := hr.at_ (i := k) (by omega)
      have h1 := zeroV_take xs k (by rw [HL.out]; exact hlt)
      have h2 := zeroV_no xs k (by rw [HL.out]; exact hlt)
      rw [hz] at h1
      generalize xs.getD k 0 = x at *
      by_cases h0 : x = 0
      · subst h0
        have HZ := Lib.hid h1
        clear h1 h2 hz
        go_wp2
        go_round
        case rel => exact ⟨k + 1, by omega, by go_num, by rw [HZ.out]; rfl⟩
        case measure => simp [intOf]; omega
      · have HZ := Lib.hid (h2 h0)
        clear h1 h2 hz
        go_wp2
        go_ret
        exact ⟨by rw [HZ.out]; rfl, rfl⟩
    · obtain rfl : k = n := by omega
      rw [← HL.out, List.take_length] at hz
      have HZ := Lib.hid hz
      clear hz
      go_wp2
      go_ret
      exact ⟨by rw [HZ.out]; rfl, rfl⟩
theorem info5 : (Try.prog.info? 5).map (fun i => (i.zero, i.size, i.bytes)) = some (some (.int .u8 0), 1, 1) := by kernel_rfl
theorem own_any (A : Option Addr) (n c B : Nat) (xs : List Int) (w : World) (hr : Rd .u8 w B A n c xs) (hB : B ≤ w.heap.size) (hn : n ≤ 100000000) :
    Calls Try.prog 22 #[.slice A n c] w fun e w' => ∃ A' n' c', e = .returned (.slice A' n' c') ∧ Out .u8 5 w' w.heap.size A' n' c' xs ∧ Below w.heap.size w w' := by
  have hmax := hr.max
  have hcap := hr.cap
  have hr1 : Rd .u8 (w.alloc (.cells #[] 5)) B A n c xs := hr.below ((Below.refl w.heap.size w).alloc (Nat.le_refl _) _) hB
  go_enter Try.func22, Try.ntmps22
  go_wp2_with (at_builtin; refine wpList_app rfl _ _ 24 rfl w.heap.size Try.underlying24 info5 (by omega) _ _ _ [] rfl (Out.lit0 _ _ w _ (Nat.le_refl _)) A n c B xs rfl hr1 (by omega) (by simp) ?_; intro A' n' c' w' hout hg)
  go_ret
  refine ⟨A', n', c', rfl, hout, ?_⟩
  exact ((Below.refl w.heap.size w).alloc (Nat.le_refl _) _).grown hg (by simp) (by intro k hk; simp [Value.ownBlock] at hk; omega)

theorem i64_wrap {x : Int} (h : -9223372036854775808 ≤ x ∧ x ≤ 9223372036854775807) : IntKind.i64.wrap x = x := by
  simp [IntKind.wrap, IntKind.signed, IntKind.bits]
  omega
theorem u16_wrap {x : Int} (h : W16 x) : IntKind.u16.wrap x = x := by
  unfold W16 at h
  simp [IntKind.wrap, IntKind.signed, IntKind.bits]
  omega

theorem refTurn_q (s a b : Int) (w : World) (hs : W16 s) (ha : W16 a) (hb : W16 b) : Calls Try.prog 16 #[.int .u16 s, .int .u16 a, .int .u16 b] w fun e w' => e = .returned (.int .u16 (turnV s a b)) ∧ w' = w :=
  (refTurn_any s a b w hs ha hb).mono fun _ _ ⟨h1, h2⟩ => ⟨h1, h2.symm⟩
set_option maxHeartbeats 1000000 in
theorem refPatch_ok (s : Int) (A A2 : Option Addr) (n c c2 B B2 : Nat) (xs ys : List Int) (w : World) (hs : W16 s) (hr : Rd .u8 w B A n c xs) (hr2 : Rd .u8 w B2 A2 n c2 ys) (h : n % 2 = 0) (hn : n ≤ 100000000) :
    Calls Try.prog 12 #[.int .u16 s, .slice A n c, .slice A2 n c2] w fun e w' => e = .returned (.tuple #[.int .u16 (patF s xs ys), .int .i64 0]) ∧ Below w.heap.size w w' := by
  have hmax := hr.max
  have hcap := hr.cap
  have hmax2 := hr2.max
  have hcap2 := hr2.cap
  have HL := Lib.hid hr.len
  have HL2 := Lib.hid hr2.len
  have hm0 : (n : Int).tmod 2 = 0 := by
    have : (n : Int).tmod 2 = ((n % 2 : Nat) : Int) := rfl
    omega
  go_enter Try.func12, Try.ntmps12
  go_wp2
  go_loopw [0, 8] (fun v i wr => ∃ (k : Nat) (t : Int), k ≤ n ∧ k % 2 = 0 ∧ i = .int .i64 k ∧ v = .int .u16 t ∧ W16 t ∧ turnF t ((pairsV (xs.drop k)).zip (pairsV (ys.drop k))) = patF s xs ys ∧ Rd .u8 wr B A n c xs ∧ Rd .u8 wr B2 A2 n c2 ys ∧ Below w.heap.size w wr) (fun _ i _ => n - (intOf i).toNat)
  case atStart => exact ⟨0, s, Nat.zero_le _, rfl, rfl, rfl, hs, rfl, hr, hr2, Below.refl _ _⟩
  case round =>
    clear hr hr2
    obtain ⟨k, t, hk, hk2, rfl, rfl, ht, hsum, hr, hr2, hbel⟩ := hrel
    by_cases hlt : k < n
    · have h1 : k + 1 < n := by omega
      obtain ⟨b, o, rfl, _, hc⟩ := hr.at_ (i := k) (by omega)
      obtain ⟨b', o', e, _, hc1⟩ := hr.at_ (i := k + 1) h1
      obtain ⟨rfl, rfl⟩ : b = b' ∧ o = o' := by simpa using e
      obtain ⟨g, p, rfl, _, hd⟩ := hr2.at_ (i := k) (by omega)
      obtain ⟨g', p', e', _, hd1⟩ := hr2.at_ (i := k + 1) h1
      obtain ⟨rfl, rfl⟩ : g = g' ∧ p = p' := by simpa using e'
      have x0 := u8_bd (hr.wf (i := k) hlt)
      have x1 := u8_bd (hr.wf (i := k + 1) h1)
      have y0 := u8_bd (hr2.wf (i := k) hlt)
      have y1 := u8_bd (hr2.wf (i := k + 1) h1)
      rw [drop_two xs k (by rw [HL.out]; exact h1), drop_two ys k (by rw [HL2.out]; exact h1), pairsV_two, pairsV_two, List.zip_cons_cons, turnF_cons] at hsum
      generalize xs.getD k 0 = a at *
      generalize xs.getD (k + 1) 0 = a1 at *
      generalize ys.getD k 0 = z at *
      generalize ys.getD (k + 1) 0 = z1 at *
      have hv : W16 (a * 256 + a1) := by unfold W16; omega
      have hv2 : W16 (z * 256 + z1) := by unfold W16; omega
      have HS := Lib.hid hsum
      clear hsum e e'
      have r1 : IntKind.i64.wrap a = a := i64_wrap (by omega)
      have r2 : IntKind.i64.wrap (a * 256) = a * 256 := i64_wrap (by omega)
      have r3 : IntKind.i64.wrap a1 = a1 := i64_wrap (by omega)
      have r4 : IntKind.i64.wrap (a * 256 + a1) = a * 256 + a1 := i64_wrap (by omega)
      have r5 : IntKind.u16.wrap (a * 256 + a1) = a * 256 + a1 := u16_wrap hv
      have r6 : IntKind.i64.wrap z = z := i64_wrap (by omega)
      have r7 : IntKind.i64.wrap (z * 256) = z * 256 := i64_wrap (by omega)
      have r8 : IntKind.i64.wrap z1 = z1 := i64_wrap (by omega)
      have r9 : IntKind.i64.wrap (z * 256 + z1) = z * 256 + z1 := i64_wrap (by omega)
      have r10 : IntKind.u16.wrap (z * 256 + z1) = z * 256 + z1 := u16_wrap hv2
      obtain ⟨k1, hk1⟩ : ∃ k1 : Nat, k + 1 = k1 := ⟨_, rfl⟩
      have r11 : IntKind.i64.wrap ((k : Int) + 1) = (k1 : Int) := by rw [i64_wrap (by omega)]; omega
      rw [hk1] at hc1 hd1
      have b1 : (k : Int) < (n : Int) := by omega
      have b2 : (k1 : Int) < (n : Int) := by omega
      have HK := Lib.hid hk1
      clear hk1
      go_wp2
      go_quiet (first | (go_at_call 16; refine Calls.quiet_of_same (refTurn_q _ _ _ _ ht hv hv2)))
      go_wp2
      go_roundw
      case rel => exact ⟨k + 2, turnV t (a * 256 + a1) (z * 256 + z1), by omega, by omega, by go_num, rfl, turnV_bd ht hv hv2, HS.out, hr.keep (fun _ _ => rfl), hr2.keep (fun _ _ => rfl), below_drewN hbel _⟩
      case measure => simp [intOf]; omega
    · obtain rfl : k = n := by omega
      rw [List.drop_eq_nil_of_le (by rw [HL.out]; omega), pairsV_nil] at hsum
      have hsum' : t = patF s xs ys := hsum
      subst hsum'
      go_wp2
      go_ret2
      exact ⟨rfl, hbel⟩
end Go.Proofs.Ytibjhehaflgomaa
