/-
  Contracts of the leaves: Own, SameBytes, bytes.Equal, Fault, wrong, fieldsOf; byte slices as strings.
-/
import Derived.Test.YtbefoapnlehdmaaDoorPk
import Derived.Test.YtbefoapnlehdmaaDoorAt
import Derived.Test.YtbefoapnlehdmaaDoorLaw
import Derived.Deep.RegionHeld3
import Derived.BigQuiet
namespace Go.Proofs.YtbefoapnlehdmaaDoor
open Go.RowKit

/-- An error of what is no packet: its reason, its number. -/
@[reducible] def errV (r e : Int) : Value := .iface 100 (.agg #[.int .i64 r, .iface 34 (.int .i64 e)])
theorem errV_chain (r e : Int) : chainV e [r] = errV r e := rfl
theorem fault_any (r e : Int) (w : World) (hr : isR r = true) (he : ¬ e = 0) : Calls Tryd.prog 36 #[.int .i64 r, .int .i64 e] w fun ev w' => ev = .returned (errV r e) ∧ w = w' := by
  have c := fault_yes r e w hr he
  rwa [errV_chain] at c
theorem wrong_any (e : Int) (w : World) (he : ¬ e = 0) : Calls Tryd.prog 77 #[.int .i64 e] w fun ev w' => ev = .returned (errV 1 e) ∧ w = w' := by
  go_enter Tryd.func77, Tryd.ntmps77
  go_wp2_with (go_at_call 36; refine (fault_any 1 e _ (by decide) he).mono ?_; rintro e w1 ⟨rfl, rfl⟩)
  go_ret
  exact ⟨rfl, rfl⟩
theorem info5 : (Tryd.prog.info? 5).map (fun i => (i.zero, i.size, i.bytes)) = some (some (.int .u8 0), 1, 1) := by kernel_rfl
theorem sz5 : (Tryd.prog.info? 5).map (·.size) = some 1 := by kernel_rfl
theorem own_any (A : Option Addr) (n c B : Nat) (xs : List Int) (w : World) (hr : Rd .u8 w B A n c xs) (hB : B ≤ w.heap.size) (hn : n ≤ 100000) :
    Calls Tryd.prog 9 #[.slice A n c] w fun e w' => ∃ A' n' c', e = .returned (.slice A' n' c') ∧ Out .u8 5 w' w.heap.size A' n' c' xs ∧ Below w.heap.size w w' := by
  have o0 := Out.lit0 .u8 5 w w.heap.size (Nat.le_refl _)
  have r0 : Rd .u8 (w.alloc (.cells #[] 5)) B A n c xs := hr.below (alloc_below w _) hB
  go_enter Tryd.func9, Tryd.ntmps9
  go_wp2_with (first
    | (at_builtin; refine wpList_app rfl (.tmp 3) (.tmp 4) 22 rfl w.heap.size Tryd.underlying22 info5 (by omega) (some ⟨w.heap.size, 0, none⟩) 0 0 [] rfl o0 A n c B xs rfl r0 (by omega) (by simp) ?_))
  intro A' n' c' w' o' hg'
  have b' : Below w.heap.size w w' := (alloc_below w _).grown hg' (by simp) (fun k hk => by simp [Value.ownBlock] at hk; omega)
  go_wp2
  go_ret
  exact ⟨A', n', c', rfl, by simpa using o', b'⟩
/-- A byte slice as a string. -/
theorem conv_str {A : Option Addr} {n c B : Nat} {xs : List Int} {w : World} (h : Rd .u8 w B A n c xs) : (convert 22 9 (.slice A n c)).run Tryd.prog w = .ok (.string (strOfNums xs)) w := by
  have hl := h.len
  rcases Nat.eq_zero_or_pos n with hn | hn
  · subst hn
    obtain rfl : xs = [] := List.eq_nil_of_length_eq_zero hl
    cases A with
    | none => exact run_convert_bytes_nil (P := Tryd.prog) w 22 5 Tryd.underlying22 Tryd.underlying5 0 c 9 Tryd.underlying9
    | some ad =>
      rw [run_convert_bytes_string w 22 9 5 _ 0 c Tryd.underlying22 Tryd.underlying5 Tryd.underlying9]
      have := run_bytesToString (P := Tryd.prog) w ad 0 c [] (by simp [loadCells, loadCellsFrom])
      exact this
  · obtain ⟨b, o, rfl, _, _⟩ := h.at_ hn
    refine run_convert_bytes_arg (P := Tryd.prog) w 22 5 Tryd.underlying22 Tryd.underlying5 b o n c xs hl (fun i hi => ?_) 9 Tryd.underlying9
    obtain ⟨b', o', e, _, hc⟩ := h.at_ hi
    injection e with e
    injection e with e1 e2
    subst e1 e2
    exact hc
/-- The same bytes? -/
def bEq (xs ys : List Int) : Bool := decide (xs = ys)
theorem str_inj {xs ys : List Int} (hx : ∀ x ∈ xs, (Lit.int .u8 x).wf = true) (hy : ∀ y ∈ ys, (Lit.int .u8 y).wf = true) (h : (strOfNums xs).toList = (strOfNums ys).toList) : xs = ys := by
  rw [ByteArray.toList_eq, ByteArray.toList_eq] at h
  simp only [strOfNums] at h
  induction xs generalizing ys with
  | nil =>
    cases ys with
    | nil => rfl
    | cons y ys => simp at h
  | cons x xs ih =>
    cases ys with
    | nil => simp at h
    | cons y ys =>
      simp at h
      have h1 := u8_bd (hx x (by simp))
      have h2 := u8_bd (hy y (by simp))
      have h3 : x = y := by
        have := congrArg UInt8.toNat h.1
        simp at this
        omega
      rw [h3, ih (ys := ys) (fun z hz => hx z (List.mem_cons_of_mem _ hz)) (fun z hz => hy z (List.mem_cons_of_mem _ hz)) h.2]
theorem str_eq {xs ys : List Int} (hx : ∀ x ∈ xs, (Lit.int .u8 x).wf = true) (hy : ∀ y ∈ ys, (Lit.int .u8 y).wf = true) : ((strOfNums xs).toList == (strOfNums ys).toList) = bEq xs ys := by
  unfold bEq
  by_cases h : xs = ys
  · subst h; simp
  · have : ¬ (strOfNums xs).toList = (strOfNums ys).toList := fun h' => h (str_inj hx hy h')
    simp [h, this]

theorem bEq_self (xs : List Int) : bEq xs xs = true := by simp [bEq]
theorem bEq_no {xs ys : List Int} {i : Nat} (h : ¬ xs.getD i 0 = ys.getD i 0) : bEq xs ys = false := by
  simp only [bEq, decide_eq_false_iff_not]
  intro e
  rw [e] at h
  exact h rfl
theorem bEq_len {xs ys : List Int} (h : ¬ xs.length = ys.length) : bEq xs ys = false := by
  simp only [bEq, decide_eq_false_iff_not]
  intro e
  rw [e] at h
  exact h rfl
set_option maxHeartbeats 1000000 in
theorem same_gen (A A' : Option Addr) (n c n' c' : Nat) (xs ys : List Int) (B B' : Nat) (w : World) (hr : Rd .u8 w B A n c xs) (hr' : Rd .u8 w B' A' n' c' ys) :
    Calls Tryd.prog 15 #[.slice A n c, .slice A' n' c'] w fun e w' => e = .returned (.bool (bEq xs ys)) ∧ Below w.heap.size w w' := by
  have hmax := hr.max
  have hcap := hr.cap
  have hmax' := hr'.max
  have hcap' := hr'.cap
  by_cases hnn : ¬ n = n'
  · have hf : bEq xs ys = false := bEq_len (by rw [hr.len, hr'.len]; exact hnn)
    rw [hf]
    have hni : ¬ (n : Int) = (n' : Int) := by omega
    go_enter Tryd.func15, Tryd.ntmps15
    go_wp2
    go_ret
    exact ⟨rfl, Below.refl _ _⟩
  obtain rfl : n = n' := Classical.not_not.1 hnn
  have HL := Lib.hid hr.len
  have HL' := Lib.hid hr'.len
  go_enter Tryd.func15, Tryd.ntmps15
  go_wp2
  go_loopw [5] (fun i wr => ∃ k d : Nat, k ≤ n ∧ i = .int .i64 k ∧ wr = w.drewN d ∧ ∀ j, j < k → xs.getD j 0 = ys.getD j 0) (fun i _ => n - (intOf i).toNat)
  case atStart => exact ⟨0, 0, Nat.zero_le _, rfl, rfl, fun j hj => absurd hj (by omega)⟩
  case round =>
    obtain ⟨k, d, hk, rfl, rfl, hall⟩ := hrel
    by_cases hlt : k < n
    · obtain ⟨b, o, rfl, _, hc⟩ := hr.at_ hlt
      obtain ⟨b', o', rfl, _, hc'⟩ := hr'.at_ hlt
      by_cases he : xs.getD k 0 = ys.getD k 0
      · have Hall : Hid (∀ j, j < k + 1 → xs.getD j 0 = ys.getD j 0) := Lib.hid (fun j hj => by
          by_cases h1 : j < k
          · exact hall j h1
          · obtain rfl : j = k := by omega
            exact he)
        clear hall
        rw [← he] at hc'
        clear he
        generalize xs.getD k 0 = x at *
        go_wp2
        go_quiet (fail)
        go_wp2
        go_roundw
        case rel => exact ⟨k + 1, _, by omega, by go_num, rfl, Hall.out⟩
        case measure => simp [intOf]; omega
      · have Hf : Hid (bEq xs ys = false) := Lib.hid (bEq_no he)
        clear hall
        generalize xs.getD k 0 = x at *
        generalize ys.getD k 0 = y at *
        go_wp2
        go_quiet (fail)
        go_wp2
        go_ret
        exact ⟨by first | (rw [Hf.out]; done) | (rw [Hf.out]; rfl) | simp [Hf.out], by first | exact below_drewN (Below.refl _ _) _ | exact below_drewN (below_drewN (Below.refl _ _) _) _⟩
    · have hf : bEq xs ys = true := by
        simp only [bEq, decide_eq_true_eq]
        refine List.ext_getElem (by rw [HL.out, HL'.out]) (fun i h1 h2 => ?_)
        have := hall i (by have := HL.out; omega)
        simpa [List.getD, List.getElem?_eq_getElem h1, List.getElem?_eq_getElem h2] using this
      have Hf := Lib.hid hf
      clear hall hf
      go_wp2
      go_ret
      exact ⟨by first | (rw [Hf.out]; done) | (rw [Hf.out]; rfl) | simp [Hf.out], by first | exact below_drewN (Below.refl _ _) _ | exact below_drewN (below_drewN (Below.refl _ _) _) _⟩
theorem same_any (A A' : Option Addr) (n c n' c' : Nat) (xs : List Int) (B B' : Nat) (w : World) (hr : Rd .u8 w B A n c xs) (hr' : Rd .u8 w B' A' n' c' xs) :
    Calls Tryd.prog 15 #[.slice A n c, .slice A' n' c'] w fun e w' => e = .returned (.bool true) ∧ Below w.heap.size w w' := by
  have := same_gen A A' n c n' c' xs xs B B' w hr hr'
  rwa [bEq_self] at this
theorem equal_any (A A' : Option Addr) (n c n' c' : Nat) (xs ys : List Int) (B B' : Nat) (w : World) (hr : Rd .u8 w B A n c xs) (hr' : Rd .u8 w B' A' n' c' ys) :
    Calls Tryd.prog 49 #[.slice A n c, .slice A' n' c'] w fun e w' => e = .returned (.bool (bEq xs ys)) ∧ w = w' := by
  have h1 := conv_str hr
  have h2 := conv_str hr'
  have h3 := str_eq hr.2.2.2.1 hr'.2.2.2.1
  go_enter Tryd.func49, Tryd.ntmps49
  go_wp2
  go_ret
  exact ⟨by first | rfl | simp, rfl⟩
end Go.Proofs.YtbefoapnlehdmaaDoor
