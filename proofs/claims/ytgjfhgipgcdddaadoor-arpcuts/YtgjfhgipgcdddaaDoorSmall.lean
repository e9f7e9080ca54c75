/-
  Contracts of the leaves: Group, Own, SameBytes, Ask, Tell, Of, isOp, and the document's Ask, Tell.
-/
import Derived.Test.YtgjfhgipgcdddaaDoorPk
import Derived.Test.YtgjfhgipgcdddaaDoorAt
import Derived.Test.YtgjfhgipgcdddaaDoorLaw
import Derived.Deep.RegionHeld3
import Derived.BigQuiet
namespace Go.Proofs.YtgjfhgipgcdddaaDoor
open Go.RowKit

@[reducible] def zero6 : Mac6 := ⟨0, 0, 0, 0, 0, 0⟩
/-- Is a Mac a group's? -/
def grpV (t : Mac6) : Bool := t.a % 2 == 1
theorem group_any (t : Mac6) (w : World) (ht : 0 ≤ t.a ∧ t.a ≤ 255) : Calls Tryd.prog 25 #[t.v] w fun e w' => e = .returned (.bool (grpV t)) ∧ Below w.heap.size w w' := by
  go_enter Tryd.func25, Tryd.ntmps25
  go_wp2
  go_ret
  exact ⟨rfl, alloc_below _ _⟩
/-- An error of what is no packet: its reason, its number. -/
@[reducible] def errV (r e : Int) : Value := .iface 70 (.agg #[.int .i64 r, .iface 37 (.int .i64 e)])
theorem errV_chain (r e : Int) : chainV e [r] = errV r e := rfl
theorem fault_any (r e : Int) (w : World) (hr : isR r = true) (he : ¬ e = 0) : Calls Tryd.prog 22 #[.int .i64 r, .int .i64 e] w fun ev w' => ev = .returned (errV r e) ∧ w = w' := by
  have c := fault_yes r e w hr he
  rwa [errV_chain] at c
theorem info5 : (Tryd.prog.info? 5).map (fun i => (i.zero, i.size, i.bytes)) = some (some (.int .u8 0), 1, 1) := by kernel_rfl
theorem own_any (A : Option Addr) (n c B : Nat) (xs : List Int) (w : World) (hr : Rd .u8 w B A n c xs) (hB : B ≤ w.heap.size) (hn : n ≤ 100000) :
    Calls Tryd.prog 8 #[.slice A n c] w fun e w' => ∃ A' n' c', e = .returned (.slice A' n' c') ∧ Out .u8 5 w' w.heap.size A' n' c' xs ∧ Below w.heap.size w w' := by
  have o0 := Out.lit0 .u8 5 w w.heap.size (Nat.le_refl _)
  have r0 : Rd .u8 (w.alloc (.cells #[] 5)) B A n c xs := hr.below (alloc_below w _) hB
  go_enter Tryd.func8, Tryd.ntmps8
  go_wp2_with (first
    | (at_builtin; refine wpList_app rfl (.tmp 3) (.tmp 4) 22 rfl w.heap.size Tryd.underlying22 info5 (by omega) (some ⟨w.heap.size, 0, none⟩) 0 0 [] rfl o0 A n c B xs rfl r0 (by omega) (by simp) ?_))
  intro A' n' c' w' o' hg'
  have b' : Below w.heap.size w w' := (alloc_below w _).grown hg' (by simp) (fun k hk => by simp [Value.ownBlock] at hk; omega)
  go_wp2
  go_ret
  exact ⟨A', n', c', rfl, by simpa using o', b'⟩
set_option maxHeartbeats 400000 in
theorem same_any (A A' : Option Addr) (n c n' c' : Nat) (xs : List Int) (B B' : Nat) (w : World) (hr : Rd .u8 w B A n c xs) (hr' : Rd .u8 w B' A' n' c' xs) :
    Calls Tryd.prog 13 #[.slice A n c, .slice A' n' c'] w fun e w' => e = .returned (.bool true) ∧ Below w.heap.size w w' := by
  obtain rfl : n = n' := by rw [← hr.len, ← hr'.len]
  have hmax := hr.max
  have hcap := hr.cap
  go_enter Tryd.func13, Tryd.ntmps13
  go_wp2
  go_loopw [5] (fun i wr => ∃ k d : Nat, k ≤ n ∧ i = .int .i64 k ∧ wr = w.drewN d) (fun i _ => n - (intOf i).toNat)
  case atStart => exact ⟨0, 0, Nat.zero_le _, rfl, rfl⟩
  case round =>
    obtain ⟨k, d, hk, rfl, rfl⟩ := hrel
    by_cases hlt : k < n
    · obtain ⟨b, o, rfl, _, hc⟩ := hr.at_ hlt
      obtain ⟨b', o', rfl, _, hc'⟩ := hr'.at_ hlt
      generalize xs.getD k 0 = x at *
      go_wp2
      go_quiet (fail)
      go_wp2
      go_roundw
      case rel => exact ⟨k + 1, _, by omega, by go_num, rfl⟩
      case measure => simp [intOf]; omega
    · go_wp2
      go_ret
      exact ⟨rfl, below_drewN (Below.refl _ _) _⟩
/-- A byte slice as a string. -/
theorem conv_str {A : Option Addr} {n c B : Nat} {xs : List Int} {w : World} (h : Rd .u8 w B A n c xs) : (convert 22 9 (.slice A n c)).run Tryd.prog w = .ok (.string (strOfNums xs)) w := by
  have hl := h.len
  rcases Nat.eq_zero_or_pos n with hn | hn
  · subst hn
    obtain rfl : xs = [] := List.eq_nil_of_length_eq_zero hl
    cases A with
    | none => exact run_convert_bytes_nil (P := Tryd.prog) w 22 5 Tryd.underlying22 Tryd.underlying5 0 c 9 Tryd.underlying9
    | some ad =>
      rw [run_convert_bytes_string w 22 9 5 _ 0 c Tryd.underlying22 Tryd.underlying5 Tryd.underlying9]
      have := run_bytesToString (P := Tryd.prog) w ad 0 c [] (by simp [loadCells, loadCellsFrom])
      exact this
  · obtain ⟨b, o, rfl, _, _⟩ := h.at_ hn
    refine run_convert_bytes_arg (P := Tryd.prog) w 22 5 Tryd.underlying22 Tryd.underlying5 b o n c xs hl (fun i hi => ?_) 9 Tryd.underlying9
    obtain ⟨b', o', e, _, hc⟩ := h.at_ hi
    injection e with e
    injection e with e1 e2
    subst e1 e2
    exact hc
/-- The same bytes? -/
def bEq (xs ys : List Int) : Bool := decide (xs = ys)
theorem str_inj {xs ys : List Int} (hx : ∀ x ∈ xs, (Lit.int .u8 x).wf = true) (hy : ∀ y ∈ ys, (Lit.int .u8 y).wf = true) (h : (strOfNums xs).toList = (strOfNums ys).toList) : xs = ys := by
  rw [ByteArray.toList_eq, ByteArray.toList_eq] at h
  simp only [strOfNums] at h
  induction xs generalizing ys with
  | nil =>
    cases ys with
    | nil => rfl
    | cons y ys => simp at h
  | cons x xs ih =>
    cases ys with
    | nil => simp at h
    | cons y ys =>
      simp at h
      have h1 := u8_bd (hx x (by simp))
      have h2 := u8_bd (hy y (by simp))
      have h3 : x = y := by
        have := congrArg UInt8.toNat h.1
        simp at this
        omega
      rw [h3, ih (ys := ys) (fun z hz => hx z (List.mem_cons_of_mem _ hz)) (fun z hz => hy z (List.mem_cons_of_mem _ hz)) h.2]
theorem str_eq {xs ys : List Int} (hx : ∀ x ∈ xs, (Lit.int .u8 x).wf = true) (hy : ∀ y ∈ ys, (Lit.int .u8 y).wf = true) : ((strOfNums xs).toList == (strOfNums ys).toList) = bEq xs ys := by
  unfold bEq
  by_cases h : xs = ys
  · subst h; simp
  · have : ¬ (strOfNums xs).toList = (strOfNums ys).toList := fun h' => h (str_inj hx hy h')
    simp [h, this]

/-- Is there such an Op? -/
def opB (n : Int) : Bool := (n == 1) || (n == 2)
theorem isOp_any (n : Int) (w : World) : Calls Tryd.prog 24 #[.int .i64 n] w fun e w' => e = .returned (.bool (opB n)) ∧ w = w' := by
  unfold opB
  by_cases h1 : n = 1
  · subst h1
    go_enter Tryd.func24, Tryd.ntmps24
    go_wp2
    go_ret
    exact ⟨rfl, rfl⟩
  · go_enter Tryd.func24, Tryd.ntmps24
    go_wp2
    go_ret
    exact ⟨by simp, rfl⟩
section
variable (op : Int) (m : Mac6) (ip : Int) (t : Mac6) (ti : Int) (a : Mac6)
set_option maxHeartbeats 1000000 in
theorem ask_any (w : World) : Calls Tryd.prog 16 #[m.v, .int .u32 ip, .int .u32 ti] w fun e w' => e = .returned (pkV 1 m ip zero6 ti) ∧ Below w.heap.size w w' := by
  go_enter Tryd.func16, Tryd.ntmps16
  go_wp2
  refine bodyPost_ret (v := pkV 1 m ip zero6 ti) (by simp [results, Tryd.results16, go_sem]) rfl ⟨rfl, ?_⟩
  exact (alloc_below w _).alloc (by simp) _
set_option maxHeartbeats 1000000 in
theorem refAsk_any (w : World) : Calls Tryd.prog 17 #[m.v, .int .u32 ip, .int .u32 ti] w fun e w' => e = .returned (pkV 1 m ip zero6 ti) ∧ Below w.heap.size w w' := by
  go_enter Tryd.func17, Tryd.ntmps17
  go_wp2
  refine bodyPost_ret (v := pkV 1 m ip zero6 ti) (by simp [results, Tryd.results17, go_sem]) rfl ⟨rfl, ?_⟩
  exact (alloc_below w _).alloc (by simp) _
set_option maxHeartbeats 1000000 in
theorem tell_any (w : World) : Calls Tryd.prog 18 #[pkV op m ip t ti, a.v] w fun e w' => e = .returned (pkV 2 a ti m ip) ∧ Below w.heap.size w w' := by
  go_enter Tryd.func18, Tryd.ntmps18
  go_wp2
  refine bodyPost_ret (v := pkV 2 a ti m ip) (by simp [results, Tryd.results18, go_sem]) rfl ⟨rfl, ?_⟩
  exact ((alloc_below w _).alloc (by simp) _).alloc (by simp; omega) _
set_option maxHeartbeats 1000000 in
theorem refTell_any (w : World) : Calls Tryd.prog 19 #[pkV op m ip t ti, a.v] w fun e w' => e = .returned (pkV 2 a ti m ip) ∧ Below w.heap.size w w' := by
  go_enter Tryd.func19, Tryd.ntmps19
  go_wp2
  refine bodyPost_ret (v := pkV 2 a ti m ip) (by simp [results, Tryd.results19, go_sem]) rfl ⟨rfl, ?_⟩
  exact ((alloc_below w _).alloc (by simp) _).alloc (by simp; omega) _
set_option maxHeartbeats 1000000 in
theorem of_any_ (w : World) : Calls Tryd.prog 12 #[pkV op m ip t ti] w fun e w' => e = .returned (pkV op m ip t ti) ∧ Below w.heap.size w w' := by
  go_enter Tryd.func12, Tryd.ntmps12
  go_wp2
  refine bodyPost_ret (v := pkV op m ip t ti) (by simp [results, Tryd.results12, go_sem]) rfl ⟨rfl, ?_⟩
  exact (alloc_below w _).alloc (by simp) _
end
end Go.Proofs.YtgjfhgipgcdddaaDoor
