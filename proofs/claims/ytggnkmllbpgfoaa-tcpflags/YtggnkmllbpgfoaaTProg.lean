/-
  Contracts of same, Bytes, Has, look and Sums.
-/
import Derived.Test.YtggnkmllbpgfoaaUCut
import Derived.Test.YtggnkmllbpgfoaaForce
import Derived.Deep.CutRange
namespace Go.Proofs.Ytggnkmllbpgfoaa
open Go.RowKit

set_option maxHeartbeats 1000000 in
/-- The same bytes in memory of their own. -/
theorem cp_any (A : Option Addr) (n c : Nat) (xs : List Int) (w : World) (hr : Rd .u8 w w.heap.size A n c xs) (hn : n ≤ 100000) :
    Calls Try.prog 16 #[.slice A n c] w (GivesRow w xs n) := by
  have HL := Lib.hid hr.len
  go_enter Try.func16, Try.ntmps16
  go_wp2_with (first
    | (refine wpList_mk (some 6) rfl rfl _ _ 22 rfl Try.underlying22 info5 n _ _ rfl rfl rfl rfl (by omega) ?_; intro W4 row hs2 hb2; have rr := hr.below hb2 (Nat.le_refl _))
    | (with_reducible refine wpList_cpRow (some 9) rfl rfl (.tmp 7) (.tmp 8) 22 22 rfl Try.underlying22 sz5 w.heap.size 0 _ row (some ⟨w.heap.size, 0, none⟩) n n rfl A n c w.heap.size xs rfl rr (by simp) (Nat.le_refl _) (fun _ => rfl) ?_; intro W5 r5 ho5))
  rw [splice_all _ _ HL.out] at r5
  have b5 : Below w.heap.size w W5 := hb2.trans ho5.below
  clear hb2 row rr ho5
  go_ret
  exact ⟨_, rfl, r5, Nat.le_refl _, b5⟩
set_option maxHeartbeats 1000000 in
theorem bytes_any (h : Hd) (A : Option Addr) (n c : Nat) (xs : List Int) (w : World) (hr : Rd .u8 w w.heap.size A n c xs) (hn : n ≤ 100000) :
    Calls Try.prog 7 #[pkV h A n c] w (GivesRow w xs n) := by
  have hb0 : Below w.heap.size w (w.alloc (.cells (pkC h A n c) 27)) := alloc_below w _
  have hr0 := (hr.below hb0 (Nat.le_refl _)).more hb0.size
  obtain ⟨a0, a1, a2, a3⟩ := (PkAt.new w 27 h A n c).cells
  clear hr
  go_enter Try.func7, Try.ntmps7
  go_wp2_with (go_at_call 16; refine (cp_any A n c xs _ hr0 hn).mono ?_; rintro e w3 ⟨g, rfl, row, hg, hb1⟩)
  go_ret
  exact ⟨g, rfl, row, Nat.le_trans hb0.size hg, hb0.trans (hb1.mono hb0.size)⟩
/-- Has it all of these flags? -/
def hasB (a b : Int) : Bool := bits .and .u8 a b == b
set_option maxHeartbeats 1000000 in
theorem has_any (h : Hd) (A : Option Addr) (n c : Nat) (b : Int) (w : World) : Calls Try.prog 11 #[pkV h A n c, .int .u8 b] w fun e w' => e = .returned (.bool (hasB h.flags b)) ∧ Below w.heap.size w w' := by
  have hb0 : Below w.heap.size w (w.alloc (.cells (pkC h A n c) 27)) := alloc_below w _
  obtain ⟨a0, a1, a2, a3⟩ := (PkAt.new w 27 h A n c).cells
  unfold hasB
  go_enter Try.func11, Try.ntmps11
  go_wp2
  go_ret
  exact ⟨rfl, hb0⟩

set_option maxHeartbeats 1000000 in
theorem look_any (A : Option Addr) (n c B : Nat) (xs : List Int) (w : World) (hr : Rd .u8 w B A n c xs) :
    Calls Try.prog 13 #[.slice A n c] w fun ev w' => w = w' ∧ ((¬ (bE xs).2 = 0 ∧ ev = .returned (errV (bE xs).1 (bE xs).2)) ∨ ((bE xs).2 = 0 ∧ ev = .returned .nilIface)) := by
  have hl := hr.len
  have hmax := hr.max
  have hcap := hr.cap
  by_cases h20 : n < 20
  · have e : bE xs = (1, 12) := by unfold bE; rw [if_pos (by omega)]
    rw [e]
    have n1 : (n : Int) < 20 := by omega
    clear hr e hl
    go_enter Try.func13, Try.ntmps13
    go_wp2_with (go_at_call 19; refine (wrong_any 12 _ (by decide)).mono ?_; rintro e w1 ⟨rfl, rfl⟩)
    go_ret
    exact ⟨rfl, .inl ⟨by decide, rfl⟩⟩
  obtain ⟨b, o, rfl, -, c0⟩ := hr.at_ (i := 12) (by omega)
  have w0 := u8_bd (hr.wf (i := 12) (by omega))
  have hcs := bE_cases xs
  rw [hl] at hcs
  unfold headN at hcs
  generalize bE xs = ee at *
  generalize xs.getD 12 0 = x at *
  clear hr hl
  have n1 : ¬ (n : Int) < 20 := by omega
  have i12 : (12 : Int) < (n : Int) := by omega
  have v1 : IntKind.i64.wrap (x / 16) = x / 16 := by rw [IntKind.wrap_i64]; omega
  have v2 : IntKind.i64.wrap (x / 16 * 4) = x / 16 * 4 := by rw [IntKind.wrap_i64]; omega
  rcases hcs with ⟨h1, e⟩ | ⟨_, h2, e⟩ | ⟨_, h2, h3, e⟩ | ⟨_, h2, h3, h4, e⟩ | ⟨_, h2, h3, h4, e⟩
  · exact absurd h1 h20
  · subst e
    go_enter Try.func13, Try.ntmps13
    go_wp2_with (go_at_call 19; refine (wrong_any 10 _ (by decide)).mono ?_; rintro e w1 ⟨rfl, rfl⟩)
    go_ret
    exact ⟨rfl, .inl ⟨by decide, rfl⟩⟩
  · subst e
    have k2 : ¬ x / 16 * 4 < 20 := by omega
    go_enter Try.func13, Try.ntmps13
    go_wp2_with (go_at_call 19; refine (wrong_any 12 _ (by decide)).mono ?_; rintro e w1 ⟨rfl, rfl⟩)
    go_ret
    exact ⟨rfl, .inl ⟨by decide, rfl⟩⟩
  · subst e
    have k2 : ¬ x / 16 * 4 < 20 := by omega
    have k3 : ¬ (n : Int) < x / 16 * 4 := by omega
    have k4 : (1480 : Int) < (n : Int) := by omega
    go_enter Try.func13, Try.ntmps13
    go_wp2_with (go_at_call 19; refine (wrong_any 11 _ (by decide)).mono ?_; rintro e w1 ⟨rfl, rfl⟩)
    go_ret
    exact ⟨rfl, .inl ⟨by decide, rfl⟩⟩
  · subst e
    have k2 : ¬ x / 16 * 4 < 20 := by omega
    have k3 : ¬ (n : Int) < x / 16 * 4 := by omega
    have k4 : ¬ (1480 : Int) < (n : Int) := by omega
    go_enter Try.func13, Try.ntmps13
    go_wp2
    go_ret
    first | exact ⟨rfl, .inr ⟨rfl, rfl⟩⟩ | exact ⟨rfl, rfl⟩

set_option maxHeartbeats 2000000 in
theorem sums_any (A : Option Addr) (n c : Nat) (xs : List Int) (f t : Int) (w : World) (hr : Rd .u8 w w.heap.size A n c xs) (hf : Ip f) (ht : Ip t) (hn : n ≤ 65535) :
    Calls Try.prog 9 #[.slice A n c, .int .u32 f, .int .u32 t] w fun e w' => e = .returned (.bool (sumB f t xs)) ∧ Below w.heap.size w w' := by
  have hl := hr.len
  unfold sumB
  rw [hl]
  have wf := epR_wf hf ht (n := n) (by omega)
  have cs := fun (W : World) g (h1 : Row W g (epR f t n)) (h2 : Rd .u8 W W.heap.size A n c xs) => right_two (h1.rdW (n := 12) rfl (by omega) wf) h2
  have ca := ahead_any f t n w hf ht hn
  clear hl wf
  generalize (totV (epR f t n ++ xs) == 65535) = bb at *
  generalize epR f t n = EE at *
  go_enter Try.func9, Try.ntmps9
  go_wp2_with fail
  refine ca.mono ?_
  rintro ev w1 ⟨g, rfl, row, hg, hb⟩
  go_wp2_with fail
  refine (cs _ g row ((hr.below hb (Nat.le_refl _)).more hb.size)).mono ?_
  rintro ev w2 ⟨rfl, hb2⟩
  have b2 : Below w.heap.size w w2 := hb.trans (hb2.mono hb.size)
  clear cs hb2 hb hg row
  go_wp2
  go_ret
  exact ⟨rfl, b2⟩
end Go.Proofs.Ytggnkmllbpgfoaa
