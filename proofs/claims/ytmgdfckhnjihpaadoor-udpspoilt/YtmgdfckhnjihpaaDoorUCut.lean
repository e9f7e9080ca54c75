/-
  Contracts of cut, ahead and sumOf.
-/
import Derived.Test.YtmgdfckhnjihpaaDoorPl
import Derived.Test.YtmgdfckhnjihpaaDoorSTotal
namespace Go.Proofs.YtmgdfckhnjihpaaDoor
open Go.RowKit

@[reducible] def zeroP : Value := pkV zeroH none 0 0
theorem below_drew (w : World) : Below w.heap.size w w.drew := ⟨rfl, rfl, rfl, Nat.le_refl _, fun _ _ => rfl⟩
theorem splice_all (m : Nat) (ys : List Int) (h : ys.length = m) : splice (List.replicate m (0 : Int)) 0 ys = ys := by simp [splice, h]
theorem Rd.cutS {k : IntKind} {w : World} {B b o : Nat} {n c : Nat} {xs : List Int} (h : Rd k w B (some ⟨b, o, none⟩) n c xs) (f : Nat) (hf : f ≤ n) (hc : ¬ c = f) : Rd k w B (some ⟨b, o + f, none⟩) (n - f) (c - f) (xs.drop f) := by
  have := h.cutFrom f hf
  rw [cutA_ne hc] at this
  have e : (some (⟨b, o, none⟩ : Addr)).map (·.add f) = some ⟨b, o + f, none⟩ := by
    simp only [Option.map_some, Addr.add]
    split <;> simp_all
  rw [e] at this
  exact this
theorem Rd.cellAt {w : World} {B b o : Nat} {n c : Nat} {xs : List Int} (h : Rd .u8 w B (some ⟨b, o, none⟩) n c xs) {i : Nat} (hi : i < n) : w.cell? ⟨b, o + i, none⟩ = some (.int .u8 (xs.getD i 0)) := by
  obtain ⟨b', o', e, -, hc⟩ := h.at_ hi
  injection e with e
  injection e with e1 e2
  subst e1 e2
  exact hc
theorem Row.rdW {w : World} {g : Nat} {xs : List Int} {n : Nat} (h : Row w g xs) (hn : xs.length = n) (hm : n ≤ 100000000) (hw : ∀ x ∈ xs, (Lit.int .u8 x).wf = true) : Rd .u8 w w.heap.size (some ⟨g, 0, none⟩) n n xs := by
  have := h.rd 0 n n (by omega) (Nat.le_refl _) (by unfold maxLen; omega) hw
  rwa [List.drop_zero, List.take_of_length_le (by omega)] at this
/-- Two slices of bytes in a row, just laid. -/
theorem rows_two {W : World} {A1 A2 : Option Addr} {n1 c1 n2 c2 : Nat} {xs ys : List Int} (h1 : Rd .u8 W W.heap.size A1 n1 c1 xs) (h2 : Rd .u8 W W.heap.size A2 n2 c2 ys) :
    Rows2 (W.alloc (.cells #[.slice A1 n1 c1, .slice A2 n2 c2] 22)) (fun _ => False) (W.alloc (.cells #[.slice A1 n1 c1, .slice A2 n2 c2] 22)).heap.size (W.alloc (.cells #[.slice A1 n1 c1, .slice A2 n2 c2] 22)).heap.size (some ⟨W.heap.size, 0, none⟩) 2 2 [xs, ys] := by
  have b := alloc_below W (.cells #[.slice A1 n1 c1, .slice A2 n2 c2] 22)
  have r1 := (h1.below b (Nat.le_refl _)).more b.size
  have r2 := (h2.below b (Nat.le_refl _)).more b.size
  have hc := heap_alloc_new W (.cells #[.slice A1 n1 c1, .slice A2 n2 c2] 22)
  have hs := blk_lt hc
  refine ⟨rfl, by omega, Nat.le_refl _, fun i hi => ?_⟩
  rcases (show i = 0 ∨ i = 1 by omega) with rfl | rfl
  · exact ⟨W.heap.size, 0, A1, n1, c1, rfl, ⟨hs, fun q => q⟩, blk_cell hc rfl, r1⟩
  · exact ⟨W.heap.size, 0, A2, n2, c2, rfl, ⟨hs, fun q => q⟩, blk_cell hc rfl, r2⟩

set_option maxHeartbeats 1000000 in
theorem cut_short (A : Option Addr) (n c : Nat) (w : World) (h : n < 8) : Calls Tryd.prog 20 #[.slice A n c] w fun ev w' => ev = .returned (.tuple #[.slice none 0 0, errV 1 12]) ∧ w' = w := by
  have n1 : (n : Int) < 8 := by omega
  go_enter Tryd.func20, Tryd.ntmps20
  go_wp2_with (go_at_call 31; refine (wrong_any 12 _ (by decide)).mono ?_; rintro e w1 ⟨rfl, rfl⟩)
  go_ret2
  exact ⟨rfl, rfl⟩
set_option maxHeartbeats 2000000 in
theorem cut_told (b o n c T : Nat) (xs : List Int) (w : World) (B : Nat) (hr : Rd .u8 w B (some ⟨b, o, none⟩) n c xs) (h8 : 8 ≤ n) (hT : told xs = T) :
    Calls Tryd.prog 20 #[.slice (some ⟨b, o, none⟩) n c] w fun ev w' => (∃ m, w' = w.drewN m) ∧ ((T < 8 ∧ ev = .returned (.tuple #[.slice none 0 0, errV 1 10])) ∨ (8 ≤ T ∧ n < T ∧ ev = .returned (.tuple #[.slice none 0 0, errV 1 12])) ∨
      (8 ≤ T ∧ T ≤ n ∧ 1480 < T ∧ ev = .returned (.tuple #[.slice none 0 0, errV 1 11])) ∨ (8 ≤ T ∧ T ≤ n ∧ T ≤ 1480 ∧ ev = .returned (.tuple #[.slice (some ⟨b, o, none⟩) T c, .nilIface]))) := by
  have hmax := hr.max
  have hcap := hr.cap
  have n1 : ¬ (n : Int) < 8 := by omega
  have k4 : ¬ c = 4 := by omega
  have j4 : (4 : Int) ≤ (n : Int) := by omega
  have hq := hr.cutS 4 (by omega) k4
  have hb := num2_bd rfl hq (by omega)
  have e : num2 (xs.drop 4) = (T : Int) := by unfold told at hT; omega
  have t1 : Calls Tryd.prog 21 #[.slice (some ⟨b, o + 4, none⟩) (n - 4) (c - 4)] w fun e w' => e = .returned (.int .u16 (T : Int)) ∧ ∃ m, w' = w.drewN m := by
    rw [← e]
    exact two_any _ (n - 4) (c - 4) B (xs.drop 4) w hq (by omega)
  have hT16 : (T : Int) ≤ 65535 := by omega
  have v2 : IntKind.i64.wrap (T : Int) = (T : Int) := by rw [IntKind.wrap_i64]; omega
  clear hr hq hT e hb
  by_cases h2 : T < 8
  · have q2 : (T : Int) < 8 := by omega
    go_enter Tryd.func20, Tryd.ntmps20
    go_wp2_with (first
      | (go_at_call 21; with_reducible refine t1.mono ?_; rintro e w1 ⟨rfl, m, rfl⟩)
      | (go_at_call 31; refine (wrong_any 10 _ (by decide)).mono ?_; rintro e w1 ⟨rfl, rfl⟩))
    go_ret2
    exact ⟨⟨_, rfl⟩, .inl ⟨h2, rfl⟩⟩
  have q2 : ¬ (T : Int) < 8 := by omega
  by_cases h3 : n < T
  · have q3 : (n : Int) < (T : Int) := by omega
    go_enter Tryd.func20, Tryd.ntmps20
    go_wp2_with (first
      | (go_at_call 21; with_reducible refine t1.mono ?_; rintro e w1 ⟨rfl, m, rfl⟩)
      | (go_at_call 31; refine (wrong_any 12 _ (by decide)).mono ?_; rintro e w1 ⟨rfl, rfl⟩))
    go_ret2
    exact ⟨⟨_, rfl⟩, .inr (.inl ⟨by omega, h3, rfl⟩)⟩
  have q3 : ¬ (n : Int) < (T : Int) := by omega
  by_cases h4 : 1480 < T
  · have q4 : (1480 : Int) < (T : Int) := by omega
    go_enter Tryd.func20, Tryd.ntmps20
    go_wp2_with (first
      | (go_at_call 21; with_reducible refine t1.mono ?_; rintro e w1 ⟨rfl, m, rfl⟩)
      | (go_at_call 31; refine (wrong_any 11 _ (by decide)).mono ?_; rintro e w1 ⟨rfl, rfl⟩))
    go_ret2
    exact ⟨⟨_, rfl⟩, .inr (.inr (.inl ⟨by omega, by omega, h4, rfl⟩))⟩
  have q4 : ¬ (1480 : Int) < (T : Int) := by omega
  have q5 : (T : Int) ≤ (n : Int) := by omega
  have q6 : (T : Int) ≤ (c : Int) := by omega
  go_enter Tryd.func20, Tryd.ntmps20
  go_wp2_with (go_at_call 21; with_reducible refine t1.mono ?_; rintro e w1 ⟨rfl, m, rfl⟩)
  go_ret2
  exact ⟨⟨_, rfl⟩, .inr (.inr (.inr ⟨by omega, by omega, by omega, rfl⟩))⟩
/-- What cut answers. -/
def GivesC (w : World) (A : Option Addr) (c : Nat) (xs : List Int) (ev : Ending) (w' : World) : Prop :=
  (∃ m, w' = w.drewN m) ∧ ((¬ (bE xs).2 = 0 ∧ ev = .returned (.tuple #[.slice none 0 0, errV (bE xs).1 (bE xs).2])) ∨ ((bE xs).2 = 0 ∧ ev = .returned (.tuple #[.slice A (told xs) c, .nilIface])))
theorem cut_any (A : Option Addr) (n c B : Nat) (xs : List Int) (w : World) (hr : Rd .u8 w B A n c xs) : Calls Tryd.prog 20 #[.slice A n c] w (GivesC w A c xs) := by
  have hl := hr.len
  unfold GivesC
  rcases bE_cases xs with ⟨h1, e⟩ | hrest
  · rw [e]
    exact (cut_short A n c w (by omega)).mono fun ev w' ⟨h2, h3⟩ => ⟨⟨0, h3⟩, .inl ⟨by decide, h2⟩⟩
  have h8 : 8 ≤ n := by rw [← hl]; rcases hrest with h | h | h | h <;> exact h.1
  obtain ⟨b, o, rfl, -, -⟩ := hr.at_ (i := 0) (by omega)
  have key := cut_told b o n c (told xs) xs w B hr h8 rfl
  rw [hl] at hrest
  rcases hrest with ⟨_, h2, e⟩ | ⟨_, h2, h3, e⟩ | ⟨_, h2, h3, h4, e⟩ | ⟨_, h2, h3, h4, e⟩
  · rw [e]
    refine key.mono fun ev w' ⟨hm, h⟩ => ⟨hm, .inl ⟨by decide, ?_⟩⟩
    rcases h with ⟨_, h⟩ | ⟨_, _, h⟩ | ⟨_, _, _, h⟩ | ⟨_, _, _, h⟩ <;> first | exact h | omega
  · rw [e]
    refine key.mono fun ev w' ⟨hm, h⟩ => ⟨hm, .inl ⟨by decide, ?_⟩⟩
    rcases h with ⟨_, h⟩ | ⟨_, _, h⟩ | ⟨_, _, _, h⟩ | ⟨_, _, _, h⟩ <;> first | exact h | omega
  · rw [e]
    refine key.mono fun ev w' ⟨hm, h⟩ => ⟨hm, .inl ⟨by decide, ?_⟩⟩
    rcases h with ⟨_, h⟩ | ⟨_, _, h⟩ | ⟨_, _, _, h⟩ | ⟨_, _, _, h⟩ <;> first | exact h | omega
  · rw [e]
    refine key.mono fun ev w' ⟨hm, h⟩ => ⟨hm, .inr ⟨rfl, ?_⟩⟩
    rcases h with ⟨_, h⟩ | ⟨_, _, h⟩ | ⟨_, _, _, h⟩ | ⟨_, _, _, h⟩ <;> first | exact h | omega

set_option maxRecDepth 100000 in
set_option maxHeartbeats 2000000 in
theorem ahead_any (f t : Int) (n : Nat) (w : World) (hf : Ip f) (ht : Ip t) (hn : n ≤ 65535) : Calls Tryd.prog 23 #[.int .u32 f, .int .u32 t, .int .i64 n] w (GivesRow w (epR f t n) 12) := by
  unfold Ip at hf ht
  have a1 : IntKind.u8.wrap (f / 16777216) = f / 16777216 := by rw [IntKind.wrap_u8]; omega
  have a2 : IntKind.u8.wrap (f / 65536) = f / 65536 % 256 := by rw [IntKind.wrap_u8]
  have a3 : IntKind.u8.wrap (f / 256) = f / 256 % 256 := by rw [IntKind.wrap_u8]
  have a4 : IntKind.u8.wrap f = f % 256 := by rw [IntKind.wrap_u8]
  have b1 : IntKind.u8.wrap (t / 16777216) = t / 16777216 := by rw [IntKind.wrap_u8]; omega
  have b2 : IntKind.u8.wrap (t / 65536) = t / 65536 % 256 := by rw [IntKind.wrap_u8]
  have b3 : IntKind.u8.wrap (t / 256) = t / 256 % 256 := by rw [IntKind.wrap_u8]
  have b4 : IntKind.u8.wrap t = t % 256 := by rw [IntKind.wrap_u8]
  have c1 : IntKind.u8.wrap ((n : Int) / 256) = (n : Int) / 256 := by rw [IntKind.wrap_u8]; omega
  have c2 : IntKind.u8.wrap (n : Int) = (n : Int) % 256 := by rw [IntKind.wrap_u8]
  go_enter Tryd.func23, Tryd.ntmps23
  go_wp2
  go_ret
  refine ⟨_, rfl, ?_, Nat.le_refl _, alloc_below _ _⟩
  simpa [epR, four, two2, Row] using heap_alloc_new w (.cells #[.int .u8 (f / 16777216), .int .u8 (f / 65536 % 256), .int .u8 (f / 256 % 256), .int .u8 (f % 256), .int .u8 (t / 16777216), .int .u8 (t / 65536 % 256), .int .u8 (t / 256 % 256), .int .u8 (t % 256), .int .u8 0, .int .u8 17, .int .u8 ((n : Int) / 256), .int .u8 ((n : Int) % 256)] 5)
/-- The sum of two slices. -/
theorem right_two {W : World} {A1 A2 : Option Addr} {n1 c1 n2 c2 : Nat} {xs ys : List Int} (h1 : Rd .u8 W W.heap.size A1 n1 c1 xs) (h2 : Rd .u8 W W.heap.size A2 n2 c2 ys) :
    Calls Tryd.prog 22 #[.slice (some ⟨W.heap.size, 0, none⟩) 2 2] (W.alloc (.cells #[.slice A1 n1 c1, .slice A2 n2 c2] 22)) fun e w' => e = .returned (.bool (totV (xs ++ ys) == 65535)) ∧ Below W.heap.size W w' := by
  have := right_any _ 2 2 [xs, ys] _ (rows_two h1 h2)
  refine this.mono fun e w' ⟨h, hb⟩ => ⟨by simpa using h, (alloc_below W _).trans (hb.mono (alloc_below W _).size)⟩
theorem sumOf_two {W : World} {A1 A2 : Option Addr} {n1 c1 n2 c2 : Nat} {xs ys : List Int} (h1 : Rd .u8 W W.heap.size A1 n1 c1 xs) (h2 : Rd .u8 W W.heap.size A2 n2 c2 ys) :
    Calls Tryd.prog 46 #[.slice (some ⟨W.heap.size, 0, none⟩) 2 2] (W.alloc (.cells #[.slice A1 n1 c1, .slice A2 n2 c2] 22)) fun e w' => e = .returned (.int .u16 (65535 - totV (xs ++ ys))) ∧ Below W.heap.size W w' := by
  have := sumOf_any _ 2 2 [xs, ys] _ (rows_two h1 h2)
  refine this.mono fun e w' ⟨h, hb⟩ => ⟨by simpa using h, (alloc_below W _).trans (hb.mono (alloc_below W _).size)⟩
set_option maxHeartbeats 2000000 in
theorem sumU_any (A : Option Addr) (n c : Nat) (xs : List Int) (f t : Int) (w : World) (hr : Rd .u8 w w.heap.size A n c xs) (hf : Ip f) (ht : Ip t) (hn : n ≤ 65535) :
    Calls Tryd.prog 33 #[.slice A n c, .int .u32 f, .int .u32 t] w fun e w' => e = .returned (.int .u16 (fullV (65535 - totV (epR f t n ++ xs)))) ∧ Below w.heap.size w w' := by
  have wf := epR_wf hf ht (n := n) (by omega)
  have cs := fun (W : World) g (h1 : Row W g (epR f t n)) (h2 : Rd .u8 W W.heap.size A n c xs) => sumOf_two (h1.rdW (n := 12) rfl (by omega) wf) h2
  have ca := ahead_any f t n w hf ht hn
  obtain ⟨s, hs⟩ : ∃ s, 65535 - totV (epR f t n ++ xs) = s := ⟨_, rfl⟩
  rw [hs] at cs ⊢
  clear hs
  by_cases hz : s = 0
  · have e : fullV s = 65535 := by unfold fullV; rw [if_pos hz]
    rw [e]
    go_enter Tryd.func33, Tryd.ntmps33
    go_wp2_with fail
    refine ca.mono ?_
    rintro ev w1 ⟨g, rfl, row, hg, hb⟩
    go_wp2_with fail
    refine (cs _ g row ((hr.below hb (Nat.le_refl _)).more hb.size)).mono ?_
    rintro ev w2 ⟨rfl, hb2⟩
    have b2 : Below w.heap.size w w2 := hb.trans (hb2.mono hb.size)
    clear cs hb2 hb hg row
    go_wp2
    go_ret
    exact ⟨rfl, b2⟩
  · have e : fullV s = s := by unfold fullV; rw [if_neg hz]
    rw [e]
    go_enter Tryd.func33, Tryd.ntmps33
    go_wp2_with fail
    refine ca.mono ?_
    rintro ev w1 ⟨g, rfl, row, hg, hb⟩
    go_wp2_with fail
    refine (cs _ g row ((hr.below hb (Nat.le_refl _)).more hb.size)).mono ?_
    rintro ev w2 ⟨rfl, hb2⟩
    have b2 : Below w.heap.size w w2 := hb.trans (hb2.mono hb.size)
    clear cs hb2 hb hg row
    go_wp2
    go_ret
    exact ⟨rfl, b2⟩
end Go.Proofs.YtmgdfckhnjihpaaDoor
