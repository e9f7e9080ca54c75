/-
  Contract of Bytes.
-/
import Derived.Test.YteddpmjjahfmiaaDoorParse
namespace Go.Proofs.YteddpmjjahfmiaaDoor
open Go.RowKit

/-- A frame's bytes. -/
def hdr (t f : Mac6) (k : Int) (xs : List Int) : List Int := [t.a, t.b, t.c, t.d, t.e, t.f, f.a, f.b, f.c, f.d, f.e, f.f, k / 256, k % 256] ++ xs
theorem hdr_len (t f : Mac6) (k : Int) (xs : List Int) : (hdr t f k xs).length = 14 + xs.length := by simp [hdr]; omega
theorem l_wf {t : Mac6} (h : t.ok) : ∀ x ∈ t.l, (Lit.int .u8 x).wf = true := by
  obtain ⟨h1, h2, h3, h4, h5, h6⟩ := h
  intro x hx
  simp [Mac6.l] at hx
  rcases hx with rfl | rfl | rfl | rfl | rfl | rfl <;> exact u8_mk (by assumption)
theorem hdr_wf {t f : Mac6} {k : Int} {xs : List Int} (ht : t.ok) (hf : f.ok) (hk : 0 ≤ k ∧ k ≤ 65535) (hx : ∀ x ∈ xs, (Lit.int .u8 x).wf = true) : ∀ x ∈ hdr t f k xs, (Lit.int .u8 x).wf = true := by
  intro x h
  have e : hdr t f k xs = t.l ++ (f.l ++ ([k / 256, k % 256] ++ xs)) := rfl
  rw [e] at h
  rcases List.mem_append.1 h with h | h
  · exact l_wf ht x h
  rcases List.mem_append.1 h with h | h
  · exact l_wf hf x h
  rcases List.mem_append.1 h with h | h
  · simp at h
    rcases h with rfl | rfl <;> exact u8_mk (by omega)
  · exact hx x h
theorem zeros14 (n : Nat) : List.replicate (14 + n) (0 : Int) = [0, 0, 0, 0, 0, 0, 0, 0, 0, 0, 0, 0, 0, 0] ++ List.replicate n 0 := by rw [← List.replicate_append_replicate]; rfl
theorem row_all (t f : Mac6) (k : Int) (xs : List Int) (n : Nat) (h : xs.length = n) (a b : Int) (ha : a = k / 256) (hb : b = k % 256) :
    splice (((splice (splice (List.replicate (14 + n) (0 : Int)) 0 t.l) 6 f.l).set 12 a).set 13 b) 14 xs = hdr t f k xs := by
  subst ha hb
  rw [zeros14]
  simp [splice, Mac6.l, hdr, h]
  omega
theorem FrAt.rdTo {w : World} {g : Nat} {T : TypeId} {t f : Mac6} {k : Int} {A : Option Addr} {n c : Nat} (h : FrAt w g T t f k A n c) (ht : t.ok) : Rd .u8 w (g + 1) (some ⟨g, 0, none⟩) 6 6 t.l := by
  refine ⟨rfl, Nat.le_refl _, ⟨by unfold maxLen; omega, fun e => by cases e⟩, l_wf ht, fun i hi => ⟨g, 0, rfl, by omega, ?_⟩⟩
  obtain ⟨a0, a1, a2, a3, a4, a5, -⟩ := h.cells
  have : i = 0 ∨ i = 1 ∨ i = 2 ∨ i = 3 ∨ i = 4 ∨ i = 5 := by omega
  rcases this with rfl | rfl | rfl | rfl | rfl | rfl <;> assumption
theorem FrAt.rdFrom {w : World} {g : Nat} {T : TypeId} {t f : Mac6} {k : Int} {A : Option Addr} {n c : Nat} (h : FrAt w g T t f k A n c) (hf : f.ok) : Rd .u8 w (g + 1) (some ⟨g, 6, none⟩) 6 6 f.l := by
  refine ⟨rfl, Nat.le_refl _, ⟨by unfold maxLen; omega, fun e => by cases e⟩, l_wf hf, fun i hi => ⟨g, 6, rfl, by omega, ?_⟩⟩
  obtain ⟨-, -, -, -, -, -, a0, a1, a2, a3, a4, a5, -⟩ := h.cells
  have : i = 0 ∨ i = 1 ∨ i = 2 ∨ i = 3 ∨ i = 4 ∨ i = 5 := by omega
  rcases this with rfl | rfl | rfl | rfl | rfl | rfl <;> assumption

theorem bytes_long (t f : Mac6) (k : Int) (A : Option Addr) (n c : Nat) (w : World) (hn : 1500 < n) :
    Calls Tryd.prog 16 #[frV t f k A n c] w fun e w' => e = .returned (.tuple #[.slice none 0 0, errV 11]) ∧ Below w.heap.size w w' := by
  go_enter Tryd.func16, Tryd.ntmps16
  go_wp2_with (go_at_call 23; refine (wrong_any 11 _ (by decide)).mono ?_; rintro e w1 ⟨rfl, rfl⟩)
  exact bodyPost_ret (v := .tuple #[.slice none 0 0, errV 11]) (by simp [results, Tryd.results16, go_sem]) rfl ⟨rfl, alloc_below _ _⟩
/-- What Bytes's walk knows: the frame's box, the bytes' block. -/
structure BK (w : World) (t f : Mac6) (k : Int) (A : Option Addr) (n c : Nat) (xs : List Int) (ys : List Int) (W : World) : Prop where
  fr : FrAt W w.heap.size 29 t f k A n c
  row : Row W (w.heap.size + 1) ys
  rd : Rd .u8 W w.heap.size A n c xs
  below : Below w.heap.size w W
section
variable {w W V : World} {t f : Mac6} {k : Int} {A : Option Addr} {n c : Nat} {xs ys ys' : List Int}
theorem BK.step (h : BK w t f k A n c xs ys W) (hb : Below W.heap.size W V) : BK w t f k A n c xs ys V := ⟨h.fr.step hb, h.row.below hb h.row.lt, h.rd.below hb h.below.size, h.below.trans (hb.mono h.below.size)⟩
theorem BK.only (h : BK w t f k A n c xs ys W) (ho : Only (w.heap.size + 1) W V) (hr : Row V (w.heap.size + 1) ys') : BK w t f k A n c xs ys' V :=
  ⟨h.fr.below ho.below (by omega), hr, ho.rd h.rd (by omega), h.below.trans (ho.below.mono (by omega))⟩
theorem BK.set (h : BK w t f k A n c xs ys W) (i : Nat) (x : Int) : BK w t f k A n c xs (ys.set i x) (W.setCell ⟨w.heap.size + 1, i, none⟩ (.int .u8 x)) :=
  have hb : Below (w.heap.size + 1) W (W.setCell ⟨w.heap.size + 1, i, none⟩ (.int .u8 x)) := (Below.refl (w.heap.size + 1) W).setCell (p := ⟨w.heap.size + 1, i, none⟩) (Nat.le_refl _) _
  ⟨h.fr.below hb (by omega), h.row.set i x, h.rd.below hb (by omega), h.below.trans (hb.mono (by omega))⟩
end
theorem BK.start (t f : Mac6) (k : Int) (A : Option Addr) (n c : Nat) (xs : List Int) (w : World) (hr : Rd .u8 w w.heap.size A n c xs) (w2 : World) (ys : List Int) (row2 : Row w2 (w.alloc (.cells (frC t f k A n c) 29)).heap.size ys)
    (hb2 : Below (w.alloc (.cells (frC t f k A n c) 29)).heap.size (w.alloc (.cells (frC t f k A n c) 29)) w2) : BK w t f k A n c xs ys w2 := by
  have hbl := alloc_below w (.cells (frC t f k A n c) 29)
  have hsz : (w.alloc (.cells (frC t f k A n c) 29)).heap.size = w.heap.size + 1 := by simp
  have hfr := FrAt.new w 29 t f k A n c
  have hr1 := hr.below hbl (Nat.le_refl _)
  generalize w.alloc (.cells (frC t f k A n c) 29) = W at *
  rw [hsz] at row2
  exact ⟨hfr.step hb2, row2, hr1.below hb2 (by omega), hbl.trans (hb2.mono (by omega))⟩
def rowT (t : Mac6) (n : Nat) : List Int := splice (List.replicate (14 + n) (0 : Int)) 0 t.l
def rowF (t f : Mac6) (n : Nat) : List Int := splice (rowT t n) 6 f.l
def rowK (t f : Mac6) (k : Int) (n : Nat) : List Int := ((rowF t f n).set 12 (k / 256)).set 13 (k % 256)
theorem rowT_len (t : Mac6) (n : Nat) : (rowT t n).length = 14 + n := by unfold rowT; rw [length_splice _ _ _ (by simp [Mac6.l]; omega)]; simp
theorem rowF_len (t f : Mac6) (n : Nat) : (rowF t f n).length = 14 + n := by unfold rowF; rw [length_splice _ _ _ (by simp [rowT_len, Mac6.l]; omega)]; exact rowT_len t n
theorem rowK_len (t f : Mac6) (k : Int) (n : Nat) : (rowK t f k n).length = 14 + n := by simp [rowK, rowF_len]
theorem rowK_all (t f : Mac6) (k : Int) (xs : List Int) (n : Nat) (h : xs.length = n) : splice (rowK t f k n) 14 xs = hdr t f k xs := row_all t f k xs n h _ _ rfl rfl
/-- What Bytes answers of a body of a right length. -/
def GivesB (w : World) (xs : List Int) (n : Nat) (ev : Ending) (w' : World) : Prop :=
  ∃ g, ev = .returned (.tuple #[.slice (some ⟨g, 0, none⟩) (14 + n) (14 + n), .nilIface]) ∧ Row w' g xs ∧ w.heap.size ≤ g ∧ Below w.heap.size w w'

set_option maxRecDepth 100000 in
set_option maxHeartbeats 4000000 in
theorem bytes_ok (t f : Mac6) (k : Int) (A : Option Addr) (n c : Nat) (xs : List Int) (w : World) (hr : Rd .u8 w w.heap.size A n c xs) (hn : n ≤ 1500) (ht : t.ok) (hf : f.ok) (hk : 0 ≤ k ∧ k ≤ 65535) :
    Calls Tryd.prog 16 #[frV t f k A n c] w (GivesB w (hdr t f k xs) n) := by
  have HL := Lib.hid hr.len
  have hcap := hr.cap
  have hmax := hr.max
  have start := BK.start t f k A n c xs w hr
  clear hr
  go_enter Tryd.func16, Tryd.ntmps16
  go_wp2_with (first
    | (at_make; refine wpList_mk (some 14) rfl rfl _ _ 22 rfl Tryd.underlying22 info5 (14 + n) _ _ rfl rfl (by omega) (by omega) (by omega) ?_; intro w2 row2 hs2 hb2; have bk := start w2 _ row2 hb2; clear start row2 hs2 hb2)
    | (with_reducible refine wpList_cpRow (some 18) rfl rfl (.tmp 15) (.tmp 17) 22 22 rfl Tryd.underlying22 sz5 (w.heap.size + 1) 0 (List.replicate (14 + n) 0) bk.row _ (14 + n) (14 + n) rfl (some ⟨w.heap.size, 0, none⟩) 6 6 (w.heap.size + 1) t.l rfl (bk.fr.rdTo ht) (by rw [List.length_replicate]; omega) (by omega) (fun _ => rfl) ?_; intro w3 r3 ho3; replace bk := bk.only ho3 r3; clear r3 ho3))
  replace bk : BK w t f k A n c xs (rowT t n) w3 := bk
  refine wp_region_held_drew (S := fun _ => True) (by kernel_rfl) trivial (fun hHeld => ?_)
  replace bk := bk.step (below_drew _)
  generalize w3.drew = W3 at *
  have k6 : ¬ 14 + n = 6 := by omega
  have j6 : (6 : Int) ≤ 14 + (n : Int) := by omega
  have j6' : (6 : Int) ≤ ((14 + n : Nat) : Int) := by omega
  refine wpAnyH_at (i := 0) (some 19) (v := ?v0z1) rfl rfl (by kernel_rfl) (by kernel_rfl) (by kernel_rfl) (fun _ _ _ h => h) (Or.inl ⟨by rfl, ?y0z1⟩) (by assumption) ?r0z1
  case y0z1 =>
    intro w9 hSw
    clear hSw
    go_simp
    all_goals with_reducible rfl
  simp only [Act.put, List.setIfInBounds_toArray, List.set_cons_zero, List.set_cons_succ]
  refine wpAnyH_at (i := 1) (some 20) (v := .slice (cutA (some ⟨w.heap.size + 1, 0, none⟩) (14 + n) 6) ((14 + n) - 6) ((14 + n) - 6)) rfl rfl (by kernel_rfl) (by kernel_rfl) (by kernel_rfl) (fun _ _ _ h => h) (Or.inl ⟨by rfl, ?y1z2⟩) (by assumption) ?r1z2
  case y1z2 =>
    intro w9 hSw
    clear hSw
    by_cases hq : 14 + n = 6
    · rw [cutA_eq hq]
      omega
    · rw [cutA_ne hq]
      go_simp
  simp only [Act.put, List.setIfInBounds_toArray, List.set_cons_zero, List.set_cons_succ]
  refine wpAnyH_at (i := 2) (some 21) (v := ?v2z3) rfl rfl (by kernel_rfl) (by kernel_rfl) (by kernel_rfl) (fun _ _ _ h => h) (Or.inl ⟨by rfl, ?y2z3⟩) (by assumption) ?r2z3
  case y2z3 =>
    intro w9 hSw
    clear hSw
    go_simp
    all_goals with_reducible rfl
  simp only [Act.put, List.setIfInBounds_toArray, List.set_cons_zero, List.set_cons_succ]
  refine wpAnyH_at (i := 3) (some 22) (v := ?v3z4) rfl rfl (by kernel_rfl) (by kernel_rfl) (by kernel_rfl) (fun _ _ _ h => h) (Or.inl ⟨by rfl, ?y3z4⟩) (by assumption) ?r3z4
  case y3z4 =>
    intro w9 hSw
    clear hSw
    go_simp
    all_goals with_reducible rfl
  simp only [Act.put, List.setIfInBounds_toArray, List.set_cons_zero, List.set_cons_succ]
  refine wpAnyH_one (i := 4) (by kernel_rfl) rfl ?_
  refine wpList_cpRow (some 23) rfl rfl (.tmp 20) (.tmp 22) 22 22 rfl Tryd.underlying22 sz5 (w.heap.size + 1) 6 (rowT t n) bk.row _ (14 + n - 6) (14 + n - 6) rfl (some ⟨w.heap.size, 6, none⟩) 6 6 (w.heap.size + 1) f.l rfl (bk.fr.rdFrom hf) (by rw [rowT_len]; omega) (by omega) (fun _ => by rw [cutA_ne k6]; rfl) ?_
  intro w4 r4 ho4
  replace bk : BK w t f k A n c xs (rowF t f n) w4 := bk.only ho4 r4
  clear r4 ho4
  go_wp2
  refine ⟨trivial, ?_⟩
  refine wpAnyH_done (by kernel_rfl) ?_ _
  have c12 := bk.row.cell (i := 12) (by rw [rowF_len]; omega)
  have c13 := bk.row.cell (i := 13) (by rw [rowF_len]; omega)
  have z12 := bk.row.frozen 12
  have z13 := bk.row.frozen 13
  have c26 : w4.cell? ⟨w.heap.size, 12, none⟩ = some (.int .u16 k) := bk.fr.cells.2.2.2.2.2.2.2.2.2.2.2.2.1
  have j12 : (12 : Int) < 14 + (n : Int) := by omega
  have j13 : (13 : Int) < 14 + (n : Int) := by omega
  go_wp2_with fail
  replace bk : BK w t f k A n c xs (rowK t f k n) _ := (bk.set 12 (k / 256)).set 13 (k % 256)
  clear c12 c13 z12 z13 c26
  refine wp_region_held_drew (S := fun w' => ∃ ys, BK w t f k A n c xs ys w') (by kernel_rfl) ⟨_, bk.step (below_drew _)⟩ (fun hHeld => ?_)
  replace bk := bk.step (below_drew _)
  generalize World.drew _ = W5 at *
  have j14 : (14 : Int) ≤ 14 + (n : Int) := by omega
  have j14' : (14 : Int) ≤ ((14 + n : Nat) : Int) := by omega
  refine wpAnyH_at (i := 0) (some 35) (v := ?v0z5) rfl rfl (by kernel_rfl) (by kernel_rfl) (by kernel_rfl) (fun _ _ _ h => h) (Or.inl ⟨by rfl, ?y0z5⟩) (by assumption) ?r0z5
  case y0z5 =>
    intro w9 hSw
    clear hSw
    go_simp
    all_goals with_reducible rfl
  simp only [Act.put, List.setIfInBounds_toArray, List.set_cons_zero, List.set_cons_succ]
  refine wpAnyH_at (i := 1) (some 36) (v := .slice (cutA (some ⟨w.heap.size + 1, 0, none⟩) (14 + n) 14) ((14 + n) - 14) ((14 + n) - 14)) rfl rfl (by kernel_rfl) (by kernel_rfl) (by kernel_rfl) (fun _ _ _ h => h) (Or.inl ⟨by rfl, ?y1z6⟩) (by assumption) ?r1z6
  case y1z6 =>
    intro w9 hSw
    clear hSw
    by_cases hq : 14 + n = 14
    · rw [cutA_eq hq]
      obtain rfl : n = 0 := by omega
      go_simp
    · rw [cutA_ne hq]
      go_simp
      omega
  simp only [Act.put, List.setIfInBounds_toArray, List.set_cons_zero, List.set_cons_succ]
  refine wpAnyH_at (i := 2) (some 37) (v := ?v2z7) rfl rfl (by kernel_rfl) (by kernel_rfl) (by kernel_rfl) (fun _ _ _ h => h) (Or.inl ⟨by rfl, ?y2z7⟩) (by assumption) ?r2z7
  case y2z7 =>
    intro w9 hSw
    clear hSw
    go_simp
    all_goals with_reducible rfl
  simp only [Act.put, List.setIfInBounds_toArray, List.set_cons_zero, List.set_cons_succ]
  refine wpAnyH_at (i := 3) (some 38) (v := ?v3z8) rfl rfl (by kernel_rfl) (by kernel_rfl) (by kernel_rfl) (fun _ _ _ h => h) (Or.inl ⟨by rfl, ?y3z8⟩) (by assumption) ?r3z8
  case y3z8 =>
    intro w9 hSw
    (obtain ⟨ys, hy⟩ := hSw); (obtain ⟨a0, a1, a2, a3, a4, a5, a6, a7, a8, a9, a10, a11, a12, a13⟩ := hy.fr.cells); clear hy
    go_simp
    all_goals with_reducible rfl
  simp only [Act.put, List.setIfInBounds_toArray, List.set_cons_zero, List.set_cons_succ]
  refine wpAnyH_one (i := 4) (by kernel_rfl) rfl ?_
  refine wpList_cpRow (some 39) rfl rfl (.tmp 36) (.tmp 38) 22 22 rfl Tryd.underlying22 sz5 (w.heap.size + 1) 14 (rowK t f k n) bk.row _ (14 + n - 14) (14 + n - 14) rfl A n c w.heap.size xs rfl bk.rd (by rw [rowK_len]; omega) (by omega) (fun h => by rw [cutA_ne (by omega)]; rfl) ?_
  intro w6 r6 ho6
  rw [rowK_all t f k xs n HL.out] at r6
  replace bk := bk.only ho6 r6
  clear r6 ho6 hHeld
  go_wp2
  refine ⟨⟨_, bk⟩, ?_⟩
  refine wpAnyH_done (by kernel_rfl) ?_ _
  go_wp2
  exact bodyPost_ret (v := .tuple #[.slice (some ⟨w.heap.size + 1, 0, none⟩) (14 + n) (14 + n), .nilIface]) (by simp [results, Tryd.results16, go_sem]) rfl ⟨_, rfl, bk.row, by omega, bk.below⟩
end Go.Proofs.YteddpmjjahfmiaaDoor
