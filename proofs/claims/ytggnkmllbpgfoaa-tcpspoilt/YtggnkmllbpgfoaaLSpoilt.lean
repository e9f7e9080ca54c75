/-
  The law TcpSpoilt: with one byte changed a segment's sum isn't right.
-/
import Derived.Test.YtggnkmllbpgfoaaPW
namespace Go.Proofs.Ytggnkmllbpgfoaa
open Go.RowKit
set_option linter.unusedVariables false

set_option maxRecDepth 100000 in
set_option maxHeartbeats 4000000 in
theorem spoilt_bad (A : Option Addr) (n c : Nat) (xs : List Int) (f t a b : Int) (w : World) (hr : Rd .u8 w w.heap.size A n c xs) (hf : Ip f) (ht : Ip t) (r e : Int) (hE : pE f t xs = (r, e)) (he : ¬ e = 0) :
    Calls Try.prog 3 #[.slice A n c, .int .u32 f, .int .u32 t, .int .i64 a, .int .u8 b] w fun e w' => e = .returned (.bool true) ∧ Below w.heap.size w w' := by
  have hcap := hr.cap
  have hmax := hr.max
  have c6 := Lib.hid (fun W (q : Rd .u8 W W.heap.size A n c xs) => parse_no q hf ht hE he)
  clear hE hf ht
  by_cases h3 : (3000 : Int) < (n : Int)
  all_goals
    go_enter Try.func3, Try.ntmps3
    go_wp2_with fail
    refine (alive_any _).mono ?_
    rintro ev w1 ⟨rfl, hb⟩
    have r1 := (hr.below hb (Nat.le_refl _)).more hb.size
    go_wp2_with fail
    refine (c6.out _ r1).mono ?_
    rintro ev w2 ⟨rfl, hb2⟩
    have b2 := hb.trans (hb2.mono hb.size)
    replace b2 := b2.trans ((alloc_below w2 (.cells (pkC zeroH none 0 0) 27)).mono b2.size)
    clear c6 hb hb2 r1 hr
    go_wp2
    go_ret
    exact ⟨rfl, b2⟩

set_option maxRecDepth 100000 in
set_option maxHeartbeats 4000000 in
theorem spoilt_none (A : Option Addr) (n c : Nat) (xs : List Int) (f t a b : Int) (w : World) (hr : Rd .u8 w w.heap.size A n c xs) (hf : Ip f) (ht : Ip t) (hE : (pE f t xs).2 = 0) (hn : n ≤ 1480) (hq : a < 0 ∨ (0 ≤ a ∧ (n : Int) ≤ a) ∨ ((0 ≤ a ∧ a < (n : Int)) ∧ b = 0)) :
    Calls Try.prog 3 #[.slice A n c, .int .u32 f, .int .u32 t, .int .i64 a, .int .u8 b] w fun e w' => e = .returned (.bool true) ∧ Below w.heap.size w w' := by
  have hcap := hr.cap
  have hmax := hr.max
  obtain ⟨h, hh⟩ : ∃ h, hdOf xs = h := ⟨_, rfl⟩
  have c6 := Lib.hid (fun W (q : Rd .u8 W W.heap.size A n c xs) => parse_yes q hf ht hE hh)
  clear hE hf ht hh
  have h3 : ¬ (3000 : Int) < (n : Int) := by omega
  rcases hq with h1 | ⟨h1, h2⟩ | ⟨⟨h1, h2⟩, h4⟩
  · go_enter Try.func3, Try.ntmps3
    go_wp2_with fail
    refine (alive_any _).mono ?_
    rintro ev w1 ⟨rfl, hb⟩
    have r1 := (hr.below hb (Nat.le_refl _)).more hb.size
    go_wp2_with fail
    refine (c6.out _ r1).mono ?_
    rintro ev w2 ⟨g, rfl, -, -, hb2⟩
    have b2 := hb.trans (hb2.mono hb.size)
    replace b2 := b2.trans ((alloc_below w2 (.cells (pkC h (some ⟨g, 0, none⟩) n n) 27)).mono b2.size)
    clear c6 hb hb2 r1 hr
    go_wp2
    go_ret
    exact ⟨rfl, b2⟩
  · have h1' : ¬ a < 0 := by omega
    go_enter Try.func3, Try.ntmps3
    go_wp2_with fail
    refine (alive_any _).mono ?_
    rintro ev w1 ⟨rfl, hb⟩
    have r1 := (hr.below hb (Nat.le_refl _)).more hb.size
    go_wp2_with fail
    refine (c6.out _ r1).mono ?_
    rintro ev w2 ⟨g, rfl, -, -, hb2⟩
    have b2 := hb.trans (hb2.mono hb.size)
    replace b2 := b2.trans ((alloc_below w2 (.cells (pkC h (some ⟨g, 0, none⟩) n n) 27)).mono b2.size)
    clear c6 hb hb2 r1 hr
    go_wp2
    go_ret
    exact ⟨rfl, b2⟩
  · have h1' : ¬ a < 0 := by omega
    have h2' : ¬ (n : Int) ≤ a := by omega
    subst h4
    go_enter Try.func3, Try.ntmps3
    go_wp2_with fail
    refine (alive_any _).mono ?_
    rintro ev w1 ⟨rfl, hb⟩
    have r1 := (hr.below hb (Nat.le_refl _)).more hb.size
    go_wp2_with fail
    refine (c6.out _ r1).mono ?_
    rintro ev w2 ⟨g, rfl, -, -, hb2⟩
    have b2 := hb.trans (hb2.mono hb.size)
    replace b2 := b2.trans ((alloc_below w2 (.cells (pkC h (some ⟨g, 0, none⟩) n n) 27)).mono b2.size)
    clear c6 hb hb2 r1 hr
    go_wp2
    go_ret
    exact ⟨rfl, b2⟩

set_option maxRecDepth 100000 in
set_option maxHeartbeats 4000000 in
theorem spoilt_good (A : Option Addr) (n c : Nat) (xs : List Int) (f t b : Int) (i : Nat) (w : World) (hr : Rd .u8 w w.heap.size A n c xs) (hf : Ip f) (ht : Ip t) (hE : (pE f t xs).2 = 0) (hn : n ≤ 1480) (hi : i < n) (hb0 : ¬ b = 0) (hb1 : 0 ≤ b ∧ b ≤ 255) :
    Calls Try.prog 3 #[.slice A n c, .int .u32 f, .int .u32 t, .int .i64 i, .int .u8 b] w fun e w' => e = .returned (.bool true) ∧ Below w.heap.size w w' := by
  have hcap := hr.cap
  have hmax := hr.max
  have hl := hr.len
  have hx := hr.2.2.2.1
  obtain ⟨h, hh⟩ : ∃ h, hdOf xs = h := ⟨_, rfl⟩
  have hs := (pE_ok hE).2
  have w0 := u8_bd (hr.wf (i := i) hi)
  obtain ⟨v, hv⟩ : ∃ v, (xs.getD i 0 + b) % 256 = v := ⟨_, rfl⟩
  have hv1 : 0 ≤ v ∧ v ≤ 255 := by omega
  have hne : v ≠ xs.getD i 0 := by omega
  have nS := sp_no hf ht hx (by omega) hs i (by omega) hv1 hne
  obtain ⟨r, e, hE', he'⟩ := pE_pair f t (xs.set i v) (sp_bad hf ht hx (by omega) hs i (by omega) hv1 hne)
  have c6 := Lib.hid (fun W (q : Rd .u8 W W.heap.size A n c xs) => parse_yes q hf ht hE hh)
  have wx := Lib.hid hx
  have lx := Lib.hid hl
  have wz : Hid (∀ x ∈ xs.set i v, (Lit.int .u8 x).wf = true) := Lib.hid (fun x q => (List.mem_or_eq_of_mem_set q).elim (hx x) (fun q => by rw [q]; exact u8_mk hv1))
  have lz : Hid ((xs.set i v).length = n) := Lib.hid (by rw [List.length_set]; exact hl)
  have c6' := Lib.hid (fun W A c (q : Rd .u8 W W.heap.size A n c (xs.set i v)) => parse_no q hf ht hE' he')
  have c9 : Hid (∀ W A c (q : Rd .u8 W W.heap.size A n c (xs.set i v)), Calls Try.prog 9 #[.slice A n c, .int .u32 f, .int .u32 t] W fun e w' => e = .returned (.bool false) ∧ Below W.heap.size W w') := Lib.hid (fun W A c q => by
    have := sums_any A n c (xs.set i v) f t W q hf ht (by omega)
    rwa [nS] at this)
  have c9' : Hid (∀ W (q : Rd .u8 W W.heap.size A n c xs), Calls Try.prog 9 #[.slice A n c, .int .u32 f, .int .u32 t] W fun e w' => e = .returned (.bool true) ∧ Below W.heap.size W w') := Lib.hid (fun W q => by
    have := sums_any A n c xs f t W q hf ht (by omega)
    rwa [hs] at this)
  clear hE hf ht hh hs nS hE' hx hl hne
  have h3 : ¬ (3000 : Int) < (n : Int) := by omega
  have h4 : ¬ (i : Int) < 0 := by omega
  have h5 : ¬ (n : Int) ≤ (i : Int) := by omega
  have h6 : (i : Int) < (n : Int) := by omega
  have h7 : ¬ n ≤ i := by omega
  have hbb : (b == 0) = false := by simpa using hb0
  obtain ⟨y, hy⟩ : ∃ y, xs.getD i 0 = y := ⟨_, rfl⟩
  rw [hy] at hv w0
  go_enter Try.func3, Try.ntmps3
  go_wp2_with fail
  refine (alive_any _).mono ?_
  rintro ev w1 ⟨rfl, hb⟩
  have r1 := (hr.below hb (Nat.le_refl _)).more hb.size
  go_wp2_with fail
  refine (c6.out _ r1).mono ?_
  rintro ev w2 ⟨g, rfl, row, hg, hb2⟩
  have ba := alloc_below w2 (.cells (pkC h (some ⟨g, 0, none⟩) n n) 27)
  have pk := PkAt.new w2 27 h (some ⟨g, 0, none⟩) n n
  replace row := row.below ba row.lt
  have bw := (hb.trans (hb2.mono hb.size)).trans (ba.mono (Nat.le_trans hb.size hb2.size))
  have r2 := (r1.below hb2 (Nat.le_refl _)).below ba hb2.size
  replace r2 := r2.more (Nat.le_trans hb2.size ba.size)
  clear hr r1 hb hb2 ba hg c6
  obtain ⟨a0, a1, a2, a3⟩ := pk.cells
  go_wp2_with fail
  change Calls _ _ _ (w2.alloc (.cells (pkC h (some ⟨g, 0, none⟩) n n) 27)) _
  generalize w2.alloc (.cells (pkC h (some ⟨g, 0, none⟩) n n) 27) = W2 at *
  refine (bytes_any h (some ⟨g, 0, none⟩) n n xs W2 (row.rdW lx.out (by omega) wx.out) (by omega)).mono ?_
  rintro ev w3 ⟨g3, rfl, row3, hg3, hb⟩
  have hwg : w.heap.size ≤ g3 := Nat.le_trans bw.size hg3
  have hlt : W2.heap.size ≤ g3 := hg3
  have h23 := hb.size
  replace bw := bw.trans (hb.mono bw.size)
  have r3 := r2.below hb (Nat.le_refl _)
  clear a0 a1 a2 a3 row pk hb
  go_wp2_with fail
  refine (same_any _ _ n n n c xs _ _ w3 (row3.rdW lx.out (by omega) wx.out) r3).mono ?_
  rintro ev w4 ⟨rfl, hb⟩
  replace bw := bw.trans (hb.mono bw.size)
  have h34 := hb.size
  replace r3 := r3.below hb (by omega)
  replace row3 := row3.below hb row3.lt
  clear hb
  have ci := row3.cell (i := i) (by rw [lx.out]; exact hi)
  have zi := row3.frozen i
  rw [hy] at ci
  have on := Only.setCell g3 i w4 (.int .u8 v)
  have row5 := row3.set i v
  have r5 := r3.below on.below hlt
  have b5 := bw.trans (on.below.mono hwg)
  have s5 : (w4.setCell ⟨g3, i, none⟩ (.int .u8 v)).heap.size = w4.heap.size := on.size
  go_wp2_with fail
  generalize w4.setCell ⟨g3, i, none⟩ (.int .u8 v) = W5 at *
  have q5 := row5.rdW lz.out (by omega) wz.out
  refine (c6'.out _ _ _ q5).mono ?_
  rintro ev w6 ⟨rfl, hb⟩
  have b6 := b5.trans (hb.mono b5.size)
  have ba := alloc_below w6 (.cells (pkC zeroH none 0 0) 27)
  have row6 := (row5.below hb row5.lt).below ba (Nat.lt_of_lt_of_le row5.lt hb.size)
  have hs5 : W2.heap.size ≤ W5.heap.size := by omega
  have r6 := (r5.below hb hs5).below ba (Nat.le_trans hs5 hb.size)
  replace b6 := b6.trans (ba.mono b6.size)
  have hs6 : W2.heap.size ≤ (w6.alloc (.cells (pkC zeroH none 0 0) 27)).heap.size := Nat.le_trans hs5 (Nat.le_trans hb.size ba.size)
  clear hb ba row5 r5 b5 bw row3 r3 on ci zi q5 c6'
  go_wp2_with fail
  change Calls _ _ _ (w6.alloc (.cells (pkC zeroH none 0 0) 27)) _
  generalize w6.alloc (.cells (pkC zeroH none 0 0) 27) = W6 at *
  refine (c9.out _ _ _ (row6.rdW lz.out (by omega) wz.out)).mono ?_
  rintro ev w7 ⟨rfl, hb⟩
  have r7 := r6.below hb hs6
  have b7 := b6.trans (hb.mono b6.size)
  have hs7 := Nat.le_trans hs6 hb.size
  clear hb r6 b6 row6
  go_wp2_with fail
  refine (c9'.out _ (r7.more hs7)).mono ?_
  rintro ev w8 ⟨rfl, hb⟩
  have b8 := b7.trans (hb.mono b7.size)
  clear hb r7 b7
  go_wp2
  go_ret
  exact ⟨rfl, b8⟩

theorem spoilt_law (A : Option Addr) (n c : Nat) (xs : List Int) (f t a b : Int) (w : World) (hr : Rd .u8 w w.heap.size A n c xs) (hf : Ip f) (ht : Ip t) (hb : 0 ≤ b ∧ b ≤ 255) :
    Calls Try.prog 3 #[.slice A n c, .int .u32 f, .int .u32 t, .int .i64 a, .int .u8 b] w fun e w' => e = .returned (.bool true) ∧ Below w.heap.size w w' := by
  by_cases hE : (pE f t xs).2 = 0
  · have hn := (bE_ok (pE_ok hE).1).2.2.2
    rw [hr.len] at hn
    by_cases h1 : a < 0
    · exact spoilt_none A n c xs f t a b w hr hf ht hE hn (.inl h1)
    · by_cases h2 : (n : Int) ≤ a
      · exact spoilt_none A n c xs f t a b w hr hf ht hE hn (.inr (.inl ⟨by omega, h2⟩))
      · by_cases h3 : b = 0
        · exact spoilt_none A n c xs f t a b w hr hf ht hE hn (.inr (.inr ⟨by omega, h3⟩))
        · obtain ⟨i, rfl⟩ : ∃ i : Nat, a = i := ⟨a.toNat, by omega⟩
          exact spoilt_good A n c xs f t b i w hr hf ht hE hn (by omega) h3 hb
  · obtain ⟨r, e, hE', he⟩ := pE_pair f t xs hE
    exact spoilt_bad A n c xs f t a b w hr hf ht r e hE' he
end Go.Proofs.Ytggnkmllbpgfoaa
