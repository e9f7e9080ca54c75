/-
  Contracts of the document's Row, and of Lay (both).
-/
import Derived.Test.YtmjdmddphaabmaaRow
namespace Go.Proofs.Ytmjdmddphaabmaa
open Go.RowKit

set_option maxHeartbeats 400000 in
theorem rrow_size (A : Option Addr) (n c : Nat) (s : Int) (w : World) (h : ¬ (1 ≤ s ∧ s ≤ 8)) :
    Calls Try.prog 18 #[.int .i64 s, .slice A n c] w (Gives2 w [] 11) := by
  by_cases g1 : s < 1
  · go_enter Try.func18, Try.ntmps18
    go_wp2
    go_ret2
    exact ⟨_, _, _, rfl, Out.nil, Below.refl _ _⟩
  · have g2 : 8 < s := by omega
    go_enter Try.func18, Try.ntmps18
    go_wp2
    go_ret2
    exact ⟨_, _, _, rfl, Out.nil, Below.refl _ _⟩

set_option maxHeartbeats 2000000 in
theorem rrow_ok (A : Option Addr) (n c s : Nat) (vs : List Int) (B : Nat) (w : World) (hr : Rd .u64 w B A n c vs) (hB : B ≤ w.heap.size) (hn : n ≤ 300) (h1 : 1 ≤ s) (h8 : s ≤ 8) :
    Calls Try.prog 18 #[.int .i64 s, .slice A n c] w (Gives2 w (rowL s vs) (rowE s vs)) := by
  have hmax := hr.max
  have hcap := hr.cap
  have HL := Lib.hid hr.len
  have g1 : decide ((s : Int) < 1) = false := by simp; omega
  have g2 : decide ((8 : Int) < (s : Int)) = false := by simp; omega
  go_enter Try.func18, Try.ntmps18
  go_wp2
  go_loopw [6, 7] (fun v i wr => ∃ (k : Nat) (A' : Option Addr) (n' c' : Nat), k ≤ n ∧ i = .int .i64 k ∧ v = .slice A' n' c' ∧ (vs.take k).all (fitB s) = true ∧ Out wr w.heap.size A' n' c' (rowB s (vs.take k)) ∧ Below w.heap.size w wr) (fun _ i _ => n - (intOf i).toNat)
  case atStart => exact ⟨0, _, _, _, Nat.zero_le _, rfl, rfl, by simp, by simpa [rowB] using Out.lit0 w w.heap.size (Nat.le_refl _), (Below.refl _ _).alloc (Nat.le_refl _) _⟩
  case round =>
    obtain ⟨k, A', n', c', hk, rfl, rfl, hall, hout, hb⟩ := hrel
    have Hall := Lib.hid hall; clear hall
    by_cases hlt : k < n
    · obtain ⟨b, o, rfl, _, hc⟩ := (hr.below hb hB).at_ hlt
      have hv := u64_bd (hr.wf hlt)
      have hkl : k < vs.length := by rw [HL.out]; exact hlt
      by_cases hf : fitB s (vs.getD k 0) = true
      · have Hn := Lib.hid (all_take_succ hkl Hall.out hf)
        have Hs := Lib.hid (rowB_snoc s vs k hkl)
        have hf' : decide (vs.getD k 0 < 256 ^ s) = true := hf
        have hn' : n' ≤ 2400 := by
          have h1 := hout.len
          rw [rowB_len] at h1
          have h2 : (vs.take k).length ≤ 300 := by simp; omega
          have h3 := Nat.mul_le_mul h2 h8
          omega
        have hsz := hb.size
        clear hf hkl
        generalize vs.getD k 0 = v at *
        go_wp2_with (first
          | (go_at_call 24; refine (bytes_any s v _ h1 h8 hv.1 hv.2).mono ?_; rintro e w1 ⟨rfl, hrow, hb1⟩; have hrd := (hrow.out (base := wr.heap.size) (Nat.le_refl _) (lowB_len v s) (by unfold maxLen; omega) (lowB_wf v s)).rd; have hout1 := hout.below hb1 (Nat.le_refl _))
          | (at_builtin; refine wpList_app rfl _ _ 22 rfl w.heap.size Try.underlying22 info5 _ _ _ _ rfl hout1 _ s s _ (lowB v s) rfl hrd (by omega) (by have := hb1.size; omega) ?_; intro A2 n2 c2 w2 hout2 hg))
        have hb2 : Below w.heap.size w w2 := (hb.trans (hb1.mono hsz)).grown hg (by have := hb1.size; omega) (fun g hg' => (hout1.1.lt g hg').1)
        go_roundw
        case rel => exact ⟨k + 1, A2, n2, c2, by omega, by go_num, rfl, Hn.out, by rw [Hs.out]; exact hout2, hb2⟩
        case measure => simp [intOf]; omega
      · have hf : fitB s (vs.getD k 0) = false := by simpa using hf
        have hno := Lib.hid (rowE_no ⟨h1, h8⟩ (not_all hkl hf))
        have hf' : decide (vs.getD k 0 < 256 ^ s) = false := hf
        have hsz := hb.size
        clear hf hkl
        generalize vs.getD k 0 = v at *
        go_wp2_with (go_at_call 24; refine (bytes_any s v _ h1 h8 hv.1 hv.2).mono ?_; rintro e w1 ⟨rfl, hrow, hb1⟩)
        go_ret2
        refine ⟨none, 0, 0, by rw [hno.out.1]; rfl, by rw [hno.out.2]; exact Out.nil, hb.trans (hb1.mono hsz)⟩
    · obtain rfl : k = n := by omega
      have e : vs.take k = vs := List.take_of_length_le (by rw [HL.out]; omega)
      have hall := Hall.out
      rw [e] at hall hout
      have HY := Lib.hid (rowE_ok ⟨h1, h8⟩ hall)
      clear hall e Hall
      go_wp2
      go_ret2
      exact ⟨A', n', c', by rw [HY.out.1]; rfl, by rw [HY.out.2]; exact hout, hb⟩

theorem rrow_any (A : Option Addr) (n c : Nat) (s : Int) (vs : List Int) (B : Nat) (w : World) (hr : Rd .u64 w B A n c vs) (hB : B ≤ w.heap.size) (hn : n ≤ 300) :
    Calls Try.prog 18 #[.int .i64 s, .slice A n c] w (Gives2 w (rowL s vs) (rowE s vs)) := by
  by_cases h : 1 ≤ s ∧ s ≤ 8
  · obtain ⟨z, rfl⟩ := Int.eq_ofNat_of_zero_le (show 0 ≤ s by omega)
    exact rrow_ok A n c z vs B w hr hB hn (by omega) (by omega)
  · have e := rowE_size h vs
    rw [e.1, e.2]
    exact rrow_size A n c s w h
end Go.Proofs.Ytmjdmddphaabmaa
