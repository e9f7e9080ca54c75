/-
  Contracts of Row: the program's.
-/
import Derived.Test.YtmjdmddphaabmaaRPatch
namespace Go.Proofs.Ytmjdmddphaabmaa
open Go.RowKit

def fitB (s : Nat) (v : Int) : Bool := decide (v < 256 ^ s)
def rowE (s : Int) (vs : List Int) : Int := if ¬ (1 ≤ s ∧ s ≤ 8) then 11 else if vs.all (fitB s.toNat) = true then 0 else 11
def rowB (s : Nat) (vs : List Int) : List Int := vs.flatMap (fun v => lowB v s)
def rowL (s : Int) (vs : List Int) : List Int := if rowE s vs = 0 then rowB s.toNat vs else []
theorem rowE_size {s : Int} (h : ¬ (1 ≤ s ∧ s ≤ 8)) (vs : List Int) : rowE s vs = 11 ∧ rowL s vs = [] := by
  have e : rowE s vs = 11 := by simp only [rowE, if_pos h]
  exact ⟨e, by simp only [rowL, e]; rfl⟩
theorem rowE_no {s : Nat} (h : 1 ≤ s ∧ s ≤ 8) {vs : List Int} (hv : ¬ vs.all (fitB s) = true) : rowE s vs = 11 ∧ rowL s vs = [] := by
  have e : rowE s vs = 11 := by
    simp only [rowE, Int.toNat_natCast]
    rw [if_neg (by omega), if_neg hv]
  exact ⟨e, by simp only [rowL, e]; rfl⟩
theorem rowE_ok {s : Nat} (h : 1 ≤ s ∧ s ≤ 8) {vs : List Int} (hv : vs.all (fitB s) = true) : rowE s vs = 0 ∧ rowL s vs = rowB s vs := by
  have e : rowE s vs = 0 := by
    simp only [rowE, Int.toNat_natCast]
    rw [if_neg (by omega), if_pos hv]
  exact ⟨e, by simp only [rowL, e, if_pos, Int.toNat_natCast]⟩

theorem rowB_len (s : Nat) (vs : List Int) : (rowB s vs).length = vs.length * s := by
  induction vs with
  | nil => simp [rowB]
  | cons v vs ih =>
    simp only [rowB, List.flatMap_cons, List.length_append, lowB_len, List.length_cons] at *
    rw [ih, Nat.add_mul]; omega
theorem rowB_wf (s : Nat) (vs : List Int) : ∀ x ∈ rowB s vs, (Lit.int .u8 x).wf = true := by
  intro x hx
  simp only [rowB, List.mem_flatMap] at hx
  obtain ⟨v, _, hx⟩ := hx
  exact lowB_wf v s x hx
theorem rowB_snoc (s : Nat) (vs : List Int) (k : Nat) (hk : k < vs.length) : rowB s (vs.take (k + 1)) = rowB s (vs.take k) ++ lowB (vs.getD k 0) s := by
  have e : vs.getD k 0 = vs[k] := by simp [List.getD, List.getElem?_eq_getElem hk]
  rw [e, rowB, rowB, List.take_succ_eq_append_getElem hk, List.flatMap_append]
  simp only [List.flatMap_cons, List.flatMap_nil, List.append_nil]
theorem splice_mid (X Y : List Int) (m : Nat) (_h : Y.length ≤ m) : splice (X ++ List.replicate m 0) X.length Y = (X ++ Y) ++ List.replicate (m - Y.length) 0 := by
  simp [splice]
/-- A row that is filled up to k numbers. -/
def fill (s : Nat) (vs : List Int) (q k : Nat) : List Int := rowB s (vs.take k) ++ List.replicate (q - k * s) 0
theorem fill_step (s : Nat) (vs : List Int) (q k p : Nat) (hk : k < vs.length) (hp : k * s = p) (hq : p + s ≤ q) : splice (fill s vs q k) p (lowB (vs.getD k 0) s) = fill s vs q (k + 1) := by
  subst hp
  have hl : (rowB s (vs.take k)).length = k * s := by rw [rowB_len]; congr 1; simp; omega
  have h := splice_mid (rowB s (vs.take k)) (lowB (vs.getD k 0) s) (q - k * s) (by rw [lowB_len]; omega)
  rw [hl, lowB_len] at h
  unfold fill
  rw [h, rowB_snoc s vs k hk, Nat.add_mul]
  congr 2
  omega
theorem fill_len (s : Nat) (vs : List Int) (q k : Nat) (hk : k ≤ vs.length) (hq : k * s ≤ q) : (fill s vs q k).length = q := by
  have hl : (rowB s (vs.take k)).length = k * s := by rw [rowB_len]; congr 1; simp; omega
  simp only [fill, List.length_append, hl, List.length_replicate]; omega
theorem all_take_succ {s : Nat} {vs : List Int} {k : Nat} (hk : k < vs.length) (h : (vs.take k).all (fitB s) = true) (hf : fitB s (vs.getD k 0) = true) : (vs.take (k + 1)).all (fitB s) = true := by
  rw [List.take_succ_eq_append_getElem hk, List.all_append, h]
  simpa [List.getD, List.getElem?_eq_getElem hk] using hf
theorem not_all {s : Nat} {vs : List Int} {k : Nat} (hk : k < vs.length) (hf : fitB s (vs.getD k 0) = false) : ¬ vs.all (fitB s) = true := by
  intro h
  have := List.all_eq_true.1 h (vs.getD k 0) (by simp [List.getD, List.getElem?_eq_getElem hk])
  rw [this] at hf
  cases hf

set_option maxHeartbeats 400000 in
theorem row_size (A : Option Addr) (n c : Nat) (s : Int) (w : World) (h : ¬ (1 ≤ s ∧ s ≤ 8)) :
    Calls Try.prog 17 #[.int .i64 s, .slice A n c] w (Gives2 w [] 11) := by
  have hok : okSize s = false := by simp [okSize]; omega
  go_enter Try.func17, Try.ntmps17
  go_wp2_with (first
    | (go_at_call 21; refine (isSize_any _ _).mono ?_; rintro e w' ⟨rfl, rfl⟩))
  go_ret2
  exact ⟨_, _, _, rfl, Out.nil, Below.refl _ _⟩

set_option maxHeartbeats 2000000 in
theorem row_ok (A : Option Addr) (n c s : Nat) (vs : List Int) (B : Nat) (w : World) (hr : Rd .u64 w B A n c vs) (hB : B ≤ w.heap.size) (hn : n ≤ 300) (h1 : 1 ≤ s) (h8 : s ≤ 8) :
    Calls Try.prog 17 #[.int .i64 s, .slice A n c] w (Gives2 w (rowL s vs) (rowE s vs)) := by
  have hmax := hr.max
  have hcap := hr.cap
  have HL := Lib.hid hr.len
  have hok : okSize (s : Int) = true := by simp [okSize]; omega
  obtain ⟨q, hq⟩ : ∃ q, s * n = q := ⟨_, rfl⟩
  have hq1 : q ≤ 2400 := by rw [← hq]; exact Nat.mul_le_mul h8 hn
  have hq2 : (s : Int) * (n : Int) = (q : Int) := by rw [← hq]; simp
  have HQ := Lib.hid hq; clear hq
  go_enter Try.func17, Try.ntmps17
  go_wp2_with (first
    | (go_at_call 21; refine (isSize_any _ _).mono ?_; rintro e w' ⟨rfl, rfl⟩))
  go_loop [16] (fun i => ∃ k : Nat, k ≤ n ∧ i = .int .i64 k ∧ (vs.take k).all (fitB s) = true) (fun i => n - (intOf i).toNat)
  case atStart => exact ⟨0, Nat.zero_le _, rfl, by simp⟩
  case round =>
    obtain ⟨k, hk, rfl, hall⟩ := hrel
    have Hall := Lib.hid hall; clear hall
    by_cases hlt : k < n
    · obtain ⟨b, o, rfl, _, hc⟩ := hr.at_ hlt
      have hv := u64_bd (hr.wf hlt)
      have hkl : k < vs.length := by rw [HL.out]; exact hlt
      by_cases hf : fitB s (vs.getD k 0) = true
      · have Hn := Lib.hid (all_take_succ hkl Hall.out hf)
        have hf' : decide (vs.getD k 0 < 256 ^ s) = true := hf
        clear hf hkl
        generalize vs.getD k 0 = v at *
        go_wp2_with (go_at_call 25; refine (fits_any _ _ _ hv.1 hv.2 h1 h8).mono ?_; rintro e w' ⟨rfl, rfl⟩)
        go_round
        case rel => exact ⟨k + 1, by omega, by go_num, Hn.out⟩
        case measure => simp [intOf]; omega
      · have hf : fitB s (vs.getD k 0) = false := by simpa using hf
        have hno := rowE_no ⟨h1, h8⟩ (not_all hkl hf)
        rw [hno.1, hno.2]
        have hf' : decide (vs.getD k 0 < 256 ^ s) = false := hf
        clear hf hkl hno
        generalize vs.getD k 0 = v at *
        go_wp2_with (go_at_call 25; refine (fits_any _ _ _ hv.1 hv.2 h1 h8).mono ?_; rintro e w' ⟨rfl, rfl⟩)
        go_ret2
        exact ⟨_, _, _, rfl, Out.nil, Below.refl _ _⟩
    · obtain rfl : k = n := by omega
      have hall : vs.all (fitB s) = true := by
        have := Hall.out
        rwa [List.take_of_length_le (by rw [HL.out]; omega)] at this
      have hyes := rowE_ok ⟨h1, h8⟩ hall
      have HY := Lib.hid hyes
      clear hall hyes Hall hok
      go_wp2_with (at_make; refine wpList_mk rfl _ _ 22 rfl Try.underlying22 info5 q _ _ rfl rfl rfl rfl (by omega) ?_; intro w1 hrow hsz hb1)
      clear hsz
      go_loopw [32] (fun i wr => ∃ k' : Nat, k' ≤ k ∧ i = .int .i64 k' ∧ Row wr w.heap.size (fill s vs q k') ∧ Below w.heap.size w wr) (fun i _ => k - (intOf i).toNat)
      case atStart => exact ⟨0, Nat.zero_le _, rfl, by simpa [fill, rowB] using hrow, hb1⟩
      case round =>
        obtain ⟨j, hj, rfl, hrw, hb⟩ := hrel
        clear hrow hb1
        by_cases hlt : j < k
        · obtain ⟨b, o, rfl, _, hc⟩ := (hr.below hb hB).at_ hlt
          have hv := u64_bd (hr.wf hlt)
          obtain ⟨p, hp⟩ : ∃ p, j * s = p := ⟨_, rfl⟩
          have hp1 : p + s ≤ q := by
            have h := Nat.mul_le_mul_left s (show j + 1 ≤ k by omega)
            have e1 : s * (j + 1) = p + s := by rw [← hp, Nat.mul_add, Nat.mul_one, Nat.mul_comm]
            have e2 := HQ.out
            omega
          have HF := Lib.hid (fill_step s vs q j p (by rw [HL.out]; omega) hp hp1)
          have hfl := fill_len s vs q j (by rw [HL.out]; omega) (by omega)
          have HFL := Lib.hid hfl
          have hp2 : (j : Int) * (s : Int) = (p : Int) := by rw [← hp]; simp
          have hp3 : ((j : Int) + 1) * (s : Int) = (p : Int) + (s : Int) := by rw [Int.add_mul, hp2]; omega
          have HPP := Lib.hid hp
          clear hp hfl
          generalize vs.getD j 0 = v at *
          go_wp2_with (go_at_call 26; refine (put_any _ _ _ _ _ _ _ hrw (by rw [HFL.out]; exact hp1) h8 hv.1 hv.2).mono ?_; rintro e w2 ⟨rfl, hrow2, hb2⟩)
          go_roundw
          case rel => exact ⟨j + 1, by omega, by go_num, by rw [← HF.out]; exact hrow2, hb.trans hb2⟩
          case measure => simp [intOf]; omega
        · obtain rfl : j = k := by omega
          have hfin : fill s vs q j = rowB s vs := by
            unfold fill
            have e := HQ.out
            rw [List.take_of_length_le (by rw [HL.out]; omega), show q - j * s = 0 by rw [Nat.mul_comm, e]; omega]
            simp
          have hlen : (rowB s vs).length = q := by rw [rowB_len, HL.out, Nat.mul_comm]; exact HQ.out
          rw [hfin] at hrw
          have HLen := Lib.hid hlen
          clear hfin hlen
          go_wp2
          go_ret2
          refine ⟨some ⟨w.heap.size, 0, none⟩, q, q, by rw [HY.out.1]; rfl, ?_, hb⟩
          rw [HY.out.2]
          exact hrw.out (Nat.le_refl _) HLen.out (by unfold maxLen; omega) (rowB_wf s vs)

theorem row_any (A : Option Addr) (n c : Nat) (s : Int) (vs : List Int) (B : Nat) (w : World) (hr : Rd .u64 w B A n c vs) (hB : B ≤ w.heap.size) (hn : n ≤ 300) :
    Calls Try.prog 17 #[.int .i64 s, .slice A n c] w (Gives2 w (rowL s vs) (rowE s vs)) := by
  by_cases h : 1 ≤ s ∧ s ≤ 8
  · obtain ⟨z, rfl⟩ := Int.eq_ofNat_of_zero_le (show 0 ≤ s by omega)
    exact row_ok A n c z vs B w hr hB hn (by omega) (by omega)
  · have e := rowE_size h vs
    rw [e.1, e.2]
    exact row_size A n c s w h
end Go.Proofs.Ytmjdmddphaabmaa
