/-
  Subnets within and beside each other, in plain words. Nothing of the program's walks.
-/
import Derived.Test.YtemhahfodblehaaDoorRNets
namespace Go.Proofs.YtemhahfodblehaaDoor
open Go.RowKit

theorem right_bnd {ip b : Int} (h : rightV ip b = true) : bndV b = true := by simp only [rightV, hostV, hasV, Bool.and_eq_true] at h; exact h.1.1.1.1
theorem right_host {ip b : Int} (h : rightV ip b = true) : hostV ip b ip = true := by simp only [rightV, Bool.and_eq_true] at h; exact h.1
theorem host_base (ip b : Int) : hostV ip b (baseV ip b) = false := by simp [hostV]
theorem host_last (ip b : Int) : hostV ip b (lastV ip b) = false := by simp [hostV]
theorem has_iff {ip b x : Int} (hb : bndV b = true) : hasV ip b x = true ↔ baseV ip b ≤ x ∧ x ≤ lastV ip b := by
  have := has_ends (ip := ip) (x := x) hb
  simp only [hasV, hb, Bool.true_and]
  rw [this]
  simp
theorem base_last {ip b : Int} (hb : bndV b = true) : baseV ip b ≤ lastV ip b := by
  have hf := sz_fact hb
  simp only [baseV, lastV, hb, if_true]
  omega
theorem has_base {ip b : Int} (hb : bndV b = true) : hasV ip b (baseV ip b) = true := (has_iff hb).2 ⟨Int.le_refl _, base_last hb⟩
theorem has_last {ip b : Int} (hb : bndV b = true) : hasV ip b (lastV ip b) = true := (has_iff hb).2 ⟨base_last hb, Int.le_refl _⟩
theorem has_self {ip b : Int} (hb : bndV b = true) : hasV ip b ip = true := by simp [hasV, hb]
theorem has_x {ip b x : Int} (hb : bndV b = true) : hasV ip b x = (baseV x b == baseV ip b) := by
  rw [← has_eq hb]
  rfl
theorem sub_eq {ip b : Int} (hb : bndV b = true) : IntKind.u32.wrap (lastV ip b - baseV ip b) = 4294967295 - maskV b := by
  have hf := sz_fact hb
  rw [IntKind.wrap_u32']
  simp only [baseV, lastV, maskV, hb, if_true]
  omega
theorem apart_comm (ip b jp c : Int) : apartV ip b jp c = apartV jp c ip b := by
  unfold apartV
  cases rightV ip b <;> cases rightV jp c <;> cases hasV ip b (baseV jp c) <;> cases hasV jp c (baseV ip b) <;> rfl
theorem apart_right {ip b jp c : Int} (h : apartV ip b jp c = true) : rightV ip b = true ∧ rightV jp c = true := by
  simp only [apartV, Bool.and_eq_true] at h
  exact ⟨h.1.1.1, h.1.1.2⟩
theorem apart_no {ip b jp c x : Int} (hip : W32 ip) (hjp : W32 jp) (h : apartV ip b jp c = true) (h1 : hasV ip b x = true) : hasV jp c x = false := by
  obtain ⟨r1, r2⟩ := apart_right h
  rw [refApart_eq hip hjp, r1, r2] at h
  have b1 := right_bnd r1
  have b2 := right_bnd r2
  simp at h
  rw [has_iff b1] at h1
  rcases hx : hasV jp c x with _ | _
  · rfl
  · rw [has_iff b2] at hx
    omega
theorem apart_ip {ip b jp c : Int} (hip : W32 ip) (hjp : W32 jp) (h : apartV ip b jp c = true) : hasV ip b jp = false := by
  rcases hx : hasV ip b jp with _ | _
  · rfl
  · have := apart_no hip hjp h hx
    rw [has_self (right_bnd (apart_right h).2)] at this
    cases this
theorem apart_else {ip b jp c : Int} (h : apartV ip b jp c = false) (r1 : rightV ip b = true) (r2 : rightV jp c = true) (hn : hasV ip b (baseV jp c) = false) : hasV jp c (baseV ip b) = true := by
  simpa [apartV, r1, r2, hn] using h
/-- A subnet with more bits. -/
theorem has_less {ip b e x : Int} (hb : bndV b = true) (he : bndV e = true) (hbe : b ≤ e) (h : hasV ip e x = true) : hasV ip b x = true := by
  simp only [hasV, hb, he, Bool.true_and, decide_eq_true_eq] at h ⊢
  rw [bnd_iff] at hb he
  have hs : szV b = szV e * 2 ^ (e - b).toNat := by
    unfold szV
    rw [← Int.pow_add]
    congr 1
    omega
  have hp := (two_pow (32 - e).toNat (by omega)).1
  have key : ∀ y : Int, y / szV b = y / szV e / 2 ^ (e - b).toNat := by
    intro y
    rw [hs, Int.ediv_ediv, if_neg (by unfold szV; omega)]
    simp
  rw [key x, key ip, h]
theorem base_less {ip b e : Int} (hb : bndV b = true) (he : bndV e = true) (hbe : b ≤ e) : baseV ip b ≤ baseV ip e := ((has_iff hb).1 (has_less hb he hbe (has_base he))).1
theorem last_less {ip b e : Int} (hb : bndV b = true) (he : bndV e = true) (hbe : b ≤ e) : lastV ip e ≤ lastV ip b := ((has_iff hb).1 (has_less hb he hbe (has_last he))).2
theorem sz_less {b e : Int} (hb : bndV b = true) (he : bndV e = true) (hbe : b ≤ e) : szV e ≤ szV b := by
  rw [bnd_iff] at hb he
  rw [sz_nat, sz_nat]
  have := Nat.pow_le_pow_right (n := 2) (by omega) (show (32 - e).toNat ≤ (32 - b).toNat by omega)
  omega
theorem mask_and {b e : Int} (hb : bndV b = true) (he : bndV e = true) (hbe : b ≤ e) : bits .and .u32 (maskV e) (maskV b) = maskV b := by
  rw [and_maskV (mask_bd e)]
  have h1 := sz_less hb he hbe
  have h2 := sz_fact he
  simp only [baseV, maskV, hb, he, if_true]
  generalize szV e = y at h1 h2
  rcases sz_cases hb with h | h | h | h | h | h | h | h | h | h | h | h | h | h | h | h | h | h | h | h | h | h | h <;> rw [h] at h1 ⊢ <;> omega
theorem apart_less {ip b e jp c : Int} (hip : W32 ip) (hjp : W32 jp) (hbe : b ≤ e) (he : rightV ip e = true) (h : apartV ip b jp c = true) : apartV ip e jp c = true := by
  obtain ⟨r1, r2⟩ := apart_right h
  have b1 := right_bnd r1
  have b2 := right_bnd he
  rw [refApart_eq hip hjp, r1, r2] at h
  rw [refApart_eq hip hjp, he, r2]
  have h1 := base_less (ip := ip) b1 b2 hbe
  have h2 := last_less (ip := ip) b1 b2 hbe
  simp at h ⊢
  omega
end Go.Proofs.YtemhahfodblehaaDoor
