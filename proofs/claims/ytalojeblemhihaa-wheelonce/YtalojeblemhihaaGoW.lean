/-
  The contract of the program's wheel's Go.
-/
import Derived.Test.YtalojeblemhihaaOrder
import Derived.Test.YtalojeblemhihaaGoV
namespace Go.Proofs.Ytalojeblemhihaa
open Go.RowKit
set_option linter.unusedVariables false

theorem Out.at3 {w : World} {base n c : Nat} {A : Option Addr} {ys : List Int} (h : Out .i64 3 w base A n c ys) {i : Nat} (hi : i < n) : ∃ x, A = some ⟨x, 0, none⟩ ∧ base ≤ x ∧ x < w.heap.size ∧ w.cell? ⟨x, i, none⟩ = some (.int .i64 (ys.getD i 0)) ∧ w.frozen? ⟨x, i, none⟩ = false := by
  rcases h.form with ⟨_, e, _⟩ | ⟨x, cur, rfl, hb, hh, _⟩
  · omega
  obtain ⟨b, o', e, hlt, hc⟩ := h.rd.at_ hi
  injection e with e
  injection e with e1 e2
  subst e1 e2
  rw [Nat.zero_add] at hc
  exact ⟨_, rfl, hb, hlt, hc, by simp [World.frozen?, hh]⟩
theorem take_succ {L : List Int} {k : Nat} (hk : k < L.length) : L.take (k + 1) = L.take k ++ [L.getD k 0] := by
  rw [List.take_add_one]
  simp [List.getD, List.getElem?_eq_getElem hk]
theorem getD_mem {L : List Int} {k : Nat} (hk : k < L.length) : L.getD k 0 ∈ L := by
  simp [List.getD, List.getElem?_eq_getElem hk]
theorem take_all {L : List Int} {n : Nat} (h : L.length = n) : L.take n = L := by rw [← h, List.take_length]

section
variable {w : World} {p lo hi now : Nat} {R : List Tm} {V : Nat → List Int} {bd : Nat} {g : Nat → Nat}
set_option maxRecDepth 100000 in
set_option maxHeartbeats 2000000 in
theorem goErr_any (h : WhR w p lo hi now R bd g) (n : Nat) (hE : goE now n ≠ 0) :
    Calls Try.prog 18 #[ptr p, .int .u64 n] w fun e w' => e = .returned (.tuple #[.slice none 0 0, .int .i64 (goE now n)]) ∧ w' = w := by
  obtain ⟨V, h, r⟩ := h
  have c0 := h.c0
  by_cases h1 : 4611686018427387904 < n
  · have e : goE now n = 11 := by unfold goE; rw [if_pos h1]
    rw [e]
    have h1i : (4611686018427387904 : Int) < (n : Int) := by omega
    clear h r hE e
    go_enter Try.func18, Try.ntmps18
    go_wp2
    go_ret2
    exact ⟨rfl, rfl⟩
  · by_cases h2 : n < now
    · have e : goE now n = 22 := by unfold goE; rw [if_neg h1, if_pos h2]
      rw [e]
      have h1i : ¬ (4611686018427387904 : Int) < (n : Int) := by omega
      have h2i : (n : Int) < (now : Int) := by omega
      clear h r hE e
      go_enter Try.func18, Try.ntmps18
      go_wp2
      go_ret2
      exact ⟨rfl, rfl⟩
    · exact absurd (by unfold goE; rw [if_neg h1, if_neg h2]) hE
set_option maxRecDepth 100000 in
set_option maxHeartbeats 4000000 in
theorem goOk_any (h : WhR w p lo hi now R bd g) (n : Nat) (hE : goE now n = 0) :
    Calls Try.prog 18 #[ptr p, .int .u64 n] w fun e w' => ∃ A m c, e = .returned (.tuple #[.slice A m c, .int .i64 0]) ∧ Out .i64 3 w' w.heap.size A m c (goT n R) ∧ WhR w' p lo hi n (goR n R) bd g ∧ OnlyW lo hi w w' := by
  obtain ⟨V, h, r⟩ := h
  obtain ⟨hn, hnow⟩ := goE_ok hE
  have c0 := h.c0
  have hroom := h.room
  have h1i : ¬ (4611686018427387904 : Int) < (n : Int) := by omega
  have h2i : ¬ (n : Int) < (now : Int) := by omega
  obtain ⟨m, hm⟩ : ∃ m, lv now n = m := ⟨_, rfl⟩
  have hle := h.le
  have hm64 : m < 64 := by have := lv_63 (n := now) (d := n) (by omega) (by omega); omega
  have T1 := level_any h n hn
  have T2 := lift_any h m hm64
  rw [hm] at T1
  have hO := h.ok
  have hlb : (64 : Nat) * 16384 ≤ 100000000 := by omega
  have hcat := catV_len (V := V) (fun i hi => h.vlen hi) (m + 1) (by omega)
  have F1 : Hid (∀ L, L.Perm (catV V (m + 1)) → Right n R (layL R n L (clrV V (m + 1))) ∧ (∀ t ∈ L, hasT t R = true)) := Lib.hid (fun L hL => by
    subst hm
    refine ⟨r.moved hO hnow hn hL, fun t ht => ?_⟩
    obtain ⟨i, hi, h3⟩ := mem_catV.1 (hL.mem_iff.1 ht)
    exact h.sub i (by omega) t h3)
  have hlen := h.len
  clear h r hm
  go_enter Try.func18, Try.ntmps18
  go_wp2_with fail
  refine T1.mono ?_
  rintro ev w1 ⟨rfl, rfl⟩
  go_wp2_with fail
  refine T2.mono ?_
  rintro ev w2 ⟨A, nL, c, L, rfl, ho, hL, h2, k2⟩
  have c0' := h2.c0
  have f0' := h2.fr 0
  have h3 := h2.setNow hn
  obtain ⟨f1, f2⟩ := F1.out L hL
  have hLl : L.length ≤ 100000000 := by rw [hL.length_eq]; have := Nat.mul_le_mul_right 16384 (show m + 1 ≤ 64 by omega); omega
  have hLn := ho.len
  have hpi := h2.inp
  have k3 : OnlyW lo hi w1 (w2.setCell ⟨p, 0, none⟩ (.int .u64 (n : Nat))) := k2.trans (Kept.setCell w2 _ _ hpi)
  have o3 : Out .i64 3 (w2.setCell ⟨p, 0, none⟩ (.int .u64 (n : Nat))) w1.heap.size A nL c L := ho.kept (S := (· = p)) (Kept.setCell w2 _ _ rfl) (fun ad e => by have := (ho.block ad e).1; omega)
  clear T1 T2 ho h2 k2 F1 hcat
  go_wp2
  generalize w2.setCell ⟨p, 0, none⟩ (.int .u64 (n : Nat)) = w3 at *
  go_loopw [33] (fun i wr => ∃ k : Nat, k ≤ nL ∧ i = .int .i64 k ∧ WhB wr p lo hi n R (layL R n (L.take k) (clrV V (m + 1))) bd g ∧ OnlyW lo hi w1 wr ∧ Out .i64 3 wr w1.heap.size A nL c L) (fun i _ => nL - (intOf i).toNat)
  case atStart => exact ⟨0, Nat.zero_le _, rfl, h3, k3, o3⟩
  case round =>
    obtain ⟨k, hk, rfl, hW, hK, ho⟩ := hrel
    clear h3 k3 o3
    by_cases hkn : k < nL
    · have hki : (k : Int) < (nL : Int) := by omega
      obtain ⟨x, rfl, hxb, hxl, cx, fx⟩ := ho.at3 hkn
      have hkL : k < L.length := by omega
      have ht := f2 _ (getD_mem hkL)
      have hlv : lv n (dueT (L.getD k 0) R) < 64 := by
        have := hO.due_le (L.getD k 0)
        have := lv_63 (n := n) (d := dueT (L.getD k 0) R) (by omega) (by omega)
        omega
      have T := lay_any hW (L.getD k 0) ht _ hlv rfl
      rw [← layL_snoc, ← take_succ hkL] at T
      obtain ⟨t, hte⟩ : ∃ t, L.getD k 0 = t := ⟨_, rfl⟩
      rw [hte] at T cx
      clear hW hlv ht hte
      go_wp2_with fail
      refine T.mono ?_
      rintro ev w4 ⟨rfl, h4, k4⟩
      have o4 := ho.kept k4 (fun ad e => by cases e; simp; omega)
      have k5 : OnlyW lo hi w1 w4 := hK.trans k4
      clear T hK ho cx fx k4
      go_wp2
      go_roundw
      case rel => exact ⟨k + 1, by omega, by go_num, h4, k5, o4⟩
      case measure => simp [intOf]; omega
    · obtain rfl : k = nL := by omega
      rw [take_all hLn] at hW
      generalize layL R n L (clrV V (m + 1)) = V2 at *
      have T := lift_any hW 0 (by omega)
      have hV0 := (hW.lev 0 (by omega)).nodup
      have F2 : Hid (∀ L : List Int, L.Perm (catV V2 1) → L.Perm (goT n R)) := Lib.hid (fun L hL => f1.over hO hn hV0 hL)
      have F3 := f1.rest hO hn
      have hws := hK.size
      have hpl := hW.lt
      have hbl := hW.dues.lt
      have hV1 : Hid (∀ i, i < 64 → ∀ t ∈ clrV V2 1 i, ∀ k, hasT t (dropL ((goT n R).take k) R) = true) := Lib.hid (fun i hi t ht k => by
        obtain ⟨d, h5, _⟩ := (F3 i hi t).1 ht
        obtain ⟨h6, h7⟩ := mem_goR.1 h5
        refine hasT_iff.2 ⟨d, mem_dropL.2 ⟨h6, fun h8 => ?_⟩⟩
        obtain ⟨d', h9, h10⟩ := mem_goT.1 (List.mem_of_mem_take h8)
        have := hO.one h6 h9
        simp only at h7
        omega)
      clear hW ho f1 f2 hL hLl hLn
      go_wp2_with fail
      refine T.mono ?_
      rintro ev w5 ⟨A2, n2, c2, L2, rfl, o5, hL2, h5, k5⟩
      have hP := F2.out L2 hL2
      have hn2 := o5.len
      have hgl : (goT n R).length ≤ 16384 := by
        have := len_go (n := n) (R := R)
        omega
      have hn2' : n2 ≤ 16384 := by rw [← hn2, hP.length_eq]; exact hgl
      have ba := alloc_below w5 (.cells #[ptr p] 27)
      have hbx : (w5.alloc (.cells #[ptr p] 27)).cell? ⟨w5.heap.size, 0, none⟩ = some (ptr p) := cell_of_one (heap_alloc_new w5 _)
      have h6 := h5.new ba
      have kO : KO w5.heap.size p bd R (w5.alloc (.cells #[ptr p] 27)) := ⟨hbx, h6.c1, h6.dues⟩
      have hne : ∀ ad, A2 = some ad → ad.block ≠ w5.heap.size ∧ ad.block ≠ p ∧ ad.block ≠ bd := fun ad e => by
        obtain ⟨h1, cur, h2⟩ := o5.block ad e
        have := (Array.getElem?_eq_some_iff.1 h2).1
        omega
      have T4 := sort_any w5.heap.size p bd R hO n _ kO wr.heap.size A2 n2 c2 L2 (o5.below ba (Nat.le_refl _)) (by omega) hP hne
      have hlast : Hid (WhB = WhB) := Lib.hid rfl
      have k5' : OnlyW lo hi w1 w5 := hK.trans k5
      have hs5 := k5.size
      have o5ge := fun q (hq : (Value.slice A2 n2 c2).ownBlock = some q) => o5.own_ge q hq
      clear T F2 hL2 hP kO hne hbx o5 hlast
      go_wp2_with fail
      refine (order_any p w5).mono ?_
      rintro ev w6 ⟨rfl, rfl⟩
      go_wp2_with fail
      refine T4.mono ?_
      rintro ev w7 ⟨rfl, o7, g7⟩
      have b7 : Below wr.heap.size w5 w7 := (ba.mono hs5).grown g7 (by simp; omega) o5ge
      have h7 := h5.below b7 (Nat.le_trans hroom hws)
      have k7 : OnlyW lo hi w1 w7 := k5'.low (b7.mono hws)
      have o7' := o7.lower hws
      have hT : (goT n R).length = n2 := o7.len
      have hR7 : WhB w7 p lo hi n (dropL ((goT n R).take 0) R) (clrV V2 1) bd g := by rw [List.take_zero, dropL_nil]; exact h7
      clear T4 o7 g7 b7 h7 h5 h6 k5 k5' ba o5ge hK
      go_wp2
      go_loopw [49] (fun i wz => ∃ k : Nat, k ≤ n2 ∧ i = .int .i64 k ∧ WhB wz p lo hi n (dropL ((goT n R).take k) R) (clrV V2 1) bd g ∧ OnlyW lo hi w1 wz ∧ Out .i64 3 wz w1.heap.size A2 n2 c2 (goT n R)) (fun i _ => n2 - (intOf i).toNat)
      case atStart => exact ⟨0, Nat.zero_le _, rfl, hR7, k7, o7'⟩
      case round =>
        obtain ⟨k, hk, rfl, hW, hK, ho⟩ := hrel
        clear hR7 k7 o7'
        by_cases hkn : k < n2
        · have hki : (k : Int) < (n2 : Int) := by omega
          obtain ⟨x, rfl, hxb, hxl, cx, fx⟩ := ho.at3 hkn
          have hkL : k < (goT n R).length := by omega
          have hwf : wfI ((goT n R).getD k 0) := ho.2 _ (getD_mem hkL)
          have c1 := hW.c1
          obtain ⟨w8, e8, hD8, ht8⟩ : ∃ w', (∀ ty, (Builtin.delete_ #[56, 3] ty #[.map (some bd), .int .i64 ((goT n R).getD k 0)]).run Try.prog wr = .ok (.tuple #[]) w') ∧ DuAt w' bd (delT ((goT n R).getD k 0) (dropL ((goT n R).take k) R)) ∧ wr.mapTurned w' bd := by
            obtain ⟨w', a, b, c⟩ := hW.dues.del hW.ok hwf 0
            exact ⟨w', fun _ => a, b, c⟩
          have hok8 := hW.ok.del ((goT n R).getD k 0)
          have hle8 := Nat.le_trans (len_delT_le (t := (goT n R).getD k 0) (R := dropL ((goT n R).take k) R)) hW.len
          rw [dropL_snoc, ← take_succ hkL] at hD8 hok8 hle8
          have h8 := hW.turnD ht8 hD8 hok8 hle8 (fun i hi t ht => hV1.out i hi t ht (k + 1))
          have k8 : Kept (fun k => lo ≤ k ∧ k < hi) wr w8 := kept_turned ht8 hW.inb
          have o8 := ho.kept k8 (fun ad e => by cases e; simp; omega)
          have k9 : OnlyW lo hi w1 w8 := hK.trans k8
          obtain ⟨t, hte⟩ : ∃ t, (goT n R).getD k 0 = t := ⟨_, rfl⟩
          rw [hte] at e8 cx
          clear hW hD8 ht8 hok8 hle8 hK ho k8 hte hwf
          go_wp2
          go_roundw
          case rel => exact ⟨k + 1, by omega, by go_num, h8, k9, o8⟩
          case measure => simp [intOf]; omega
        · obtain rfl : k = n2 := by omega
          rw [take_all hT, dropL_goT hO] at hW
          have hF : WhR wr p lo hi n (goR n R) bd g := ⟨_, hW, F3⟩
          clear hW F3 hV1
          go_wp2
          go_ret2
          exact ⟨A2, k, c2, rfl, ho, hF, hK⟩
theorem go_any (h : WhR w p lo hi now R bd g) (n : Nat) :
    Calls Try.prog 18 #[ptr p, .int .u64 n] w fun e w' => ∃ A m c, e = .returned (.tuple #[.slice A m c, .int .i64 (goE now n)]) ∧ Out .i64 3 w' w.heap.size A m c (goL now n R) ∧ WhR w' p lo hi (goN now n) (goRR now n R) bd g ∧ OnlyW lo hi w w' := by
  by_cases hE : goE now n = 0
  · have e1 : goL now n R = goT n R := by unfold goL; rw [if_pos hE]
    have e2 : goN now n = n := by unfold goN; rw [if_pos hE]
    have e3 : goRR now n R = goR n R := by unfold goRR; rw [if_pos hE]
    rw [e1, e2, e3, hE]
    exact goOk_any h n hE
  · have e1 : goL now n R = [] := by unfold goL; rw [if_neg hE]
    have e2 : goN now n = now := by unfold goN; rw [if_neg hE]
    have e3 : goRR now n R = R := by unfold goRR; rw [if_neg hE]
    rw [e1, e2, e3]
    refine (goErr_any h n hE).mono ?_
    rintro e w' ⟨rfl, rfl⟩
    exact ⟨none, 0, 0, rfl, Out.nil, h, Kept.refl _ _⟩
end
end Go.Proofs.Ytalojeblemhihaa
