/-
  Contracts of joined (at decimal, at hex), Text and MacText.
-/
import Derived.Test.YtemhahfodblehaaDoorText
import Derived.Laws.AppendOwn
namespace Go.Proofs.YtemhahfodblehaaDoor
open Go.RowKit

/-- The slice value '.slice A n c' is the call's own row of strings. -/
def OutS (w : World) (base : Nat) (A : Option Addr) (n c : Nat) (ls : List (List UInt8)) : Prop := w.ownsRow base 9 1 (.slice A n c) n (ls.map strV)
theorem OutS.capn {w : World} {base : Nat} {A : Option Addr} {n c : Nat} {ls : List (List UInt8)} (h : OutS w base A n c ls) : n ≤ c := by
  rcases h.2 with ⟨hv, hn⟩ | ⟨g, cap, cur, hv, _, _, h1, _⟩
  · injection hv with a b c; omega
  · injection hv with a b c; omega
theorem OutS.at_ {w : World} {base : Nat} {A : Option Addr} {n c : Nat} {ls : List (List UInt8)} (h : OutS w base A n c ls) (hn : 0 < n) : ∃ g, A = some ⟨g, 0, none⟩ ∧ g < w.heap.size := by
  rcases h.2 with ⟨hv, hn⟩ | ⟨g, cap, cur, hv, _, hh, _⟩
  · omega
  · injection hv with a b c; exact ⟨g, a, (Array.getElem?_eq_some_iff.1 hh).1⟩
theorem OutS.len {w : World} {base : Nat} {A : Option Addr} {n c : Nat} {ls : List (List UInt8)} (h : OutS w base A n c ls) : ls.length = n := by simpa using h.1
theorem OutS.below {w w' : World} {base B : Nat} {A : Option Addr} {n c : Nat} {ls : List (List UInt8)} (h : OutS w base A n c ls) (hb : Below B w w') (hB : w.heap.size ≤ B) : OutS w' base A n c ls := by
  refine ⟨h.1, ?_⟩
  rcases h.2 with hv | ⟨g, cap, cur, hv, hbg, hh, r⟩
  · exact .inl hv
  · refine .inr ⟨g, cap, cur, hv, hbg, ?_, r⟩
    have hlt := (Array.getElem?_eq_some_iff.1 hh).1
    rw [hb.block g (by omega)]
    exact hh
theorem OutS.own {w : World} {base : Nat} {A : Option Addr} {n c : Nat} {ls : List (List UInt8)} (h : OutS w base A n c ls) : (Value.slice A n c).ownBlock = none ∨ ∃ g, (Value.slice A n c).ownBlock = some g ∧ base ≤ g := by
  rcases h.2 with ⟨hv, _⟩ | ⟨g, cap, cur, hv, hbg, _⟩
  · rw [hv]; exact .inl rfl
  · rw [hv]; exact .inr ⟨g, rfl, hbg⟩
theorem info9 : (Tryd.prog.info? 9).map (fun i => (i.zero, i.size, i.bytes)) = some (some (.string ⟨#[]⟩), 1, 16) := by kernel_rfl
/-- 'append(own row of strings, one)' as a step of the walk. -/
theorem wpList_appS {w : World} {ops : Array Oper} {rest : List Oper} {o : Oper} {a : Act} {Q : Exit → Act → World → Prop} (hgd : o.guard = none) (s x : Operand)
    (ho : o.op = .call { callee := .builtin .append, args := #[s, x], argTypes := #[71, 71] }) (base : Nat) (A0 : Option Addr) (n0 c0 : Nat) (ls : List (List UInt8)) (hs : a.eval s = .slice A0 n0 c0) (hown : OutS w base A0 n0 c0 ls)
    (g : Nat) (l : List UInt8) (hx : a.eval x = .slice (some ⟨g, 0, none⟩) 1 1) (hc : w.cell? ⟨g, 0, none⟩ = some (strV l)) (hn : n0 ≤ 1000) (hbase : base ≤ w.heap.size)
    (h : ∀ A' c' w', OutS w' base A' (n0 + 1) c' (ls ++ [l]) → w.grownBy w' (Value.slice A0 n0 c0).ownBlock → wpList Tryd.prog ops Q rest (a.put o.dst (.slice A' (n0 + 1) c')) w') : wpList Tryd.prog ops Q (o :: rest) a w := by
  cases hi : Tryd.prog.info? 9 with
  | none => have := info9; rw [hi] at this; cases this
  | some i =>
    have h9 := info9
    rw [hi] at h9
    simp only [Option.map_some, Option.some.injEq, Prod.mk.injEq] at h9
    refine wpList_plain hgd fun K hK => wp_append_own w s x 71 ho base 9 i (.string ⟨#[]⟩) 1 16 Tryd.underlying71 hi h9.1 h9.2.1 h9.2.2 rfl (by decide) _ n0 _ hs hown ⟨g, 0, none⟩ 1 1 [strV l] hx rfl (fun j u hj => ?_) (fun u hu => ?_) (by unfold maxLen; omega) (by omega) hbase ?_
    · match j, hj with
      | 0, hj =>
        simp at hj
        subst hj
        exact hc
    · simp at hu
      subst hu
      rfl
    · intro v' w' hown' hg _
      have hex : ∃ A' c', v' = .slice A' (n0 + 1) c' := by
        rcases hown'.2 with ⟨hv, hn⟩ | ⟨g, cap, cur, hv, _⟩
        · omega
        · exact ⟨_, _, hv⟩
      obtain ⟨A', c', rfl⟩ := hex
      exact hK _ _ (h A' c' w' (by unfold OutS; simpa using hown') hg)
theorem below_grown {B : Nat} {w w' : World} {row : Option Nat} (hg : w.grownBy w' row) (hB : B ≤ w.heap.size) (hr : row = none ∨ ∃ g, row = some g ∧ B ≤ g) : Below B w w' :=
  ⟨hg.os, hg.tape, hg.output, hg.size, fun k hk => hg.block k (by omega) (fun e => by
    rcases hr with h | ⟨g, h, hgB⟩
    · rw [h] at e; cases e
    · rw [h] at e; injection e with e; omega)⟩
theorem make_ (w : World) (n : Nat) (hn : n ≤ 100) : ∃ w', (Instr.makeSlice 71 (.int .i64 0) (.int .i64 (n : Int))).run Tryd.prog w = .ok (.slice (some ⟨w.heap.size, 0, none⟩) 0 n) w' ∧ OutS w' w.heap.size (some ⟨w.heap.size, 0, none⟩) 0 n [] ∧ Below w.heap.size w w' := by
  cases hi : Tryd.prog.info? 9 with
  | none => have := info9; rw [hi] at this; cases this
  | some i =>
    have h9 := info9
    rw [hi] at h9
    simp only [Option.map_some, Option.some.injEq, Prod.mk.injEq] at h9
    obtain ⟨w', h1, h2, h3⟩ := run_make_own (P := Tryd.prog) w w.heap.size 71 9 i (.string ⟨#[]⟩) 1 Tryd.underlying71 hi h9.1 h9.2.1 .i64 .i64 n (by rw [h9.2.2]; omega) (by unfold maxLen; omega) (Nat.le_refl _)
    exact ⟨w', h1, h2, below_grown h3 (Nat.le_refl _) (.inl rfl)⟩
/-- What is known inside joined's loop. -/
structure KJ (w : World) (A : Option Addr) (n c : Nat) (xs : List Int) (W : World) : Prop where
  kn : Kn W
  below : Below w.heap.size w W
  rd : Rd .u8 W w.heap.size A n c xs
section
variable {w W V : World} {A : Option Addr} {n c : Nat} {xs : List Int}
theorem KJ.low (k : KJ w A n c xs W) (h : Below w.heap.size W V) (hk : Kn V) : KJ w A n c xs V := ⟨hk, k.below.trans h, k.rd.below h (Nat.le_refl _)⟩
theorem KJ.step (k : KJ w A n c xs W) (h : Below W.heap.size W V) : KJ w A n c xs V := k.low (h.mono k.below.size) (k.kn.step h)
end
theorem Kn.low {w W V : World} (k0 : Kn w) (h0 : Below w.heap.size w W) (h : Below w.heap.size W V) : Kn V := k0.step (h0.trans h)
theorem join_len : ∀ (ls : List (List UInt8)) (m : UInt8), (∀ l ∈ ls, l.length ≤ 3) → (Lib.join ls [m]).length ≤ 4 * ls.length
  | [], _, _ => by simp [Lib.join, List.intercalate]
  | [l], _, h => by have := h l (by simp); simp [Lib.join, List.intercalate]; omega
  | l :: r :: ls, m, h => by
    have ih := join_len (r :: ls) m (fun x hx => h x (by simp [hx]))
    have h1 := h l (by simp)
    have e : Lib.join (l :: r :: ls) [m] = l ++ [m] ++ Lib.join (r :: ls) [m] := by simp [Lib.join, List.intercalate]
    rw [e]
    simp at ih ⊢
    omega

theorem joined_end (T : Nat → List UInt8) (xs : List Nat) (m : UInt8) (hT : ∀ n, n < 256 → (T n).length ≤ 3) {W : World} {base g d n : Nat} (ho : OutS W base (some ⟨g, 0, none⟩) n d (xs.map T)) (hg : g < W.heap.size) (hlen : xs.length = n) (hn : n ≤ 100) (hx : ∀ x ∈ xs, x < 256) :
    Calls Tryd.prog 49 #[.slice (some ⟨g, 0, none⟩) n d, .string ⟨#[m]⟩] W fun e w' => e = .returned (strV (Lib.join (xs.map T) [m])) ∧ Below W.heap.size W w' := by
  have hl := join_len (xs.map T) m (fun l hl => by
    obtain ⟨x, hx', rfl⟩ := List.mem_map.1 hl
    exact hT x (hx x hx'))
  have hd := ho.capn
  have e1 : ((xs.map T).map (fun l => (⟨l.toArray⟩ : ByteArray))).map (fun x => x.data.toList) = xs.map T := by
    rw [List.map_map]
    conv => rhs; rw [← List.map_id (xs.map T)]
    rfl
  have := Tryd.strings_Join g 0 d ((xs.map T).map fun l => ⟨l.toArray⟩) ⟨#[m]⟩ W (fun j x hj => by
    have := ho.cells (g := g) rfl j (.string x) (by
      rw [List.getElem?_map] at hj
      simp only [List.getElem?_map, Option.map_eq_some_iff] at hj ⊢
      obtain ⟨l, hl, rfl⟩ := hj
      exact ⟨l, hl, rfl⟩)
    have ha : (⟨g, 0, none⟩ : Addr).add j = ⟨g, 0 + j, none⟩ := by unfold Addr.add; split <;> simp_all
    rw [ha] at this
    exact this) hg (by simp; omega) (by simp; omega) (by rw [e1]; simp at hl ⊢; omega)
  rw [e1] at this
  simp only [List.length_map, hlen] at this
  exact this

set_option maxRecDepth 100000 in
set_option maxHeartbeats 1000000 in
theorem joined_dec (A : Option Addr) (n c : Nat) (xs : List Nat) (m : UInt8) (w : World) (k0 : Kn w) (hr : Rd .u8 w w.heap.size A n c (xs.map Int.ofNat)) (hx : ∀ x ∈ xs, x < 256) (hn : 1 ≤ n ∧ n ≤ 100) :
    Calls Tryd.prog 41 #[.slice A n c, .string ⟨#[m]⟩, .func (.func 42) #[] #[]] w fun e w' => e = .returned (strV (Lib.join (xs.map dec3) [m])) ∧ Below w.heap.size w w' := by
  have hlen : xs.length = n := by simpa using hr.len
  have kj : KJ w A n c (xs.map Int.ofNat) w := ⟨k0, Below.refl _ _, hr⟩
  obtain ⟨w1, hmk, ho, hb1⟩ := make_ w n hn.2
  replace kj := kj.step hb1
  clear hb1
  go_enter Tryd.func41, Tryd.ntmps41
  go_wp2_with fail
  go_loopw [7, 15] (fun v i wr => ∃ (j : Nat) (B : Option Addr) (d : Nat), v = .slice B j d ∧ i = .int .i64 j ∧ j ≤ n ∧ KJ w A n c (xs.map Int.ofNat) wr ∧ OutS wr w.heap.size B j d ((xs.take j).map dec3)) (fun _ i _ => n - (intOf i).toNat)
  case atStart => exact ⟨0, _, _, rfl, rfl, by omega, kj, by simpa using ho⟩
  case round =>
    clear kj ho hmk
    obtain ⟨j, B, d, rfl, rfl, hj, kj, ho⟩ := hrel
    have hmax := hr.max
    by_cases hlt : j < n
    · obtain ⟨bb, oo, rfl, hbb, hc⟩ := kj.rd.at_ hlt
      have hxj : xs[j]'(by omega) < 256 := hx _ (List.getElem_mem _)
      have e : (xs.map Int.ofNat).getD j 0 = ((xs[j]'(by omega) : Nat) : Int) := by simp [List.getD, List.getElem?_eq_getElem (show j < xs.length by omega)]
      rw [e] at hc
      have htk : xs.take (j + 1) = xs.take j ++ [xs[j]'(by omega)] := List.take_succ_eq_append_getElem (by omega)
      generalize xs[j]'(by omega) = x at hc hxj htk
      have HT := Lib.hid htk
      clear htk e
      go_wp2_with fail
      with_reducible refine (decimal_any x hxj _ kj.kn).mono ?_
      rintro e w2 ⟨rfl, hb2⟩
      replace kj := kj.step hb2
      replace ho := ho.below hb2 (Nat.le_refl _)
      clear hb2 hc
      have ho2 := ho.below (alloc_below w2 (.cells #[strV (dec3 x)] 9)) (Nat.le_refl _)
      have kj2 := kj.step (alloc_below w2 (.cells #[strV (dec3 x)] 9))
      go_wp2_with (at_builtin; refine wpList_appS rfl _ _ rfl w.heap.size _ _ _ _ rfl ho2 w2.heap.size (dec3 x) rfl (by simp [go_sem]) (by omega) (by have := kj2.below.size; omega) ?_; intro B3 d3 w3 ho3 hg)
      have hb3 := below_grown hg kj2.below.size ho2.own
      have kj3 := kj2.low hb3 (Kn.low k0 kj2.below hb3)
      clear hg hb3 kj kj2 ho ho2
      go_wp2
      go_roundw
      case rel => exact ⟨j + 1, B3, d3, rfl, by go_num, by omega, kj3, by rw [HT.out, List.map_append]; exact ho3⟩
      case measure => simp [intOf]; omega
    · have hje : j = n := by omega
      subst hje
      have htk : xs.take j = xs := List.take_of_length_le (by omega)
      rw [htk] at ho
      obtain ⟨g, rfl, hgl⟩ := ho.at_ (by omega)
      have hjn := joined_end dec3 xs m (by intro n hn; exact (dec3_len n).2) ho hgl hlen (by omega) hx
      go_wp2_with fail
      with_reducible refine hjn.mono ?_
      rintro e w4 ⟨rfl, hb4⟩
      go_wp2
      go_ret
      exact ⟨rfl, (kj.step hb4).below⟩

set_option maxRecDepth 100000 in
set_option maxHeartbeats 1000000 in
theorem joined_hex (A : Option Addr) (n c : Nat) (xs : List Nat) (m : UInt8) (w : World) (k0 : Kn w) (hr : Rd .u8 w w.heap.size A n c (xs.map Int.ofNat)) (hx : ∀ x ∈ xs, x < 256) (hn : 1 ≤ n ∧ n ≤ 100) :
    Calls Tryd.prog 41 #[.slice A n c, .string ⟨#[m]⟩, .func (.func 44) #[] #[]] w fun e w' => e = .returned (strV (Lib.join (xs.map hexL) [m])) ∧ Below w.heap.size w w' := by
  have hlen : xs.length = n := by simpa using hr.len
  have kj : KJ w A n c (xs.map Int.ofNat) w := ⟨k0, Below.refl _ _, hr⟩
  obtain ⟨w1, hmk, ho, hb1⟩ := make_ w n hn.2
  replace kj := kj.step hb1
  clear hb1
  go_enter Tryd.func41, Tryd.ntmps41
  go_wp2_with fail
  go_loopw [7, 15] (fun v i wr => ∃ (j : Nat) (B : Option Addr) (d : Nat), v = .slice B j d ∧ i = .int .i64 j ∧ j ≤ n ∧ KJ w A n c (xs.map Int.ofNat) wr ∧ OutS wr w.heap.size B j d ((xs.take j).map hexL)) (fun _ i _ => n - (intOf i).toNat)
  case atStart => exact ⟨0, _, _, rfl, rfl, by omega, kj, by simpa using ho⟩
  case round =>
    clear kj ho hmk
    obtain ⟨j, B, d, rfl, rfl, hj, kj, ho⟩ := hrel
    have hmax := hr.max
    by_cases hlt : j < n
    · obtain ⟨bb, oo, rfl, hbb, hc⟩ := kj.rd.at_ hlt
      have hxj : xs[j]'(by omega) < 256 := hx _ (List.getElem_mem _)
      have e : (xs.map Int.ofNat).getD j 0 = ((xs[j]'(by omega) : Nat) : Int) := by simp [List.getD, List.getElem?_eq_getElem (show j < xs.length by omega)]
      rw [e] at hc
      have htk : xs.take (j + 1) = xs.take j ++ [xs[j]'(by omega)] := List.take_succ_eq_append_getElem (by omega)
      generalize xs[j]'(by omega) = x at hc hxj htk
      have HT := Lib.hid htk
      clear htk e
      go_wp2_with fail
      with_reducible refine (hex_any x hxj _).mono ?_
      rintro e w2 ⟨rfl, hb2⟩
      replace kj := kj.step hb2
      replace ho := ho.below hb2 (Nat.le_refl _)
      clear hb2 hc
      have ho2 := ho.below (alloc_below w2 (.cells #[strV (hexL x)] 9)) (Nat.le_refl _)
      have kj2 := kj.step (alloc_below w2 (.cells #[strV (hexL x)] 9))
      go_wp2_with (at_builtin; refine wpList_appS rfl _ _ rfl w.heap.size _ _ _ _ rfl ho2 w2.heap.size (hexL x) rfl (by simp [go_sem]) (by omega) (by have := kj2.below.size; omega) ?_; intro B3 d3 w3 ho3 hg)
      have hb3 := below_grown hg kj2.below.size ho2.own
      have kj3 := kj2.low hb3 (Kn.low k0 kj2.below hb3)
      clear hg hb3 kj kj2 ho ho2
      go_wp2
      go_roundw
      case rel => exact ⟨j + 1, B3, d3, rfl, by go_num, by omega, kj3, by rw [HT.out, List.map_append]; exact ho3⟩
      case measure => simp [intOf]; omega
    · have hje : j = n := by omega
      subst hje
      have htk : xs.take j = xs := List.take_of_length_le (by omega)
      rw [htk] at ho
      obtain ⟨g, rfl, hgl⟩ := ho.at_ (by omega)
      have hjn := joined_end hexL xs m (by intro n hn; simp [hexL]) ho hgl hlen (by omega) hx
      go_wp2_with fail
      with_reducible refine hjn.mono ?_
      rintro e w4 ⟨rfl, hb4⟩
      go_wp2
      go_ret
      exact ⟨rfl, (kj.step hb4).below⟩

/-- A row of bytes that was laid as one block. -/
theorem rd_block (w : World) (t : TypeId) (xs : List Int) (hx : ∀ x ∈ xs, (Lit.int .u8 x).wf = true) (hn : xs.length ≤ 1000) :
    Rd .u8 (w.alloc (.cells (xs.map (Value.int .u8)).toArray t)) (w.heap.size + 1) (some ⟨w.heap.size, 0, none⟩) xs.length xs.length xs := by
  refine ⟨rfl, Nat.le_refl _, ⟨by unfold maxLen; omega, fun h => by cases h⟩, hx, fun i hi => ⟨w.heap.size, 0, rfl, by omega, ?_⟩⟩
  simp [go_sem, hi, List.getD]
theorem u8_nat {n : Nat} (h : n < 256) : (Lit.int .u8 (n : Int)).wf = true := u8_mk (by omega)
theorem text_any (n : Nat) (hn : n < 4294967296) (w : World) (k : Kn w) : Calls Tryd.prog 29 #[.int .u32 n] w fun e w' => e = .returned (strV (textL n)) ∧ Below w.heap.size w w' := by
  have e1 : ((n / 16777216 : Nat) : Int) = (n : Int) / 16777216 := by omega
  have e2 : ((n / 65536 % 256 : Nat) : Int) = (n : Int) / 65536 % 256 := by omega
  have e3 : ((n / 256 % 256 : Nat) : Int) = (n : Int) / 256 % 256 := by omega
  have e4 : ((n % 256 : Nat) : Int) = (n : Int) % 256 := by omega
  have r := rd_block w 63 [((n / 16777216 : Nat) : Int), ((n / 65536 % 256 : Nat) : Int), ((n / 256 % 256 : Nat) : Int), ((n % 256 : Nat) : Int)] (by
    intro x hx
    simp only [List.mem_cons, List.not_mem_nil, or_false] at hx
    rcases hx with rfl | rfl | rfl | rfl <;> exact u8_nat (by omega)) (by simp)
  have hj := joined_dec (some ⟨w.heap.size, 0, none⟩) 4 4 [n / 16777216, n / 65536 % 256, n / 256 % 256, n % 256] 46 _ (k.alloc (.cells #[.int .u8 (n / 16777216 : Nat), .int .u8 (n / 65536 % 256 : Nat), .int .u8 (n / 256 % 256 : Nat), .int .u8 (n % 256 : Nat)] 63)) (by rw [World.size_alloc]; exact r) (by
    intro x hx
    simp only [List.mem_cons, List.not_mem_nil, or_false] at hx
    rcases hx with rfl | rfl | rfl | rfl <;> omega) (by omega)
  simp only [List.map_cons, List.map_nil, text_join] at hj
  rw [e1, e2, e3, e4] at hj
  clear e1 e2 e3 e4 r
  have hb0 := alloc_below w (.cells #[.int .u8 ((n : Int) / 16777216), .int .u8 ((n : Int) / 65536 % 256), .int .u8 ((n : Int) / 256 % 256), .int .u8 ((n : Int) % 256)] 63)
  go_enter Tryd.func29, Tryd.ntmps29
  go_wp2_with fail
  with_reducible refine hj.mono ?_
  rintro e w1 ⟨rfl, hb1⟩
  go_wp2
  go_ret
  exact ⟨rfl, hb0.trans (hb1.mono hb0.size)⟩
theorem macText_any (a b c d e f : Nat) (ha : a < 256) (hb : b < 256) (hc : c < 256) (hd : d < 256) (he : e < 256) (hf : f < 256) (w : World) (k : Kn w) :
    Calls Tryd.prog 31 #[.agg #[.int .u8 a, .int .u8 b, .int .u8 c, .int .u8 d, .int .u8 e, .int .u8 f]] w fun z w' => z = .returned (strV (macL a b c d e f)) ∧ Below w.heap.size w w' := by
  have r := rd_block w 37 [(a : Int), b, c, d, e, f] (by simp [u8_nat, *]) (by simp)
  have hj := joined_hex (some ⟨w.heap.size, 0, none⟩) 6 6 [a, b, c, d, e, f] 58 _ (k.alloc (.cells #[.int .u8 a, .int .u8 b, .int .u8 c, .int .u8 d, .int .u8 e, .int .u8 f] 37)) (by rw [World.size_alloc]; exact r) (by simp [*]) (by omega)
  simp only [List.map_cons, List.map_nil, mac_join] at hj
  have hb0 := alloc_below w (.cells #[.int .u8 a, .int .u8 b, .int .u8 c, .int .u8 d, .int .u8 e, .int .u8 f] 37)
  go_enter Tryd.func31, Tryd.ntmps31
  go_wp2_with fail
  with_reducible refine hj.mono ?_
  rintro z w1 ⟨rfl, hb1⟩
  go_wp2
  go_ret
  exact ⟨rfl, hb0.trans (hb1.mono hb0.size)⟩
end Go.Proofs.YtemhahfodblehaaDoor
