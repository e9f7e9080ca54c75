/-
  Contract of Bytes.
-/
import Derived.Test.YtbefoapnlehdmaaDoorHead
namespace Go.Proofs.YtbefoapnlehdmaaDoor
open Go.RowKit

theorem Row.rdW {w : World} {g : Nat} {xs : List Int} {n : Nat} (h : Row w g xs) (hn : xs.length = n) (hm : n ≤ 100000000) (hw : ∀ x ∈ xs, (Lit.int .u8 x).wf = true) : Rd .u8 w w.heap.size (some ⟨g, 0, none⟩) n n xs := by
  have := h.rd 0 n n (by omega) (Nat.le_refl _) (by unfold maxLen; omega) hw
  rwa [List.drop_zero, List.take_of_length_le (by omega)] at this
theorem splice_two (m : Nat) (a b : List Int) (h : a.length + b.length = m) : splice (splice (List.replicate m (0 : Int)) 0 a) a.length b = a ++ b := by
  have e : splice (List.replicate m (0 : Int)) 0 a = a ++ List.replicate (m - a.length) 0 := by simp [splice]
  rw [e]
  simp only [splice]
  rw [List.take_left, List.drop_append, List.drop_of_length_le (by omega), List.nil_append, List.drop_replicate, show m - a.length - (a.length + b.length - a.length) = 0 by omega]
  simp
end Go.Proofs.YtbefoapnlehdmaaDoor

namespace Go.Proofs.YtbefoapnlehdmaaDoor
open Go.RowKit

theorem wpList_appD (dd : Option Tmp) {P : Program} {w : World} {ops : Array Oper} {rest : List Oper} {o : Oper} {a : Act} {Q : Exit → Act → World → Prop} (hgd : o.guard = none) (hdd : o.dst = dd) (s x : Operand) (t : TypeId)
    (ho : o.op = .call { callee := .builtin .append, args := #[s, x], argTypes := #[t, t] }) (base : Nat) {k : IntKind} {e : TypeId} {by_ : Nat} (ht : P.underlying t = some (.slice e))
    (hinfo : (P.info? e).map (fun i => (i.zero, i.size, i.bytes)) = some (some (.int k 0), 1, by_)) (hby8 : by_ ≤ 8)
    (A0 : Option Addr) (n0 c0 : Nat) (xs : List Int) (hs : a.eval s = .slice A0 n0 c0) (hown : Out k e w base A0 n0 c0 xs)
    (A : Option Addr) (m c B : Nat) (ys : List Int) (hx : a.eval x = .slice A m c) (hr : Rd k w B A m c ys) (hsum : n0 + m ≤ 100000000) (hbase : base ≤ w.heap.size)
    (h : ∀ A' n' c' w', Out k e w' base A' n' c' (xs ++ ys) → w.grownBy w' (Value.slice A0 n0 c0).ownBlock → wpList P ops Q rest (a.put dd (.slice A' n' c')) w') : wpList P ops Q (o :: rest) a w := by
  subst hdd
  exact wpList_app hgd s x t ho base ht hinfo hby8 A0 n0 c0 xs hs hown A m c B ys hx hr hsum hbase h
theorem Out.own {k : IntKind} {e : TypeId} {w : World} {base : Nat} {A : Option Addr} {n c : Nat} {xs : List Int} (h : Out k e w base A n c xs) : (Value.slice A n c).ownBlock = none ∨ ∃ g, (Value.slice A n c).ownBlock = some g ∧ base ≤ g := by
  rcases h.form with ⟨rfl, _⟩ | ⟨g, cur, rfl, hb, _⟩
  · exact .inl rfl
  · exact .inr ⟨g, rfl, hb⟩
theorem grown_low {w w' : World} {k : IntKind} {e : TypeId} {base : Nat} {A : Option Addr} {n c : Nat} {xs : List Int} (h : Out k e w base A n c xs) (hg : w.grownBy w' (Value.slice A n c).ownBlock) (hb : base ≤ w.heap.size) : Below base w w' :=
  (Below.refl base w).grown hg hb (fun k hk => by rcases h.own with e0 | ⟨g, e0, hg⟩ <;> rw [e0] at hk <;> cases hk; exact hg)

theorem Row.own {w : World} {g base : Nat} {xs : List Int} {n : Nat} (h : Row w g xs) (hb : base ≤ g) (hn : xs.length = n) (hm : n ≤ 1000) (hw : ∀ x ∈ xs, (Lit.int .u8 x).wf = true) : Out .u8 5 w base (some ⟨g, 0, none⟩) n n xs := h.out hb hn (by unfold maxLen; omega) hw
/-- A slice that lies below block B. -/
def Old (B : Nat) (A : Option Addr) : Prop := A = none ∨ ∃ ad, A = some ad ∧ ad.block < B
theorem Out.old {k : IntKind} {e : TypeId} {w : World} {base : Nat} {A : Option Addr} {n c : Nat} {xs : List Int} (h : Out k e w base A n c xs) : Old w.heap.size A := by
  rcases h.form with ⟨rfl, _⟩ | ⟨g, cur, rfl, hb, hh, _⟩
  · exact .inl rfl
  · exact .inr ⟨_, rfl, (Array.getElem?_eq_some_iff.1 hh).1⟩
theorem Old.more {B B' : Nat} {A : Option Addr} (h : Old B A) (hB : B ≤ B') : Old B' A := h.imp id fun ⟨ad, e, q⟩ => ⟨ad, e, by omega⟩
theorem Out.keepLow {k : IntKind} {e : TypeId} {w w' : World} {base B : Nat} {A : Option Addr} {n c : Nat} {xs : List Int} (h : Out k e w base A n c xs) (ho : Old B A) (hb : Below B w w') : Out k e w' base A n c xs := by
  refine ⟨⟨h.1.1, ?_⟩, h.2⟩
  rcases h.1.2 with hv | ⟨g, cap, cur, hv, hbg, hh, r⟩
  · exact .inl hv
  · refine .inr ⟨g, cap, cur, hv, hbg, ?_, r⟩
    have hg : g < B := by
      injection hv with e1
      rcases ho with q | ⟨ad, q, q'⟩
      · rw [q] at e1; cases e1
      · rw [q] at e1
        injection e1 with e1
        subst e1
        exact q'
    rw [hb.block g hg]
    exact hh
/-- A row stays where one grows that lies below it. -/
theorem Out.apart {k : IntKind} {e : TypeId} {w w' : World} {base B : Nat} {A A0 : Option Addr} {n c n0 c0 : Nat} {xs : List Int} (h : Out k e w base A n c xs) (hB : B ≤ base) (ho : Old B A0) (hg : w.grownBy w' (Value.slice A0 n0 c0).ownBlock) : Out k e w' base A n c xs := by
  refine h.grown hg fun r hr => ?_
  rcases h.form with ⟨rfl, _⟩ | ⟨g, cur, rfl, hb, _⟩
  · exact .inl rfl
  · refine .inr ⟨_, rfl, ?_⟩
    rcases ho with rfl | ⟨ad, rfl, q⟩
    · cases hr
    · have : r = ad.block := by simpa [Value.ownBlock] using hr.symm
      show g ≠ r
      omega
end Go.Proofs.YtbefoapnlehdmaaDoor
