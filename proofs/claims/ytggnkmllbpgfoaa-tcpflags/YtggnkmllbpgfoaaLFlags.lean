/-
  The law TcpFlags, at any input.
-/
import Derived.Test.YtggnkmllbpgfoaaLFlags0
import Derived.Test.YtggnkmllbpgfoaaLFlags1
namespace Go.Proofs.Ytggnkmllbpgfoaa
open Go.RowKit
set_option linter.unusedVariables false

theorem flags_law (fl a b : Int) (A : Option Addr) (n c : Nat) (xs : List Int) (f t : Int) (w : World) (hr : Rd .u8 w w.heap.size A n c xs) (hf : Ip f) (ht : Ip t) (b0 : 0 ≤ fl ∧ fl ≤ 255) (b1 : 0 ≤ a ∧ a ≤ 255) (b2 : 0 ≤ b ∧ b ≤ 255) :
    Calls Try.prog 4 #[.int .u8 fl, .int .u8 a, .int .u8 b, .slice A n c, .int .u32 f, .int .u32 t] w fun e w' => e = .returned (.bool true) ∧ Below w.heap.size w w' := by
  by_cases hn : 1460 < n
  · exact flags_far fl a b A n c f t w hn (Nat.le_trans hr.cap hr.max)
  have hn' : n ≤ 1460 := by omega
  rcases Nat.eq_zero_or_pos n with h0 | h0 <;> cases hP : hasB fl a <;> cases hQ : hasB fl b
  · exact flags_none_ff fl a b A n c xs f t w hr hf ht b0 b1 b2 hn' h0 hP hQ
  · exact flags_none_ft fl a b A n c xs f t w hr hf ht b0 b1 b2 hn' h0 hP hQ
  · exact flags_none_tf fl a b A n c xs f t w hr hf ht b0 b1 b2 hn' h0 hP hQ
  · exact flags_none_tt fl a b A n c xs f t w hr hf ht b0 b1 b2 hn' h0 hP hQ
  · exact flags_some_ff fl a b A n c xs f t w hr hf ht b0 b1 b2 hn' h0 hP hQ
  · exact flags_some_ft fl a b A n c xs f t w hr hf ht b0 b1 b2 hn' h0 hP hQ
  · exact flags_some_tf fl a b A n c xs f t w hr hf ht b0 b1 b2 hn' h0 hP hQ
  · exact flags_some_tt fl a b A n c xs f t w hr hf ht b0 b1 b2 hn' h0 hP hQ
end Go.Proofs.Ytggnkmllbpgfoaa
