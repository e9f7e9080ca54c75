/-
  The law ArpTells: each answers for the Ip that it was asked for, to who asked.
-/
import Derived.Test.YtgjfhgipgcdddaaDoorAlive
namespace Go.Proofs.YtgjfhgipgcdddaaDoor
open Go.RowKit

/-- What the walk knows: the boxes of the arguments. -/
structure KT (w : World) (op : Int) (m : Mac6) (ip : Int) (t : Mac6) (ti : Int) (a b : Mac6) (W : World) : Prop where
  kn : Kn w W
  p : PkAt W w.heap.size 29 op m ip t ti
  a : McAt W (w.heap.size + 1) 26 a
  b : McAt W (w.heap.size + 1 + 1) 26 b
section
variable {w W V : World} {op : Int} {m : Mac6} {ip : Int} {t : Mac6} {ti : Int} {a b : Mac6}
theorem KT.step (h : KT w op m ip t ti a b W) (hb : Below W.heap.size W V) : KT w op m ip t ti a b V := ⟨h.kn.step hb, h.p.step hb, h.a.step hb, h.b.step hb⟩
end
@[reducible] def mcC (a : Mac6) : Array Value := #[.int .u8 a.a, .int .u8 a.b, .int .u8 a.c, .int .u8 a.d, .int .u8 a.e, .int .u8 a.f]
theorem KT.start (op : Int) (m : Mac6) (ip : Int) (t : Mac6) (ti : Int) (a b : Mac6) (w : World) (hg : Laid w) :
    KT w op m ip t ti a b (((w.alloc (.cells (pkC op m ip t ti) 29)).alloc (.cells (mcC a) 26)).alloc (.cells (mcC b) 26)) := by
  have h1 := PkAt.new w 29 op m ip t ti
  have k1 := (Kn.start hg).alloc (.cells (pkC op m ip t ti) 29)
  have s1 : (w.alloc (.cells (pkC op m ip t ti) 29)).heap.size = w.heap.size + 1 := by simp
  generalize w.alloc (.cells (pkC op m ip t ti) 29) = W1 at *
  have h2 := McAt.new W1 26 a
  have k2 := k1.alloc (.cells (mcC a) 26)
  replace h1 := h1.step (alloc_below W1 (.cells (mcC a) 26))
  have s2 : (W1.alloc (.cells (mcC a) 26)).heap.size = w.heap.size + 1 + 1 := by simp [s1]
  rw [s1] at h2
  change McAt (W1.alloc (.cells (mcC a) 26)) _ _ _ at h2
  generalize W1.alloc (.cells (mcC a) 26) = W2 at *
  have h3 := McAt.new W2 26 b
  rw [s2] at h3
  exact ⟨k2.alloc _, h1.step (alloc_below _ _), h2.step (alloc_below _ _), h3⟩

set_option maxHeartbeats 1000000 in
theorem field3 (op : Int) (m : Mac6) (ip : Int) (t : Mac6) (ti : Int) (w : World) : (Instr.field 29 (pkV op m ip t ti) 3).run Tryd.prog w = .ok t.v w := by
  have u := Tryd.underlying29
  have s := Tryd.sizeOf26
  have a := Tryd.isAgg26
  unfold Instr.field
  go_simp
  simp [asAgg, Result.andThen]

set_option maxRecDepth 100000 in
set_option maxHeartbeats 4000000 in
theorem tells_law (op : Int) (m : Mac6) (ip : Int) (t : Mac6) (ti : Int) (a b : Mac6) (w : World) (hg : Laid w) :
    Calls Tryd.prog 5 #[pkV op m ip t ti, a.v, b.v] w fun e w' => e = .returned (.bool true) ∧ Below w.heap.size w w' := by
  have k := KT.start op m ip t ti a b w hg
  clear hg
  go_enter Tryd.func5, Tryd.ntmps5
  go_wp2_with fail
  refine (alive_any _ k.kn.laid).mono ?_
  rintro ev w1 ⟨rfl, hb⟩
  replace k := k.step hb
  clear hb
  obtain ⟨x0, x1, x2, x3, x4, x5, x6, x7, x8, x9, x10, x11, x12, x13, x14⟩ := k.p.cells
  obtain ⟨y0, y1, y2, y3, y4, y5⟩ := k.a.cells
  go_wp2_with fail
  refine (tell_any op m ip t ti a _).mono ?_
  rintro ev w2 ⟨rfl, hb⟩
  replace k := (k.step hb).step (alloc_below w2 (.cells (pkC 2 a ti m ip) 29))
  have px := PkAt.new w2 29 2 a ti m ip
  clear x0 x1 x2 x3 x4 x5 x6 x7 x8 x9 x10 x11 x12 x13 x14
  clear hb y0 y1 y2 y3 y4 y5
  obtain ⟨x0, x1, x2, x3, x4, x5, x6, x7, x8, x9, x10, x11, x12, x13, x14⟩ := px.cells
  obtain ⟨y0, y1, y2, y3, y4, y5⟩ := k.b.cells
  go_wp2_with fail
  refine (tell_any 2 a ti m ip b _).mono ?_
  rintro ev w3 ⟨rfl, hb⟩
  replace k := (k.step hb).step (alloc_below w3 (.cells (pkC 2 b ip a ti) 29))
  replace px := (px.step hb).step (alloc_below w3 (.cells (pkC 2 b ip a ti) 29))
  have py := PkAt.new w3 29 2 b ip a ti
  clear x0 x1 x2 x3 x4 x5 x6 x7 x8 x9 x10 x11 x12 x13 x14
  clear hb y0 y1 y2 y3 y4 y5
  generalize w2.heap.size = gx at *
  obtain ⟨x0, x1, x2, x3, x4, x5, x6, x7, x8, x9, x10, x11, x12, x13, x14⟩ := px.cells
  obtain ⟨z0, z1, z2, z3, z4, z5, z6, z7, z8, z9, z10, z11, z12, z13, z14⟩ := py.cells
  obtain ⟨r0, r1, r2, r3, r4, r5, r6, r7, r8, r9, r10, r11, r12, r13, r14⟩ := k.p.cells
  obtain ⟨y0, y1, y2, y3, y4, y5⟩ := k.a.cells
  have q2 := eq26
  have q3 := field3
  go_wp2_with (go_at_call 16; refine (ask_any a ip ti _).mono ?_; rintro ev w4 ⟨rfl, hb⟩; replace k := k.step hb; clear hb)
  go_ret
  exact ⟨rfl, k.kn.below⟩
end Go.Proofs.YtgjfhgipgcdddaaDoor
