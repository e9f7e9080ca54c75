/-
  Both pools and both rings, as RingCalls' walk knows them.
-/
import Derived.Test.YtjaiagocbldbgaaRLaw
import Derived.Test.YtjaiagocbldbgaaRRTake
import Derived.Test.YtjaiagocbldbgaaRRAll
import Derived.Test.YtjaiagocbldbgaaAgree
namespace Go.Proofs.Ytjaiagocbldbgaa
open Go.RowKit
set_option linter.unusedVariables false

/-- The program's pool (p, g) and ring (q, s); the document's pool (r, h) and ring (t). All of it lies from B on. -/
structure Two (B p g cp q s r h cr t b z : Nat) (o : Int) (L : Slots) (R : List Nat) (d : Nat) (M : Slots) (Q : List Nat) (e : Nat) (F : Nat → Prop) (W : World) : Prop where
  pp : Pp W p g cp L F
  rg : RgAt W q p s z o R d
  rp : Rp W r h cr M F
  rr : RrAt W t r b z o Q e
  hL : 0 < L.length ∧ 0 < M.length
  hs : s < b
  hB : B ≤ p ∧ B ≤ g ∧ B ≤ q ∧ B ≤ s ∧ B ≤ r ∧ B ≤ h ∧ B ≤ t ∧ B ≤ b
section
variable {B p g cp q s r h cr t b z : Nat} {o : Int} {L L' M M' : Slots} {R R' Q Q' : List Nat} {d d' e e' : Nat} {F F' : Nat → Prop} {W V : World}
theorem Two.below (k : Two B p g cp q s r h cr t b z o L R d M Q e F W) (hb : Below W.heap.size W V) : Two B p g cp q s r h cr t b z o L R d M Q e F V :=
  ⟨k.pp.below hb, k.rg.below hb, k.rp.below hb, k.rr.below hb, k.hL, k.hs, k.hB⟩
theorem Two.widen (k : Two B p g cp q s r h cr t b z o L R d M Q e F W) (hF : ∀ b, b < W.heap.size → F b → F' b) : Two B p g cp q s r h cr t b z o L R d M Q e F' W :=
  ⟨k.pp.widen hF, k.rg, k.rp.widen hF, k.rr, k.hL, k.hs, k.hB⟩
theorem Two.lt (k : Two B p g cp q s r h cr t b z o L R d M Q e F W) : B ≤ W.heap.size := by have := k.pp.lt; have := k.hB; omega
/-- The blocks of the program's. -/
theorem Two.blksP (k : Two B p g cp q s r h cr t b z o L R d M Q e F W) {j : Nat} (hj : j = g ∨ j = q ∨ j = s) : B ≤ j ∧ (∃ cur ty, W.heap[j]? = some (.cells cur ty (0, 0)) ∧ (ty = 77 ∨ ty = 72 ∨ (ty = 3 ∧ j < b))) := by
  obtain ⟨cur, h2, _⟩ := k.pp.rows k.hL.1
  obtain ⟨⟨cq, hq⟩, ⟨cs, hs⟩⟩ := k.rg.blks
  have hB := k.hB
  rcases hj with rfl | rfl | rfl
  · exact ⟨hB.2.1, _, _, h2, .inl rfl⟩
  · exact ⟨hB.2.2.1, _, _, hq, .inr (.inl rfl)⟩
  · exact ⟨hB.2.2.2.1, _, _, hs, .inr (.inr ⟨rfl, k.hs⟩)⟩
theorem Two.blksR (k : Two B p g cp q s r h cr t b z o L R d M Q e F W) {j : Nat} (hj : j = h ∨ j = t ∨ IntB W b j) : B ≤ j ∧ (∃ cur ty, W.heap[j]? = some (.cells cur ty (0, 0)) ∧ (ty = 88 ∨ ty = 74 ∨ (ty = 3 ∧ b ≤ j))) := by
  obtain ⟨cur, h2, _⟩ := k.rp.rows k.hL.2
  obtain ⟨ct, ht⟩ := k.rr.blkq
  have hB := k.hB
  rcases hj with rfl | rfl | ⟨h1, cs, hs⟩
  · exact ⟨hB.2.2.2.2.2.1, _, _, h2, .inl rfl⟩
  · exact ⟨hB.2.2.2.2.2.2.1, _, _, ht, .inr (.inl rfl)⟩
  · exact ⟨Nat.le_trans hB.2.2.2.2.2.2.2 h1, _, _, hs, .inr (.inr ⟨rfl, h1⟩)⟩
/-- The program is told something. -/
theorem Two.turnP (k : Two B p g cp q s r h cr t b z o L R d M Q e F W) (hp : Pp V p g cp L' F) (hr : RgAt V q p s z o R' d') (hk : Kept (fun k => k = g ∨ k = q ∨ k = s) W V) (hl : L'.length = L.length) : Two B p g cp q s r h cr t b z o L' R' d' M Q e F V := by
  obtain ⟨G, h1, _⟩ := k.rp.ptr
  obtain ⟨cur, h2, _⟩ := k.rp.rows k.hL.2
  obtain ⟨ct, ht⟩ := k.rr.blkq
  refine ⟨hp, hr, k.rp.kept hk (fun e => ?_) (fun e => ?_) (fun j e => .inr (fun c hc => ?_)), k.rr.kept hk (fun e => ?_) (fun j e q => ?_), ⟨by rw [hl]; exact k.hL.1, k.hL.2⟩, k.hs, k.hB⟩
  · obtain ⟨_, cur, ty, hh, ht⟩ := k.blksP e
    exact blk_ne h1 hh (by rcases ht with rfl | rfl | ⟨rfl, _⟩ <;> decide) rfl
  · obtain ⟨_, cur, ty, hh, ht⟩ := k.blksP e
    exact blk_ne h2 hh (by rcases ht with rfl | rfl | ⟨rfl, _⟩ <;> decide) rfl
  · obtain ⟨_, cur, ty, hh, ht⟩ := k.blksP e
    exact blk_ne hc hh (by rcases ht with rfl | rfl | ⟨rfl, _⟩ <;> decide) rfl
  · obtain ⟨_, cur, ty, hh, ht'⟩ := k.blksP e
    exact blk_ne ht hh (by rcases ht' with rfl | rfl | ⟨rfl, _⟩ <;> decide) rfl
  · obtain ⟨_, cur, ty, hh, ht'⟩ := k.blksP e
    obtain ⟨h3, c3, hc3⟩ := q
    rcases ht' with rfl | rfl | ⟨rfl, hlt⟩
    · exact blk_ne hc3 hh (by decide) rfl
    · exact blk_ne hc3 hh (by decide) rfl
    · omega
/-- The document is told something. -/
theorem Two.turnR (k : Two B p g cp q s r h cr t b z o L R d M Q e F W) (hp : Rp V r h cr M' F) (hr : RrAt V t r b z o Q' e') (hk : Kept (fun k => k = h ∨ k = t ∨ IntB W b k) W V) (hl : M'.length = M.length) : Two B p g cp q s r h cr t b z o L R d M' Q' e' F V := by
  obtain ⟨G, h1, _⟩ := k.pp.ptr
  obtain ⟨cur, h2, _⟩ := k.pp.rows k.hL.1
  obtain ⟨⟨cq, hq⟩, ⟨cs, hs⟩⟩ := k.rg.blks
  refine ⟨k.pp.kept hk (fun e => ?_) (fun e => ?_) (fun j e => .inr (fun c hc => ?_)), k.rg.kept hk (fun e => ?_) (fun e => ?_), hp, hr, ⟨k.hL.1, by rw [hl]; exact k.hL.2⟩, k.hs, k.hB⟩
  · obtain ⟨_, cur, ty, hh, ht⟩ := k.blksR e
    exact blk_ne h1 hh (by rcases ht with rfl | rfl | ⟨rfl, _⟩ <;> decide) rfl
  · obtain ⟨_, cur, ty, hh, ht⟩ := k.blksR e
    exact blk_ne h2 hh (by rcases ht with rfl | rfl | ⟨rfl, _⟩ <;> decide) rfl
  · obtain ⟨_, cur, ty, hh, ht⟩ := k.blksR e
    exact blk_ne hc hh (by rcases ht with rfl | rfl | ⟨rfl, _⟩ <;> decide) rfl
  · obtain ⟨_, cur, ty, hh, ht⟩ := k.blksR e
    exact blk_ne hq hh (by rcases ht with rfl | rfl | ⟨rfl, _⟩ <;> decide) rfl
  · obtain ⟨_, cur, ty, hh, ht⟩ := k.blksR e
    rcases ht with rfl | rfl | ⟨rfl, hlt⟩
    · exact blk_ne hs hh (by decide) rfl
    · exact blk_ne hs hh (by decide) rfl
    · have := k.hs; omega
theorem Two.poolP (k : Two B p g cp q s r h cr t b z o L R d M Q e F W) (hp : Pp V p g cp L' F) (hk : Kept (· = g) W V) (hl : L'.length = L.length) : Two B p g cp q s r h cr t b z o L' R d M Q e F V := by
  obtain ⟨cur, h2, _⟩ := k.pp.rows k.hL.1
  obtain ⟨⟨cq, hq⟩, ⟨cs, hs⟩⟩ := k.rg.blks
  exact k.turnP hp (k.rg.kept hk (blk_ne hq h2 (by decide)) (blk_ne hs h2 (by decide))) (hk.mono (fun _ _ e => .inl e)) hl
theorem Two.poolR (k : Two B p g cp q s r h cr t b z o L R d M Q e F W) (hp : Rp V r h cr M' F) (hk : Kept (· = h) W V) (hl : M'.length = M.length) : Two B p g cp q s r h cr t b z o L R d M' Q e F V := by
  obtain ⟨cur, h2, _⟩ := k.rp.rows k.hL.2
  obtain ⟨ct, ht⟩ := k.rr.blkq
  exact k.turnR hp (k.rr.kept hk (blk_ne ht h2 (by decide)) (fun j e q => by
    obtain ⟨h3, c3, hc3⟩ := q
    exact blk_ne h2 hc3 (by decide) e.symm)) (hk.mono (fun _ _ e => .inl e)) hl
/-- Bytes that no pool has are changed. -/
theorem Two.bytes (k : Two B p g cp q s r h cr t b z o L R d M Q e F W) {S : Nat → Prop} (hk : Kept S W V) (h5 : ∀ j, S j → ¬ F j ∧ ∃ cur, W.heap[j]? = some (.cells cur 5 (0, 0))) : Two B p g cp q s r h cr t b z o L R d M Q e F V := by
  obtain ⟨G, h1, _⟩ := k.pp.ptr
  obtain ⟨cur, h2, _⟩ := k.pp.rows k.hL.1
  obtain ⟨⟨cq, hq⟩, ⟨cs, hs⟩⟩ := k.rg.blks
  obtain ⟨G', h3, _⟩ := k.rp.ptr
  obtain ⟨cur', h4, _⟩ := k.rp.rows k.hL.2
  obtain ⟨ct, ht⟩ := k.rr.blkq
  have no : ∀ {j : Nat} {c : Array Value} {ty : TypeId}, W.heap[j]? = some (.cells c ty (0, 0)) → ¬ ty = 5 → ¬ S j := fun hj hty hS => by
    obtain ⟨_, c', hc⟩ := h5 _ hS
    exact blk_ne hj hc hty rfl
  exact ⟨k.pp.kept hk (no h1 (by decide)) (no h2 (by decide)) (fun j e => .inl (h5 j e).1), k.rg.kept hk (no hq (by decide)) (no hs (by decide)), k.rp.kept hk (no h3 (by decide)) (no h4 (by decide)) (fun j e => .inl (h5 j e).1),
    k.rr.kept hk (no ht (by decide)) (fun j e q => by obtain ⟨_, c, hc⟩ := q; exact no hc (by decide) e), k.hL, k.hs, k.hB⟩
/-- What the two sides turn lies from B on, and is no bytes. -/
theorem Two.keepP (k : Two B p g cp q s r h cr t b z o L R d M Q e F W) (hk : Kept (fun k => k = g ∨ k = q ∨ k = s) W V) : Below B W V ∧ Kept (fun j => B ≤ j ∧ ∀ c, W.heap[j]? ≠ some (.cells c 5 (0, 0)) ∧ W.heap[j]? ≠ some (.cells c 25 (0, 0))) W V :=
  ⟨hk.below k.lt (fun j e => (k.blksP e).1), hk.mono (fun j _ e => by
    obtain ⟨h1, cur, ty, hh, ht⟩ := k.blksP e
    exact ⟨h1, fun c => ⟨fun hc => blk_ne hc hh (by rcases ht with rfl | rfl | ⟨rfl, _⟩ <;> decide) rfl, fun hc => blk_ne hc hh (by rcases ht with rfl | rfl | ⟨rfl, _⟩ <;> decide) rfl⟩⟩)⟩
theorem Two.keepR (k : Two B p g cp q s r h cr t b z o L R d M Q e F W) (hk : Kept (fun k => k = h ∨ k = t ∨ IntB W b k) W V) : Below B W V ∧ Kept (fun j => B ≤ j ∧ ∀ c, W.heap[j]? ≠ some (.cells c 5 (0, 0)) ∧ W.heap[j]? ≠ some (.cells c 25 (0, 0))) W V :=
  ⟨hk.below k.lt (fun j e => (k.blksR e).1), hk.mono (fun j _ e => by
    obtain ⟨h1, cur, ty, hh, ht⟩ := k.blksR e
    exact ⟨h1, fun c => ⟨fun hc => blk_ne hc hh (by rcases ht with rfl | rfl | ⟨rfl, _⟩ <;> decide) rfl, fun hc => blk_ne hc hh (by rcases ht with rfl | rfl | ⟨rfl, _⟩ <;> decide) rfl⟩⟩)⟩
end
end Go.Proofs.Ytjaiagocbldbgaa
