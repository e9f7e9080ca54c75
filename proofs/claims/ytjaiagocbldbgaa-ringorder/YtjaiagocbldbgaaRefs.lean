/-
  Contracts of the document's pool: Copy, check, Hand, Free, Take, Held.
-/
import Derived.Test.YtjaiagocbldbgaaClones
namespace Go.Proofs.Ytjaiagocbldbgaa
open Go.RowKit
set_option linter.unusedVariables false

/-- What Copy gives. -/
def GivesD (w : World) (L : Slots) (F : Nat → Prop) : Ending → World → Prop := fun e w' =>
  ∃ p g cp, e = .returned (ptr p) ∧ Rp w' p g cp L F ∧ (w.heap.size ≤ p ∧ w.heap.size ≤ g) ∧ Below w.heap.size w w'
theorem RowsAt.cellsOne {w : World} {cur : Array Value} {L : Slots} {F : Nat → Prop}
    (h3 : ∀ i, i < L.length → ∃ A n c, cur[i * 2]? = some (.int .i64 (ow L i)) ∧ cur[i * 2 + 1]? = some (.slice A n c) ∧ Out .u8 5 w 0 A n c (byt L i) ∧ ∀ ad, A = some ad → F ad.block) :
    ∀ u ∈ cur.toList.take (L.length * 2), u.oneCell' = true := by
  intro u hu
  obtain ⟨j, hj⟩ := List.getElem?_of_mem hu
  have hjl : j < L.length * 2 := by
    have := (List.getElem?_eq_some_iff.1 hj).1
    rw [List.length_take] at this
    omega
  rw [List.getElem?_take_of_lt hjl] at hj
  obtain ⟨A, n, c, a1, a2, _, _⟩ := h3 (j / 2) (by omega)
  rcases (show j = j / 2 * 2 ∨ j = j / 2 * 2 + 1 by omega) with e | e
  · rw [← e] at a1
    rw [Array.getElem?_toList, a1] at hj
    injection hj with hj
    subst hj
    rfl
  · rw [← e] at a2
    rw [Array.getElem?_toList, a2] at hj
    injection hj with hj
    subst hj
    rfl
theorem PlAt.boxC {tp ts : TypeId} {w : World} {g cp : Nat} {L : Slots} {F : Nat → Prop} (hG : Good L) (hne : ¬ ts = 5) (hr : RowsAt ts w g L F) (hc : L.length ≤ cp ∧ cp ≤ maxLen) :
    PlAt tp ts (w.alloc (.cells #[.slice (some ⟨g, 0, none⟩) L.length cp] tp)) w.heap.size g cp L F := by
  have hb := alloc_below w (.cells #[.slice (some ⟨g, 0, none⟩) L.length cp] tp)
  have hl := hr.lt
  exact ⟨hG, hne, ⟨_, heap_alloc_new w _, fun _ => rfl⟩, hc, fun _ => hr.below hb, by simp, by simp; omega⟩
set_option maxRecDepth 100000 in
set_option maxHeartbeats 2000000 in
theorem copy_any (p g cp : Nat) (L : Slots) (F : Nat → Prop) (w : World) (h : Rp w p g cp L F) (hL : 0 < L.length) :
    Calls Try.prog 16 #[ptr p] w (GivesD w L F) := by
  have a0 := h.ptr0 rfl hL
  have hpl := h.lt.1
  have ba := alloc_below w (.cells #[] 88)
  have a0' := (ba.cell (p := ⟨p, 0, none⟩) hpl).trans a0
  have hlen := h.len
  have hr := (h.below ba).rows hL
  obtain ⟨cur, h1, h2, h3⟩ := hr
  have hone := RowsAt.cellsOne h3
  have hl : (cur.toList.take (L.length * 2)).length = L.length * 2 := by rw [List.length_take, Array.length_toList (xs := cur)]; omega
  have hcs : ∀ j u, (cur.toList.take (L.length * 2))[j]? = some u → (w.alloc (.cells #[] 88)).cell? ((⟨g, 0, none⟩ : Addr).add j) = some u := by
    intro j u hj
    have hjl : j < L.length * 2 := by
      have := (List.getElem?_eq_some_iff.1 hj).1
      omega
    rw [List.getElem?_take_of_lt hjl, Array.getElem?_toList] at hj
    rw [Addr.add_mid, Nat.zero_add, cell_of_row _ g j cur 88 (0, 0) h1]
    exact hj
  have hno : (w.alloc (.cells #[] 88)).ownsRow w.heap.size 88 2 (.slice (some ⟨w.heap.size, 0, none⟩) 0 0) 0 [] := World.ownsRow_made w #[] 0 (Nat.le_refl _) (by unfold maxLen; omega) rfl
  have keep : Hid (∀ w' cur2 g2, Below w.heap.size w w' → (w.alloc (.cells #[] 88)).grownBy w' (some w.heap.size) → w'.heap[g2]? = some (.cells cur2 88 (0, 0)) → L.length * 2 ≤ cur2.size → cur2.toList.take (L.length * 2) = cur.toList.take (L.length * 2) → RowsAt 88 w' g2 L F) := Lib.hid (fun w' cur2 g2 hb hg hh hs ht => by
    refine ⟨cur2, hh, hs, fun i hi => ?_⟩
    obtain ⟨A, n, c, a1, a2, a3, a4⟩ := h3 i hi
    have e : ∀ j, j < L.length * 2 → cur2[j]? = cur[j]? := fun j hj => by
      have := congrArg (fun l => l[j]?) ht
      simpa [List.getElem?_take_of_lt hj] using this
    refine ⟨A, n, c, by rw [e _ (by omega)]; exact a1, by rw [e _ (by omega)]; exact a2, a3.grown hg (fun r hr => ?_), a4⟩
    cases A with
    | none => exact .inl rfl
    | some ad =>
      refine .inr ⟨ad, rfl, fun er => ?_⟩
      injection hr with hr
      obtain ⟨_, cur', hc⟩ := a3.block ad rfl
      rw [er, ← hr, heap_alloc_new] at hc
      injection hc with hc
      injection hc with _ hc
      exact absurd hc (by decide))
  obtain ⟨i, hi, hzz⟩ := Option.map_eq_some_iff.1 info88
  simp only [Prod.mk.injEq] at hzz
  obtain ⟨hz, hs, hbs⟩ := hzz
  have K0 := Lib.hid h.good
  have Hl := Lib.hid hl
  have Hc := Lib.hid hcs
  have Ho := Lib.hid hone
  have Hz := Lib.hid hz
  have Hs := Lib.hid hs
  have Hb := Lib.hid hbs
  have Hi := Lib.hid hi
  have Hn := Lib.hid hno
  clear h h1 h2 h3 hl hcs hone hz hs hbs hi hno
  generalize cur.toList.take (L.length * 2) = news at *
  obtain ⟨N, hN⟩ : ∃ N, L.length = N := ⟨_, rfl⟩
  rw [hN] at a0 a0' hL hlen Hl keep
  have HN := Lib.hid hN
  clear hN
  go_enter Try.func16, Try.ntmps16
  go_wp2_with (at_builtin; refine wpList_append_own _ rfl (.tmp 3) (.tmp 7) 68 rfl w.heap.size 88 i (.agg zC) 2 32 Try.underlying68 Hi.out Hz.out Hs.out Hb.out rfl (by decide) _ 0 [] rfl Hn.out ⟨g, 0, none⟩ N cp news rfl Hl.out Hc.out Ho.out (by unfold maxLen; omega) (by omega) (by simp) ?_)
  intro v' w' hown hgrow _
  have b1 : Below w.heap.size w w' := ba.grown hgrow (by simp) (fun k hk => by simp [Value.ownBlock] at hk; omega)
  rcases hown.2 with ⟨rfl, h0⟩ | ⟨g2, cap, cur2, rfl, hg2, hh, hn, hm, hsz, ht⟩
  · omega
  · have hr := keep.out w' cur2 g2 b1 hgrow hh (by omega) (by simpa using ht)
    have hP := PlAt.boxC (tp := 70) (cp := cap) K0.out (by decide) hr (by rw [HN.out]; omega)
    have R : Hid (GivesD w L F (.returned (ptr w'.heap.size)) (w'.alloc (.cells #[.slice (some ⟨g2, 0, none⟩) N cap] 70))) := Lib.hid ⟨_, _, cap, rfl, by rw [HN.out] at hP; exact hP, ⟨b1.size, hg2⟩, b1.trans ((alloc_below w' _).mono b1.size)⟩
    clear hP hr hown hgrow hh ht b1 keep Hn Hi Hz Hs Hb Hl Hc Ho K0 a0 a0'
    go_wp2
    go_ret
    exact R.out

set_option maxHeartbeats 1000000 in
theorem check_any (p g cp : Nat) (L : Slots) (F : Nat → Prop) (b o : Int) (w : World) (h : Rp w p g cp L F) :
    Calls Try.prog 59 #[ptr p, .int .i64 b, .int .i64 o] w fun e w' => e = .returned (.int .i64 (chE L b o)) ∧ w = w' := by
  obtain ⟨n, G, hn, hl, hp, hG⟩ := h.cells
  by_cases o1 : o < 1
  · have E : Hid (chE L b o = 11) := Lib.hid (chE_own (fun q => by have := q.1; omega))
    clear hn h hG
    go_enter Try.func59, Try.ntmps59
    go_wp2
    go_ret
    exact ⟨by rw [E.out]; rfl, rfl⟩
  by_cases o2 : 255 < o
  · have E : Hid (chE L b o = 11) := Lib.hid (chE_own (fun q => by have := q.2; omega))
    clear hn h hG
    go_enter Try.func59, Try.ntmps59
    go_wp2
    go_ret
    exact ⟨by rw [E.out]; rfl, rfl⟩
  have ho : isOwn o := ⟨by omega, by omega⟩
  by_cases b1 : b < 0
  · have E : Hid (chE L b o = 17) := Lib.hid (chE_has ho (.inl b1))
    clear hn h hG ho
    go_enter Try.func59, Try.ntmps59
    go_wp2
    go_ret
    exact ⟨by rw [E.out]; rfl, rfl⟩
  by_cases b2 : (n : Int) ≤ b
  · have E : Hid (chE L b o = 17) := Lib.hid (chE_has ho (.inr (by rw [hn]; exact b2)))
    clear hn h hG ho
    go_enter Try.func59, Try.ntmps59
    go_wp2
    go_ret
    exact ⟨by rw [E.out]; rfl, rfl⟩
  obtain ⟨k, rfl⟩ : ∃ k : Nat, b = (k : Int) := ⟨b.toNat, by omega⟩
  have hk : k < n := by omega
  have hkL : k < L.length := by omega
  have a0 := h.cell0 hkL
  obtain rfl := hG (by omega)
  by_cases he : ow L k = o
  · have E : Hid (chE L (k : Int) o = 0) := Lib.hid (chE_ok ho hkL he)
    rw [he] at a0
    clear hn h hG ho he hkL
    go_enter Try.func59, Try.ntmps59
    go_wp2
    go_ret
    exact ⟨by rw [E.out]; rfl, rfl⟩
  · have E : Hid (chE L (k : Int) o = 19) := Lib.hid (chE_ne ho hkL he)
    have he' : (ow L k == o) = false := by simpa using he
    generalize ow L k = o' at *
    clear hn h hG ho hkL
    go_enter Try.func59, Try.ntmps59
    go_wp2
    go_ret
    exact ⟨by rw [E.out]; rfl, rfl⟩
set_option maxHeartbeats 1000000 in
theorem refHand_any (p g cp : Nat) (L : Slots) (F : Nat → Prop) (b f t : Int) (w : World) (h : Rp w p g cp L F) :
    Calls Try.prog 55 #[ptr p, .int .i64 b, .int .i64 f, .int .i64 t] w (GivesE 70 88 w p g cp (hdL L b f t) F (hdE L b f t)) := by
  have C := Lib.hid (check_any p g cp L F b f w h)
  by_cases o1 : t < 1
  · have ho : ¬ isOwn t := fun q => by have := q.1; omega
    have R : Hid (GivesE 70 88 w p g cp (hdL L b f t) F (hdE L b f t) (.returned (.int .i64 11)) w) := Lib.hid (by
      rw [hdL_no (by rw [hdE_own ho]; decide), hdE_own ho]
      exact ⟨rfl, h, Kept.refl _ _⟩)
    clear h ho C
    go_enter Try.func55, Try.ntmps55
    go_wp2
    go_ret
    exact R.out
  by_cases o2 : 255 < t
  · have ho : ¬ isOwn t := fun q => by have := q.2; omega
    have R : Hid (GivesE 70 88 w p g cp (hdL L b f t) F (hdE L b f t) (.returned (.int .i64 11)) w) := Lib.hid (by
      rw [hdL_no (by rw [hdE_own ho]; decide), hdE_own ho]
      exact ⟨rfl, h, Kept.refl _ _⟩)
    clear h ho C
    go_enter Try.func55, Try.ntmps55
    go_wp2
    go_ret
    exact R.out
  have ho : isOwn t := ⟨by omega, by omega⟩
  by_cases he : chE L b f = 0
  · obtain ⟨k, rfl, hk, hw, hf⟩ := chE_zero he
    have hE : hdE L (k : Int) f t = 0 := by rw [hdE_to ho, he]
    have R : Hid (GivesE 70 88 w p g cp (hdL L (k : Int) f t) F (hdE L (k : Int) f t) (.returned (.int .i64 0)) (w.setCell ⟨g, k * 2, none⟩ (.int .i64 t))) := Lib.hid (by
      rw [hE, hdL_yes hE]
      obtain ⟨q1, q2⟩ := h.own (by decide) hk (RowOk.own (b := byt L k) ho (h.good.2 k).2.2)
      exact ⟨rfl, q1, q2⟩)
    have a0 := h.cell0 hk
    have f0 := h.frozen (by omega) (k * 2)
    obtain ⟨n, G, hn, hl, hp, hG⟩ := h.cells
    rw [hn] at hk
    obtain rfl := hG (by omega)
    rw [he] at C
    clear he h hn hG ho hE hw hf
    go_enter Try.func55, Try.ntmps55
    go_wp2_with fail
    refine C.out.mono ?_
    rintro ev w1 ⟨rfl, rfl⟩
    go_wp2
    go_ret
    exact R.out
  · have hE : ¬ hdE L b f t = 0 := by rw [hdE_to ho]; exact he
    have R : Hid (GivesE 70 88 w p g cp (hdL L b f t) F (hdE L b f t) (.returned (.int .i64 (chE L b f))) w) := Lib.hid (by
      rw [hdL_no hE, hdE_to ho]
      exact ⟨rfl, h, Kept.refl _ _⟩)
    generalize chE L b f = E at *
    have he' : (E == 0) = false := by simpa using he
    clear h ho hE
    go_enter Try.func55, Try.ntmps55
    go_wp2_with fail
    refine C.out.mono ?_
    rintro ev w1 ⟨rfl, rfl⟩
    go_wp2
    go_ret
    exact R.out
set_option maxHeartbeats 1000000 in
theorem refFree_any (p g cp : Nat) (L : Slots) (F : Nat → Prop) (b o : Int) (w : World) (h : Rp w p g cp L F) :
    Calls Try.prog 56 #[ptr p, .int .i64 b, .int .i64 o] w (GivesE 70 88 w p g cp (frL L b o) F (chE L b o)) := by
  have C := Lib.hid (check_any p g cp L F b o w h)
  by_cases he : chE L b o = 0
  · obtain ⟨k, rfl, hk, hw, hf⟩ := chE_zero he
    have R : Hid (GivesE 70 88 w p g cp (frL L (k : Int) o) F (chE L (k : Int) o) (.returned (.int .i64 0)) (w.setCells g (k * 2) [.int .i64 0, .slice none 0 0])) := Lib.hid (by
      rw [frL_yes he, he]
      obtain ⟨q1, q2⟩ := h.set (by decide) hk (o := 0) (b := []) (A := none) (m := 0) (c := 0) RowOk.free Out.nil (fun _ e => by cases e)
      exact ⟨rfl, q1, q2⟩)
    have t0 := Lib.hid (h.there hk)
    obtain ⟨n, G, hn, hl, hp, hG⟩ := h.cells
    rw [hn] at hk
    obtain rfl := hG (by omega)
    rw [he] at C
    clear he h hn hG hw hf
    go_enter Try.func56, Try.ntmps56
    go_wp2_with fail
    refine C.out.mono ?_
    rintro ev w1 ⟨rfl, rfl⟩
    go_wp2_with (refine wpList_store_mid rfl 88 (.tmp 20) (.tmp 19) rfl g (k * 2) #[.int .i64 0, .slice none 0 0] rfl rfl t0.out (by kernel_rfl) (slot_one _ _ _ _) ?_)
    go_ret
    exact R.out
  · have R : Hid (GivesE 70 88 w p g cp (frL L b o) F (chE L b o) (.returned (.int .i64 (chE L b o))) w) := Lib.hid (by
      rw [frL_no he]
      exact ⟨rfl, h, Kept.refl _ _⟩)
    generalize chE L b o = E at *
    have he' : (E == 0) = false := by simpa using he
    clear h
    go_enter Try.func56, Try.ntmps56
    go_wp2_with fail
    refine C.out.mono ?_
    rintro ev w1 ⟨rfl, rfl⟩
    go_wp2
    go_ret
    exact R.out
end Go.Proofs.Ytjaiagocbldbgaa
