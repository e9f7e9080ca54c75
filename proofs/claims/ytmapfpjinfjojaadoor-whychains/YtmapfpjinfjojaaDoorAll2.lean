/-
  The contract of All.
-/
import Derived.Test.YtmapfpjinfjojaaDoorAll
namespace Go.Proofs.YtmapfpjinfjojaaDoor
open Go.RowKit

theorem info3 : (Tryd.prog.info? 3).map (fun i => (i.zero, i.size, i.bytes)) = some (some (.int .i64 0), 1, 8) := by kernel_rfl
theorem info26 : (Tryd.prog.info? 26).map (fun i => i.size) = some 1 := by kernel_rfl
theorem noFault22 (v : Value) (xT : TypeId) (w : World) : (Instr.typeAssert (.iface 22 v) xT 53 true).run Tryd.prog w = .ok (.tuple #[.agg #[.int .i64 0, .nilIface], .bool false]) w := by kernel_rfl
theorem isFault53 (v : Value) (xT : TypeId) (w : World) : (Instr.typeAssert (.iface 53 v) xT 53 true).run Tryd.prog w = .ok (.tuple #[v, .bool true]) w := by kernel_rfl

/-- A literal row of integers, just laid. -/
theorem rd_lit (k : IntKind) (t : TypeId) (w : World) (xs : List Int) (n : Nat) (hn : xs.length = n) (hm : n ≤ 1000) (hw : ∀ x ∈ xs, (Lit.int k x).wf = true) :
    Rd k (w.alloc (.cells (xs.map (Value.int k)).toArray t)) (w.heap.size + 1) (some ⟨w.heap.size, 0, none⟩) n n xs := by
  refine ⟨hn, Nat.le_refl _, ⟨by unfold maxLen; omega, fun h => by cases h⟩, hw, fun i hi => ⟨w.heap.size, 0, rfl, by omega, ?_⟩⟩
  rw [cell_of_row _ _ _ (xs.map (Value.int k)).toArray t (0, 0) (heap_alloc_new w _)]
  simp [List.getD, List.getElem?_eq_getElem (show i < xs.length by omega)]
theorem own_below {w w' : World} {base B : Nat} {e : TypeId} {v : Value} {n : Nat} {xs : List Value} (h : w.ownsRow base e 1 v n xs) (hb : Below B w w') (hB : w.heap.size ≤ B) : w'.ownsRow base e 1 v n xs := by
  refine ⟨h.1, ?_⟩
  rcases h.2 with hv | ⟨g, cap, cur, hv, hbg, hh, r⟩
  · exact .inl hv
  · refine .inr ⟨g, cap, cur, hv, hbg, ?_, r⟩
    have hlt := (Array.getElem?_eq_some_iff.1 hh).1
    rw [hb.block g (by omega)]
    exact hh
theorem Out.rebase {k : IntKind} {e : TypeId} {w : World} {base base' : Nat} {A : Option Addr} {n c : Nat} {xs : List Int} (h : Out k e w base A n c xs) (hb : base' ≤ base) : Out k e w base' A n c xs := by
  refine ⟨⟨h.1.1, ?_⟩, h.2⟩
  rcases h.1.2 with hv | ⟨g, cap, cur, hv, hbg, r⟩
  · exact .inl hv
  · exact .inr ⟨g, cap, cur, hv, by omega, r⟩
theorem Out.far {k : IntKind} {e : TypeId} {w : World} {base b : Nat} {A : Option Addr} {n c : Nat} {xs : List Int} (h : Out k e w (base + 1) A n c xs) (hb : b ≤ base) : A = none ∨ ∃ ad, A = some ad ∧ ad.block ≠ b := by
  rcases h.form with ⟨rfl, _⟩ | ⟨g, cur, rfl, hg, _⟩
  · exact .inl rfl
  · exact .inr ⟨_, rfl, by show g ≠ b; omega⟩
theorem Out.own_ge {k : IntKind} {e : TypeId} {w : World} {base : Nat} {A : Option Addr} {n c : Nat} {xs : List Int} (h : Out k e w base A n c xs) : ∀ g, (Value.slice A n c).ownBlock = some g → base ≤ g := by
  intro g hg
  exact (h.1.lt g hg).1

/-- How far All has to go. -/
noncomputable def mAll (e : Int) (g : Nat) (x : Value) (wr : World) : Nat :=
  match x with
  | .slice _ 0 _ => 0
  | _ => depthOf e ((wr.cell? ⟨g, 0, none⟩).getD undef) + 1
theorem mAll_nil (e : Int) (g : Nat) (A : Option Addr) (c : Nat) (wr : World) : mAll e g (.slice A 0 c) wr = 0 := rfl
theorem mAll_one (e : Int) (g : Nat) (A : Option Addr) (c : Nat) (wr : World) (rs : List Int) (h : wr.cell? ⟨g, 0, none⟩ = some (chainV e rs)) : mAll e g (.slice A 1 c) wr = rs.length + 1 := by
  show depthOf e ((wr.cell? ⟨g, 0, none⟩).getD undef) + 1 = _
  rw [h, Option.getD_some, depthOf_chain]

/-- What holds ahead of each round of All: pre is told, post is still ahead. -/
def RAll (e : Int) (rs : List Int) (w : World) (x3 x4 : Value) (wr : World) : Prop :=
  ∃ pre post A n c, pre ++ post = rs ∧ x3 = .slice A n c ∧ Out .i64 3 wr (w.heap.size + 1) A n c pre ∧ Below w.heap.size w wr ∧ w.heap.size + 1 ≤ wr.heap.size ∧
    ((x4 = .slice (some ⟨w.heap.size, 0, none⟩) 1 1 ∧ wr.ownsRow w.heap.size 26 1 x4 1 [chainV e post]) ∨ (x4 = .slice (some ⟨w.heap.size, 0, none⟩) 0 1 ∧ post = []))
set_option maxRecDepth 100000 in
set_option maxHeartbeats 2000000 in
theorem all_chain (e : Int) (rs : List Int) (w : World) (hw : ∀ r ∈ rs, (Lit.int .i64 r).wf = true) (hl : rs.length ≤ 1000) :
    Calls Tryd.prog 11 #[chainV e rs] w fun ev w' => ∃ A n c, ev = .returned (.slice A n c) ∧ Out .i64 3 w' w.heap.size A n c rs ∧ Below w.heap.size w w' := by
  obtain ⟨i26, hi26, hs26⟩ := Option.map_eq_some_iff.1 info26
  obtain ⟨tt, v, hv⟩ := chainV_form e rs
  have hst : RAll e rs w (.slice none 0 0) (.slice (some ⟨w.heap.size, 0, none⟩) 1 1) (w.alloc (.cells #[chainV e rs] 26)) :=
    ⟨[], rs, none, 0, 0, rfl, rfl, Out.nil, alloc_below w _, by simp, .inl ⟨rfl, World.ownsRow_lit w #[chainV e rs] 1 (Nat.le_refl _) (by unfold maxLen; omega) rfl⟩⟩
  rw [hv] at hst
  rw [hv]
  clear hv
  go_enter Tryd.func11, Tryd.ntmps11
  go_wp2
  go_loopw [3, 4] (fun x3 x4 wr => RAll e rs w x3 x4 wr) (fun _ x4 wr => mAll e w.heap.size x4 wr)
  case atStart => exact hst
  case round =>
    clear hst
    obtain ⟨pre, post, A, n, c, hpp, rfl, ho, hb, hsz, hcase⟩ := hrel
    rcases hcase with ⟨rfl, hown⟩ | ⟨rfl, hpost⟩
    · have hcell : wr.cell? ⟨w.heap.size, 0, none⟩ = some (chainV e post) := by
        simpa [Addr.add] using hown.cells (g := w.heap.size) rfl 0 (chainV e post) (by simp)
      have Hm := Lib.hid (mAll_one e w.heap.size (some ⟨w.heap.size, 0, none⟩) 1 wr post hcell)
      have hown0 := ownsRow_pop (xs := []) (last := [chainV e post]) (n := 0) (by simp) hown
      have Hpp := Lib.hid hpp; clear hpp
      cases post with
      | nil =>
        rw [chainV_nil] at hcell
        have f1 := noFault22
        clear hown
        go_wp2_with (first | (go_at_call 26; refine (inside_bare _ _).mono ?_; rintro ev w1 ⟨rfl, rfl⟩))
        go_roundw
        case rel =>
          refine ⟨pre, [], A, n, c, Hpp.out, rfl, ho.below (alloc_below _ _) (Nat.le_refl _), hb.trans ((alloc_below _ _).mono hb.size), ?_, .inr ⟨rfl, rfl⟩⟩
          simp; omega
        case measure => rw [Hm.out, mAll_nil]; simp
      | cons r post =>
        rw [chainV_cons] at hcell
        have f1 := isFault53
        obtain ⟨tt, v, hv⟩ := chainV_form e post
        rw [hv] at hcell
        have Hv := Lib.hid hv; clear hv
        clear hown
        have hn : n + (post.length + 1) ≤ 1000 := by
          have h1 := ho.len
          have h2 := congrArg List.length Hpp.out
          simp at h2
          omega
        have hwr : (Lit.int .i64 r).wf = true := hw r (by rw [← Hpp.out]; simp)
        have o2 := (ho.below (alloc_below wr (.cells #[.int .i64 r, .iface tt v] 53)) (Nat.le_refl _)).below (alloc_below _ (.cells #[.int .i64 r] 3)) (Nat.le_refl _)
        have r2 := rd_lit .i64 3 (wr.alloc (.cells #[.int .i64 r, .iface tt v] 53)) [r] 1 rfl (by omega) (by simpa using hwr)
        have a2 := own_below (own_below hown0 (alloc_below wr (.cells #[.int .i64 r, .iface tt v] 53)) (Nat.le_refl _)) (alloc_below _ (.cells #[.int .i64 r] 3)) (Nat.le_refl _)
        have b2 : Below w.heap.size w ((wr.alloc (.cells #[.int .i64 r, .iface tt v] 53)).alloc (.cells #[.int .i64 r] 3)) := (hb.alloc hb.size _).alloc (by simp; omega) _
        have s2 : w.heap.size + 1 ≤ ((wr.alloc (.cells #[.int .i64 r, .iface tt v] 53)).alloc (.cells #[.int .i64 r] 3)).heap.size := by simp; omega
        simp only [List.map_cons, List.map_nil, List.toArray, World.size_alloc] at r2
        clear ho hown0 hb hsz
        go_wp2_with (first
          | (at_builtin; refine wpList_app rfl (.tmp 30) (.tmp 33) 23 rfl (w.heap.size + 1) Tryd.underlying23 info3 (by omega) A n c pre rfl o2 _ 1 1 _ [r] rfl r2 (by omega) s2 ?_))
        intro A1 n1 c1 w1 o3 hg3
        have b3 : Below w.heap.size w w1 := b2.grown hg3 (by omega) (fun k hk => by have := o2.own_ge k hk; omega)
        have s3 : w.heap.size + 1 ≤ w1.heap.size := by have := hg3.size; omega
        have a3 : w1.ownsRow w.heap.size 26 1 (.slice (some ⟨w.heap.size, 0, none⟩) 0 1) 0 [] := a2.kept hg3 (.inr (fun h => by have := o2.own_ge w.heap.size (by rw [← h]; rfl); omega))
        clear o2 r2 a2 b2 s2 hg3
        go_wp2_with fail
        refine (inside_fault r tt v w1).mono ?_
        rintro ev w2 ⟨g2, rfl, hc2, hb2⟩
        have b4 := b3.trans (hb2.mono (by omega))
        have s4 : w.heap.size + 1 ≤ w2.heap.size := by have := hb2.size; omega
        have a4 := own_below a3 hb2 (Nat.le_refl _)
        have o4 := o3.below hb2 (Nat.le_refl _)
        clear b3 s3 a3 o3 hb2
        go_wp2_with (first
          | (at_builtin; refine wpList_append_fits_any w2 rfl (.tmp 35) (.tmp 37) 51 rfl w.heap.size 26 i26 1 Tryd.underlying51 hi26 hs26 w.heap.size 0 1 [] rfl a4 (some ⟨g2, 0, none⟩) 1 1 [.iface tt v] rfl rfl ?c1 ?c2 ?c3 (by omega) ?_))
        case c1 => intro h; cases h
        case c2 =>
          intro ad had j u hu
          obtain rfl := Option.some.inj had
          match j, hu with
          | 0, hu => simp at hu; subst hu; simpa [Addr.add] using hc2
          | j + 1, hu => simp at hu
        case c3 => intro u hu; simp at hu; subst hu; rfl
        intro w3 a5 hg5
        have o5 := o4.grown hg5 (fun q hq => by cases hq; exact o4.far (Nat.le_refl _))
        have b5 : Below w.heap.size w w3 := b4.grown hg5 (by omega) (fun k hk => by cases hk; exact Nat.le_refl _)
        have s5 : w.heap.size + 1 ≤ w3.heap.size := by have := hg5.size; omega
        clear o4 b4 a4 s4 hg5 hc2
        go_wp2
        go_roundw
        case rel =>
          exact ⟨pre ++ [r], post, A1, n1, c1, by rw [← Hpp.out]; simp, rfl, o5, b5, s5, .inl ⟨rfl, by rw [Hv.out]; simpa using a5⟩⟩
        case measure =>
          have hc5 : w3.cell? ⟨w.heap.size, 0, none⟩ = some (chainV e post) := by
            rw [Hv.out]
            simpa [Addr.add] using a5.cells (g := w.heap.size) rfl 0 (.iface tt v) (by simp)
          rw [Hm.out, mAll_one e _ _ _ _ post hc5]; simp
    · subst hpost
      have Hpp := Lib.hid hpp; clear hpp
      go_wp2
      go_ret
      refine ⟨A, n, c, rfl, ?_, hb⟩
      have := Hpp.out
      rw [List.append_nil] at this
      subst this
      exact ho.rebase (by omega)

set_option maxRecDepth 100000 in
theorem all_nil (w : World) : Calls Tryd.prog 11 #[.nilIface] w fun ev w' => ev = .returned (.slice none 0 0) ∧ Below w.heap.size w w' := by
  have f1 := nil53
  go_enter Tryd.func11, Tryd.ntmps11
  go_wp2
  refine wp_loop_rounds 2 ?_
  rw [rounds_succ]
  go_wp2_with (first | (go_at_call 26; refine (inside_nil _).mono ?_; rintro ev w1 ⟨rfl, rfl⟩))
  rw [rounds_succ]
  go_wp2
  go_ret
  exact ⟨rfl, (alloc_below w _).alloc (by simp) _⟩
end Go.Proofs.YtmapfpjinfjojaaDoor
