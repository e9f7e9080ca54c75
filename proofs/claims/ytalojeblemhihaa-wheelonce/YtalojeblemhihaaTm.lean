/-
  Timers as a list, by when they are due, then by number: plain words. Nothing of the program is said here.
-/
import Derived.Test.YtalojeblemhihaaLev
namespace Go.Proofs.Ytalojeblemhihaa
set_option linter.unusedVariables false

/-- A timer: its number, when it is due. -/
abbrev Tm := Int × Nat
abbrev wfI (t : Int) : Prop := (Lit.int .i64 t).wf = true
def tlt (x y : Tm) : Prop := x.2 < y.2 ∨ (x.2 = y.2 ∧ x.1 < y.1)
@[reducible] def tltD (x y : Tm) : Decidable (tlt x y) := by unfold tlt; infer_instance
def hasT (t : Int) (R : List Tm) : Bool := R.any fun x => x.1 == t
def dueT (t : Int) (R : List Tm) : Nat := ((R.find? fun x => x.1 == t).map fun x => x.2).getD 0
def delT (t : Int) (R : List Tm) : List Tm := R.filter fun x => x.1 != t
def insT (x : Tm) : List Tm → List Tm
  | [] => [x]
  | y :: r => if x.2 < y.2 ∨ (x.2 = y.2 ∧ x.1 < y.1) then x :: y :: r else y :: insT x r
def setT (t : Int) (d : Nat) (R : List Tm) : List Tm := insT (t, d) (delT t R)
def goT (n : Nat) (R : List Tm) : List Int := (R.filter fun x => decide (x.2 ≤ n)).map fun x => x.1
def goR (n : Nat) (R : List Tm) : List Tm := R.filter fun x => decide (n < x.2)

/-- What every wheel's timers are. -/
structure Ok (R : List Tm) : Prop where
  sorted : R.Pairwise tlt
  apart : R.Pairwise fun x y => x.1 ≠ y.1
  wf : ∀ x ∈ R, wfI x.1 ∧ x.2 ≤ 4611686018427387904

theorem tlt_trans {x y z : Tm} (h : tlt x y) (h' : tlt y z) : tlt x z := by unfold tlt at *; omega
theorem tlt_irrefl {x : Tm} : ¬ tlt x x := by unfold tlt; omega
theorem tlt_total {x y : Tm} (h : ¬ tlt x y) (hne : x ≠ y) : tlt y x := by
  unfold tlt at *
  have : ¬ (x.1 = y.1 ∧ x.2 = y.2) := fun ⟨a, b⟩ => hne (by cases x; cases y; simp_all)
  omega
theorem Ok.nil : Ok [] := ⟨List.Pairwise.nil, List.Pairwise.nil, by simp⟩
theorem Ok.sub {R R' : List Tm} (h : Ok R) (hs : R'.Sublist R) : Ok R' := ⟨h.sorted.sublist hs, h.apart.sublist hs, fun x hx => h.wf x (hs.subset hx)⟩

section
variable {R : List Tm} {t : Int} {d n : Nat} {x y : Tm}
theorem hasT_iff : hasT t R = true ↔ ∃ d, (t, d) ∈ R := by
  unfold hasT
  rw [List.any_eq_true]
  constructor
  · rintro ⟨x, hx, h⟩
    have : x.1 = t := by simpa using h
    exact ⟨x.2, by rw [← this]; exact hx⟩
  · rintro ⟨d, hd⟩
    exact ⟨_, hd, by simp⟩
theorem hasT_false : hasT t R = false ↔ ∀ d, (t, d) ∉ R := by
  constructor
  · intro h d hd
    rw [hasT_iff.2 ⟨d, hd⟩] at h
    cases h
  · intro h
    cases e : hasT t R
    · rfl
    · obtain ⟨d, hd⟩ := hasT_iff.1 e
      exact absurd hd (h d)
theorem Ok.one (h : Ok R) {d e : Nat} (hd : (t, d) ∈ R) (he : (t, e) ∈ R) : d = e := by
  by_cases hne : (t, d) = (t, e)
  · exact congrArg Prod.snd hne
  · have key : ∀ l : List Tm, l.Pairwise (fun x y => x.1 ≠ y.1) → (t, d) ∈ l → (t, e) ∈ l → False := by
      intro l
      induction l with
      | nil => intro _ h; simp at h
      | cons a r ih =>
        intro hp h1 h2
        obtain ⟨p1, p2⟩ := List.pairwise_cons.1 hp
        rcases List.mem_cons.1 h1 with e1 | h1 <;> rcases List.mem_cons.1 h2 with e2 | h2
        · exact hne (e1.trans e2.symm)
        · exact p1 _ h2 (by rw [← e1])
        · exact p1 _ h1 (by rw [← e2])
        · exact ih p2 h1 h2
    exact (key R h.apart hd he).elim
theorem dueT_of (h : Ok R) (hd : (t, d) ∈ R) : dueT t R = d := by
  unfold dueT
  cases e : R.find? fun x => x.1 == t with
  | none =>
    have := List.find?_eq_none.1 e _ hd
    simp at this
  | some x =>
    have h1 := List.mem_of_find?_eq_some e
    have h2 : x.1 = t := by simpa using List.find?_some e
    refine h.one ?_ hd
    rw [← h2]
    exact h1
theorem dueT_no (h : hasT t R = false) : dueT t R = 0 := by
  unfold dueT
  have : (R.find? fun x => x.1 == t) = none := List.find?_eq_none.2 fun x hx => by
    intro e
    have e' : x.1 = t := by simpa using e
    exact hasT_false.1 h x.2 (by rw [← e']; exact hx)
  rw [this]
  rfl
theorem Ok.due_le (h : Ok R) (t : Int) : dueT t R ≤ 4611686018427387904 := by
  cases e : hasT t R
  · rw [dueT_no e]; omega
  · obtain ⟨d, hd⟩ := hasT_iff.1 e
    rw [dueT_of h hd]
    exact (h.wf _ hd).2
theorem due_mem (h : Ok R) (e : hasT t R = true) : (t, dueT t R) ∈ R := by
  obtain ⟨d, hd⟩ := hasT_iff.1 e
  rw [dueT_of h hd]
  exact hd

theorem mem_delT : x ∈ delT t R ↔ x ∈ R ∧ x.1 ≠ t := by unfold delT; simp
theorem mem_insT : ∀ {R : List Tm}, y ∈ insT x R ↔ y = x ∨ y ∈ R
  | [] => by simp [insT]
  | z :: r => by
    unfold insT
    split
    · simp
    · simp only [List.mem_cons, mem_insT (R := r)]
      constructor
      · rintro (h | h | h)
        · exact .inr (.inl h)
        · exact .inl h
        · exact .inr (.inr h)
      · rintro (h | h | h)
        · exact .inr (.inl h)
        · exact .inl h
        · exact .inr (.inr h)
theorem mem_setT : y ∈ setT t d R ↔ y = (t, d) ∨ (y ∈ R ∧ y.1 ≠ t) := by unfold setT; rw [mem_insT, mem_delT]
theorem hasT_del (t' : Int) : hasT t' (delT t R) = (hasT t' R && t' != t) := by
  rw [Bool.eq_iff_iff, hasT_iff, Bool.and_eq_true, hasT_iff]
  constructor
  · rintro ⟨d, hd⟩
    obtain ⟨h1, h2⟩ := mem_delT.1 hd
    exact ⟨⟨d, h1⟩, by simpa using h2⟩
  · rintro ⟨⟨d, hd⟩, h2⟩
    exact ⟨d, mem_delT.2 ⟨hd, by simpa using h2⟩⟩
theorem delT_no (h : hasT t R = false) : delT t R = R := by
  unfold delT
  rw [List.filter_eq_self]
  intro x hx
  have : x.1 ≠ t := fun e => hasT_false.1 h x.2 (by rw [← e]; exact hx)
  simpa using this
theorem hasT_ins (t' : Int) : hasT t' (insT x R) = (t' == x.1 || hasT t' R) := by
  rw [Bool.eq_iff_iff, hasT_iff, Bool.or_eq_true, hasT_iff]
  constructor
  · rintro ⟨d, hd⟩
    rcases mem_insT.1 hd with h | h
    · exact .inl (by rw [← h]; simp)
    · exact .inr ⟨d, h⟩
  · rintro (h | ⟨d, hd⟩)
    · have h' : t' = x.1 := by simpa using h
      exact ⟨x.2, mem_insT.2 (.inl (by rw [h']))⟩
    · exact ⟨d, mem_insT.2 (.inr hd)⟩
theorem hasT_set (t' : Int) : hasT t' (setT t d R) = (t' == t || hasT t' R) := by
  unfold setT
  rw [hasT_ins, hasT_del]
  by_cases h : t' = t
  · subst h; simp
  · have : (t' == t) = false := by simpa using h
    simp [this, bne]
theorem len_ins : ∀ {R : List Tm}, (insT x R).length = R.length + 1
  | [] => rfl
  | z :: r => by
    unfold insT
    split
    · rfl
    · simp [len_ins (R := r)]
theorem Ok.len_del (h : Ok R) (t : Int) : (delT t R).length + (if hasT t R then 1 else 0) = R.length := by
  have key : ∀ l : List Tm, l.Pairwise (fun x y => x.1 ≠ y.1) → (delT t l).length + (if hasT t l then 1 else 0) = l.length := by
    intro l
    induction l with
    | nil => intro _; rfl
    | cons a r ih =>
      intro hp
      obtain ⟨p1, p2⟩ := List.pairwise_cons.1 hp
      have hi := ih p2
      by_cases e : a.1 = t
      · have hno : hasT t r = false := hasT_false.2 fun d hd => p1 _ hd (by rw [e])
        rw [hno] at hi
        have h1 : hasT t (a :: r) = true := hasT_iff.2 ⟨a.2, by rw [← e]; simp⟩
        have h2 : delT t (a :: r) = delT t r := by unfold delT; simp [e]
        rw [h1, h2]
        simp at hi ⊢
        omega
      · have h1 : hasT t (a :: r) = hasT t r := by
          unfold hasT
          have : (a.1 == t) = false := by simpa using e
          simp [this]
        have h2 : delT t (a :: r) = a :: delT t r := by
          unfold delT
          have : (a.1 != t) = true := by simpa using e
          simp [this]
        rw [h1, h2]
        simp
        omega
  exact key R h.apart
theorem len_delT_le : (delT t R).length ≤ R.length := List.length_filter_le _ _
theorem Ok.len_set (h : Ok R) (t : Int) (d : Nat) : (setT t d R).length = if hasT t R then R.length else R.length + 1 := by
  have := h.len_del t
  unfold setT
  rw [len_ins]
  split <;> simp_all
theorem Ok.del (h : Ok R) (t : Int) : Ok (delT t R) := h.sub List.filter_sublist
theorem Ok.ins (h : Ok R) (hno : hasT x.1 R = false) (hw : wfI x.1) (hd : x.2 ≤ 4611686018427387904) : Ok (insT x R) := by
  refine ⟨?_, ?_, ?_⟩
  · have key : ∀ l : List Tm, l.Pairwise tlt → hasT x.1 l = false → (insT x l).Pairwise tlt := by
      intro l
      induction l with
      | nil => intro _ _; simp [insT]
      | cons a r ih =>
        intro hp hn
        obtain ⟨p1, p2⟩ := List.pairwise_cons.1 hp
        unfold insT
        split
        · rename_i hx
          have hxa : tlt x a := hx
          refine List.pairwise_cons.2 ⟨fun y hy => ?_, hp⟩
          rcases List.mem_cons.1 hy with rfl | hy
          · exact hxa
          · exact tlt_trans hxa (p1 y hy)
        · rename_i hx
          have hxa : ¬ tlt x a := hx
          have hne : x ≠ a := fun e => hasT_false.1 hn a.2 (by rw [e]; simp)
          have hnr : hasT x.1 r = false := hasT_false.2 fun d hd => hasT_false.1 hn d (List.mem_cons_of_mem _ hd)
          refine List.pairwise_cons.2 ⟨fun y hy => ?_, ih p2 hnr⟩
          rcases mem_insT.1 hy with rfl | hy
          · exact tlt_total hxa hne
          · exact p1 y hy
    exact key R h.sorted hno
  · have key : ∀ l : List Tm, l.Pairwise (fun x y => x.1 ≠ y.1) → hasT x.1 l = false → (insT x l).Pairwise (fun x y => x.1 ≠ y.1) := by
      intro l
      induction l with
      | nil => intro _ _; simp [insT]
      | cons a r ih =>
        intro hp hn
        obtain ⟨p1, p2⟩ := List.pairwise_cons.1 hp
        have hall : ∀ y ∈ a :: r, x.1 ≠ y.1 := fun y hy e => hasT_false.1 hn y.2 (by rw [e]; exact hy)
        unfold insT
        split
        · exact List.pairwise_cons.2 ⟨hall, hp⟩
        · have hnr : hasT x.1 r = false := hasT_false.2 fun d hd => hasT_false.1 hn d (List.mem_cons_of_mem _ hd)
          refine List.pairwise_cons.2 ⟨fun y hy => ?_, ih p2 hnr⟩
          rcases mem_insT.1 hy with rfl | hy
          · exact fun e => hall a (by simp) e.symm
          · exact p1 y hy
    exact key R h.apart hno
  · intro y hy
    rcases mem_insT.1 hy with rfl | hy
    · exact ⟨hw, hd⟩
    · exact h.wf y hy
theorem Ok.set (h : Ok R) (hw : wfI t) (hd : d ≤ 4611686018427387904) : Ok (setT t d R) := by
  unfold setT
  refine (h.del t).ins ?_ hw hd
  rw [hasT_del]; simp

theorem mem_goR : x ∈ goR n R ↔ x ∈ R ∧ n < x.2 := by unfold goR; simp
theorem mem_goT {s : Int} : s ∈ goT n R ↔ ∃ d, (s, d) ∈ R ∧ d ≤ n := by
  unfold goT
  rw [List.mem_map]
  constructor
  · rintro ⟨x, hx, rfl⟩
    obtain ⟨h1, h2⟩ := List.mem_filter.1 hx
    exact ⟨x.2, h1, by simpa using h2⟩
  · rintro ⟨d, h1, h2⟩
    exact ⟨(s, d), List.mem_filter.2 ⟨h1, by simpa using h2⟩, rfl⟩
theorem Ok.go (h : Ok R) (n : Nat) : Ok (goR n R) := h.sub List.filter_sublist
theorem Ok.nodup (h : Ok R) : (R.map fun x => x.1).Nodup := by
  unfold List.Nodup
  rw [List.pairwise_map]
  exact h.apart
theorem Ok.goT_nodup (h : Ok R) (n : Nat) : (goT n R).Nodup := by unfold goT; exact (h.sub List.filter_sublist).nodup
theorem len_go : (goT n R).length + (goR n R).length = R.length := by
  unfold goT goR
  induction R with
  | nil => rfl
  | cons a r ih =>
    by_cases h : a.2 ≤ n
    · have : ¬ n < a.2 := by omega
      simp [h, this] at ih ⊢
      omega
    · have : n < a.2 := by omega
      simp [h, this] at ih ⊢
      omega
/-- The timers are parted at a time. -/
theorem Ok.part {D S : List Tm} (h : Ok (D ++ S)) (hD : ∀ x ∈ D, x.2 ≤ n) (hS : ∀ x, S.head? = some x → n < x.2) : goT n (D ++ S) = D.map (fun x => x.1) ∧ goR n (D ++ S) = S := by
  have hS' : ∀ x ∈ S, n < x.2 := by
    cases S with
    | nil => simp
    | cons a r =>
      have ha := hS a rfl
      intro x hx
      rcases List.mem_cons.1 hx with rfl | hx
      · exact ha
      · have := (List.pairwise_cons.1 (List.pairwise_append.1 h.sorted).2.1).1 x hx
        unfold tlt at this
        omega
  unfold goT goR
  rw [List.filter_append, List.filter_append]
  have a1 : D.filter (fun x => decide (x.2 ≤ n)) = D := List.filter_eq_self.2 fun x hx => by simpa using hD x hx
  have a2 : S.filter (fun x => decide (x.2 ≤ n)) = [] := List.filter_eq_nil_iff.2 fun x hx => by have := hS' x hx; simp; omega
  have a3 : D.filter (fun x => decide (n < x.2)) = [] := List.filter_eq_nil_iff.2 fun x hx => by have := hD x hx; simp; omega
  have a4 : S.filter (fun x => decide (n < x.2)) = S := List.filter_eq_self.2 fun x hx => by simpa using hS' x hx
  rw [a1, a2, a3, a4]
  simp
/-- The first timer is due first. -/
theorem Ok.head (h : Ok (x :: R)) : ∀ y ∈ x :: R, x.2 ≤ y.2 := by
  intro y hy
  rcases List.mem_cons.1 hy with rfl | hy
  · omega
  · have := (List.pairwise_cons.1 h.sorted).1 y hy
    unfold tlt at this
    omega
end
end Go.Proofs.Ytalojeblemhihaa
