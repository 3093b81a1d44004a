
/- Package pick, the spec: which settings are on, as lists say it; no program. Conditions: as each says. -/
import Derived.Test.YtfnghinefbmlmaaPickA
namespace Go.Proofs.Ytfnghinefbmlmaa

/-- What settings that stand for one another share, and no others do. -/
def shareS (ex : Int → Bool) (s : St) : St := if ex s.1 then (s.1, 0) else (s.1, s.2.tdiv 2)
def overS (ex : Int → Bool) (a b : St) : Bool := (a.1 == b.1) && (ex a.1 || (a.2.tdiv 2 == b.2.tdiv 2))
theorem over_share (ex : Int → Bool) (a b : St) : overS ex a b = (shareS ex a == shareS ex b) := by
  obtain ⟨a1, a2⟩ := a
  obtain ⟨b1, b2⟩ := b
  rw [Bool.eq_iff_iff]
  simp only [overS, shareS, Bool.and_eq_true, Bool.or_eq_true, beq_iff_eq]
  by_cases h : a1 = b1
  · subst h
    cases ex a1 <;> simp
  · cases ex a1 <;> cases ex b1 <;> simp [h]
def stepS (ex : Int → Bool) (k : St) (o : Option St) (s : St) : Option St := if rightS s && (shareS ex s == k) then some s else o
/-- The last of them that shares k. -/
def lastS (ex : Int → Bool) (l : List St) (k : St) : Option St := l.foldl (stepS ex k) none
theorem last_nil (ex : Int → Bool) (k : St) : lastS ex [] k = none := rfl
theorem last_snoc (ex : Int → Bool) (l : List St) (s k : St) : lastS ex (l ++ [s]) k = if rightS s && (shareS ex s == k) then some s else lastS ex l k := by
  simp only [lastS, List.foldl_append, List.foldl_cons, List.foldl_nil, stepS]
theorem snoc_ind {α : Type} {P : List α → Prop} (h0 : P []) (hs : ∀ l x, P l → P (l ++ [x])) (l : List α) : P l := by
  rw [← List.reverse_reverse l]
  induction l.reverse with
  | nil => exact h0
  | cons x r ih => rw [List.reverse_cons]; exact hs _ _ ih
theorem last_app (ex : Int → Bool) (a b : List St) (k : St) : lastS ex (a ++ b) k = (lastS ex b k).or (lastS ex a k) := by
  induction b using snoc_ind with
  | h0 => rw [List.append_nil, last_nil]; rfl
  | hs l x ih =>
    rw [← List.append_assoc, last_snoc, last_snoc, ih]
    split <;> rfl
theorem last_some {ex : Int → Bool} {l : List St} {k t : St} (h : lastS ex l k = some t) : t ∈ l ∧ rightS t = true ∧ shareS ex t = k := by
  induction l using snoc_ind with
  | h0 => cases h
  | hs l x ih =>
    rw [last_snoc] at h
    split at h
    · rename_i hc
      cases h
      simp only [Bool.and_eq_true, beq_iff_eq] at hc
      exact ⟨by simp, hc.1, hc.2⟩
    · obtain ⟨h1, h2⟩ := ih h
      exact ⟨by simp [h1], h2⟩
theorem last_none {ex : Int → Bool} {l : List St} {k : St} (h : lastS ex l k = none) : ∀ s ∈ l, rightS s = true → shareS ex s ≠ k := by
  induction l using snoc_ind with
  | h0 => intro s hs; cases hs
  | hs l x ih =>
    rw [last_snoc] at h
    split at h
    · cases h
    · rename_i hc
      intro s hs hr e
      rcases List.mem_append.1 hs with hs | hs
      · exact ih h s hs hr e
      · simp only [List.mem_singleton] at hs
        subst hs
        simp [hr, e] at hc
/-- Is a setting on? -/
def onS (ex : Int → Bool) (l : List St) (s : St) : Bool := lastS ex l (shareS ex s) == some s
theorem on_nil (ex : Int → Bool) (s : St) : onS ex [] s = false := rfl
theorem on_snoc (ex : Int → Bool) (l : List St) (x s : St) : onS ex (l ++ [x]) s = if rightS x && overS ex x s then (x == s) else onS ex l s := by
  simp only [onS, last_snoc, over_share]
  split
  · simp
  · rfl
theorem on_right {ex : Int → Bool} {l : List St} {s : St} (h : onS ex l s = true) : rightS s = true := (last_some (by simpa [onS] using h)).2.1
/-- Settings in their order. -/
def ltS (x y : St) : Bool := decide (x.1 < y.1) || (decide (x.1 = y.1) && decide (x.2 < y.2))
theorem cmpS_lt (x y : St) : (cmpS x y < 0) = (ltS x y = true) := by
  simp only [cmpS, cmpI, ltS, Bool.or_eq_true, Bool.and_eq_true, decide_eq_true_eq, eq_iff_iff]
  split <;> split <;> (try split) <;> omega
theorem cmpS_zero (x y : St) : (cmpS x y = 0) = (x = y) := by
  obtain ⟨a, b⟩ := x
  obtain ⟨c, d⟩ := y
  simp only [cmpS, cmpI, Prod.mk.injEq, eq_iff_iff]
  split <;> split <;> (try split) <;> omega
def RiseS (rs : List St) : Prop := rs.Pairwise fun x y => ltS x y = true
theorem ltS_irrefl (x : St) : ltS x x = false := by simp [ltS]
theorem ltS_trans {x y z : St} (h1 : ltS x y = true) (h2 : ltS y z = true) : ltS x z = true := by
  simp only [ltS, Bool.or_eq_true, Bool.and_eq_true, decide_eq_true_eq] at *; omega
theorem ltS_asymm {x y : St} (h1 : ltS x y = true) : ltS y x = false := by
  cases h : ltS y x with
  | false => rfl
  | true => have := ltS_trans h1 h; rw [ltS_irrefl] at this; cases this
theorem ltS_total {x y : St} (h : x ≠ y) : ltS x y = true ∨ ltS y x = true := by
  obtain ⟨a, b⟩ := x
  obtain ⟨c, d⟩ := y
  simp only [ne_eq, Prod.mk.injEq] at h
  simp only [ltS, Bool.or_eq_true, Bool.and_eq_true, decide_eq_true_eq]; omega
theorem RiseS.eq : ∀ {a b : List St}, RiseS a → RiseS b → (∀ t, t ∈ a ↔ t ∈ b) → a = b
  | [], [], _, _, _ => rfl
  | [], y :: b, _, _, h => absurd ((h y).2 (by simp)) (by simp)
  | x :: a, [], _, _, h => absurd ((h x).1 (by simp)) (by simp)
  | x :: a, y :: b, ha, hb, h => by
    obtain ⟨ha1, ha2⟩ := List.pairwise_cons.1 ha
    obtain ⟨hb1, hb2⟩ := List.pairwise_cons.1 hb
    have e : x = y := by
      rcases List.mem_cons.1 ((h x).1 (by simp)) with h1 | h1
      · exact h1
      · rcases List.mem_cons.1 ((h y).2 (by simp)) with h2 | h2
        · exact h2.symm
        · have := ltS_trans (ha1 y h2) (hb1 x h1)
          rw [ltS_irrefl] at this
          cases this
    subst e
    rw [RiseS.eq ha2 hb2 (fun t => ⟨fun ht => by
      rcases List.mem_cons.1 ((h t).1 (by simp [ht])) with rfl | h1
      · have := ha1 t ht; rw [ltS_irrefl] at this; cases this
      · exact h1, fun ht => by
      rcases List.mem_cons.1 ((h t).2 (by simp [ht])) with rfl | h1
      · have := hb1 t ht; rw [ltS_irrefl] at this; cases this
      · exact h1⟩)]
theorem RiseS.nodup {a : List St} (h : RiseS a) : a.Nodup := h.imp fun {x y} hxy e => by subst e; rw [ltS_irrefl] at hxy; cases hxy
/-- What is settled. -/
def SetS (ex : Int → Bool) (l rs : List St) : Prop := RiseS rs ∧ ∀ t, t ∈ rs ↔ onS ex l t = true
theorem SetS.one {ex : Int → Bool} {l a b : List St} (ha : SetS ex l a) (hb : SetS ex l b) : a = b := ha.1.eq hb.1 fun t => (ha.2 t).trans (hb.2 t).symm
/-- Of two that are on none stands for the other. -/
theorem on_over {ex : Int → Bool} {l : List St} {a b : St} (ha : onS ex l a = true) (hb : onS ex l b = true) (h : overS ex a b = true) : a = b := by
  simp only [onS, beq_iff_eq, over_share] at *
  rw [h, hb] at ha
  exact (Option.some.inj ha).symm
/-- Each right one that was asked for is stood for. -/
theorem on_stands {ex : Int → Bool} {l : List St} {s : St} (hs : s ∈ l) (hr : rightS s = true) : ∃ x, onS ex l x = true ∧ overS ex s x = true := by
  cases h : lastS ex l (shareS ex s) with
  | none => exact absurd rfl (last_none h s hs hr)
  | some x =>
    obtain ⟨_, _, h3⟩ := last_some h
    exact ⟨x, by simp [onS, h3, h], by simp [over_share, h3]⟩
/-- Asked for again. -/
theorem last_on {ex : Int → Bool} {l rs : List St} (h : ∀ t, t ∈ rs ↔ onS ex l t = true) (k : St) : lastS ex rs k = lastS ex l k := by
  cases h2 : lastS ex rs k with
  | none =>
    cases h3 : lastS ex l k with
    | none => rfl
    | some x =>
      obtain ⟨_, hr, he⟩ := last_some h3
      exact absurd he (last_none h2 x ((h x).2 (by simp [onS, he, h3])) hr)
  | some x =>
    obtain ⟨hm, hr, he⟩ := last_some h2
    have := (h x).1 hm
    simp only [onS, beq_iff_eq, he] at this
    exact this.symm
theorem SetS.again {ex : Int → Bool} {l rs ts : List St} (h : SetS ex l rs) (h2 : SetS ex (l ++ rs) ts) : ts = rs := by
  refine h2.1.eq h.1 fun t => (h2.2 t).trans ((?_ : _ ↔ _).trans (h.2 t).symm)
  simp only [onS, last_app, last_on h.2]
  cases lastS ex l (shareS ex t) <;> simp
theorem SetS.once {ex : Int → Bool} {l rs ts : List St} (h : SetS ex l rs) (h2 : SetS ex rs ts) : ts = rs := by
  refine h2.1.eq h.1 fun t => (h2.2 t).trans ((?_ : _ ↔ _).trans (h.2 t).symm)
  simp only [onS, last_on h.2]
/-- One more. -/
theorem on_more {ex : Int → Bool} {l : List St} {s x : St} (hx : onS ex l x = true) : onS ex (l ++ [s]) x = (!rightS s || (x == s) || !overS ex x s) := by
  rw [on_snoc, hx]
  have e : overS ex s x = overS ex x s := by rw [over_share, over_share]; exact Bool.beq_comm
  rw [e]
  have e2 : (s == x) = (x == s) := Bool.beq_comm
  rw [e2]
  cases h1 : (x == s) with
  | true => simp
  | false => cases rightS s <;> cases overS ex x s <;> rfl
theorem on_last (ex : Int → Bool) (l : List St) (s : St) : onS ex (l ++ [s]) s = rightS s := by
  rw [on_snoc]
  have e : overS ex s s = true := by rw [over_share]; simp
  cases h : rightS s with
  | true => simp [e]
  | false =>
    simp only [Bool.false_and, Bool.false_eq_true, if_false]
    cases h2 : onS ex l s with
    | false => rfl
    | true => rw [on_right h2] at h; cases h
theorem SetS.len {ex : Int → Bool} {l rs ts : List St} {s : St} (h : SetS ex l rs) (h2 : SetS ex (l ++ [s]) ts) : ts.length ≤ rs.length + 1 := by
  have hsub : ∀ t ∈ ts, t ∈ s :: rs := fun t ht => by
    have := (h2.2 t).1 ht
    rw [on_snoc] at this
    split at this
    · simp only [beq_iff_eq] at this; subst this; simp
    · exact List.mem_cons_of_mem _ ((h.2 t).2 this)
  have hd : ts.Nodup := h2.1.nodup
  have key : ∀ (a b : List St), a.Nodup → (∀ t ∈ a, t ∈ b) → a.length ≤ b.length := by
    intro a
    induction a with
    | nil => intros; simp
    | cons x a ih =>
      intro b hn hs
      obtain ⟨n1, n2⟩ := List.nodup_cons.1 hn
      have hx := hs x (by simp)
      have := ih (b.erase x) n2 (fun t ht => (List.mem_erase_of_ne (by rintro rfl; exact n1 ht)).2 (hs t (by simp [ht])))
      rw [List.length_erase_of_mem hx] at this
      have := List.length_pos_of_mem hx
      simp only [List.length_cons]
      omega
  have := key ts (s :: rs) hd hsub
  simpa using this
/-- The same keys' last ones: the same that is settled. -/
theorem SetS.same {ex : Int → Bool} {l m rs ts : List St} (h : SetS ex l rs) (h2 : SetS ex m ts) (he : ∀ k, lastS ex l k = lastS ex m k) : ts = rs := by
  refine h2.1.eq h.1 fun t => (h2.2 t).trans ((?_ : _ ↔ _).trans (h.2 t).symm)
  simp only [onS, he]
theorem last_swap {ex : Int → Bool} (a b : List St) {x y : St} (h : overS ex x y = false) (k : St) : lastS ex (a ++ x :: y :: b) k = lastS ex (a ++ y :: x :: b) k := by
  have e1 : ∀ u v : St, a ++ u :: v :: b = ((a ++ [u]) ++ [v]) ++ b := fun u v => by simp
  rw [e1, e1, last_app, last_app (b := b)]
  congr 1
  rw [last_snoc, last_snoc, last_snoc, last_snoc]
  rw [over_share] at h
  have hne : shareS ex x ≠ shareS ex y := by simpa using h
  by_cases hx : (rightS x && (shareS ex x == k)) = true
  · have hy : ¬ (rightS y && (shareS ex y == k)) = true := by
      simp only [Bool.and_eq_true, beq_iff_eq] at *
      rintro ⟨_, e⟩
      exact hne (hx.2.trans e.symm)
    simp only [if_pos hx, if_neg hy]
  · rw [if_neg hx, if_neg hx]
end Go.Proofs.Ytfnghinefbmlmaa
