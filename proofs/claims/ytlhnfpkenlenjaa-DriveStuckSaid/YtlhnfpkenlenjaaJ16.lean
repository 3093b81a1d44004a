/- Joined from: DEnt. -/
import Derived.Test.YtlhnfpkenlenjaaJ14
section

/- What a plan's bytes tell of its entries' flags; entries as cells. No walk. -/
namespace Go.Proofs.Ytlhnfpkenlenjaa
open Go.RowKit Go.Lib

theorem entPB_flags (k : Nat) (e : Int × Int × Int × Int) (Z : List UInt8) : num (entPB k e ++ Z) 2 2 = m16 e.2.1 := by
  unfold entPB
  rw [List.append_assoc, List.append_assoc, List.append_assoc, numR _ _ 2 0 2 (by rw [beN_length]), numB2 _ _ (m16_lt _)]
theorem entsPB_flags (k : Nat) (hk : k ≤ 2) : ∀ (l : List (Int × Int × Int × Int)) (j : Nat) (e : Int × Int × Int × Int), l[j]? = some e → num (entsPB k l) (j * (4 + 2 * k) + 2) 2 = m16 e.2.1 := by
  intro l
  induction l with
  | nil => intro j e h; simp at h
  | cons x l ih =>
    intro j e h
    rw [show entsPB k (x :: l) = entPB k x ++ entsPB k l from rfl]
    match j, h with
    | 0, h =>
      simp at h
      subst h
      rw [Nat.zero_mul, Nat.zero_add, entPB_flags]
    | j + 1, h =>
      have e1 : (j + 1) * (4 + 2 * k) = j * (4 + 2 * k) + (4 + 2 * k) := Nat.succ_mul j _
      rw [numR _ _ _ (j * (4 + 2 * k) + 2) _ (by rw [entPB_length _ _ hk]; omega)]
      exact ih j e (by simpa using h)
theorem plan_ents (p : PlanL) (k room : Nat) (h : 22 + room + 2 * p.cls.length + 2 * (p.rows.length * p.n) ≤ 65535) : num (planB p k room) 12 4 = 22 + room + 2 * p.cls.length + 2 * (p.rows.length * p.n) := by
  simp only [planB, List.append_assoc]
  rw [numR _ _ 12 8 4 (by rw [beN_length]), numR _ _ 8 4 4 (by rw [beN_length]), numR _ _ 4 0 4 (by rw [beN_length]), numB4 _ _ (by omega)]
  omega
theorem plan_flags (p : PlanL) (h : 22 + 2 * p.cls.length + 2 * (p.rows.length * p.n) ≤ 65535) (j : Nat) (e : Int × Int × Int × Int) (he : p.ents[j]? = some e) : num ((planB p 0 0).drop (num (planB p 0 0) 12 4)) (j * 4 + 2) 2 = m16 e.2.1 := by
  rw [plan_ents p 0 0 (by omega), num_dropS]
  unfold planB
  rw [numR _ _ _ (j * 4 + 2) _ (by simp only [ofB, List.length_append, beN_length, List.length_replicate, clsB_length, rowsPB_length]; omega)]
  exact entsPB_flags 0 (by omega) p.ents j e he
theorem entC4_len : ∀ l : List (Int × Int × Int × Int), (l.flatMap entC4).length = l.length * 4
  | [] => rfl
  | x :: l => by rw [List.flatMap_cons, List.length_append, entC4_len l, List.length_cons]; simp [entC4]; omega
theorem entC4_one (l : List (Int × Int × Int × Int)) : ∀ u ∈ l.flatMap entC4, u.oneCell' = true := by
  intro u hu
  obtain ⟨e, _, he⟩ := List.mem_flatMap.1 hu
  simp only [entC4, List.mem_cons, List.not_mem_nil, or_false] at he
  rcases he with rfl | rfl | rfl | rfl <;> rfl
theorem entC4_flag : ∀ (l : List (Int × Int × Int × Int)) (j : Nat) (e : Int × Int × Int × Int), l[j]? = some e → (l.flatMap entC4)[j * 4 + 1]? = some (.int .i64 e.2.1)
  | [], j, e, h => by simp at h
  | x :: l, 0, e, h => by simp at h; subst h; rfl
  | x :: l, j + 1, e, h => by
    rw [List.flatMap_cons, show (j + 1) * 4 + 1 = (entC4 x).length + (j * 4 + 1) by simp [entC4]; omega, List.getElem?_append_right (by omega), Nat.add_sub_cancel_left]
    exact entC4_flag l j e (by simpa using h)
theorem entC4_set : ∀ (l : List (Int × Int × Int × Int)) (j : Nat) (z : Int) (e : Int × Int × Int × Int), l[j]? = some e → (l.flatMap entC4).set (j * 4 + 1) (.int .i64 z) = (l.set j (e.1, z, e.2.2.1, e.2.2.2)).flatMap entC4
  | [], j, z, e, h => by simp at h
  | x :: l, 0, z, e, h => by simp at h; subst h; rfl
  | x :: l, j + 1, z, e, h => by
    rw [List.flatMap_cons, show (j + 1) * 4 + 1 = (entC4 x).length + (j * 4 + 1) by simp [entC4]; omega, List.set_append_right _ _ (by omega), Nat.add_sub_cancel_left, entC4_set l j z e (by simpa using h), List.set_cons_succ, List.flatMap_cons]
end Go.Proofs.Ytlhnfpkenlenjaa
end
