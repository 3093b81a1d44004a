
/- Two lists of parts that are permutations of each other and in order by their tags: both may be a font, or neither; and if so they are alike. No condition. -/
import Derived.Test.YthacabmnnpibkaaPSort
namespace Go.Proofs.Ythacabmnnpibkaa
open Go.RowKit Go.Lib

theorem bl_anti : ∀ a b : List UInt8, bl' a b = false → bl' b a = false → a = b
  | [], [], _, _ => rfl
  | [], y :: b, h, _ => by simp [bl_nil] at h
  | x :: a, [], _, h => by simp [bl_nil] at h
  | x :: a, y :: b, h1, h2 => by
    rw [bl_cons] at h1 h2
    simp only [Bool.or_eq_false_iff, decide_eq_false_iff_not, Bool.and_eq_false_iff, beq_eq_false_iff_ne] at h1 h2
    have e : x = y := UInt8.le_antisymm (UInt8.not_lt.1 h2.1) (UInt8.not_lt.1 h1.1)
    subst e
    rw [bl_anti a b (h1.2.resolve_left fun h => h rfl) (h2.2.resolve_left fun h => h rfl)]
theorem bl_self (a : List UInt8) : bl' a a = false := by simp [bl', cb_self]
def tagOf (p : PartV) : List UInt8 := p.tag.data.toList
/-- In order. -/
def Rises (rs : List PartV) : Prop := rs.Pairwise fun p q => bl' (tagOf q) (tagOf p) = false
theorem rises_of {rs : List PartV} (h : ∀ (i j : Nat) (p q : PartV), i < j → rs[i]? = some p → rs[j]? = some q → bl' q.tag.data.toList p.tag.data.toList = false) : Rises rs := by
  unfold Rises
  rw [List.pairwise_iff_getElem]
  intro i j hi hj hij
  exact h i j _ _ hij (List.getElem?_eq_getElem hi) (List.getElem?_eq_getElem hj)
/-- What a font asks of its parts, in whatever order. -/
def Apart (rs : List PartV) : Prop := rs.Pairwise fun p q => tagOf p ≠ tagOf q
theorem apart_perm {rs qs : List PartV} (h : rs.Perm qs) (ha : Apart rs) : Apart qs :=
  (h.pairwise_iff (fun hxy => Ne.symm hxy)).1 ha
theorem eq_of_rises : ∀ {rs qs : List PartV}, rs.Perm qs → Rises rs → Rises qs → Apart rs → rs = qs
  | [], qs, h, _, _, _ => (List.nil_perm.1 h).symm
  | p :: rs, [], h, _, _, _ => absurd h.symm (by simp)
  | p :: rs, q :: qs, h, h1, h2, ha => by
    have e : p = q := by
      have hp : p ∈ q :: qs := h.mem_iff.1 (by simp)
      have hq : q ∈ p :: rs := h.mem_iff.2 (by simp)
      rcases List.mem_cons.1 hp with e | hp
      · exact e
      · rcases List.mem_cons.1 hq with e | hq
        · exact e.symm
        · have g1 := (List.pairwise_cons.1 h1).1 q hq
          have g2 := (List.pairwise_cons.1 h2).1 p hp
          exact absurd (bl_anti _ _ g2 g1) ((List.pairwise_cons.1 ha).1 q hq)
    subst e
    rw [eq_of_rises (List.perm_cons _ |>.1 h) (List.pairwise_cons.1 h1).2 (List.pairwise_cons.1 h2).2 (List.pairwise_cons.1 ha).2]
theorem fine_iff {rs : List PartV} (hr : Rises rs) : fine rs ↔ (∀ p ∈ rs, p.tag.size = 4) ∧ Apart rs ∧ rs.length ≤ 4000 := by
  unfold Rises at hr
  rw [List.pairwise_iff_getElem] at hr
  constructor
  · rintro ⟨h1, h2⟩
    refine ⟨fun p hp => ?_, ?_, h2⟩
    · obtain ⟨i, hi⟩ := List.getElem?_of_mem hp
      exact (h1 i (List.getElem?_eq_some_iff.1 hi).1 p hi).1
    · unfold Apart
      rw [List.pairwise_iff_getElem]
      intro i j hi hj hij he
      have hi1 : i + 1 < rs.length := by omega
      have g1 := hr i (i + 1) hi hi1 (by omega)
      have g2 : bl' (tagOf rs[i]) (tagOf rs[i + 1]) = false := by
        rcases Nat.lt_or_ge (i + 1) j with g | g
        · have := hr (i + 1) j hi1 hj g
          rw [← he] at this
          exact this
        · have e : j = i + 1 := by omega
          subst e
          rw [← he]
          exact bl_self _
      have e := bl_anti _ _ g1 g2
      have := (h1 (i + 1) hi1 rs[i + 1] (List.getElem?_eq_getElem hi1)).2 rs[i] (by omega) (by simp only [Nat.add_sub_cancel]; exact List.getElem?_eq_getElem hi)
      rw [ByteArray.toList_eq, ByteArray.toList_eq] at this
      exact this e.symm
  · rintro ⟨h1, h2, h3⟩
    unfold Apart at h2
    rw [List.pairwise_iff_getElem] at h2
    refine ⟨fun i hi p hp => ⟨h1 p (List.mem_of_getElem? hp), fun q h0 hq => ?_⟩, h3⟩
    obtain ⟨hj, rfl⟩ := List.getElem?_eq_some_iff.1 hp
    obtain ⟨hk, rfl⟩ := List.getElem?_eq_some_iff.1 hq
    rw [ByteArray.toList_eq, ByteArray.toList_eq]
    exact h2 (i - 1) i hk hj (by omega)
/-- Of two orders of the same parts, each put in order: both a font, and the same; or neither. -/
theorem orders {rs qs : List PartV} (h : rs.Perm qs) (h1 : Rises rs) (h2 : Rises qs) : (fine rs ↔ fine qs) ∧ (fine rs → rs = qs) := by
  rw [fine_iff h1, fine_iff h2]
  refine ⟨⟨fun ⟨a, b, c⟩ => ⟨fun p hp => a p (h.mem_iff.2 hp), apart_perm h b, h.length_eq ▸ c⟩, fun ⟨a, b, c⟩ => ⟨fun p hp => a p (h.mem_iff.1 hp), apart_perm h.symm b, h.length_eq ▸ c⟩⟩, fun hf => eq_of_rises h h1 h2 hf.2.1⟩
end Go.Proofs.Ythacabmnnpibkaa
