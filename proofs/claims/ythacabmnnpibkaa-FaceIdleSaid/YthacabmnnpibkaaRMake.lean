
/- The contract of the document's Make, for parts that may be. Conditions: tags of four bytes, no two alike; no more than 1000 parts of no more than 100000 bytes. -/
import Derived.Test.YthacabmnnpibkaaMake
import Derived.Test.YthacabmnnpibkaaPerm
import Derived.Test.YthacabmnnpibkaaPut
import Derived.Test.YthacabmnnpibkaaSum
import Derived.Test.YthacabmnnpibkaaLeast
namespace Go.Proofs.Ythacabmnnpibkaa
open Go.RowKit Go.Lib

theorem bl_asym {a b : List UInt8} (h : bl' a b = true) : bl' b a = false := by
  cases h2 : bl' b a with
  | false => rfl
  | true => have := bl_trans _ _ _ h h2; rw [bl_self] at this; cases this
theorem exists_sorted (ps : List PartV) : ∃ rs : List PartV, rs.Perm ps ∧ Rises rs := by
  refine ⟨ps.mergeSort (fun p q => !bl' (tagOf q) (tagOf p)), List.mergeSort_perm _ _, ?_⟩
  have h := List.pairwise_mergeSort (le := fun p q : PartV => !bl' (tagOf q) (tagOf p)) (fun a b c h1 h2 => by
    simp only [Bool.not_eq_true'] at *
    exact bl_ntrans _ _ _ h2 h1) (fun a b => by
    cases h1 : bl' (tagOf b) (tagOf a) with
    | false => simp
    | true => simp [bl_asym h1]) ps
  unfold Rises
  exact h.imp fun h => by simpa using h
def lastTag (rs : List PartV) : Nat → ByteArray
  | 0 => .empty
  | k + 1 => ((rs[k]?).map (·.tag)).getD .empty
/-- The least of those that are left is the next one. -/
theorem least_next {rs ps : List PartV} {n k : Nat} {v : Value} (hp : rs.Perm ps) (hr : Rises rs) (ha : Apart ps) (hl : ps.length = n) (hk : k < n) (h : bestOf (decide (k = 0)) (lastTag rs k).data.toList ps n v) :
    ∃ i, ∃ p, i < n ∧ ps[i]? = some p ∧ rs[k]? = some p ∧ v = .int .i64 (i : Nat) := by
  have hrl : rs.length = n := by rw [hp.length_eq, hl]
  have har : Apart rs := apart_perm hp.symm ha
  unfold Rises at hr
  unfold Apart at har
  rw [List.pairwise_iff_getElem] at hr har
  have hlt : ∀ i j (hi : i < rs.length) (hj : j < rs.length), i < j → bl' (tagOf rs[i]) (tagOf rs[j]) = true := fun i j hi hj hij => by
    refine (Bool.eq_false_or_eq_true _).resolve_right fun g => ?_
    exact har i j hi hj hij (bl_anti _ _ g (hr i j hi hj hij))
  have hnext : ∀ m (hm : m < rs.length), nextOk (decide (k = 0)) (lastTag rs k).data.toList rs[m] ↔ k ≤ m := fun m hm => by
    rcases k with _ | k
    · simp [nextOk]
    · have hkl : k < rs.length := by omega
      have e : (lastTag rs (k + 1)).data.toList = tagOf rs[k] := by simp [lastTag, List.getElem?_eq_getElem hkl, tagOf]
      rw [e]
      constructor
      · intro h
        rcases h with h | h
        · simp at h
        · rcases Nat.lt_or_ge k m with g | g
          · exact g
          · rcases Nat.lt_or_eq_of_le g with g | g
            · rw [bl_asym (hlt m k hm hkl g)] at h; cases h
            · subst g; rw [bl_self] at h; cases h
      · exact fun h => .inr (hlt k m hkl hm h)
  have hkr : k < rs.length := by omega
  obtain ⟨i0, hi0⟩ := List.getElem?_of_mem (hp.mem_iff.1 (List.getElem_mem hkr))
  have hi0n : i0 < n := by rw [← hl]; exact (List.getElem?_eq_some_iff.1 hi0).1
  rcases h with ⟨h1, _⟩ | ⟨b, p, hb, hbp, hok, hle, rfl⟩
  · exact absurd ((hnext k hkr).2 (Nat.le_refl _)) (h1 i0 _ hi0n hi0)
  · obtain ⟨m, hm⟩ := List.getElem?_of_mem (hp.mem_iff.2 (List.mem_of_getElem? hbp))
    obtain ⟨hml, rfl⟩ := List.getElem?_eq_some_iff.1 hm
    have hkm := (hnext m hml).1 hok
    have h2 := hle i0 _ hi0n hi0 ((hnext k hkr).2 (Nat.le_refl _))
    rcases Nat.lt_or_eq_of_le hkm with g | g
    · rw [hlt k m hkr hml g] at h2; cases h2
    · subst g
      exact ⟨b, _, hb, hbp, hm, rfl⟩
theorem tot_mod (l : List PartV) : tot l % 4 = 0 := by
  induction l with
  | nil => rfl
  | cons p l ih => simp only [tot, lackN]; omega
theorem expo_is {n e : Nat} (h0 : 0 < n) (h1 : 2 ^ e ≤ n) (h2 : n < 2 ^ (e + 1)) (h : n < 2 ^ 64) : expo n = e ∧ power n = 16 * 2 ^ e := by
  obtain ⟨f, g1, g2, g3⟩ := bl n (by omega) h
  have hef : f = e := by
    rcases Nat.lt_trichotomy f e with g | g | g
    · have : 2 ^ (f + 1) ≤ 2 ^ e := Nat.pow_le_pow_right (by omega) g
      omega
    · exact g
    · have : 2 ^ (e + 1) ≤ 2 ^ f := Nat.pow_le_pow_right (by omega) g
      omega
  have he : expo n = e := by unfold expo; omega
  exact ⟨he, by unfold power; rw [if_neg (by omega), he]⟩
end Go.Proofs.Ythacabmnnpibkaa
