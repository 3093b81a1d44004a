
/- The document's answer of a lookup's parts, as a function, and that it is the table's. Conditions: as each says. -/
import Derived.Test.YtlkbadomklefmaaLSpeak
namespace Go.Proofs.Ytlkbadomklefmaa
open Go.RowKit Go.Lib

def inR (id : Int) (r : RP) : Bool := decide ((r.first : Int) ≤ id) && decide (id ≤ (r.last : Int))
/-- The first part that holds a glyph tells its number. -/
def refG (bs : List UInt8) (rs : List RP) (id : Int) : Nat × Bool := match rs.find? (inR id) with
  | some r => (num bs (r.at_ + (if r.own = true then r.size else 0) * (id - r.first).toNat) r.size, true)
  | none => (0, false)
theorem numsA_get (bs : List UInt8) (S k i : Nat) (h : i < k) : (numsA bs S k).getD i 0 = num bs (i * S) S := by
  simp [numsA, List.getD_eq_getElem?_getD, h]
theorem refG_tab (bs : List UInt8) (rs : List RP) (h : okR bs rs) (hr : ∀ r ∈ rs, r.last ≤ 70000 ∧ (r.size = 1 ∨ r.size = 2 ∨ r.size = 4)) (id : Int) : ∀ k, k ≤ rs.length → getL (tabR bs (rs.take k)).1 (tabR bs (rs.take k)).2 id = refG bs (rs.take k) id ∧ ((tabR bs (rs.take k)).1.find? (inP id) = none ↔ (rs.take k).find? (inR id) = none)
  | 0, _ => by rw [List.take_zero]; exact ⟨rfl, by simp [tabR]⟩
  | k + 1, hk => by
    have hx := List.getElem?_eq_getElem (show k < rs.length by omega)
    obtain ⟨ih1, ih2⟩ := refG_tab bs rs h hr id k (by omega)
    have hinv := invR_take bs rs h hr k (by omega)
    rw [tabR_take_succ hx, List.take_add_one, hx]
    generalize tabR bs (rs.take k) = s at *
    generalize rs.take k = l at *
    generalize rs[k] = r at *
    obtain ⟨ps, ns⟩ := s
    simp only [stepR, Option.toList]
    have hpr : inP id ⟨r.first, r.last, ns.length, if r.own = true then 1 else 0⟩ = inR id r := rfl
    cases hf : ps.find? (inP id) with
    | some p =>
      have hl : l.find? (inR id) ≠ none := fun hn => by
        have := ih2.2 hn
        simp only at this
        rw [hf] at this
        cases this
      obtain ⟨q, hq⟩ := Option.ne_none_iff_exists'.1 hl
      have hok := hinv.ok p (List.mem_of_find?_eq_some hf)
      have hin := List.find?_some hf
      simp only [inP, Bool.and_eq_true, decide_eq_true_eq] at hin
      have hlt : p.at_ + p.step * (id - p.first).toNat < ns.length := by
        obtain ⟨h1, h2, _⟩ := hok
        simp only at h2
        rcases h1 with h1 | h1 <;> rw [h1] at h2 ⊢ <;> omega
      constructor
      · unfold getL refG at ih1 ⊢
        simp only [List.find?_append, hf, hq, Option.some_or] at ih1 ⊢
        rw [← ih1, List.getD_eq_getElem?_getD, List.getElem?_append_left hlt, List.getD_eq_getElem?_getD]
      · simp [List.find?_append, hf, hq]
    | none =>
      have hl := ih2.1 hf
      constructor
      · unfold getL refG
        simp only [List.find?_append, hf, hl, Option.none_or, List.find?_cons, hpr]
        cases hi : inR id r with
        | false => rfl
        | true =>
          simp only [inR, Bool.and_eq_true, decide_eq_true_eq] at hi
          simp only
          congr 1
          cases ho : r.own with
          | true =>
            have hlt : (id - (r.first : Int)).toNat < r.last - r.first + 1 := by omega
            simp only [numsR, ho, if_true, Nat.one_mul]
            rw [List.getD_eq_getElem?_getD, List.getElem?_append_right (by omega), Nat.add_sub_cancel_left, ← List.getD_eq_getElem?_getD, numsA_get _ _ _ _ hlt, num_dropS, Nat.mul_comm]
          | false =>
            simp only [numsR, ho, Bool.false_eq_true, if_false, Nat.zero_mul, Nat.add_zero]
            rw [List.getD_eq_getElem?_getD, List.getElem?_append_right (by omega), Nat.sub_self]
            rfl
      · simp only [List.find?_append, hf, hl, Option.none_or, List.find?_cons, hpr]
        cases inR id r <;> simp
theorem refG_at (bs : List UInt8) (rs : List RP) (id : Int) (j : Nat) (r : RP) (hr : rs[j]? = some r) (hno : ∀ x ∈ rs.take j, inR id x = false) (hin : inR id r = true) : refG bs rs id = (num bs (r.at_ + (if r.own = true then r.size else 0) * (id - r.first).toNat) r.size, true) := by
  have h : rs.find? (inR id) = some r := by
    have e : rs = rs.take j ++ (r :: rs.drop (j + 1)) := by
      have := List.take_append_drop j rs
      obtain ⟨hj, rfl⟩ := List.getElem?_eq_some_iff.1 hr
      rw [← List.drop_eq_getElem_cons hj]
      exact this.symm
    have hn : (rs.take j).find? (inR id) = none := List.find?_eq_none.2 fun x hx => by simp [hno x hx]
    rw [e, List.find?_append, hn, Option.none_or, List.find?_cons, hin]
  unfold refG
  rw [h]
theorem refG_no (bs : List UInt8) (rs : List RP) (id : Int) (hno : ∀ x ∈ rs, inR id x = false) : refG bs rs id = (0, false) := by
  have hn : rs.find? (inR id) = none := List.find?_eq_none.2 fun x hx => by simp [hno x hx]
  unfold refG
  rw [hn]
def fitG (n : Nat) (r : RP) : Prop := r.first ≤ 70000 ∧ r.last ≤ 70000 ∧ (r.size = 1 ∨ r.size = 2 ∨ r.size = 4) ∧ r.at_ + (if r.own = true then (r.last - r.first + 1) * r.size else r.size) ≤ n
theorem fitG_at {n : Nat} {r : RP} (h : fitG n r) {id : Int} (h1 : (r.first : Int) ≤ id) (h2 : id ≤ (r.last : Int)) : r.at_ + (if r.own = true then r.size else 0) * (id - r.first).toNat + r.size ≤ n := by
  obtain ⟨_, _, _, h4⟩ := h
  have hm : ((id - (r.first : Int)).toNat + 1) * r.size ≤ (r.last - r.first + 1) * r.size := Nat.mul_le_mul_right _ (by omega)
  rw [Nat.succ_mul] at hm
  split at h4
  · rename_i ho
    rw [if_pos ho, Nat.mul_comm]
    omega
  · rename_i ho
    rw [if_neg ho, Nat.zero_mul]
    omega
end Go.Proofs.Ytlkbadomklefmaa
