/- Joined from: WEnd. -/
import Derived.Test.YtlhnfpkenlenjaaDoorJ18
import Derived.Test.YtlhnfpkenlenjaaDoorJ14
section

/- WholeEnds' machine: its bytes, and what it does along any line. No walk. -/
namespace Go.Proofs.YtlhnfpkenlenjaaDoor
open Go.RowKit Go.Lib

def planE (k : Nat) : PlanL := ⟨[], [[2, 1, 1, 1], [2, 0, 0, 0]], [(1, 8192, 0, 0), (1, 40960, 0, 0), (1, (k : Int), 0, 0)], 0⟩
def bytesE (k : Nat) : List UInt8 := [0, 0, 0, 4, 0, 0, 0, 16, 0, 0, 0, 22, 0, 0, 0, 38, 0, 8, 0, 0, 0, 0, 0, 2, 0, 1, 0, 1, 0, 1, 0, 2, 0, 0, 0, 0, 0, 0, 0, 1, 32, 0, 0, 1, 160, 0, 0, 1, 0, k.toUInt8]
theorem planE_bytes : ∀ k, k < 16 → planB (planE k) 0 0 = bytesE k := by decide
def rsE : List RP := rowsT 0 0 6 2
theorem rsE_nil : rsE = [] := by rfl
theorem ltE {k : Nat} (h : k < 16) : k = 0 ∨ k = 1 ∨ k = 2 ∨ k = 3 ∨ k = 4 ∨ k = 5 ∨ k = 6 ∨ k = 7 ∨ k = 8 ∨ k = 9 ∨ k = 10 ∨ k = 11 ∨ k = 12 ∨ k = 13 ∨ k = 14 ∨ k = 15 := by omega
theorem okE (k : Nat) (h : k < 16) : MOk (bytesE k) 40 0 rsE 2 := by
  rcases ltE h with rfl | rfl | rfl | rfl | rfl | rfl | rfl | rfl | rfl | rfl | rfl | rfl | rfl | rfl | rfl | rfl <;>
  · refine ⟨by decide, by decide, by decide, ?_, by decide, by decide, ⟨by unfold MClosed; decide, fun S' h => h.1⟩, by decide, by decide⟩
    refine ⟨.eight (by decide) (by decide) (by decide), ?_⟩
    exact (ok_rowsT _ _ _ _ _ (by decide)).2 (by decide)
theorem enE0 : ∀ k, k < 16 → ∀ c, c < 4 → enM (bytesE k) 0 0 c = (1, if c = 0 then k else 40960, 0, 0) := by decide +kernel
theorem enE1 : ∀ k, k < 16 → ∀ c, c < 4 → enM (bytesE k) 0 1 c = (1, if c = 0 then k else 8192, 0, 0) := by decide +kernel
theorem clE_end (k : Nat) (l : List (Int × Int)) : clD (bytesE k) rsE l l.length = 0 := by
  unfold clD
  rw [List.getElem?_eq_none (Nat.le_refl _)]
theorem clE_in (k : Nat) (l : List (Int × Int)) (z : Nat) (h : z < l.length) : clD (bytesE k) rsE l z ≠ 0 ∧ clD (bytesE k) rsE l z < 4 := by
  unfold clD
  rw [List.getElem?_eq_getElem h]
  show classM (bytesE k) rsE l[z].1 ≠ 0 ∧ classM (bytesE k) rsE l[z].1 < 4
  unfold classM
  rw [rsE_nil, tabR_nil]
  split
  · omega
  · simp [getL]
/-- What the machine does. -/
theorem runE {k : Nat} (hk : k < 16) (l : List (Int × Int)) (fin : RX → Nat → Bool) (hf1 : ∀ t z, z < l.length → fin (l, 0, t) z = false) (hf2 : ∀ t, fin (l, 0, t) l.length = true) :
    ∀ m z t re st fu, z + m = l.length → m < fu → (z = 0 → t = 0) → t = z →
      (runD (fun x z => clD (bytesE k) rsE x.1 z) (enM (bytesE k) 0) fin actRx fu (l, 0, t) 1 z re st).1.1 = lineR l 0 l.length k ∧ (runD (fun x z => clD (bytesE k) rsE x.1 z) (enM (bytesE k) 0) fin actRx fu (l, 0, t) 1 z re st).2.2 = 0 := by
  intro m
  induction m with
  | zero =>
    intro z t re st fu hz hfu _ ht
    obtain ⟨fu, rfl⟩ : ∃ f, fu = f + 1 := ⟨fu - 1, by omega⟩
    obtain rfl : z = l.length := by omega
    subst ht
    unfold runD
    dsimp only
    rw [clE_end, enE1 k hk 0 (by decide), if_pos rfl]
    rw [if_neg (by show ¬ k / 2 ^ 14 % 2 = 1; omega), hf2, if_pos rfl]
    refine ⟨?_, rfl⟩
    show lineR l (firstR (l, 0, l.length) l.length k) (lastR (l, 0, l.length) l.length k) (k % 16) = _
    have h1 : firstR (l, 0, l.length) l.length k = 0 := by unfold firstR; rw [if_neg (by omega)]
    have h2 : lastR (l, 0, l.length) l.length k = l.length := by unfold lastR; rw [if_neg (by omega)]
    rw [h1, h2, Nat.mod_eq_of_lt hk]
  | succ m ih =>
    intro z t re st fu hz hfu _ ht
    obtain ⟨fu, rfl⟩ : ∃ f, fu = f + 1 := ⟨fu - 1, by omega⟩
    have hzl : z < l.length := by omega
    obtain ⟨c0, c4⟩ := clE_in k l z hzl
    unfold runD
    dsimp only
    rw [enE1 k hk _ c4, if_neg c0]
    rw [if_neg (by show ¬ 8192 / 2 ^ 14 % 2 = 1; decide), hf1 _ _ hzl, if_neg (by decide)]
    have h1 : firstR (l, 0, t) z 8192 = 0 := by unfold firstR; rw [if_neg (by decide)]
    have h2 : lastR (l, 0, t) z 8192 = z + 1 := by unfold lastR; rw [if_pos (by decide)]; show min (z + 1) l.length = _; omega
    have h3 : actRx (l, 0, t) z (1, 8192, 0, 0) = ((l, 0, z + 1), (z : Int), (z : Int) + 1) := by
      unfold actRx actR
      dsimp only
      rw [h1, h2, show 8192 % 16 = 0 from rfl, lineR_idle0]
    rw [h3]
    have h4 : (max ((z : Int) + 1) 0).toNat = z + 1 := by omega
    dsimp only
    rw [h4]
    exact ih (z + 1) (z + 1) 0 (st + 1) fu (by omega) (by omega) (fun h => by omega) rfl
theorem rearE {k : Nat} (hk : k < 16) (l : List (Int × Int)) : (rearD (bytesE k) rsE l).1.1 = lineR l 0 l.length k ∧ (rearD (bytesE k) rsE l).2.2 = 0 := by
  have hf1 : ∀ (t z : Nat), z < l.length → (fun (x : RX) z => decide (x.1.length ≤ z)) (l, 0, t) z = false := fun t z h => decide_eq_false (Nat.not_le_of_lt h)
  have hf2 : ∀ t : Nat, (fun (x : RX) z => decide (x.1.length ≤ z)) (l, 0, t) l.length = true := fun t => decide_eq_true (Nat.le_refl _)
  unfold rearD
  obtain ⟨fu, hfu⟩ : ∃ fu, 2 * l.length + 128 = fu + 1 := ⟨2 * l.length + 127, rfl⟩
  rw [hfu]
  unfold runD
  dsimp only
  by_cases h0 : l.length = 0
  · have hc : clD (bytesE k) rsE l 0 = 0 := by have := clE_end k l; rwa [h0] at this
    rw [hc, enE0 k hk 0 (by decide), if_pos rfl]
    rw [if_neg (by show ¬ k / 2 ^ 14 % 2 = 1; omega), if_pos (decide_eq_true (by omega))]
    refine ⟨?_, rfl⟩
    show lineR l (firstR (l, 0, 0) 0 k) (lastR (l, 0, 0) 0 k) (k % 16) = _
    have h1 : firstR (l, 0, 0) 0 k = 0 := by unfold firstR; rw [if_neg (by omega)]
    have h2 : lastR (l, 0, 0) 0 k = 0 := by unfold lastR; rw [if_neg (by omega)]
    rw [h1, h2, Nat.mod_eq_of_lt hk, h0]
  · obtain ⟨c0, c4⟩ := clE_in k l 0 (by omega)
    rw [enE0 k hk _ c4, if_neg c0]
    rw [if_neg (by show ¬ 40960 / 2 ^ 14 % 2 = 1; decide), if_neg (by rw [decide_eq_true_iff]; show ¬ l.length ≤ 0; omega)]
    have h1 : firstR (l, 0, 0) 0 40960 = 0 := by unfold firstR; rw [if_pos (by decide)]; show min 0 l.length = 0; omega
    have h2 : lastR (l, 0, 0) 0 40960 = 1 := by unfold lastR; rw [if_pos (by decide)]; show min (0 + 1) l.length = _; omega
    have h3 : actRx (l, 0, 0) 0 (1, 40960, 0, 0) = ((l, 0, 1), 0, 1) := by
      unfold actRx actR
      dsimp only
      rw [h1, h2, show 40960 % 16 = 0 from rfl, lineR_idle0]
      rfl
    rw [h3]
    dsimp only
    exact runE hk l _ hf1 hf2 (l.length - 1) 1 1 0 _ fu (by omega) (by omega) (fun h => by omega) rfl
end Go.Proofs.YtlhnfpkenlenjaaDoor
end
