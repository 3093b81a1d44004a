
/- What the order that a verb gives is, place by place. No walk. Condition: as many glyphs as the verb has letters. -/
import Derived.Test.YtonogcbcjmdmhaaDoorVTab
namespace Go.Proofs.YtonogcbcjmdmhaaDoor
open Go.RowKit Go.Lib

def preC : Nat → List Nat
  | 2 | 3 | 10 | 11 => [3]
  | 6 | 8 | 12 | 13 => [2, 3]
  | 7 | 9 | 14 | 15 => [3, 2]
  | _ => []
def sufC : Nat → List Nat
  | 1 | 3 | 8 | 9 => [0]
  | 4 | 10 | 12 | 14 => [0, 1]
  | 5 | 11 | 13 | 15 => [1, 0]
  | _ => []
def codeL (c : Nat) : UInt8 := UInt8.ofNat (65 + c)
/-- What stands for a letter: the first two, and the last two, of a row. -/
def eC (n c : Nat) : Int := if c < 2 then (c : Int) else (n : Int) - 4 + c
theorem isV_split : ∀ v, v < 16 → 1 ≤ v → isV v = (preC v).map codeL ++ 120 :: (sufC v).map codeL := by decide
theorem codes_lt : ∀ v, v < 16 → (∀ c ∈ preC v, c < 4) ∧ (∀ c ∈ sufC v, c < 4) := by decide
theorem letV_code (a b n c : Nat) (h : c < 4) : letV a b n (codeL c) = [eC n c] := by
  match c, h with
  | 0, _ => rfl
  | 1, _ => rfl
  | 2, _ => show [(n : Int) - 2] = [(n : Int) - 4 + 2]; congr 1; omega
  | 3, _ => show [(n : Int) - 1] = [(n : Int) - 4 + 3]; congr 1; omega
theorem flat_code (a b n : Nat) : ∀ l : List Nat, (∀ c ∈ l, c < 4) → (l.map codeL).flatMap (letV a b n) = l.map (eC n)
  | [], _ => rfl
  | c :: l, h => by
    rw [List.map_cons, List.flatMap_cons, letV_code a b n c (h c (by simp)), flat_code a b n l (fun c hc => h c (by simp [hc]))]
    rfl
theorem ordV_is (v n : Nat) (hv : v < 16) (h1 : 1 ≤ v) : ordV v n = (preC v).map (eC n) ++ ((List.range (n - (sufV v).length - (preV v).length)).map (fun i => (((preV v).length + i : Nat) : Int)) ++ (sufC v).map (eC n)) := by
  obtain ⟨c1, c2⟩ := codes_lt v hv
  unfold ordV
  rw [isV_split v hv h1, List.flatMap_append, List.flatMap_cons, flat_code _ _ _ _ c1, flat_code _ _ _ _ c2]
  rfl
/-- Its i-th number. -/
def eV (v n i : Nat) : Int :=
  if i < (preC v).length then eC n ((preC v).getD i 0)
  else if i < (preC v).length + (n - (sufV v).length - (preV v).length) then (((preV v).length + (i - (preC v).length) : Nat) : Int)
  else eC n ((sufC v).getD (i - (preC v).length - (n - (sufV v).length - (preV v).length)) 0)
theorem ends_same : ∀ v, v < 16 → (preC v).length + (sufC v).length = (preV v).length + (sufV v).length := by decide
theorem ordV_length (v n : Nat) (hv : v < 16) (h1 : 1 ≤ v) (h : (preV v).length + (sufV v).length ≤ n) : (ordV v n).length = n := by
  have := ends_same v hv
  rw [ordV_is v n hv h1]
  simp only [List.length_append, List.length_map, List.length_range]
  omega
theorem ordV_get (v n i : Nat) (hv : v < 16) (h1 : 1 ≤ v) (h : (preV v).length + (sufV v).length ≤ n) (hi : i < n) : (ordV v n)[i]? = some (eV v n i) := by
  have he := ends_same v hv
  rw [ordV_is v n hv h1, List.getElem?_append, List.length_map]
  unfold eV
  by_cases g1 : i < (preC v).length
  · rw [if_pos g1, if_pos g1, List.getElem?_map, List.getElem?_eq_getElem g1, List.getD_eq_getElem?_getD, List.getElem?_eq_getElem g1]
    rfl
  rw [if_neg g1, if_neg g1, List.getElem?_append, List.length_map, List.length_range]
  by_cases g2 : i < (preC v).length + (n - (sufV v).length - (preV v).length)
  · rw [if_pos (by omega), if_pos g2, List.getElem?_map, List.getElem?_range (by omega)]
    rfl
  · rw [if_neg (by omega), if_neg g2]
    have g3 : i - (preC v).length - (n - (sufV v).length - (preV v).length) < (sufC v).length := by omega
    rw [List.getElem?_map, List.getElem?_eq_getElem g3, List.getD_eq_getElem?_getD, List.getElem?_eq_getElem g3]
    rfl
/-- What its numbers are like: below n, from 0 on; each once; those between one behind the other. -/
theorem getD1 (a j : Nat) : [a].getD j 0 = if j = 0 then a else 0 := by
  match j with
  | 0 => rfl
  | j + 1 => simp
theorem getD2 (a b j : Nat) : [a, b].getD j 0 = if j = 0 then a else if j = 1 then b else 0 := by
  match j with
  | 0 => rfl
  | 1 => rfl
  | j + 2 => simp
/-- All fifteen, one by one. -/
theorem verbs15 {P : Nat → Prop} (h1 : P 1) (h2 : P 2) (h3 : P 3) (h4 : P 4) (h5 : P 5) (h6 : P 6) (h7 : P 7) (h8 : P 8) (h9 : P 9) (h10 : P 10) (h11 : P 11) (h12 : P 12) (h13 : P 13) (h14 : P 14) (h15 : P 15) : ∀ v, 1 ≤ v → v < 16 → P v
  | 1, _, _ => h1 | 2, _, _ => h2 | 3, _, _ => h3 | 4, _, _ => h4 | 5, _, _ => h5 | 6, _, _ => h6 | 7, _, _ => h7 | 8, _, _ => h8 | 9, _, _ => h9 | 10, _, _ => h10 | 11, _, _ => h11 | 12, _, _ => h12 | 13, _, _ => h13 | 14, _, _ => h14 | 15, _, _ => h15
  | v + 16, _, h => absurd h (by omega)
theorem eV_in (v : Nat) (h1 : 1 ≤ v) (hv : v < 16) : ∀ n i, (preV v).length + (sufV v).length ≤ n → i < n → 0 ≤ eV v n i ∧ eV v n i < (n : Int) := by
  revert v
  apply verbs15 <;>
  · intro n i
    simp only [eV, preC, sufC, preV, sufV, vPre, vSuf, List.getD_cons_succ, List.getD_cons_zero, List.length_cons, List.length_nil, eC, getD1, getD2]
    intro h hi
    refine ⟨?_, ?_⟩
    · repeat' split
      all_goals omega
    · repeat' split
      all_goals omega
theorem eC_end (n c : Nat) (h : c < 4) : eC n c ≤ 1 ∨ (n : Int) - 2 ≤ eC n c := by
  unfold eC
  split <;> omega
theorem getD_lt {l : List Nat} (h : ∀ c ∈ l, c < 4) (j : Nat) : l.getD j 0 < 4 := by
  rw [List.getD_eq_getElem?_getD]
  cases hj : l[j]? with
  | none => decide
  | some c => exact h c (List.mem_of_getElem? hj)
theorem suf_two : ∀ v, v < 16 → (sufV v).length ≤ 2 := by decide
theorem eV_next (v : Nat) (h1 : 1 ≤ v) (hv : v < 16) (n i : Nat) (h : (preV v).length + (sufV v).length ≤ n) (g1 : 2 ≤ eV v n i) (g2 : eV v n i < (n : Int) - 3) : i + 1 < n ∧ eV v n (i + 1) = eV v n i + 1 := by
  obtain ⟨c1, c2⟩ := codes_lt v hv
  have he := ends_same v hv
  have hb := suf_two v hv
  by_cases k1 : i < (preC v).length
  · have : eV v n i = eC n ((preC v).getD i 0) := by unfold eV; rw [if_pos k1]
    have := eC_end n _ (getD_lt c1 i)
    omega
  by_cases k2 : i < (preC v).length + (n - (sufV v).length - (preV v).length)
  · have e1 : eV v n i = (((preV v).length + (i - (preC v).length) : Nat) : Int) := by unfold eV; rw [if_neg k1, if_pos k2]
    have k3 : i + 1 < (preC v).length + (n - (sufV v).length - (preV v).length) := by omega
    have e2 : eV v n (i + 1) = (((preV v).length + (i + 1 - (preC v).length) : Nat) : Int) := by unfold eV; rw [if_neg (by omega), if_pos k3]
    exact ⟨by omega, by omega⟩
  · have : eV v n i = eC n ((sufC v).getD (i - (preC v).length - (n - (sufV v).length - (preV v).length)) 0) := by unfold eV; rw [if_neg k1, if_neg k2]
    have := eC_end n _ (getD_lt c2 (i - (preC v).length - (n - (sufV v).length - (preV v).length)))
    omega
/-- The verb that undoes one. -/
def invV : Nat → Nat
  | 1 => 2 | 2 => 1 | 3 => 3 | 4 => 6 | 5 => 7 | 6 => 4 | 7 => 5 | 8 => 10 | 9 => 11 | 10 => 8 | 11 => 9 | 12 => 12 | 13 => 14 | 14 => 13 | 15 => 15 | _ => 0
set_option maxHeartbeats 1600000 in
theorem eV_back1 (n i : Nat) (h : (preV 1).length + (sufV 1).length ≤ n) (hi : i < n) : eV 2 n (eV 1 n i).toNat = i := by
  obtain ⟨z, hz⟩ : ∃ z, z = eV 1 n i := ⟨_, rfl⟩
  obtain ⟨y, hy⟩ : ∃ y, y = z.toNat := ⟨_, rfl⟩
  rw [← hz, ← hy]
  simp only [eV, preC, sufC, preV, sufV, vPre, vSuf, List.getD_cons_succ, List.getD_cons_zero, List.length_cons, List.length_nil, eC, getD1, getD2] at hz h ⊢
  repeat' split at hz
  all_goals (repeat' split) <;> omega
set_option maxHeartbeats 1600000 in
theorem eV_back2 (n i : Nat) (h : (preV 2).length + (sufV 2).length ≤ n) (hi : i < n) : eV 1 n (eV 2 n i).toNat = i := by
  obtain ⟨z, hz⟩ : ∃ z, z = eV 2 n i := ⟨_, rfl⟩
  obtain ⟨y, hy⟩ : ∃ y, y = z.toNat := ⟨_, rfl⟩
  rw [← hz, ← hy]
  simp only [eV, preC, sufC, preV, sufV, vPre, vSuf, List.getD_cons_succ, List.getD_cons_zero, List.length_cons, List.length_nil, eC, getD1, getD2] at hz h ⊢
  repeat' split at hz
  all_goals (repeat' split) <;> omega
set_option maxHeartbeats 1600000 in
theorem eV_back3 (n i : Nat) (h : (preV 3).length + (sufV 3).length ≤ n) (hi : i < n) : eV 3 n (eV 3 n i).toNat = i := by
  obtain ⟨z, hz⟩ : ∃ z, z = eV 3 n i := ⟨_, rfl⟩
  obtain ⟨y, hy⟩ : ∃ y, y = z.toNat := ⟨_, rfl⟩
  rw [← hz, ← hy]
  simp only [eV, preC, sufC, preV, sufV, vPre, vSuf, List.getD_cons_succ, List.getD_cons_zero, List.length_cons, List.length_nil, eC, getD1, getD2] at hz h ⊢
  repeat' split at hz
  all_goals (repeat' split) <;> omega
set_option maxHeartbeats 1600000 in
theorem eV_back4 (n i : Nat) (h : (preV 4).length + (sufV 4).length ≤ n) (hi : i < n) : eV 6 n (eV 4 n i).toNat = i := by
  obtain ⟨z, hz⟩ : ∃ z, z = eV 4 n i := ⟨_, rfl⟩
  obtain ⟨y, hy⟩ : ∃ y, y = z.toNat := ⟨_, rfl⟩
  rw [← hz, ← hy]
  simp only [eV, preC, sufC, preV, sufV, vPre, vSuf, List.getD_cons_succ, List.getD_cons_zero, List.length_cons, List.length_nil, eC, getD1, getD2] at hz h ⊢
  repeat' split at hz
  all_goals (repeat' split) <;> omega
set_option maxHeartbeats 1600000 in
theorem eV_back5 (n i : Nat) (h : (preV 5).length + (sufV 5).length ≤ n) (hi : i < n) : eV 7 n (eV 5 n i).toNat = i := by
  obtain ⟨z, hz⟩ : ∃ z, z = eV 5 n i := ⟨_, rfl⟩
  obtain ⟨y, hy⟩ : ∃ y, y = z.toNat := ⟨_, rfl⟩
  rw [← hz, ← hy]
  simp only [eV, preC, sufC, preV, sufV, vPre, vSuf, List.getD_cons_succ, List.getD_cons_zero, List.length_cons, List.length_nil, eC, getD1, getD2] at hz h ⊢
  repeat' split at hz
  all_goals (repeat' split) <;> omega
set_option maxHeartbeats 1600000 in
theorem eV_back6 (n i : Nat) (h : (preV 6).length + (sufV 6).length ≤ n) (hi : i < n) : eV 4 n (eV 6 n i).toNat = i := by
  obtain ⟨z, hz⟩ : ∃ z, z = eV 6 n i := ⟨_, rfl⟩
  obtain ⟨y, hy⟩ : ∃ y, y = z.toNat := ⟨_, rfl⟩
  rw [← hz, ← hy]
  simp only [eV, preC, sufC, preV, sufV, vPre, vSuf, List.getD_cons_succ, List.getD_cons_zero, List.length_cons, List.length_nil, eC, getD1, getD2] at hz h ⊢
  repeat' split at hz
  all_goals (repeat' split) <;> omega
set_option maxHeartbeats 1600000 in
theorem eV_back7 (n i : Nat) (h : (preV 7).length + (sufV 7).length ≤ n) (hi : i < n) : eV 5 n (eV 7 n i).toNat = i := by
  obtain ⟨z, hz⟩ : ∃ z, z = eV 7 n i := ⟨_, rfl⟩
  obtain ⟨y, hy⟩ : ∃ y, y = z.toNat := ⟨_, rfl⟩
  rw [← hz, ← hy]
  simp only [eV, preC, sufC, preV, sufV, vPre, vSuf, List.getD_cons_succ, List.getD_cons_zero, List.length_cons, List.length_nil, eC, getD1, getD2] at hz h ⊢
  repeat' split at hz
  all_goals (repeat' split) <;> omega
set_option maxHeartbeats 1600000 in
theorem eV_back8 (n i : Nat) (h : (preV 8).length + (sufV 8).length ≤ n) (hi : i < n) : eV 10 n (eV 8 n i).toNat = i := by
  obtain ⟨z, hz⟩ : ∃ z, z = eV 8 n i := ⟨_, rfl⟩
  obtain ⟨y, hy⟩ : ∃ y, y = z.toNat := ⟨_, rfl⟩
  rw [← hz, ← hy]
  simp only [eV, preC, sufC, preV, sufV, vPre, vSuf, List.getD_cons_succ, List.getD_cons_zero, List.length_cons, List.length_nil, eC, getD1, getD2] at hz h ⊢
  repeat' split at hz
  all_goals (repeat' split) <;> omega
set_option maxHeartbeats 1600000 in
theorem eV_back9 (n i : Nat) (h : (preV 9).length + (sufV 9).length ≤ n) (hi : i < n) : eV 11 n (eV 9 n i).toNat = i := by
  obtain ⟨z, hz⟩ : ∃ z, z = eV 9 n i := ⟨_, rfl⟩
  obtain ⟨y, hy⟩ : ∃ y, y = z.toNat := ⟨_, rfl⟩
  rw [← hz, ← hy]
  simp only [eV, preC, sufC, preV, sufV, vPre, vSuf, List.getD_cons_succ, List.getD_cons_zero, List.length_cons, List.length_nil, eC, getD1, getD2] at hz h ⊢
  repeat' split at hz
  all_goals (repeat' split) <;> omega
set_option maxHeartbeats 1600000 in
theorem eV_back10 (n i : Nat) (h : (preV 10).length + (sufV 10).length ≤ n) (hi : i < n) : eV 8 n (eV 10 n i).toNat = i := by
  obtain ⟨z, hz⟩ : ∃ z, z = eV 10 n i := ⟨_, rfl⟩
  obtain ⟨y, hy⟩ : ∃ y, y = z.toNat := ⟨_, rfl⟩
  rw [← hz, ← hy]
  simp only [eV, preC, sufC, preV, sufV, vPre, vSuf, List.getD_cons_succ, List.getD_cons_zero, List.length_cons, List.length_nil, eC, getD1, getD2] at hz h ⊢
  repeat' split at hz
  all_goals (repeat' split) <;> omega
set_option maxHeartbeats 1600000 in
theorem eV_back11 (n i : Nat) (h : (preV 11).length + (sufV 11).length ≤ n) (hi : i < n) : eV 9 n (eV 11 n i).toNat = i := by
  obtain ⟨z, hz⟩ : ∃ z, z = eV 11 n i := ⟨_, rfl⟩
  obtain ⟨y, hy⟩ : ∃ y, y = z.toNat := ⟨_, rfl⟩
  rw [← hz, ← hy]
  simp only [eV, preC, sufC, preV, sufV, vPre, vSuf, List.getD_cons_succ, List.getD_cons_zero, List.length_cons, List.length_nil, eC, getD1, getD2] at hz h ⊢
  repeat' split at hz
  all_goals (repeat' split) <;> omega
set_option maxHeartbeats 1600000 in
theorem eV_back12 (n i : Nat) (h : (preV 12).length + (sufV 12).length ≤ n) (hi : i < n) : eV 12 n (eV 12 n i).toNat = i := by
  obtain ⟨z, hz⟩ : ∃ z, z = eV 12 n i := ⟨_, rfl⟩
  obtain ⟨y, hy⟩ : ∃ y, y = z.toNat := ⟨_, rfl⟩
  rw [← hz, ← hy]
  simp only [eV, preC, sufC, preV, sufV, vPre, vSuf, List.getD_cons_succ, List.getD_cons_zero, List.length_cons, List.length_nil, eC, getD1, getD2] at hz h ⊢
  repeat' split at hz
  all_goals (repeat' split) <;> omega
set_option maxHeartbeats 1600000 in
theorem eV_back13 (n i : Nat) (h : (preV 13).length + (sufV 13).length ≤ n) (hi : i < n) : eV 14 n (eV 13 n i).toNat = i := by
  obtain ⟨z, hz⟩ : ∃ z, z = eV 13 n i := ⟨_, rfl⟩
  obtain ⟨y, hy⟩ : ∃ y, y = z.toNat := ⟨_, rfl⟩
  rw [← hz, ← hy]
  simp only [eV, preC, sufC, preV, sufV, vPre, vSuf, List.getD_cons_succ, List.getD_cons_zero, List.length_cons, List.length_nil, eC, getD1, getD2] at hz h ⊢
  repeat' split at hz
  all_goals (repeat' split) <;> omega
set_option maxHeartbeats 1600000 in
theorem eV_back14 (n i : Nat) (h : (preV 14).length + (sufV 14).length ≤ n) (hi : i < n) : eV 13 n (eV 14 n i).toNat = i := by
  obtain ⟨z, hz⟩ : ∃ z, z = eV 14 n i := ⟨_, rfl⟩
  obtain ⟨y, hy⟩ : ∃ y, y = z.toNat := ⟨_, rfl⟩
  rw [← hz, ← hy]
  simp only [eV, preC, sufC, preV, sufV, vPre, vSuf, List.getD_cons_succ, List.getD_cons_zero, List.length_cons, List.length_nil, eC, getD1, getD2] at hz h ⊢
  repeat' split at hz
  all_goals (repeat' split) <;> omega
set_option maxHeartbeats 1600000 in
theorem eV_back15 (n i : Nat) (h : (preV 15).length + (sufV 15).length ≤ n) (hi : i < n) : eV 15 n (eV 15 n i).toNat = i := by
  obtain ⟨z, hz⟩ : ∃ z, z = eV 15 n i := ⟨_, rfl⟩
  obtain ⟨y, hy⟩ : ∃ y, y = z.toNat := ⟨_, rfl⟩
  rw [← hz, ← hy]
  simp only [eV, preC, sufC, preV, sufV, vPre, vSuf, List.getD_cons_succ, List.getD_cons_zero, List.length_cons, List.length_nil, eC, getD1, getD2] at hz h ⊢
  repeat' split at hz
  all_goals (repeat' split) <;> omega
theorem eV_back (v : Nat) (h1 : 1 ≤ v) (hv : v < 16) : ∀ n i, (preV v).length + (sufV v).length ≤ n → i < n → eV (invV v) n (eV v n i).toNat = i :=
  verbs15 (P := fun v => ∀ n i, (preV v).length + (sufV v).length ≤ n → i < n → eV (invV v) n (eV v n i).toNat = i) eV_back1 eV_back2 eV_back3 eV_back4 eV_back5 eV_back6 eV_back7 eV_back8 eV_back9 eV_back10 eV_back11 eV_back12 eV_back13 eV_back14 eV_back15 v h1 hv
theorem eV_inj (v : Nat) (h1 : 1 ≤ v) (hv : v < 16) (n i j : Nat) (h : (preV v).length + (sufV v).length ≤ n) (hi : i < n) (hj : j < n) (e : eV v n j = eV v n i) : j = i := by
  have g1 := eV_back v h1 hv n i h hi
  have g2 := eV_back v h1 hv n j h hj
  rw [e, g1] at g2
  omega
end Go.Proofs.YtonogcbcjmdmhaaDoor
