
/- The walk of SeekPlace. Condition: as many steps as the slice says. -/
import Derived.Test.YthjnpfhcjacibaaSSpeak
import Derived.Test.YthjnpfhcjacibaaKeptE
import Derived.Test.YthjnpfhcjacibaaU16s
namespace Go.Proofs.Ythjnpfhcjacibaa
open Go.RowKit

theorem int_info : (Try.prog.info? 3).map (fun i => (i.zero, i.size, i.bytes)) = some (some (.int .i64 0), 1, 8) := by kernel_rfl
/-- The numbers that the law builds: each is above the one ahead by its step and one. -/
def stepsTo : Int → List Nat → List Int
  | _, [] => []
  | x, s :: ss => (x + (1 + s)) :: stepsTo (x + (1 + s)) ss
def lastOf : Int → List Nat → Int
  | x, [] => x
  | x, s :: ss => lastOf (x + (1 + s)) ss
theorem stepsTo_length (x : Int) (ss : List Nat) : (stepsTo x ss).length = ss.length := by
  induction ss generalizing x with
  | nil => rfl
  | cons s ss ih => simp [stepsTo, ih]
theorem stepsTo_snoc (x : Int) (ss : List Nat) (s : Nat) : stepsTo x (ss ++ [s]) = stepsTo x ss ++ [lastOf x ss + (1 + s)] ∧ lastOf x (ss ++ [s]) = lastOf x ss + (1 + s) := by
  induction ss generalizing x with
  | nil => exact ⟨rfl, rfl⟩
  | cons t ss ih =>
    have := ih (x + (1 + t))
    exact ⟨by simp [stepsTo, lastOf, this.1], by simp [lastOf, this.2]⟩
theorem lastOf_le (x : Int) (ss : List Nat) (h : ∀ s ∈ ss, s ≤ 65535) : x ≤ lastOf x ss ∧ lastOf x ss ≤ x + 65536 * ss.length := by
  induction ss generalizing x with
  | nil => simp [lastOf]
  | cons s ss ih =>
    have h1 := ih (x + (1 + s)) (fun t ht => h t (by simp [ht]))
    have h2 := h s (by simp)
    simp only [lastOf, List.length_cons]
    constructor <;> omega
theorem stepsTo_above (x : Int) (ss : List Nat) (i : Nat) (h : i < ss.length) : x < (stepsTo x ss).getD i 0 := by
  induction ss generalizing x i with
  | nil => simp at h
  | cons s ss ih =>
    cases i with
    | zero => simp [stepsTo]; omega
    | succ i =>
      have := ih (x + (1 + s)) i (by simpa using h)
      simp only [stepsTo, List.getD_cons_succ]; omega
theorem stepsTo_rises (x : Int) (ss : List Nat) (i j : Nat) (h : i < j) (hj : j < ss.length) : (stepsTo x ss).getD i 0 < (stepsTo x ss).getD j 0 := by
  induction ss generalizing x i j with
  | nil => simp at hj
  | cons s ss ih =>
    obtain ⟨k, rfl⟩ : ∃ k, j = k + 1 := ⟨j - 1, by omega⟩
    cases i with
    | zero =>
      simp only [stepsTo, List.getD_cons_succ, List.getD_cons_zero]
      exact stepsTo_above _ ss k (by simpa using hj)
    | succ i =>
      simp only [stepsTo, List.getD_cons_succ]
      exact ih _ i k (by omega) (by simpa using hj)
theorem intsV_snoc (zs : List Int) (z : Int) : intsV (zs ++ [z]) = intsV zs ++ [.int .i64 z] := by simp [intsV]
theorem take_next (ss : List Nat) (k : Nat) (h : k < ss.length) : ss.take (k + 1) = ss.take k ++ [ss.getD k 0] := by
  rw [List.take_succ_eq_append_getElem h, List.getD_eq_getElem?_getD, List.getElem?_eq_getElem h]; rfl
def StepRel (B : Nat) (ss : List Nat) (w : World) (l x i : Value) (wr : World) : Prop :=
  ∃ (k : Nat) (a' : Option Addr) (c' : Nat), k ≤ ss.length ∧ i = .int .i64 (k : Nat) ∧ x = .int .i64 (lastOf (-1099511627776) (ss.take k)) ∧ l = .slice a' k c' ∧ k ≤ c' ∧ c' ≤ maxLen ∧ (a' = none → c' = 0) ∧
    wr.ownsRow B 3 1 l k (intsV (stepsTo (-1099511627776) (ss.take k))) ∧ Below w.heap.size w wr
/-- Where a number stands among so many; -1: it doesn't. -/
def thereI (zs : List Int) (x : Int) : Nat → Int
  | 0 => -1
  | k + 1 => if zs.getD k 0 = x then (k : Int) else thereI zs x k
theorem thereI_lt (zs : List Int) (x : Int) (k : Nat) : -1 ≤ thereI zs x k ∧ thereI zs x k < k := by
  induction k with
  | zero => simp [thereI]
  | succ k ih => simp only [thereI]; split <;> omega
theorem thereI_is (zs : List Int) (x : Int) (k i : Nat) (hi : i < k) (hx : zs.getD i 0 = x) (hr : ∀ i j, i < j → j < k → zs.getD i 0 < zs.getD j 0) : thereI zs x k = i := by
  induction k with
  | zero => omega
  | succ k ih =>
    simp only [thereI]
    by_cases h : zs.getD k 0 = x
    · rw [if_pos h]
      rcases Nat.lt_or_ge i k with g | g
      · have := hr i k g (by omega); omega
      · omega
    · rw [if_neg h]
      have : i < k := by
        rcases Nat.lt_or_ge i k with g | g
        · exact g
        · obtain rfl : i = k := by omega
          exact absurd hx h
      exact ih this (fun i j h1 h2 => hr i j h1 (by omega))
theorem thereI_no (zs : List Int) (x : Int) (k : Nat) (h : ∀ i, i < k → zs.getD i 0 ≠ x) : thereI zs x k = -1 := by
  induction k with
  | zero => rfl
  | succ k ih =>
    simp only [thereI]
    rw [if_neg (h k (by omega)), ih (fun i hi => h i (by omega))]
def SeenRel (zs : List Int) (x : Int) (n : Nat) (w : World) (t i : Value) (wr : World) : Prop :=
  ∃ k : Nat, k ≤ n ∧ i = .int .i64 (k : Nat) ∧ t = .int .i64 (thereI zs x k) ∧ Below w.heap.size w wr

end Go.Proofs.Ythjnpfhcjacibaa
