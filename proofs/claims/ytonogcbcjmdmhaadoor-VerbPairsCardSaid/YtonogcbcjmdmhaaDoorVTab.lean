
/- The table of verbs as it lies in memory, and the order that a verb gives. No condition. -/
import Derived.Test.YtonogcbcjmdmhaaDoorVCut
import Derived.Test.YtonogcbcjmdmhaaDoorVRow
namespace Go.Proofs.YtonogcbcjmdmhaaDoor
open Go.RowKit Go.Lib

def vPre : List (List UInt8) := [[], [65], [], [65], [65, 66], [65, 66], [], [], [65], [65], [65, 66], [65, 66], [65, 66], [65, 66], [65, 66], [65, 66]]
def vSuf : List (List UInt8) := [[], [], [68], [68], [], [], [67, 68], [67, 68], [67, 68], [67, 68], [68], [68], [67, 68], [67, 68], [67, 68], [67, 68]]
def vIs : List (List UInt8) := [[], [120, 65], [68, 120], [68, 120, 65], [120, 65, 66], [120, 66, 65], [67, 68, 120], [68, 67, 120], [67, 68, 120, 65], [68, 67, 120, 65], [68, 120, 65, 66], [68, 120, 66, 65], [67, 68, 120, 65, 66], [67, 68, 120, 66, 65], [68, 67, 120, 65, 66], [68, 67, 120, 66, 65]]
def preV (v : Nat) : List UInt8 := vPre.getD v []
def sufV (v : Nat) : List UInt8 := vSuf.getD v []
def isV (v : Nat) : List UInt8 := vIs.getD v []
def wasV (v : Nat) : List UInt8 := if v = 0 then [] else preV v ++ 120 :: sufV v
/-- The table of verbs lies in memory. -/
structure VerbsIn (w : World) : Prop where
  was : ∀ k, k < 16 → w.cell? ⟨0, k * 2, none⟩ = some (.string (str (wasV k)))
  is : ∀ k, k < 16 → w.cell? ⟨0, k * 2 + 1, none⟩ = some (.string (str (isV k)))
theorem VerbsIn.lt {w : World} (h : VerbsIn w) : 0 < w.heap.size := cell_lt (h.was 0 (by decide))
theorem VerbsIn.below {w w' : World} (h : VerbsIn w) (hb : Below w.heap.size w w') : VerbsIn w' :=
  ⟨fun k hk => (hb.cell (p := ⟨0, k * 2, none⟩) h.lt).trans (h.was k hk), fun k hk => (hb.cell (p := ⟨0, k * 2 + 1, none⟩) h.lt).trans (h.is k hk)⟩

def lettersAll : List UInt8 := [65, 66, 67, 68, 120]
theorem isV_letters : ∀ v, v < 16 → ∀ c ∈ isV v, c ∈ lettersAll := by decide
theorem isV_len : ∀ v, v < 16 → (isV v).length ≤ 5 := by decide
theorem preV_x : ∀ v, v < 16 → ∀ b ∈ preV v, b ≠ 120 := by decide
theorem ends_len : ∀ v, v < 16 → (preV v).length + (sufV v).length ≤ 4 := by decide
/-- What a letter stands for. -/
def letV (a b n : Nat) (c : UInt8) : List Int :=
  if c = 65 then [0] else if c = 66 then [1] else if c = 67 then [(n : Int) - 2] else if c = 68 then [(n : Int) - 1] else (List.range (n - b - a)).map fun i => ((a + i : Nat) : Int)
theorem letV_len (a b n : Nat) (c : UInt8) : (letV a b n c).length ≤ n + 1 := by
  unfold letV
  split
  · simp
  split
  · simp
  split
  · simp
  split
  · simp
  simp
  omega
/-- The order that a verb gives. -/
def ordV (v n : Nat) : List Int := (isV v).flatMap (letV (preV v).length (sufV v).length n)
/-- The letters up to the j-th. -/
def ordP (v n j : Nat) : List Int := ((isV v).take j).flatMap (letV (preV v).length (sufV v).length n)
theorem ordP_zero (v n : Nat) : ordP v n 0 = [] := rfl
theorem ordP_succ (v n j : Nat) (c : UInt8) (h : (isV v)[j]? = some c) : ordP v n (j + 1) = ordP v n j ++ letV (preV v).length (sufV v).length n c := by
  unfold ordP
  rw [List.take_add_one, h, List.flatMap_append]
  simp
theorem ordP_all (v n j : Nat) (h : (isV v).length ≤ j) : ordP v n j = ordV v n := by unfold ordP ordV; rw [List.take_of_length_le h]
theorem ordP_len (v n : Nat) : ∀ j, (ordP v n j).length ≤ j * (n + 1)
  | 0 => by simp [ordP_zero]
  | j + 1 => by
    have ih := ordP_len v n j
    rw [Nat.succ_mul]
    cases h : (isV v)[j]? with
    | none => rw [show ordP v n (j + 1) = ordP v n j by unfold ordP; rw [List.take_add_one, h]; simp]; omega
    | some c =>
      rw [ordP_succ v n j c h, List.length_append]
      have := letV_len (preV v).length (sufV v).length n c
      omega
/-- Is there an order? -/
def okV (z zn : Int) : Prop := 1 ≤ z ∧ z < 16 ∧ ((preV z.toNat).length : Int) + ((sufV z.toNat).length : Int) ≤ zn
instance (z zn : Int) : Decidable (okV z zn) := inferInstanceAs (Decidable (_ ∧ _ ∧ _))
def OrdIs (B : Nat) (z zn : Int) (w : World) (e : Ending) (w' : World) : Prop :=
  (okV z zn ∧ ∃ v, e = .returned (.tuple #[v, .bool true]) ∧ IRow B (ordV z.toNat zn.toNat) v w' ∧ Below w.heap.size w w') ∨ (¬ okV z zn ∧ e = .returned (.tuple #[.slice none 0 0, .bool false]) ∧ Below w.heap.size w w')
end Go.Proofs.YtonogcbcjmdmhaaDoor
