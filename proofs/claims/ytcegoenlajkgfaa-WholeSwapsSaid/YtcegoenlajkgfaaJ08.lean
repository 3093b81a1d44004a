/- Joined from: MSt MFill MGet MRefR MSpeak MPlan MRefG MRefT MRefC. -/
import Derived.Test.YtcegoenlajkgfaaJ01
import Derived.Test.YtcegoenlajkgfaaJ03
import Derived.Test.YtcegoenlajkgfaaJ05
import Derived.Test.YtcegoenlajkgfaaJ07
import Derived.Lib.AppendZeros
import Derived.ChangeSame
section

/- state.entry: an entry of a view, its words by how many there are. Conditions: as many bytes as the slice says, as many as an entry has. What a machine is, by its bytes: its classes, where its states and entries stand, how many there are. Conditions: as the lemmas say. A machine in memory while it is filled: its states' rows, its entries. Conditions: as the lemmas say. -/
namespace Go.Proofs.Ytcegoenlajkgfaa
open Go.RowKit Go.Lib

theorem info_u16m : (Try.prog.info? 63).map (fun i => (i.zero, i.size, i.bytes)) = some (some (.int .u16 0), 1, 2) := by kernel_rfl
end Go.Proofs.Ytcegoenlajkgfaa
end
section

/- A class of worlds: all blocks that aren't a call's own are as they were, by their numbers and types. No condition of its own. The contract of (*state.Machine).addEntries. Conditions: as many bytes as the slice says; a machine that is being filled. The contract of (*state.Machine).addStates. Conditions: as many bytes as the slice says; a machine that is being filled. The contract of (*state.Machine).fill. Conditions: as many bytes as the slices say; a machine without states. -/
namespace Go.Proofs.Ytcegoenlajkgfaa
open Go.RowKit

open Go.RowKit Go.Lib

end Go.Proofs.Ytcegoenlajkgfaa
end
section

/- The contract of state.Take. Conditions: as many bytes as the slice says; glyphs from 1 to 65535, words from 0 to 2. The contract of state.Read. Conditions: as many bytes as the slice says. The contracts of a machine's calls: Classes, States, Entries, Step, Class. Conditions: a machine in memory, as its bytes tell it. -/
namespace Go.Proofs.Ytcegoenlajkgfaa
open Go.RowKit Go.Lib

theorem TabIs.monoM {B B' g fmt : Nat} {ps : List PartL} {ns : List Nat} {w : World} (h : TabIs B g fmt ps ns w) (hB : B' ≤ B) : TabIs B' g fmt ps ns w := by
  obtain ⟨ap, cp, an, cn, h0, h1, h2⟩ := h.is
  exact ⟨ap, cp, an, cn, h0, owns_mono h1 hB, owns_mono h2 hB⟩
end Go.Proofs.Ytcegoenlajkgfaa
end
section

/- The contract of the reference's needs of layer 7. Conditions: as many bytes as the slice says, no more than 4000; all numbers there. The contract of the reference's Read of layer 7. Conditions: as many bytes as the slice says, no more than 4000; glyphs from 1 to 65535, words from 0 to 2. -/
namespace Go.Proofs.Ytcegoenlajkgfaa
open Go.RowKit Go.Lib

end Go.Proofs.Ytcegoenlajkgfaa
end
section

/- The contract of the reference's Entry of layer 7. Conditions: as many bytes as the slice says, no more than 4000; the entry is there. The contract of the reference's Step of layer 7. Conditions: as many bytes as the slice says, no more than 4000; the entries are there. The contract of same: a machine in memory against the reference's. Conditions: both tell the same numbers. The contract of Write of layer 7: a plan's bytes. Conditions: a plan in memory; no more than a thousand classes, rows and entries. swashlaw07.speaks returns true: two states, one entry. No condition. -/
namespace Go.Proofs.Ytcegoenlajkgfaa
open Go.RowKit Go.Lib

/-- Put with its numbers as the text spells them. -/
theorem put_zz (base : Nat) (a : Option Addr) (n c v size m : Nat) (z y : Int) (hz : z = (v : Nat)) (hy : y = (size : Nat)) (hm : n + size = m) (xs : List UInt8) (w : World) (hown : w.ownsRow base 5 1 (.slice a n c) n (bytesV xs)) (hbase : base ≤ w.heap.size) (hv : v < 9223372036854775808) (hn : n ≤ 1000000000) (hs : size ≤ 8) :
    Calls Try.prog 39 #[.slice a n c, .int .i64 z, .int .i64 y] w fun e w' => ∃ a' c', e = .returned (.slice a' m c') ∧ w'.ownsRow base 5 1 (.slice a' m c') m (bytesV (xs ++ beN size v)) ∧ m ≤ c' ∧ c' ≤ maxLen ∧ (a' = none → c' = 0) ∧ Below base w w' ∧ Kept w w' := by
  subst hz hy hm
  refine (put_any base a n c v size xs w hown hbase hv hn hs).mono ?_
  rintro e w' ⟨a', c', h1, h2, h3, h4, h5, h6, h7⟩
  exact ⟨a', c', h1, h2, h3, h4, h5, h6, h7⟩
/-- A row of bytes of the call's own, as a slot. -/
def BRow (B : Nat) (xs : List UInt8) (v : Value) (wr : World) : Prop := ∃ (a' : Option Addr) (c' : Nat), v = .slice a' xs.length c' ∧ wr.ownsRow B 5 1 (.slice a' xs.length c') xs.length (bytesV xs) ∧ xs.length ≤ c' ∧ c' ≤ maxLen ∧ (a' = none → c' = 0)
theorem BRow.nil (B : Nat) (w : World) : BRow B [] (.slice none 0 0) w := ⟨none, 0, rfl, World.ownsRow_nil _ _ _ _, Nat.le_refl _, Nat.zero_le _, fun _ => rfl⟩
theorem put_row (B v size : Nat) (z y : Int) (hz : z = (v : Nat)) (hy : y = (size : Nat)) (xs : List UInt8) (s : Value) (w : World) (h : BRow B xs s w) (hB : B ≤ w.heap.size) (hv : v < 9223372036854775808) (hn : xs.length ≤ 1000000000) (hs : size ≤ 8) :
    Calls Try.prog 39 #[s, .int .i64 z, .int .i64 y] w fun e w' => ∃ s', e = .returned s' ∧ BRow B (xs ++ beN size v) s' w' ∧ Below B w w' ∧ Kept w w' := by
  obtain ⟨a, c, rfl, h2, h3, h4, h5⟩ := h
  refine (put_zz B a xs.length c v size (xs ++ beN size v).length z y hz hy (by rw [List.length_append, beN_length]) xs w h2 hB hv hn hs).mono ?_
  rintro e w' ⟨a', c', rfl, g2, g3, g4, g5, g6, g7⟩
  exact ⟨_, rfl, ⟨a', c', rfl, g2, g3, g4, g5⟩, g6, g7⟩
end Go.Proofs.Ytcegoenlajkgfaa
end
section

/- What an argument that is a plan is; the contract of small; numbers of a plan's bytes. Conditions: as each says. -/
namespace Go.Proofs.Ytcegoenlajkgfaa
section
open Go.ChangeShapes Go.WideShapes Go.ChangeAt Go.RowKit
variable {H : Type} {enc : TypeId × Value → H}
end

open Go.RowKit Go.Lib
theorem numR (X Y : List UInt8) (m k s : Nat) (h : m = X.length + k) : num (X ++ Y) m s = num Y k s := by
  rw [h, ← num_dropS, List.drop_left]
theorem numL (X Y : List UInt8) (k s : Nat) (h : k + s ≤ X.length) : num (X ++ Y) k s = num X k s := by
  have := num_takeS (X ++ Y) X.length k s h
  rw [List.take_left] at this
  exact this.symm
theorem numB2 (z : Nat) (Z : List UInt8) (h : z ≤ 65535) : num (beN 2 z ++ Z) 0 2 = z := by
  rw [numL _ _ _ _ (by simp [beN_length])]
  simp [beN, num2, UInt8.toNat_ofNat']
  omega
end Go.Proofs.Ytcegoenlajkgfaa
end
section

/- The document's answer of a lookup's parts, as a function, and that it is the table's. Conditions: as each says. -/
namespace Go.Proofs.Ytcegoenlajkgfaa
open Go.RowKit Go.Lib

def inR (id : Int) (r : RP) : Bool := decide ((r.first : Int) ≤ id) && decide (id ≤ (r.last : Int))
/-- The first part that holds a glyph tells its number. -/
def refG (bs : List UInt8) (rs : List RP) (id : Int) : Nat × Bool := match rs.find? (inR id) with
  | some r => (num bs (r.at_ + (if r.own = true then r.size else 0) * (id - r.first).toNat) r.size, true)
  | none => (0, false)
theorem numsA_get (bs : List UInt8) (S k i : Nat) (h : i < k) : (numsA bs S k).getD i 0 = num bs (i * S) S := by
  simp [numsA, List.getD_eq_getElem?_getD, h]
theorem refG_tab (bs : List UInt8) (rs : List RP) (h : okR bs rs) (hr : ∀ r ∈ rs, r.last ≤ 70000 ∧ (r.size = 1 ∨ r.size = 2 ∨ r.size = 4)) (id : Int) : ∀ k, k ≤ rs.length → getL (tabR bs (rs.take k)).1 (tabR bs (rs.take k)).2 id = refG bs (rs.take k) id ∧ ((tabR bs (rs.take k)).1.find? (inP id) = none ↔ (rs.take k).find? (inR id) = none)
  | 0, _ => by rw [List.take_zero]; exact ⟨rfl, by simp [tabR]⟩
  | k + 1, hk => by
    have hx := List.getElem?_eq_getElem (show k < rs.length by omega)
    obtain ⟨ih1, ih2⟩ := refG_tab bs rs h hr id k (by omega)
    have hinv := invR_take bs rs h hr k (by omega)
    rw [tabR_take_succ hx, List.take_add_one, hx]
    generalize tabR bs (rs.take k) = s at *
    generalize rs.take k = l at *
    generalize rs[k] = r at *
    obtain ⟨ps, ns⟩ := s
    simp only [stepR, Option.toList]
    have hpr : inP id ⟨r.first, r.last, ns.length, if r.own = true then 1 else 0⟩ = inR id r := rfl
    cases hf : ps.find? (inP id) with
    | some p =>
      have hl : l.find? (inR id) ≠ none := fun hn => by
        have := ih2.2 hn
        simp only at this
        rw [hf] at this
        cases this
      obtain ⟨q, hq⟩ := Option.ne_none_iff_exists'.1 hl
      have hok := hinv.ok p (List.mem_of_find?_eq_some hf)
      have hin := List.find?_some hf
      simp only [inP, Bool.and_eq_true, decide_eq_true_eq] at hin
      have hlt : p.at_ + p.step * (id - p.first).toNat < ns.length := by
        obtain ⟨h1, h2, _⟩ := hok
        simp only at h2
        rcases h1 with h1 | h1 <;> rw [h1] at h2 ⊢ <;> omega
      constructor
      · unfold getL refG at ih1 ⊢
        simp only [List.find?_append, hf, hq, Option.some_or] at ih1 ⊢
        rw [← ih1, List.getD_eq_getElem?_getD, List.getElem?_append_left hlt, List.getD_eq_getElem?_getD]
      · simp [List.find?_append, hf, hq]
    | none =>
      have hl := ih2.1 hf
      constructor
      · unfold getL refG
        simp only [List.find?_append, hf, hl, Option.none_or, List.find?_cons, hpr]
        cases hi : inR id r with
        | false => rfl
        | true =>
          simp only [inR, Bool.and_eq_true, decide_eq_true_eq] at hi
          simp only
          congr 1
          cases ho : r.own with
          | true =>
            have hlt : (id - (r.first : Int)).toNat < r.last - r.first + 1 := by omega
            simp only [numsR, ho, if_true, Nat.one_mul]
            rw [List.getD_eq_getElem?_getD, List.getElem?_append_right (by omega), Nat.add_sub_cancel_left, ← List.getD_eq_getElem?_getD, numsA_get _ _ _ _ hlt, num_dropS, Nat.mul_comm]
          | false =>
            simp only [numsR, ho, Bool.false_eq_true, if_false, Nat.zero_mul, Nat.add_zero]
            rw [List.getD_eq_getElem?_getD, List.getElem?_append_right (by omega), Nat.sub_self]
            rfl
      · simp only [List.find?_append, hf, hl, Option.none_or, List.find?_cons, hpr]
        cases inR id r <;> simp
end Go.Proofs.Ytcegoenlajkgfaa
end
section

/- The document's Get of a lookup. Conditions: as each says. -/
namespace Go.Proofs.Ytcegoenlajkgfaa
open Go.RowKit Go.Lib

end Go.Proofs.Ytcegoenlajkgfaa
end
section

/- The document's Class and Step of a machine, as it is read of bytes. Conditions: as each says. -/
namespace Go.Proofs.Ytcegoenlajkgfaa
open Go.RowKit Go.Lib

end Go.Proofs.Ytcegoenlajkgfaa
end
