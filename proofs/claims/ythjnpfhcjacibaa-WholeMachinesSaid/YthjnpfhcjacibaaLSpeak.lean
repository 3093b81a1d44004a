
/- What a table answers, as a function; lookup.Read where a lookup is told of, and where none is; the call speaks. Conditions: as the lemmas say. -/
import Derived.Test.YthjnpfhcjacibaaLMost
namespace Go.Proofs.Ythjnpfhcjacibaa
open Go.RowKit Go.Lib

def inP (id : Int) (p : PartL) : Bool := decide ((p.first : Int) ≤ id) && decide (id ≤ (p.last : Int))
/-- A glyph's number, and whether it has one. -/
def getL (ps : List PartL) (ns : List Nat) (id : Int) : Nat × Bool := match ps.find? (inP id) with
  | some p => (ns.getD (p.at_ + p.step * (id - p.first).toNat) 0, true)
  | none => (0, false)
theorem getL_in {ps : List PartL} {ns : List Nat} {id : Int} {p : PartL} (hr : Rising ps) (hp : p ∈ ps) (h1 : (p.first : Int) ≤ id) (h2 : id ≤ (p.last : Int)) : getL ps ns id = (ns.getD (p.at_ + p.step * (id - p.first).toNat) 0, true) := by
  have hin : inP id p = true := by simp [inP, h1, h2]
  have : ps.find? (inP id) = some p := by
    obtain ⟨q, hq⟩ : ∃ q, ps.find? (inP id) = some q := by
      cases hf : ps.find? (inP id) with
      | none => have := List.find?_eq_none.1 hf p hp; rw [hin] at this; simp at this
      | some q => exact ⟨q, rfl⟩
    rw [hq]
    have hqm := List.mem_of_find?_eq_some hq
    have hqi := List.find?_some hq
    simp only [inP, Bool.and_eq_true, decide_eq_true_eq] at hqi
    obtain ⟨i, hi, rfl⟩ := List.getElem_of_mem hqm
    obtain ⟨j, hj, rfl⟩ := List.getElem_of_mem hp
    rcases Nat.lt_trichotomy i j with hc | hc | hc
    · have := List.pairwise_iff_getElem.1 hr.1 i j hi hj hc
      omega
    · subst hc; rfl
    · have := List.pairwise_iff_getElem.1 hr.1 j i hj hi hc
      omega
  unfold getL
  rw [this]
theorem getL_out {ps : List PartL} {ns : List Nat} {id : Int} (h : ∀ p ∈ ps, ¬ ((p.first : Int) ≤ id ∧ id ≤ (p.last : Int))) : getL ps ns id = (0, false) := by
  have : ps.find? (inP id) = none := List.find?_eq_none.2 fun p hp => by simpa [inP] using h p hp
  unfold getL
  rw [this]
theorem getL_le {ps : List PartL} {ns : List Nat} {id : Int} (hn : ∀ x ∈ ns, x ≤ 4294967295) : (getL ps ns id).1 ≤ 4294967295 := by
  unfold getL
  split
  · rename_i p _
    show ns.getD _ 0 ≤ _
    rw [List.getD_eq_getElem?_getD]
    cases hx : ns[p.at_ + p.step * (id - p.first).toNat]? with
    | none => simp
    | some v => simpa using hn v (List.mem_of_getElem? hx)
  · exact Nat.zero_le _
theorem get_fn (B g fmt : Nat) (ps : List PartL) (ns : List Nat) (id : Int) (w : World) (h : TabIs B g fmt ps ns w) (hf : FitL ps ns) (hid : -9223372036854775808 ≤ id ∧ id ≤ 9223372036854775807) :
    Calls Try.prog 16 #[.pointer (some ⟨g, 0, none⟩), .int .i64 id] w fun e w' => e = .returned (.tuple #[.int .i64 ((getL ps ns id).1 : Nat), .bool (getL ps ns id).2]) ∧ Below w.heap.size w w' := by
  refine (get_any B g fmt ps ns id w h hf hid).mono ?_
  rintro e w' ⟨(⟨p, hp, h1, h2, he⟩ | ⟨hno, he⟩), hb⟩
  · rw [getL_in hf.rising hp h1 h2]; exact ⟨he, hb⟩
  · rw [getL_out hno]; exact ⟨he, hb⟩
def bytes8 : List UInt8 := [0, 8, 0, 5, 0, 2, 0, 7, 0, 9]
theorem lk8 : LkOk bytes8 10 2 (rowsT 5 2 6 2) := by
  refine ⟨.eight (by decide) (by decide) (by decide), ?_⟩
  exact (ok_rowsT _ _ _ _ _ (by decide)).2 (by decide)
theorem tab8 : (tabR bytes8 (rowsT 5 2 6 2)).1 = [⟨5, 6, 0, 1⟩] ∧ (tabR bytes8 (rowsT 5 2 6 2)).2 = [7, 9] := by
  obtain ⟨h1, h2⟩ := tab_rowsT bytes8 5 2 6 2
  rw [h1, h2]
  exact ⟨rfl, by decide⟩
theorem bytes8V : bytesV bytes8 = [.int .u8 0, .int .u8 8, .int .u8 0, .int .u8 5, .int .u8 0, .int .u8 2, .int .u8 0, .int .u8 7, .int .u8 0, .int .u8 9] := rfl
end Go.Proofs.Ythjnpfhcjacibaa
