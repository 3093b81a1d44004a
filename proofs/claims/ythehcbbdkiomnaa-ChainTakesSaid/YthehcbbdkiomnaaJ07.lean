/- Joined from: MakeO MSt MFill MGet MRefR. -/
import Derived.Test.YthehcbbdkiomnaaJ01
import Derived.Test.YthehcbbdkiomnaaJ04
import Derived.Test.YthehcbbdkiomnaaJ06
section

/- make as one operation of a region of open order. No condition of its own. -/
namespace Go.Proofs.Ythehcbbdkiomnaa
open Go.RowKit Go.Lib

theorem wpMakeO {P : Program} {w : World} {o : Oper} {a : Act} {K : Act → World → Prop} {Q : Exit → Act → World → Prop} (l c : Operand) (t : TypeId) (hop : o.op = Op.makeSlice t l c)
    (base : Nat) (e : TypeId) (z : Value) (size bytes : Nat) (h1 : P.underlying t = some (.slice e)) (hi : (P.info? e).map (fun i => (i.zero, i.size, i.bytes)) = some (some z, size, bytes))
    (n : Nat) (hl : a.eval l = .int .i64 (n : Int)) (hc : a.eval c = .int .i64 (n : Int)) (b2 : bytes * n ≤ 281474976710656) (b3 : n ≤ maxLen) (b4 : base ≤ w.heap.size)
    (hK : ∀ w', w'.ownsRow base e size (.slice (some ⟨w.heap.size, 0, none⟩) n n) n (madeCells z.cells (n * size)).toList → Below w.heap.size w w' → K (a.put o.dst (.slice (some ⟨w.heap.size, 0, none⟩) n n)) w') : o.wp P a w K Q := by
  obtain ⟨i, hi', hz, hz1, hz2⟩ := info_parts hi
  subst hz2
  obtain ⟨w', hrun, r1, r2⟩ := run_make_full (P := P) w base t e i z size h1 hi' hz hz1 .i64 .i64 n b2 b3 b4
  unfold Oper.wp
  simp [execOp, hop, hl, hc, hrun, Result.andThen]
  exact hK _ r1 ((Below.refl _ w).grown r2 (Nat.le_refl _) (fun k hk => by cases hk))
end Go.Proofs.Ythehcbbdkiomnaa
end
section

/- state.entry: an entry of a view, its words by how many there are. Conditions: as many bytes as the slice says, as many as an entry has. What a machine is, by its bytes: its classes, where its states and entries stand, how many there are. Conditions: as the lemmas say. A machine in memory while it is filled: its states' rows, its entries. Conditions: as the lemmas say. -/
namespace Go.Proofs.Ythehcbbdkiomnaa
open Go.RowKit Go.Lib

end Go.Proofs.Ythehcbbdkiomnaa
end
section

/- A class of worlds: all blocks that aren't a call's own are as they were, by their numbers and types. No condition of its own. The contract of (*state.Machine).addEntries. Conditions: as many bytes as the slice says; a machine that is being filled. The contract of (*state.Machine).addStates. Conditions: as many bytes as the slice says; a machine that is being filled. The contract of (*state.Machine).fill. Conditions: as many bytes as the slices say; a machine without states. -/
namespace Go.Proofs.Ythehcbbdkiomnaa
open Go.RowKit

open Go.RowKit Go.Lib

end Go.Proofs.Ythehcbbdkiomnaa
end
section

/- The contract of state.Take. Conditions: as many bytes as the slice says; glyphs from 1 to 65535, words from 0 to 2. The contract of state.Read. Conditions: as many bytes as the slice says. The contracts of a machine's calls: Classes, States, Entries, Step, Class. Conditions: a machine in memory, as its bytes tell it. -/
namespace Go.Proofs.Ythehcbbdkiomnaa
open Go.RowKit Go.Lib

end Go.Proofs.Ythehcbbdkiomnaa
end
section

/- The contract of the reference's needs of layer 7. Conditions: as many bytes as the slice says, no more than 4000; all numbers there. The contract of the reference's Read of layer 7. Conditions: as many bytes as the slice says, no more than 4000; glyphs from 1 to 65535, words from 0 to 2. -/
namespace Go.Proofs.Ythehcbbdkiomnaa
open Go.RowKit Go.Lib

theorem fitK_iff {n P s z : Nat} (hP : P ≤ n) (hz : 0 < z) : fitK n 2 (P : Int) (s : Int) (z : Int) ↔ s * z ≤ n - P := by
  simp only [fitK, Int.toNat_natCast]
  rw [← Nat.le_div_iff_mul_le hz]
  constructor
  · rintro ⟨_, _, _, _, h | h⟩
    · omega
    · exact h
  · intro h
    exact ⟨by omega, by omega, by omega, by omega, .inr h⟩
end Go.Proofs.Ythehcbbdkiomnaa
end
