/- Joined from: Zeros BHasT. -/
import Derived.Test.YtaladlaffglkeaaJ01
import Derived.Lib.AppendStr
section

/- 'append' of so many noughts does what 'append' of a string of noughts does. Condition: sizes. -/
namespace Go.Proofs.Ytaladlaffglkeaa
open Go.RowKit

theorem run_zeros {P : Program} (w : World) (t tn u ty e : TypeId) (i : TypeInfo) (ht : P.underlying t = some (.slice e)) (htn : P.underlying tn = some (.int .i64)) (hu : P.underlying u = some .string) (hi : P.info? e = some i) (hz : i.zero = some (.int .u8 0)) (hs1 : i.size = 1) (hby : i.bytes = 1)
    (base : Option Addr) (n c k : Nat) (hb : n + k ≤ 140737488355328) :
    (Builtin.append_ #[t, tn] ty #[.slice base n c, .int .i64 k]).run P w = (Builtin.append_ #[t, u] ty #[.slice base n c, .string (str (List.replicate k 0))]).run P w := by
  have hsz : (str (List.replicate k 0)).size = k := by simp [str, ByteArray.size]
  have hsc : Lib.strCells (str (List.replicate k 0)) = List.replicate k (Value.int .u8 0) := by simp [Lib.strCells, str]
  have hf : ∀ w, (Builtin.firstCells 1 k (.string (str (List.replicate k 0)))).run P w = .ok (List.replicate k (Value.int .u8 0)).toArray w := fun w => by
    have := Lib.run_firstCells_string (P := P) w 1 (str (List.replicate k 0))
    rw [hsz, hsc] at this
    exact this
  clear hsc
  generalize str (List.replicate k 0) = s at *
  have h3' : ¬ (9223372036854775807 < (n : Int)) := by omega
  have hw : IntKind.i64.wrap (k : Int) = k := by rw [IntKind.wrap_i64]; omega
  have h1 : ¬ ((k : Int) < 0) := by omega
  have h2 : ¬ (281474976710656 < (k : Int)) := by omega
  have h3 : ¬ (9223372036854775807 < ((n : Int) + (k : Int))) := by omega
  have h5 : Builtin.zeroCells (Value.int .u8 0).cells k = (List.replicate k (Value.int .u8 0)).toArray := by
    apply Array.ext'
    have e : (Value.int .u8 0).cells = #[Value.int .u8 0] := rfl
    rw [e]
    simp only [Builtin.zeroCells, Nat.mul_one, List.size_toArray, List.length_cons, List.length_nil, Nat.zero_add, Nat.mod_one]
    apply List.ext_getElem <;> simp
  have hw0 : IntKind.i64.wrap 0 = 0 := by rw [IntKind.wrap_i64]; omega
  have hfit : ¬ (n + k ≤ c) → ¬ (281474976710656 < Builtin.nextslicecap (n + k) c) := fun h => by
    have := growslice_fits (need := n + k) (old := c) (bytes := 1) (by omega) (by omega)
    omega
  by_cases hroom : n + k ≤ c
  · by_cases hk : k = 0
    · subst hk
      simp only [Nat.add_zero] at hroom
      simp [Builtin.append_, run_underlying ht, run_underlying htn, run_underlying hu, sizeOf, typeInfo, zeroValue, hi, hz, hs1, hby, Builtin.lenOf, asInt, asIntOf, hsz, hf, h3', hw0, hroom]
    · simp [Builtin.append_, run_underlying ht, run_underlying htn, run_underlying hu, sizeOf, typeInfo, zeroValue, hi, hz, hs1, hby, Builtin.lenOf, asInt, asIntOf, hw, h1, h2, h3, h5, hsz, hf, hk, hroom]
  · have hfit' := hfit hroom
    by_cases hk : k = 0
    · subst hk
      simp only [Nat.add_zero] at hroom hfit'
      simp [Builtin.append_, run_underlying ht, run_underlying htn, run_underlying hu, sizeOf, typeInfo, zeroValue, hi, hz, hs1, hby, Builtin.lenOf, asInt, asIntOf, hsz, hf, h3', hw0, hroom, hfit']
    · simp [Builtin.append_, run_underlying ht, run_underlying htn, run_underlying hu, sizeOf, typeInfo, zeroValue, hi, hz, hs1, hby, Builtin.lenOf, asInt, asIntOf, hw, h1, h2, h3, h5, hsz, hf, hk, hroom, hfit']
end Go.Proofs.Ytaladlaffglkeaa
end
section

/- Bytes in memory that nobody else changes. No condition. -/
namespace Go.Proofs.Ytaladlaffglkeaa
open Go.RowKit Go.Lib

/-- Bytes in memory that nobody else changes: they lie below a place, or in a block of bytes. -/
structure BHas (L : Nat) (a : Option Addr) (bs : List UInt8) (w : World) : Prop where
  has : Has w a (bytesV bs)
  far : ∀ p, a = some p → p.block < L ∨ ∃ cs fz, w.heap[p.block]? = some (.cells cs 5 fz)
theorem BHas.below {L : Nat} {a : Option Addr} {bs : List UInt8} {w w' : World} (h : BHas L a bs w) (hb : Below w.heap.size w w') : BHas L a bs w' :=
  ⟨h.has.below hb, fun p hp => (h.far p hp).imp id fun ⟨cs, fz, hx⟩ => ⟨cs, fz, (hb.block _ (Array.getElem?_eq_some_iff.1 hx).1).trans hx⟩⟩
theorem BHas.adv {L : Nat} {a : Option Addr} {bs : List UInt8} {w : World} (h : BHas L a bs w) (c k : Nat) (hc : bs.length ≤ c) : BHas L (adv a c k) (bs.drop k) w := by
  refine ⟨by have := h.has.adv c k (by rw [bytesV_length]; exact hc); rwa [bytesV_drop] at this, fun p hp => ?_⟩
  unfold Go.Proofs.Ytaladlaffglkeaa.adv at hp
  split at hp
  · exact h.far p hp
  · cases a with
    | none => cases hp
    | some q =>
      cases hp
      rw [add_block]
      exact h.far q rfl
end Go.Proofs.Ytaladlaffglkeaa
end
