/- Joined from: Put Zeros BHasT. -/
import Derived.Test.YtaladlaffglkeaaJ01
import Derived.Lib.AppendStr
section

/- Contracts of the document's Put: a number's bytes behind others. Conditions: a slice of the call's own; a number from 0 on. A class of worlds: all blocks that hold no bytes are as they were. -/
namespace Go.Proofs.Ytaladlaffglkeaa
open Go.RowKit

def beN : Nat → Nat → List UInt8
  | 0, _ => []
  | s + 1, z => UInt8.ofNat (z / 256 ^ s) :: beN s z
theorem beN_length (s z : Nat) : (beN s z).length = s := by induction s with | zero => rfl | succ s ih => simp [beN, ih]

def PutR (W : World) (base n : Nat) (xs : List UInt8) (z size : Nat) (b i : Value) (wr : World) : Prop :=
  ∃ s P a c, s ≤ size ∧ P ++ beN s z = beN size z ∧ P.length + s = size ∧ i = .int .i64 ((s : Int) - 1) ∧ b = .slice a (n + P.length) c ∧ wr.ownsRow base 5 1 b (n + P.length) (bytesV (xs ++ P)) ∧ n + P.length ≤ c ∧ c ≤ maxLen ∧ (a = none → c = 0) ∧ Below base W wr ∧ Kept W wr
set_option maxRecDepth 100000 in
set_option maxHeartbeats 1600000 in
theorem put_any (base : Nat) (a : Option Addr) (n c z size : Nat) (xs : List UInt8) (w : World) (hown : w.ownsRow base 5 1 (.slice a n c) n (bytesV xs)) (hbase : base ≤ w.heap.size) (hz : z < 9223372036854775808) (hn : n ≤ 1000000000) (hs : size ≤ 8) :
    Calls Try.prog 70 #[.slice a n c, .int .i64 z, .int .i64 size] w fun e w' => ∃ a' c', e = .returned (.slice a' (n + size) c') ∧ w'.ownsRow base 5 1 (.slice a' (n + size) c') (n + size) (bytesV (xs ++ beN size z)) ∧ n + size ≤ c' ∧ c' ≤ maxLen ∧ (a' = none → c' = 0) ∧ Below base w w' ∧ Kept w w' := by
  obtain ⟨_, _, he, k1, k2, k3⟩ := owns_slice hown
  cases he
  have HO := Lib.hid hown
  have HA := Lib.hid k3
  clear hown k3
  go_enter Try.func70, Try.ntmps70
  go_wp2_with fail
  go_loopw [0, 7] (PutR w base n xs z size) (fun _ i _ => ((Go.RowKit.intOf i) + 1).toNat)
  case atStart => exact ⟨size, [], a, c, Nat.le_refl _, rfl, by simp, by first | rfl | go_num, rfl, by simpa using HO.out, by simpa using k1, k2, HA.out, Below.refl _ _, Kept.refl _⟩
  case round =>
    obtain ⟨s, P, a1, c1, hss, hP, hPl, rfl, rfl, hox, k11, k12, k13, hbr, hkp⟩ := hrel
    have HKP := Lib.hid hkp
    have hwz := hkp.1
    clear hkp
    have HX := Lib.hid hox
    have HA1 := Lib.hid k13
    have HP := Lib.hid hP
    have HPL := Lib.hid hPl
    have HB := Lib.hid hbr
    clear hox k13 hP hPl hbr
    rcases s with _ | s
    · go_wp2
      go_ret
      have e0 : P = beN size z := by have := HP.out; simpa [beN] using this
      have hpl : P.length = size := by have := HPL.out; omega
      rw [hpl] at HX k11
      exact ⟨a1, c1, by rw [hpl]; rfl, by rw [← e0]; exact HX.out, k11, k12, HA1.out, HB.out, HKP.out⟩
    · have e1 : (((s + 1 : Nat) : Int) - 1) = (s : Int) := by omega
      rw [e1]
      go_wp2_with fail
      go_loopw [8, 9] (fun k j W => ∃ m : Nat, m ≤ s ∧ j = .int .i64 (m : Nat) ∧ k = .int .i64 ((z / 256 ^ m : Nat) : Int) ∧ W = wr) (fun _ j _ => s - (Go.RowKit.intOf j).toNat)
      case atStart => exact ⟨0, Nat.zero_le _, rfl, by simp, by first | rfl | trivial⟩
      case round =>
        obtain ⟨m, hm, rfl, rfl, rfl⟩ := hrel
        have hle : z / 256 ^ m ≤ z := Nat.div_le_self _ _
        by_cases hlt : m < s
        · have e2 : z / 256 ^ (m + 1) = z / 256 ^ m / 256 := by rw [Nat.pow_succ, Nat.div_div_eq_div_mul]
          have E2 := Lib.hid e2
          clear e2
          generalize z / 256 ^ m = q at *
          go_wp2
          go_roundw
          case rel => exact ⟨m + 1, by omega, by go_num, by rw [E2.out]; go_num, by first | rfl | trivial⟩
          case measure => first | (simp [Go.RowKit.intOf]; done) | (simp [Go.RowKit.intOf]; omega)
        · obtain rfl : m = s := by omega
          have e3 : bytesV [UInt8.ofNat (z / 256 ^ m)] = [.int .u8 ((z / 256 ^ m : Nat) % 256 : Int)] := by simp [bytesV, UInt8.toNat_ofNat']
          have E3 := Lib.hid e3
          have hbe : beN (m + 1) z = UInt8.ofNat (z / 256 ^ m) :: beN m z := rfl
          have HBE := Lib.hid hbe
          clear e3 hbe
          generalize z / 256 ^ m = q at *
          have hpm : P.length + (m + 1) = size := HPL.out
          go_wp2_with (at_builtin; refine wpApp rfl _ _ 22 rfl base 5 (.int .u8 0) 1 1 Try.underlying22 u8_info rfl (by decide) _ (n + P.length) (bytesV (xs ++ P)) rfl (owns_below HX.out (balloc (brefl wr) _) (Nat.le_refl _)) (some ⟨wr.heap.size, 0, none⟩) 1 1 (bytesV [UInt8.ofNat q]) rfl rfl (by rw [E3.out]; exact has_alloc _ _ _) (fun h => by cases h) (bytesV_one _) (by unfold maxLen; omega) (by omega) (by simp; omega) ?_; intro a6 c6 w6 hown6 k61 k62 k63 hb6 hg6; have HO6 := Lib.hid hown6; have HA6 := Lib.hid k63; have HB6 := Lib.hid hb6; have HG6 := Lib.hid hg6; clear hown6 k63 hb6 hg6)
          go_roundw
          case rel => exact ⟨m, P ++ [UInt8.ofNat q], a6, c6, by omega, by have := HP.out; rw [HBE.out] at this; simpa using this, by simp; omega, by first | rfl | go_num, by first | (simp; done) | (simp; rfl), by rw [← List.append_assoc, bytesV_append (xs ++ P), List.length_append, ← Nat.add_assoc]; exact HO6.out, by simp; omega, k62, HA6.out, HB.out.trans (((balloc (brefl wr) _).mono (by omega)).trans HB6.out), HKP.out.trans ((Kept.below (balloc (brefl wr) _)).trans (Kept.grown (owns_below HX.out (balloc (brefl wr) _) (Nat.le_refl _)) HG6.out))⟩
          case measure => first | (simp [Go.RowKit.intOf]; done) | (simp [Go.RowKit.intOf]; omega)

structure KeptW (W : World) where
  val : World
  is : Kept W val
instance (W : World) : Nonempty (KeptW W) := ⟨⟨W, Kept.refl W⟩⟩
theorem kept_start (W : World) : ∃ p : KeptW W, W.drew = p.val := ⟨⟨W.drew, Kept.below (bdrew1 (brefl W))⟩, rfl⟩
theorem kept_of {W W' : World} (h : Kept W W') : ∃ p : KeptW W, W' = p.val := ⟨⟨W', h⟩, rfl⟩
end Go.Proofs.Ytaladlaffglkeaa
end
section

/- 'append' of so many noughts does what 'append' of a string of noughts does. Condition: sizes. -/
namespace Go.Proofs.Ytaladlaffglkeaa
open Go.RowKit

theorem run_zeros {P : Program} (w : World) (t tn u ty e : TypeId) (i : TypeInfo) (ht : P.underlying t = some (.slice e)) (htn : P.underlying tn = some (.int .i64)) (hu : P.underlying u = some .string) (hi : P.info? e = some i) (hz : i.zero = some (.int .u8 0)) (hs1 : i.size = 1) (hby : i.bytes = 1)
    (base : Option Addr) (n c k : Nat) (hb : n + k ≤ 140737488355328) :
    (Builtin.append_ #[t, tn] ty #[.slice base n c, .int .i64 k]).run P w = (Builtin.append_ #[t, u] ty #[.slice base n c, .string (str (List.replicate k 0))]).run P w := by
  have hsz : (str (List.replicate k 0)).size = k := by simp [str, ByteArray.size]
  have hsc : Lib.strCells (str (List.replicate k 0)) = List.replicate k (Value.int .u8 0) := by simp [Lib.strCells, str]
  have hf : ∀ w, (Builtin.firstCells 1 k (.string (str (List.replicate k 0)))).run P w = .ok (List.replicate k (Value.int .u8 0)).toArray w := fun w => by
    have := Lib.run_firstCells_string (P := P) w 1 (str (List.replicate k 0))
    rw [hsz, hsc] at this
    exact this
  clear hsc
  generalize str (List.replicate k 0) = s at *
  have h3' : ¬ (9223372036854775807 < (n : Int)) := by omega
  have hw : IntKind.i64.wrap (k : Int) = k := by rw [IntKind.wrap_i64]; omega
  have h1 : ¬ ((k : Int) < 0) := by omega
  have h2 : ¬ (281474976710656 < (k : Int)) := by omega
  have h3 : ¬ (9223372036854775807 < ((n : Int) + (k : Int))) := by omega
  have h5 : Builtin.zeroCells (Value.int .u8 0).cells k = (List.replicate k (Value.int .u8 0)).toArray := by
    apply Array.ext'
    have e : (Value.int .u8 0).cells = #[Value.int .u8 0] := rfl
    rw [e]
    simp only [Builtin.zeroCells, Nat.mul_one, List.size_toArray, List.length_cons, List.length_nil, Nat.zero_add, Nat.mod_one]
    apply List.ext_getElem <;> simp
  have hw0 : IntKind.i64.wrap 0 = 0 := by rw [IntKind.wrap_i64]; omega
  have hfit : ¬ (n + k ≤ c) → ¬ (281474976710656 < Builtin.nextslicecap (n + k) c) := fun h => by
    have := growslice_fits (need := n + k) (old := c) (bytes := 1) (by omega) (by omega)
    omega
  by_cases hroom : n + k ≤ c
  · by_cases hk : k = 0
    · subst hk
      simp only [Nat.add_zero] at hroom
      simp [Builtin.append_, run_underlying ht, run_underlying htn, run_underlying hu, sizeOf, typeInfo, zeroValue, hi, hz, hs1, hby, Builtin.lenOf, asInt, asIntOf, hsz, hf, h3', hw0, hroom]
    · simp [Builtin.append_, run_underlying ht, run_underlying htn, run_underlying hu, sizeOf, typeInfo, zeroValue, hi, hz, hs1, hby, Builtin.lenOf, asInt, asIntOf, hw, h1, h2, h3, h5, hsz, hf, hk, hroom]
  · have hfit' := hfit hroom
    by_cases hk : k = 0
    · subst hk
      simp only [Nat.add_zero] at hroom hfit'
      simp [Builtin.append_, run_underlying ht, run_underlying htn, run_underlying hu, sizeOf, typeInfo, zeroValue, hi, hz, hs1, hby, Builtin.lenOf, asInt, asIntOf, hsz, hf, h3', hw0, hroom, hfit']
    · simp [Builtin.append_, run_underlying ht, run_underlying htn, run_underlying hu, sizeOf, typeInfo, zeroValue, hi, hz, hs1, hby, Builtin.lenOf, asInt, asIntOf, hw, h1, h2, h3, h5, hsz, hf, hk, hroom, hfit']
end Go.Proofs.Ytaladlaffglkeaa
end
section

/- Bytes in memory that nobody else changes. No condition. -/
namespace Go.Proofs.Ytaladlaffglkeaa
open Go.RowKit Go.Lib

/-- Bytes in memory that nobody else changes: they lie below a place, or in a block of bytes. -/
structure BHas (L : Nat) (a : Option Addr) (bs : List UInt8) (w : World) : Prop where
  has : Has w a (bytesV bs)
  far : ∀ p, a = some p → p.block < L ∨ ∃ cs fz, w.heap[p.block]? = some (.cells cs 5 fz)
theorem BHas.below {L : Nat} {a : Option Addr} {bs : List UInt8} {w w' : World} (h : BHas L a bs w) (hb : Below w.heap.size w w') : BHas L a bs w' :=
  ⟨h.has.below hb, fun p hp => (h.far p hp).imp id fun ⟨cs, fz, hx⟩ => ⟨cs, fz, (hb.block _ (Array.getElem?_eq_some_iff.1 hx).1).trans hx⟩⟩
theorem BHas.adv {L : Nat} {a : Option Addr} {bs : List UInt8} {w : World} (h : BHas L a bs w) (c k : Nat) (hc : bs.length ≤ c) : BHas L (adv a c k) (bs.drop k) w := by
  refine ⟨by have := h.has.adv c k (by rw [bytesV_length]; exact hc); rwa [bytesV_drop] at this, fun p hp => ?_⟩
  unfold Go.Proofs.Ytaladlaffglkeaa.adv at hp
  split at hp
  · exact h.far p hp
  · cases a with
    | none => cases hp
    | some q =>
      cases hp
      rw [add_block]
      exact h.far q rfl
end Go.Proofs.Ytaladlaffglkeaa
end
