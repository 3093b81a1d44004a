
/- The contract of seek.isEnd. Conditions: the row has all keys. -/
import Derived.Test.YthjnpfhcjacibaaZed
namespace Go.Proofs.Ythjnpfhcjacibaa
open Go.RowKit

def allFF (T : List UInt8) (K : Nat) : Bool := (List.range K).all fun i => num T (2 * i) 2 == 65535
theorem allFF_of (T : List UInt8) (K : Nat) (h : ∀ j, j < K → num T (2 * j) 2 = 65535) : allFF T K = true := by
  simp only [allFF, List.all_eq_true, List.mem_range, beq_iff_eq]; exact h
theorem allFF_not (T : List UInt8) (K i : Nat) (hi : i < K) (h : num T (2 * i) 2 ≠ 65535) : allFF T K = false := by
  simp only [allFF, List.all_eq_false, List.mem_range, beq_iff_eq]; exact ⟨i, hi, h⟩
def EndRel (T : List UInt8) (K : Nat) (w : World) (v : Value) (i : Value) (wr : World) : Prop :=
  ∃ k : Nat, k ≤ K ∧ i = .int .i64 (k : Nat) ∧ (∀ j, j < k → num T (2 * j) 2 = 65535) ∧ wr.cell? ⟨w.heap.size, 0, none⟩ = some v ∧ Below w.heap.size w wr ∧ w.heap.size < wr.heap.size

set_option maxRecDepth 100000 in
set_option maxHeartbeats 1600000 in
theorem isEnd_any (A : Option Addr) (S C K : Nat) (T : List UInt8) (w : World) (h : Has w A (bytesV T)) (hl : T.length = S) (hk : 2 * K ≤ S) (hn : S ≤ C) (hc : C ≤ maxLen) :
    Calls Try.prog 39 #[.agg #[.slice A S C], .int .i64 (K : Nat)] w fun e w' => e = .returned (.bool (allFF T K)) ∧ Below w.heap.size w w' := by
  have HH := Lib.hid h
  have HL := Lib.hid hl
  have hcm := hc
  unfold maxLen at hcm
  clear h hl
  have hAC := allocC
  have hAF := allocF
  go_enter Try.func39, Try.ntmps39
  go_wp2_with fail
  go_loopw [7] (EndRel T K w (.slice A S C)) (fun i _ => K - (intOf i).toNat)
  case atStart => exact ⟨0, Nat.zero_le _, rfl, fun j hj => by omega, by simp [hAC], (by repeat (first | with_reducible exact brefl _ | with_reducible assumption | (with_reducible refine bset ?_ (by first | (simp; done) | (simp; omega)) _) | with_reducible refine balloc ?_ _ | with_reducible refine bdrew ?_ _ | with_reducible refine bdrew1 ?_ | with_reducible refine bthen ?_ (by assumption) | with_reducible refine Below.trans ?_ (by assumption) | exact brefl _ | assumption | refine balloc ?_ _ | refine bdrew ?_ _ | refine bdrew1 ?_ | refine bthen ?_ (by assumption) | refine Below.trans ?_ (by assumption) | (refine bset ?_ (by first | (simp; done) | (simp; omega)) _))), by simp⟩
  case round =>
    obtain ⟨k, hk', rfl, hall, c0, hb, hz⟩ := hrel
    have HA := Lib.hid hall
    have HB := Lib.hid hb
    clear hall hb
    by_cases hlt : k < K
    · have HU := Lib.hid (fun W hw => u16_z A S C (2 * k) (2 * (k : Int)) (by omega) T W hw HL.out (by omega) hn hc)
      have hq2 := num2_lt T (2 * k)
      have HQ := Lib.hid (show num T (2 * k) 2 = num T (2 * k) 2 from rfl)
      generalize hq : num T (2 * k) 2 = q at *
      have HQ := Lib.hid hq
      clear hq
      by_cases he : q = 65535
      · have hd : ((q : Int) != 65535) = false := by simp [he]
        have HE := Lib.hid he
        clear he
        go_wp2_with (first | (go_at_call 28; (with_reducible refine (HU.out _ (HH.out.below HB.out)).mono ?_); rintro e w2 ⟨rfl, hb2⟩; have h2c := bc hb2; have h2f := bf hb2; have h2z := hb2.size; try simp only [World.size_alloc, World.size_drew] at h2z))
        go_roundw
        case rel => exact ⟨k + 1, hlt, by go_num, fun j hj => (by
          rcases Nat.lt_or_ge j k with g | g
          · exact HA.out j g
          · obtain rfl : j = k := by omega
            rw [HQ.out, HE.out]), by rw [h2c, if_pos hz]; exact c0, HB.out.trans (hb2.mono HB.out.size), by omega⟩
        case measure => simp [intOf]; omega
      · have hd : ((q : Int) != 65535) = true := by simp; omega
        have HE := Lib.hid (allFF_not T K k hlt (by rw [HQ.out]; exact he))
        clear he
        go_wp2_with (first | (go_at_call 28; (with_reducible refine (HU.out _ (HH.out.below HB.out)).mono ?_); rintro e w2 ⟨rfl, hb2⟩; have h2c := bc hb2; have h2f := bf hb2; have h2z := hb2.size; try simp only [World.size_alloc, World.size_drew] at h2z))
        go_ret
        exact ⟨by rw [HE.out]; rfl, HB.out.trans (hb2.mono HB.out.size)⟩
    · obtain rfl : k = K := by omega
      go_wp2
      go_ret
      exact ⟨by rw [allFF_of T k HA.out]; rfl, HB.out⟩
end Go.Proofs.Ythjnpfhcjacibaa
