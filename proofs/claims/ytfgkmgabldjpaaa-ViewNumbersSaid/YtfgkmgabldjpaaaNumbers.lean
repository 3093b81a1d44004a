/- The walk of ViewNumbers. -/
import Derived.Test.YtfgkmgabldjpaaaGot
import Derived.Test.YtfgkmgabldjpaaaLaw1
namespace Go.Proofs.Ytfgkmgabldjpaaa
open Go.RowKit

def uV (bs : List UInt8) (n : Nat) (k : Int) (m : Nat) : Int := if 0 ≤ k ∧ k + m ≤ n then (num bs k.toNat m : Nat) else -1
theorem u_any (a : Option Addr) (n c m : Nat) (bs : List UInt8) (k : Int) (w : World) (h : Has w a (bytesV bs)) (hl : bs.length = n) (hk : -9223372036854775808 ≤ k ∧ k ≤ 9223372036854775807) (hm : m ≤ 4) (hn : n ≤ maxLen) :
    Calls Try.prog 11 #[.slice a n c, .int .i64 k, .int .i64 m] w fun e w' => e = .returned (.int .i64 (uV bs n k m)) ∧ w = w' := by
  unfold uV
  by_cases hin : 0 ≤ k ∧ k + m ≤ n
  · rw [if_pos hin]
    obtain ⟨j, rfl⟩ : ∃ j : Nat, k = j := ⟨k.toNat, by omega⟩
    exact u_in a n c j m bs w h hl (by omega) hm hn
  · rw [if_neg hin]
    exact u_out a n c m k w hin hk hm hn
theorem got_in (a : Option Addr) (n c kind : Nat) (bs : List UInt8) (k : Int) (w : World) (hkd : kind ≤ 4) (hin : 0 ≤ k ∧ k + kindSize kind ≤ n) (h : Has w a (bytesV bs)) (hl : bs.length = n) (hn : n ≤ c) (hc : c ≤ maxLen) :
    Calls Try.prog 14 #[.slice a n c, .int .i64 kind, .int .i64 k] w fun e w' => e = .returned (.tuple #[.int .i64 (kindNum bs kind k.toNat), .bool true]) ∧ Below w.heap.size w w' :=
  (got_any a n c kind bs k w hkd h hl hn hc).mono fun e w' h => by
    rcases h with ⟨h1, _, h3⟩ | ⟨_, h2, _⟩
    · exact ⟨h1, h3⟩
    · exact absurd hin h2
theorem got_out (a : Option Addr) (n c kind : Nat) (bs : List UInt8) (k : Int) (w : World) (hkd : kind ≤ 4) (hin : ¬ (0 ≤ k ∧ k + kindSize kind ≤ n)) (h : Has w a (bytesV bs)) (hl : bs.length = n) (hn : n ≤ c) (hc : c ≤ maxLen) :
    Calls Try.prog 14 #[.slice a n c, .int .i64 kind, .int .i64 k] w fun e w' => e = .returned (.tuple #[.int .i64 0, .bool false]) ∧ Below w.heap.size w w' :=
  (got_any a n c kind bs k w hkd h hl hn hc).mono fun e w' h => by
    rcases h with ⟨_, h2, _⟩ | ⟨h1, _, h3⟩
    · exact absurd h2 hin
    · exact ⟨h1, h3⟩
theorem uV_le (bs : List UInt8) (n : Nat) (k : Int) (m : Nat) (hm : m ≤ 4) : -1 ≤ uV bs n k m ∧ uV bs n k m ≤ 256 ^ m - 1 ∧ uV bs n k m ≤ 4294967295 := by
  unfold uV
  have h := num_lt bs k.toNat m
  have h2 : 256 ^ m ≤ 256 ^ 4 := Nat.pow_le_pow_right (by omega) hm
  have h3 : 1 ≤ 256 ^ m := Nat.one_le_pow _ _ (by omega)
  have h4 : ((256 : Int) ^ m) = ((256 ^ m : Nat) : Int) := by simp
  split <;> rw [h4] <;> omega

theorem idx5_0 (x0 x1 x2 x3 x4 : Value) (w : World) : (Instr.index 26 (.agg #[x0, x1, x2, x3, x4]) (.int .i64 0)).run Try.prog w = .ok x0 w := by kernel_rfl
theorem idx5_1 (x0 x1 x2 x3 x4 : Value) (w : World) : (Instr.index 26 (.agg #[x0, x1, x2, x3, x4]) (.int .i64 1)).run Try.prog w = .ok x1 w := by kernel_rfl
theorem idx5_2 (x0 x1 x2 x3 x4 : Value) (w : World) : (Instr.index 26 (.agg #[x0, x1, x2, x3, x4]) (.int .i64 2)).run Try.prog w = .ok x2 w := by kernel_rfl
theorem idx5_3 (x0 x1 x2 x3 x4 : Value) (w : World) : (Instr.index 26 (.agg #[x0, x1, x2, x3, x4]) (.int .i64 3)).run Try.prog w = .ok x3 w := by kernel_rfl
theorem idx5_4 (x0 x1 x2 x3 x4 : Value) (w : World) : (Instr.index 26 (.agg #[x0, x1, x2, x3, x4]) (.int .i64 4)).run Try.prog w = .ok x4 w := by kernel_rfl

def NumRel (w4 : World) (i : Value) (wr : World) : Prop := ∃ j : Nat, j ≤ 5 ∧ i = .int .i64 j ∧ Below w4.heap.size w4 wr

set_option maxRecDepth 100000 in
set_option maxHeartbeats 4000000 in
theorem viewNumbers_walk (a : Option Addr) (n c : Nat) (bs : List UInt8) (k : Int) (w : World) (h : Has w a (bytesV bs)) (hl : bs.length = n) (hn : n ≤ c) (hc : c ≤ maxLen) (hk : -9223372036854775808 ≤ k ∧ k ≤ 9223372036854775807) :
    Calls Try.prog 3 #[.slice a n c, .int .i64 k] w fun e w' => e = .returned (.bool true) ∧ Below w.heap.size w w' := by
  have hnm : n ≤ maxLen := Nat.le_trans hn hc
  by_cases hbig : 1000 < n
  · clear h hl
    unfold maxLen at hc hnm
    obtain ⟨_, _⟩ := hk
    go_enter Try.func3, Try.ntmps3
    go_wp2_with (first | (go_at_call 10; refine (speaks_any _).mono ?_; rintro e w1 ⟨rfl, hb1⟩; have h1c := bc hb1; have h1f := bf hb1; have h1z := hb1.size; try simp only [World.size_alloc] at h1z))
    go_ret
    exact ⟨rfl, (by repeat (first | exact brefl _ | assumption | refine balloc ?_ _ | refine bdrew ?_ _ | refine bdrew1 ?_ | refine bthen ?_ (by assumption) | refine Below.trans ?_ (by assumption) | (refine bset ?_ (by first | (simp; done) | (simp; omega)) _)))⟩
  have HH := Lib.hid h
  have HL := Lib.hid hl
  have HK := Lib.hid hk
  obtain ⟨l1, l1', l1''⟩ := uV_le bs n k 1 (by omega)
  obtain ⟨l2, l2', l2''⟩ := uV_le bs n k 2 (by omega)
  obtain ⟨l4, l4', l4''⟩ := uV_le bs n k 4 (by omega)
  have u_1 : ∀ w, Has w a (bytesV bs) → Calls Try.prog 11 #[.slice a n c, .int .i64 k, .int .i64 1] w fun e w' => e = .returned (.int .i64 (uV bs n k 1)) ∧ w = w' := fun w h => u_any a n c 1 bs k w h hl hk (by omega) hnm
  have U1 := Lib.hid u_1
  clear u_1
  have u_2 : ∀ w, Has w a (bytesV bs) → Calls Try.prog 11 #[.slice a n c, .int .i64 k, .int .i64 2] w fun e w' => e = .returned (.int .i64 (uV bs n k 2)) ∧ w = w' := fun w h => u_any a n c 2 bs k w h hl hk (by omega) hnm
  have U2 := Lib.hid u_2
  clear u_2
  have u_4 : ∀ w, Has w a (bytesV bs) → Calls Try.prog 11 #[.slice a n c, .int .i64 k, .int .i64 4] w fun e w' => e = .returned (.int .i64 (uV bs n k 4)) ∧ w = w' := fun w h => u_any a n c 4 bs k w h hl hk (by omega) hnm
  have U4 := Lib.hid u_4
  clear u_4
  have F0 : (0 ≤ k ∧ k + 1 ≤ n) → ((kindNum bs 0 k.toNat != uV bs n k 1) = false ∧ 0 ≤ uV bs n k 1) := by
    intro hin
    have e : uV bs n k 1 = (num bs k.toNat 1 : Nat) := by unfold uV; exact if_pos hin
    rw [e]
    refine ⟨?_, Int.natCast_nonneg _⟩
    simp only [kindNum, s16, s32, bne_eq_false_iff_eq]
    try omega
  have O0 : ¬ (0 ≤ k ∧ k + 1 ≤ n) → ¬ 0 ≤ uV bs n k 1 := by
    intro hin
    have e : uV bs n k 1 = -1 := by unfold uV; exact if_neg hin
    rw [e]; omega
  have F1 : (0 ≤ k ∧ k + 2 ≤ n) → ((kindNum bs 1 k.toNat != uV bs n k 2) = false ∧ 0 ≤ uV bs n k 2) := by
    intro hin
    have e : uV bs n k 2 = (num bs k.toNat 2 : Nat) := by unfold uV; exact if_pos hin
    rw [e]
    refine ⟨?_, Int.natCast_nonneg _⟩
    simp only [kindNum, s16, s32, bne_eq_false_iff_eq]
    try omega
  have O1 : ¬ (0 ≤ k ∧ k + 2 ≤ n) → ¬ 0 ≤ uV bs n k 2 := by
    intro hin
    have e : uV bs n k 2 = -1 := by unfold uV; exact if_neg hin
    rw [e]; omega
  have F2 : (0 ≤ k ∧ k + 4 ≤ n) → ((kindNum bs 2 k.toNat != uV bs n k 4) = false ∧ 0 ≤ uV bs n k 4) := by
    intro hin
    have e : uV bs n k 4 = (num bs k.toNat 4 : Nat) := by unfold uV; exact if_pos hin
    rw [e]
    refine ⟨?_, Int.natCast_nonneg _⟩
    simp only [kindNum, s16, s32, bne_eq_false_iff_eq]
    try omega
  have O2 : ¬ (0 ≤ k ∧ k + 4 ≤ n) → ¬ 0 ≤ uV bs n k 4 := by
    intro hin
    have e : uV bs n k 4 = -1 := by unfold uV; exact if_neg hin
    rw [e]; omega
  have F3 : (0 ≤ k ∧ k + 2 ≤ n) → ((kindNum bs 3 k.toNat != (if 32768 ≤ uV bs n k 2 then uV bs n k 2 - 65536 else uV bs n k 2)) = false ∧ 0 ≤ uV bs n k 2) := by
    intro hin
    have e : uV bs n k 2 = (num bs k.toNat 2 : Nat) := by unfold uV; exact if_pos hin
    rw [e]
    refine ⟨?_, Int.natCast_nonneg _⟩
    simp only [kindNum, s16, s32, bne_eq_false_iff_eq]
    split <;> split <;> omega
  have O3 : ¬ (0 ≤ k ∧ k + 2 ≤ n) → ¬ 0 ≤ uV bs n k 2 := by
    intro hin
    have e : uV bs n k 2 = -1 := by unfold uV; exact if_neg hin
    rw [e]; omega
  have F4 : (0 ≤ k ∧ k + 4 ≤ n) → ((kindNum bs 4 k.toNat != (if 2147483648 ≤ uV bs n k 4 then uV bs n k 4 - 4294967296 else uV bs n k 4)) = false ∧ 0 ≤ uV bs n k 4) := by
    intro hin
    have e : uV bs n k 4 = (num bs k.toNat 4 : Nat) := by unfold uV; exact if_pos hin
    rw [e]
    refine ⟨?_, Int.natCast_nonneg _⟩
    simp only [kindNum, s16, s32, bne_eq_false_iff_eq]
    split <;> split <;> omega
  have O4 : ¬ (0 ≤ k ∧ k + 4 ≤ n) → ¬ 0 ≤ uV bs n k 4 := by
    intro hin
    have e : uV bs n k 4 = -1 := by unfold uV; exact if_neg hin
    rw [e]; omega
  generalize uV bs n k 1 = u1 at *
  generalize uV bs n k 2 = u2 at *
  generalize uV bs n k 4 = u4 at *
  obtain ⟨z3, hz3⟩ : ∃ z, z = (if 32768 ≤ u2 then u2 - 65536 else u2) := ⟨_, rfl⟩
  obtain ⟨z4, hz4⟩ : ∃ z, z = (if 2147483648 ≤ u4 then u4 - 4294967296 else u4) := ⟨_, rfl⟩
  have S3 := Lib.hid (fun w => s16_any u2 w ⟨l2, by omega⟩)
  have S4 := Lib.hid (fun w => s32_any u4 w ⟨l4, l4''⟩)
  rw [← hz3] at S3 F3
  rw [← hz4] at S4 F4
  have HF0 := Lib.hid F0
  have HO0 := Lib.hid O0
  have hkn0 : ∃ v, v = kindNum bs 0 k.toNat := ⟨_, rfl⟩
  have HF1 := Lib.hid F1
  have HO1 := Lib.hid O1
  have hkn1 : ∃ v, v = kindNum bs 1 k.toNat := ⟨_, rfl⟩
  have HF2 := Lib.hid F2
  have HO2 := Lib.hid O2
  have hkn2 : ∃ v, v = kindNum bs 2 k.toNat := ⟨_, rfl⟩
  have HF3 := Lib.hid F3
  have HO3 := Lib.hid O3
  have hkn3 : ∃ v, v = kindNum bs 3 k.toNat := ⟨_, rfl⟩
  have HF4 := Lib.hid F4
  have HO4 := Lib.hid O4
  have hkn4 : ∃ v, v = kindNum bs 4 k.toNat := ⟨_, rfl⟩
  clear F0 O0 F1 O1 F2 O2 F3 O3 F4 O4 hz3 hz4 h hl hk
  go_enter Try.func3, Try.ntmps3
  go_wp2_with (first
    | (go_at_call 10; refine (speaks_any _).mono ?_; rintro e w1 ⟨rfl, hb1⟩; have h1c := bc hb1; have h1f := bf hb1; have h1z := hb1.size; try simp only [World.size_alloc] at h1z)
    | (go_at_call 11; (with_reducible refine (U1.out _ (HH.out.below (by repeat (first | exact brefl _ | assumption | refine balloc ?_ _ | refine bdrew ?_ _ | refine bdrew1 ?_ | refine bthen ?_ (by assumption) | refine Below.trans ?_ (by assumption) | (refine bset ?_ (by first | (simp; done) | (simp; omega)) _))))).mono ?_); rintro e w_ ⟨rfl, rfl⟩)
    | (go_at_call 11; (with_reducible refine (U2.out _ (HH.out.below (by repeat (first | exact brefl _ | assumption | refine balloc ?_ _ | refine bdrew ?_ _ | refine bdrew1 ?_ | refine bthen ?_ (by assumption) | refine Below.trans ?_ (by assumption) | (refine bset ?_ (by first | (simp; done) | (simp; omega)) _))))).mono ?_); rintro e w_ ⟨rfl, rfl⟩)
    | (go_at_call 11; (with_reducible refine (U4.out _ (HH.out.below (by repeat (first | exact brefl _ | assumption | refine balloc ?_ _ | refine bdrew ?_ _ | refine bdrew1 ?_ | refine bthen ?_ (by assumption) | refine Below.trans ?_ (by assumption) | (refine bset ?_ (by first | (simp; done) | (simp; omega)) _))))).mono ?_); rintro e w_ ⟨rfl, rfl⟩)
    | (go_at_call 12; refine (S3.out _).mono ?_; rintro e w_ ⟨rfl, rfl⟩)
    | (go_at_call 13; refine (S4.out _).mono ?_; rintro e w_ ⟨rfl, rfl⟩))
  go_loopw [35] (NumRel w1) (fun i _ => 5 - (intOf i).toNat)
  case atStart => exact ⟨0, by omega, rfl, Below.refl _ _⟩
  case round =>
    obtain ⟨j, hj, rfl, hbr⟩ := hrel
    have hj' : j = 0 ∨ j = 1 ∨ j = 2 ∨ j = 3 ∨ j = 4 ∨ j = 5 := by omega
    clear hj
    rcases hj' with rfl | rfl | rfl | rfl | rfl | rfl
    · by_cases hin : 0 ≤ k ∧ k + 1 ≤ n
      · obtain ⟨g1, g2⟩ := HF0.out hin
        have hG : Calls Try.prog 14 #[.slice a n c, .int .i64 ((0 : Nat) : Int), .int .i64 k] wr fun e w' => e = .returned (.tuple #[.int .i64 (kindNum bs 0 k.toNat), .bool true]) ∧ Below wr.heap.size wr w' := got_in a n c 0 bs k wr (by omega) hin (HH.out.below (by repeat (first | exact brefl _ | assumption | refine balloc ?_ _ | refine bdrew ?_ _ | refine bdrew1 ?_ | refine bthen ?_ (by assumption) | refine Below.trans ?_ (by assumption) | (refine bset ?_ (by first | (simp; done) | (simp; omega)) _)))) HL.out hn hc
        have HG := Lib.hid hG
        have hI := idx5_0
        clear hG hin
        generalize kindNum bs 0 k.toNat = v at *
        go_wp2_with (go_at_call 14; refine HG.out.mono ?_; rintro e w5 ⟨rfl, hb5⟩)
        go_roundw
        case rel => exact ⟨0 + 1, by omega, by go_num, (by repeat (first | exact brefl _ | assumption | refine balloc ?_ _ | refine bdrew ?_ _ | refine bdrew1 ?_ | refine bthen ?_ (by assumption) | refine Below.trans ?_ (by assumption) | (refine bset ?_ (by first | (simp; done) | (simp; omega)) _)))⟩
        case measure => simp [intOf]
      · have g2 := HO0.out hin
        have hG : Calls Try.prog 14 #[.slice a n c, .int .i64 ((0 : Nat) : Int), .int .i64 k] wr fun e w' => e = .returned (.tuple #[.int .i64 0, .bool false]) ∧ Below wr.heap.size wr w' := got_out a n c 0 bs k wr (by omega) hin (HH.out.below (by repeat (first | exact brefl _ | assumption | refine balloc ?_ _ | refine bdrew ?_ _ | refine bdrew1 ?_ | refine bthen ?_ (by assumption) | refine Below.trans ?_ (by assumption) | (refine bset ?_ (by first | (simp; done) | (simp; omega)) _)))) HL.out hn hc
        have HG := Lib.hid hG
        have hI := idx5_0
        clear hG hin
        go_wp2_with (go_at_call 14; refine HG.out.mono ?_; rintro e w5 ⟨rfl, hb5⟩)
        go_roundw
        case rel => exact ⟨0 + 1, by omega, by go_num, (by repeat (first | exact brefl _ | assumption | refine balloc ?_ _ | refine bdrew ?_ _ | refine bdrew1 ?_ | refine bthen ?_ (by assumption) | refine Below.trans ?_ (by assumption) | (refine bset ?_ (by first | (simp; done) | (simp; omega)) _)))⟩
        case measure => simp [intOf]
    · by_cases hin : 0 ≤ k ∧ k + 2 ≤ n
      · obtain ⟨g1, g2⟩ := HF1.out hin
        have hG : Calls Try.prog 14 #[.slice a n c, .int .i64 ((1 : Nat) : Int), .int .i64 k] wr fun e w' => e = .returned (.tuple #[.int .i64 (kindNum bs 1 k.toNat), .bool true]) ∧ Below wr.heap.size wr w' := got_in a n c 1 bs k wr (by omega) hin (HH.out.below (by repeat (first | exact brefl _ | assumption | refine balloc ?_ _ | refine bdrew ?_ _ | refine bdrew1 ?_ | refine bthen ?_ (by assumption) | refine Below.trans ?_ (by assumption) | (refine bset ?_ (by first | (simp; done) | (simp; omega)) _)))) HL.out hn hc
        have HG := Lib.hid hG
        have hI := idx5_1
        clear hG hin
        generalize kindNum bs 1 k.toNat = v at *
        go_wp2_with (go_at_call 14; refine HG.out.mono ?_; rintro e w5 ⟨rfl, hb5⟩)
        go_roundw
        case rel => exact ⟨1 + 1, by omega, by go_num, (by repeat (first | exact brefl _ | assumption | refine balloc ?_ _ | refine bdrew ?_ _ | refine bdrew1 ?_ | refine bthen ?_ (by assumption) | refine Below.trans ?_ (by assumption) | (refine bset ?_ (by first | (simp; done) | (simp; omega)) _)))⟩
        case measure => simp [intOf]
      · have g2 := HO1.out hin
        have hG : Calls Try.prog 14 #[.slice a n c, .int .i64 ((1 : Nat) : Int), .int .i64 k] wr fun e w' => e = .returned (.tuple #[.int .i64 0, .bool false]) ∧ Below wr.heap.size wr w' := got_out a n c 1 bs k wr (by omega) hin (HH.out.below (by repeat (first | exact brefl _ | assumption | refine balloc ?_ _ | refine bdrew ?_ _ | refine bdrew1 ?_ | refine bthen ?_ (by assumption) | refine Below.trans ?_ (by assumption) | (refine bset ?_ (by first | (simp; done) | (simp; omega)) _)))) HL.out hn hc
        have HG := Lib.hid hG
        have hI := idx5_1
        clear hG hin
        go_wp2_with (go_at_call 14; refine HG.out.mono ?_; rintro e w5 ⟨rfl, hb5⟩)
        go_roundw
        case rel => exact ⟨1 + 1, by omega, by go_num, (by repeat (first | exact brefl _ | assumption | refine balloc ?_ _ | refine bdrew ?_ _ | refine bdrew1 ?_ | refine bthen ?_ (by assumption) | refine Below.trans ?_ (by assumption) | (refine bset ?_ (by first | (simp; done) | (simp; omega)) _)))⟩
        case measure => simp [intOf]
    · by_cases hin : 0 ≤ k ∧ k + 4 ≤ n
      · obtain ⟨g1, g2⟩ := HF2.out hin
        have hG : Calls Try.prog 14 #[.slice a n c, .int .i64 ((2 : Nat) : Int), .int .i64 k] wr fun e w' => e = .returned (.tuple #[.int .i64 (kindNum bs 2 k.toNat), .bool true]) ∧ Below wr.heap.size wr w' := got_in a n c 2 bs k wr (by omega) hin (HH.out.below (by repeat (first | exact brefl _ | assumption | refine balloc ?_ _ | refine bdrew ?_ _ | refine bdrew1 ?_ | refine bthen ?_ (by assumption) | refine Below.trans ?_ (by assumption) | (refine bset ?_ (by first | (simp; done) | (simp; omega)) _)))) HL.out hn hc
        have HG := Lib.hid hG
        have hI := idx5_2
        clear hG hin
        generalize kindNum bs 2 k.toNat = v at *
        go_wp2_with (go_at_call 14; refine HG.out.mono ?_; rintro e w5 ⟨rfl, hb5⟩)
        go_roundw
        case rel => exact ⟨2 + 1, by omega, by go_num, (by repeat (first | exact brefl _ | assumption | refine balloc ?_ _ | refine bdrew ?_ _ | refine bdrew1 ?_ | refine bthen ?_ (by assumption) | refine Below.trans ?_ (by assumption) | (refine bset ?_ (by first | (simp; done) | (simp; omega)) _)))⟩
        case measure => simp [intOf]
      · have g2 := HO2.out hin
        have hG : Calls Try.prog 14 #[.slice a n c, .int .i64 ((2 : Nat) : Int), .int .i64 k] wr fun e w' => e = .returned (.tuple #[.int .i64 0, .bool false]) ∧ Below wr.heap.size wr w' := got_out a n c 2 bs k wr (by omega) hin (HH.out.below (by repeat (first | exact brefl _ | assumption | refine balloc ?_ _ | refine bdrew ?_ _ | refine bdrew1 ?_ | refine bthen ?_ (by assumption) | refine Below.trans ?_ (by assumption) | (refine bset ?_ (by first | (simp; done) | (simp; omega)) _)))) HL.out hn hc
        have HG := Lib.hid hG
        have hI := idx5_2
        clear hG hin
        go_wp2_with (go_at_call 14; refine HG.out.mono ?_; rintro e w5 ⟨rfl, hb5⟩)
        go_roundw
        case rel => exact ⟨2 + 1, by omega, by go_num, (by repeat (first | exact brefl _ | assumption | refine balloc ?_ _ | refine bdrew ?_ _ | refine bdrew1 ?_ | refine bthen ?_ (by assumption) | refine Below.trans ?_ (by assumption) | (refine bset ?_ (by first | (simp; done) | (simp; omega)) _)))⟩
        case measure => simp [intOf]
    · by_cases hin : 0 ≤ k ∧ k + 2 ≤ n
      · obtain ⟨g1, g2⟩ := HF3.out hin
        have hG : Calls Try.prog 14 #[.slice a n c, .int .i64 ((3 : Nat) : Int), .int .i64 k] wr fun e w' => e = .returned (.tuple #[.int .i64 (kindNum bs 3 k.toNat), .bool true]) ∧ Below wr.heap.size wr w' := got_in a n c 3 bs k wr (by omega) hin (HH.out.below (by repeat (first | exact brefl _ | assumption | refine balloc ?_ _ | refine bdrew ?_ _ | refine bdrew1 ?_ | refine bthen ?_ (by assumption) | refine Below.trans ?_ (by assumption) | (refine bset ?_ (by first | (simp; done) | (simp; omega)) _)))) HL.out hn hc
        have HG := Lib.hid hG
        have hI := idx5_3
        clear hG hin
        generalize kindNum bs 3 k.toNat = v at *
        go_wp2_with (go_at_call 14; refine HG.out.mono ?_; rintro e w5 ⟨rfl, hb5⟩)
        go_roundw
        case rel => exact ⟨3 + 1, by omega, by go_num, (by repeat (first | exact brefl _ | assumption | refine balloc ?_ _ | refine bdrew ?_ _ | refine bdrew1 ?_ | refine bthen ?_ (by assumption) | refine Below.trans ?_ (by assumption) | (refine bset ?_ (by first | (simp; done) | (simp; omega)) _)))⟩
        case measure => simp [intOf]
      · have g2 := HO3.out hin
        have hG : Calls Try.prog 14 #[.slice a n c, .int .i64 ((3 : Nat) : Int), .int .i64 k] wr fun e w' => e = .returned (.tuple #[.int .i64 0, .bool false]) ∧ Below wr.heap.size wr w' := got_out a n c 3 bs k wr (by omega) hin (HH.out.below (by repeat (first | exact brefl _ | assumption | refine balloc ?_ _ | refine bdrew ?_ _ | refine bdrew1 ?_ | refine bthen ?_ (by assumption) | refine Below.trans ?_ (by assumption) | (refine bset ?_ (by first | (simp; done) | (simp; omega)) _)))) HL.out hn hc
        have HG := Lib.hid hG
        have hI := idx5_3
        clear hG hin
        go_wp2_with (go_at_call 14; refine HG.out.mono ?_; rintro e w5 ⟨rfl, hb5⟩)
        go_roundw
        case rel => exact ⟨3 + 1, by omega, by go_num, (by repeat (first | exact brefl _ | assumption | refine balloc ?_ _ | refine bdrew ?_ _ | refine bdrew1 ?_ | refine bthen ?_ (by assumption) | refine Below.trans ?_ (by assumption) | (refine bset ?_ (by first | (simp; done) | (simp; omega)) _)))⟩
        case measure => simp [intOf]
    · by_cases hin : 0 ≤ k ∧ k + 4 ≤ n
      · obtain ⟨g1, g2⟩ := HF4.out hin
        have hG : Calls Try.prog 14 #[.slice a n c, .int .i64 ((4 : Nat) : Int), .int .i64 k] wr fun e w' => e = .returned (.tuple #[.int .i64 (kindNum bs 4 k.toNat), .bool true]) ∧ Below wr.heap.size wr w' := got_in a n c 4 bs k wr (by omega) hin (HH.out.below (by repeat (first | exact brefl _ | assumption | refine balloc ?_ _ | refine bdrew ?_ _ | refine bdrew1 ?_ | refine bthen ?_ (by assumption) | refine Below.trans ?_ (by assumption) | (refine bset ?_ (by first | (simp; done) | (simp; omega)) _)))) HL.out hn hc
        have HG := Lib.hid hG
        have hI := idx5_4
        clear hG hin
        generalize kindNum bs 4 k.toNat = v at *
        go_wp2_with (go_at_call 14; refine HG.out.mono ?_; rintro e w5 ⟨rfl, hb5⟩)
        go_roundw
        case rel => exact ⟨4 + 1, by omega, by go_num, (by repeat (first | exact brefl _ | assumption | refine balloc ?_ _ | refine bdrew ?_ _ | refine bdrew1 ?_ | refine bthen ?_ (by assumption) | refine Below.trans ?_ (by assumption) | (refine bset ?_ (by first | (simp; done) | (simp; omega)) _)))⟩
        case measure => simp [intOf]
      · have g2 := HO4.out hin
        have hG : Calls Try.prog 14 #[.slice a n c, .int .i64 ((4 : Nat) : Int), .int .i64 k] wr fun e w' => e = .returned (.tuple #[.int .i64 0, .bool false]) ∧ Below wr.heap.size wr w' := got_out a n c 4 bs k wr (by omega) hin (HH.out.below (by repeat (first | exact brefl _ | assumption | refine balloc ?_ _ | refine bdrew ?_ _ | refine bdrew1 ?_ | refine bthen ?_ (by assumption) | refine Below.trans ?_ (by assumption) | (refine bset ?_ (by first | (simp; done) | (simp; omega)) _)))) HL.out hn hc
        have HG := Lib.hid hG
        have hI := idx5_4
        clear hG hin
        go_wp2_with (go_at_call 14; refine HG.out.mono ?_; rintro e w5 ⟨rfl, hb5⟩)
        go_roundw
        case rel => exact ⟨4 + 1, by omega, by go_num, (by repeat (first | exact brefl _ | assumption | refine balloc ?_ _ | refine bdrew ?_ _ | refine bdrew1 ?_ | refine bthen ?_ (by assumption) | refine Below.trans ?_ (by assumption) | (refine bset ?_ (by first | (simp; done) | (simp; omega)) _)))⟩
        case measure => simp [intOf]
    · go_wp2
      go_ret
      exact ⟨rfl, (by repeat (first | exact brefl _ | assumption | refine balloc ?_ _ | refine bdrew ?_ _ | refine bdrew1 ?_ | refine bthen ?_ (by assumption) | refine Below.trans ?_ (by assumption) | (refine bset ?_ (by first | (simp; done) | (simp; omega)) _)))⟩
end Go.Proofs.Ytfgkmgabldjpaaa
