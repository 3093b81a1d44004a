
/- Contracts of package view's numbers: U8, U16, U32, I16, I32 of a View whose bytes are known. Conditions: as many bytes as the slice says, no more than its capacity. -/
import Derived.Test.YthjnpfhcjacibaaView
namespace Go.Proofs.Ythjnpfhcjacibaa
open Go.RowKit

/-- The number of so many bytes from a place on, the higher first. -/
def num (bs : List UInt8) (k : Nat) : Nat → Nat
  | 0 => 0
  | i + 1 => 256 * num bs k i + (bs.getD (k + i) 0).toNat
theorem num1 (bs : List UInt8) (k : Nat) : num bs k 1 = (bs.getD k 0).toNat := by simp [num]
theorem num2 (bs : List UInt8) (k : Nat) : num bs k 2 = 256 * (bs.getD k 0).toNat + (bs.getD (k + 1) 0).toNat := by simp [num]
theorem num4 (bs : List UInt8) (k : Nat) : num bs k 4 = 256 * (256 * (256 * (bs.getD k 0).toNat + (bs.getD (k + 1) 0).toNat) + (bs.getD (k + 2) 0).toNat) + (bs.getD (k + 3) 0).toNat := by simp [num]
theorem num2_lt (bs : List UInt8) (k : Nat) : num bs k 2 ≤ 65535 := by
  have := byte_le (bs.getD k 0); have := byte_le (bs.getD (k + 1) 0); rw [num2]; omega
theorem num4_lt (bs : List UInt8) (k : Nat) : num bs k 4 ≤ 4294967295 := by
  have := byte_le (bs.getD k 0); have := byte_le (bs.getD (k + 1) 0); have := byte_le (bs.getD (k + 2) 0); have := byte_le (bs.getD (k + 3) 0); rw [num4]; omega

theorem ofInt64 (a : Nat) (ha : a < 9223372036854775808) : (BitVec.ofInt 64 (a : Int)).toNat = a := by
  rw [BitVec.ofInt_natCast, BitVec.toNat_ofNat]; omega
/-- '|' of a multiple and what is below. -/
theorem or_add (a b i : Nat) (hb : b < 2 ^ i) (hab : a * 2 ^ i + b < 9223372036854775808) : bits .or .i64 ((a * 2 ^ i : Nat) : Int) (b : Int) = ((a * 2 ^ i + b : Nat) : Int) := by
  have h : a * 2 ^ i ||| b = a * 2 ^ i + b := by rw [Nat.mul_comm]; exact (Nat.two_pow_add_eq_or_of_lt hb a).symm
  show IntKind.i64.wrap (((BitVec.ofInt 64 ((a * 2 ^ i : Nat) : Int)) ||| (BitVec.ofInt 64 (b : Int))).toNat : Int) = _
  rw [BitVec.toNat_or, ofInt64 _ (by omega), ofInt64 _ (by omega), h, IntKind.wrap_i64]
  omega
theorem or8 (a b : Nat) (hb : b ≤ 255) (ha : a ≤ 16777215) : bits .or .i64 ((a : Int) * 256) (b : Int) = 256 * (a : Int) + b := by
  have := or_add a b 8 (by omega) (by omega)
  simp only [show (2 ^ 8 : Nat) = 256 from rfl, Int.natCast_mul, Int.natCast_add] at this
  rw [show ((256 : Nat) : Int) = 256 from rfl] at this
  rw [this]; omega

theorem or32 (x0 x1 x2 x3 : Nat) (h0 : x0 ≤ 255) (h1 : x1 ≤ 255) (h2 : x2 ≤ 255) (h3 : x3 ≤ 255) :
    bits .or .i64 (bits .or .i64 (bits .or .i64 ((x0 : Int) * 16777216) ((x1 : Int) * 65536)) ((x2 : Int) * 256)) (x3 : Int) = ((256 * (256 * (256 * x0 + x1) + x2) + x3 : Nat) : Int) := by
  have e1 := or_add x0 (x1 * 2 ^ 16) 24 (by omega) (by omega)
  have e2 := or_add (x0 * 256 + x1) (x2 * 2 ^ 8) 16 (by omega) (by omega)
  have e3 := or_add ((x0 * 256 + x1) * 256 + x2) x3 8 (by omega) (by omega)
  rw [show (x0 : Int) * 16777216 = ((x0 * 2 ^ 24 : Nat) : Int) by omega, show (x1 : Int) * 65536 = ((x1 * 2 ^ 16 : Nat) : Int) by omega, e1,
    show x0 * 2 ^ 24 + x1 * 2 ^ 16 = (x0 * 256 + x1) * 2 ^ 16 by omega, show (x2 : Int) * 256 = ((x2 * 2 ^ 8 : Nat) : Int) by omega, e2,
    show (x0 * 256 + x1) * 2 ^ 16 + x2 * 2 ^ 8 = ((x0 * 256 + x1) * 256 + x2) * 2 ^ 8 by omega, e3]
  omega

theorem fldV (a : Option Addr) (n c : Nat) (w : World) : (Instr.field 43 (.agg #[.slice a n c]) 0).run Try.prog w = .ok (.slice a n c) w := by kernel_rfl

/-- What a call must know of two bytes. -/
theorem two_at {w : World} {a : Option Addr} {bs : List UInt8} {c k m : Nat} (h : Has w a (bytesV bs)) (hc : bs.length ≤ c) (hk : k + m ≤ bs.length) (hm : 0 < m) :
    ∃ b o, adv a c k = some ⟨b, o, none⟩ ∧ b < w.heap.size ∧ ∀ j, j < m → w.cell? ⟨b, o + j, none⟩ = some (.int .u8 (bs.getD (k + j) 0).toNat) := by
  have h' := h.adv c k (by rw [bytesV_length]; exact hc)
  obtain ⟨b, o, ha, hb, hg⟩ := h'.get (by rw [List.length_drop, bytesV_length]; omega)
  refine ⟨b, o, ha, hb, fun j hj => hg j _ ?_⟩
  rw [List.getElem?_drop, bytesV_get _ _ (by omega)]

set_option maxRecDepth 100000 in
set_option maxHeartbeats 400000 in
theorem u8_ok (a : Option Addr) (n c k : Nat) (bs : List UInt8) (w : World) (h : Has w a (bytesV bs)) (hl : bs.length = n) (hk : k + 1 ≤ n) (hn : n ≤ c) (hc : c ≤ maxLen) :
    Calls Try.prog 40 #[.agg #[.slice a n c], .int .i64 k] w fun e w' => e = .returned (.int .i64 (num bs k 1 : Nat)) ∧ Below w.heap.size w w' := by
  obtain ⟨b, o, ha, hb, hx⟩ := two_at (c := c) (k := k) (m := 1) h (by omega) (by omega) (by omega)
  have hx0 := hx 0 (by omega)
  have hcut := fun w => cut_ok a n c k 1 w hk hn hc
  rw [ha] at hcut
  have HC := Lib.hid hcut
  have HN := Lib.hid (num1 bs k)
  have hle := byte_le (bs.getD k 0)
  simp only [Nat.add_zero] at hx0
  generalize (bs.getD k 0).toNat = x0 at *
  clear hcut ha hx h hl
  have hAC := allocC
  have hAF := allocF
  have hF := fldV
  go_enter Try.func40, Try.ntmps40
  go_wp2_with (go_at_call 27; refine (HC.out _).mono ?_; rintro e w1 ⟨rfl, hb1⟩; have h1c := bc hb1; have h1f := bf hb1; have h1z := hb1.size; try simp only [World.size_alloc] at h1z)
  go_ret
  exact ⟨by rw [HN.out]; rfl, bthen (balloc (brefl _) _) hb1⟩

set_option maxRecDepth 100000 in
set_option maxHeartbeats 400000 in
theorem u16_ok (a : Option Addr) (n c k : Nat) (bs : List UInt8) (w : World) (h : Has w a (bytesV bs)) (hl : bs.length = n) (hk : k + 2 ≤ n) (hn : n ≤ c) (hc : c ≤ maxLen) :
    Calls Try.prog 28 #[.agg #[.slice a n c], .int .i64 k] w fun e w' => e = .returned (.int .i64 (num bs k 2 : Nat)) ∧ Below w.heap.size w w' := by
  obtain ⟨b, o, ha, hb, hx⟩ := two_at (c := c) (k := k) (m := 2) h (by omega) (by omega) (by omega)
  have hx0 := hx 0 (by omega)
  have hx1 := hx 1 (by omega)
  have hcut := fun w => cut_ok a n c k 2 w hk hn hc
  rw [ha] at hcut
  have HC := Lib.hid hcut
  have HN := Lib.hid (num2 bs k)
  have hle0 := byte_le (bs.getD k 0)
  have hle1 := byte_le (bs.getD (k + 1) 0)
  simp only [Nat.add_zero] at hx0
  generalize (bs.getD k 0).toNat = x0 at *
  generalize (bs.getD (k + 1) 0).toNat = x1 at *
  clear hcut ha hx h hl
  have hAC := allocC
  have hAF := allocF
  have hF := fldV
  go_enter Try.func28, Try.ntmps28
  go_wp2_with (go_at_call 27; refine (HC.out _).mono ?_; rintro e w1 ⟨rfl, hb1⟩; have h1c := bc hb1; have h1f := bf hb1; have h1z := hb1.size; try simp only [World.size_alloc] at h1z)
  go_quiet (fail)
  go_wp2
  go_ret
  refine ⟨?_, bdrew (bthen (balloc (brefl _) _) hb1) _⟩
  rw [HN.out, or8 _ _ hle1 (by omega)]
  rfl

set_option maxRecDepth 100000 in
set_option maxHeartbeats 800000 in
theorem u32_ok (a : Option Addr) (n c k : Nat) (bs : List UInt8) (w : World) (h : Has w a (bytesV bs)) (hl : bs.length = n) (hk : k + 4 ≤ n) (hn : n ≤ c) (hc : c ≤ maxLen) :
    Calls Try.prog 19 #[.agg #[.slice a n c], .int .i64 k] w fun e w' => e = .returned (.int .i64 (num bs k 4 : Nat)) ∧ Below w.heap.size w w' := by
  obtain ⟨b, o, ha, hb, hx⟩ := two_at (c := c) (k := k) (m := 4) h (by omega) (by omega) (by omega)
  have hx0 := hx 0 (by omega)
  have hx1 := hx 1 (by omega)
  have hx2 := hx 2 (by omega)
  have hx3 := hx 3 (by omega)
  have hcut := fun w => cut_ok a n c k 4 w hk hn hc
  rw [ha] at hcut
  have HC := Lib.hid hcut
  have HN := Lib.hid (num4 bs k)
  have hle0 := byte_le (bs.getD k 0)
  have hle1 := byte_le (bs.getD (k + 1) 0)
  have hle2 := byte_le (bs.getD (k + 2) 0)
  have hle3 := byte_le (bs.getD (k + 3) 0)
  simp only [Nat.add_zero] at hx0
  generalize (bs.getD k 0).toNat = x0 at *
  generalize (bs.getD (k + 1) 0).toNat = x1 at *
  generalize (bs.getD (k + 2) 0).toNat = x2 at *
  generalize (bs.getD (k + 3) 0).toNat = x3 at *
  clear hcut ha hx h hl
  have hAC := allocC
  have hAF := allocF
  have hF := fldV
  go_enter Try.func19, Try.ntmps19
  go_wp2_with (go_at_call 27; refine (HC.out _).mono ?_; rintro e w1 ⟨rfl, hb1⟩; have h1c := bc hb1; have h1f := bf hb1; have h1z := hb1.size; try simp only [World.size_alloc] at h1z)
  go_quiet (fail)
  go_wp2
  go_ret
  refine ⟨?_, bdrew (bthen (balloc (brefl _) _) hb1) _⟩
  rw [HN.out, ← or32 _ _ _ _ hle0 hle1 hle2 hle3]
  rfl

/-- The number of two bytes, of four, below nought, too. -/
def s16 (x : Nat) : Int := if 32768 ≤ x then (x : Int) - 65536 else x
def s32 (x : Nat) : Int := if 2147483648 ≤ x then (x : Int) - 4294967296 else x

theorem wrap_s16 (x : Nat) (h : x ≤ 65535) : wrap64 (IntKind.i16.wrap x) = s16 x := by
  simp only [IntKind.wrap, IntKind.bits, IntKind.signed, wrap64, s16]; simp; split <;> split <;> omega
theorem wrap_s32' (x : Nat) (h : x ≤ 4294967295) : wrap64 (wrap32 x) = s32 x := by
  unfold wrap32 wrap64 s32; split <;> omega

set_option maxRecDepth 100000 in
set_option maxHeartbeats 400000 in
theorem u8_bad (a : Option Addr) (n c : Nat) (k : Int) (w : World) (hk : ¬ (0 ≤ k ∧ k + 1 ≤ n)) (hn : n ≤ c) (hc : c ≤ maxLen) :
    Calls Try.prog 40 #[.agg #[.slice a n c], .int .i64 k] w fun e w' => e = .panicked thrown ∧ Below w.heap.size w w' := by
  have HK := Lib.hid hk
  clear hk
  go_enter Try.func40, Try.ntmps40
  go_wp2_with (go_at_call 27; refine (cut_bad _ _ _ _ _ _ (by have := HK.out; omega) hn hc).mono ?_; rintro e w1 ⟨rfl, hb1⟩)
  exact ⟨rfl, rfl, bthen (balloc (brefl _) _) hb1⟩

set_option maxRecDepth 100000 in
set_option maxHeartbeats 400000 in
theorem u16_bad (a : Option Addr) (n c : Nat) (k : Int) (w : World) (hk : ¬ (0 ≤ k ∧ k + 2 ≤ n)) (hn : n ≤ c) (hc : c ≤ maxLen) :
    Calls Try.prog 28 #[.agg #[.slice a n c], .int .i64 k] w fun e w' => e = .panicked thrown ∧ Below w.heap.size w w' := by
  have HK := Lib.hid hk
  clear hk
  go_enter Try.func28, Try.ntmps28
  go_wp2_with (go_at_call 27; refine (cut_bad _ _ _ _ _ _ (by have := HK.out; omega) hn hc).mono ?_; rintro e w1 ⟨rfl, hb1⟩)
  exact ⟨rfl, rfl, bthen (balloc (brefl _) _) hb1⟩

set_option maxRecDepth 100000 in
set_option maxHeartbeats 400000 in
theorem u32_bad (a : Option Addr) (n c : Nat) (k : Int) (w : World) (hk : ¬ (0 ≤ k ∧ k + 4 ≤ n)) (hn : n ≤ c) (hc : c ≤ maxLen) :
    Calls Try.prog 19 #[.agg #[.slice a n c], .int .i64 k] w fun e w' => e = .panicked thrown ∧ Below w.heap.size w w' := by
  have HK := Lib.hid hk
  clear hk
  go_enter Try.func19, Try.ntmps19
  go_wp2_with (go_at_call 27; refine (cut_bad _ _ _ _ _ _ (by have := HK.out; omega) hn hc).mono ?_; rintro e w1 ⟨rfl, hb1⟩)
  exact ⟨rfl, rfl, bthen (balloc (brefl _) _) hb1⟩

end Go.Proofs.Ythjnpfhcjacibaa
