
/- Package cover, and the document's answers for it: contracts. A word's bits as Bools. No condition but that a word is one of 32 bits. -/
import Derived.Test.YtjkgkjdhehbepaaBase
import Derived.Laws.BitsAllLaws
namespace Go.Proofs.Ytjkgkjdhehbepaa
open Go.RowKit

/-- A bit of a word. -/
def bt (k n : Nat) : Bool := decide (k / 2 ^ n % 2 = 1)
theorem and_two (k n : Nat) : (k &&& 2 ^ n = 0) ↔ bt k n = false := by
  have ht : k.testBit n = bt k n := by
    rw [Nat.testBit_eq_decide_div_mod_eq]; rfl
  rw [← ht]
  constructor
  · intro h
    have := congrArg (fun m => m.testBit n) h
    simpa [Nat.testBit_and, Nat.testBit_two_pow] using this
  · intro h
    apply Nat.eq_of_testBit_eq
    intro i
    rw [Nat.testBit_and, Nat.testBit_two_pow, Nat.zero_testBit]
    by_cases hi : n = i
    · subst hi; simp [h]
    · simp [hi]
theorem and_bit (k n : Nat) (h : k ≤ 4294967295) (hn : n < 32) : (bits .and .u32 (k : Int) ((2 ^ n : Nat) : Int) != 0) = bt k n := by
  have h2 : 2 ^ n < 4294967296 := Nat.pow_lt_pow_right (by decide) hn
  rw [u32_and_nat k (2 ^ n) (by omega) h2]
  have := and_two k n
  cases hb : bt k n with
  | false => rw [hb] at this; rw [this.2 rfl]; rfl
  | true =>
    rw [hb] at this
    have hne : ¬ (k &&& 2 ^ n) = 0 := fun h => by have := this.1 h; cases this
    rw [bne_iff_ne]
    intro h
    exact hne (by omega)
theorem and_255 (k : Nat) (h : k ≤ 4294967295) : bits .and .u32 (k : Int) 255 = ((k % 256 : Nat) : Int) := by
  have := u32_and_nat k 255 (by omega) (by decide)
  rw [show ((255 : Nat) : Int) = 255 from rfl] at this
  rw [this, show (255 : Nat) = 2 ^ 8 - 1 from rfl, Nat.and_two_pow_sub_one_eq_mod]
structure Bits (k : Nat) : Prop where
  b31 : (bits .and .u32 (k : Int) 2147483648 != 0) = bt k 31
  b30 : (bits .and .u32 (k : Int) 1073741824 != 0) = bt k 30
  b29 : (bits .and .u32 (k : Int) 536870912 != 0) = bt k 29
  b28 : (bits .and .u32 (k : Int) 268435456 != 0) = bt k 28
  low : bits .and .u32 (k : Int) 255 = ((k % 256 : Nat) : Int)
theorem bits_any (k : Nat) (h : k ≤ 4294967295) : Bits k :=
  ⟨and_bit k 31 h (by decide), and_bit k 30 h (by decide), and_bit k 29 h (by decide), and_bit k 28 h (by decide), and_255 k h⟩

set_option maxRecDepth 100000 in
set_option maxHeartbeats 400000 in
theorem way_any (k : Nat) (v b : Int) (h : k ≤ 4294967295) (w : World) :
    Calls Try.prog 22 #[.int .u32 (k : Nat), .int .u32 v, .int .u32 b] w fun e w' => e = .returned (.agg #[.int .i64 ((k % 256 : Nat) : Int), .bool (bits .and .u32 (k : Int) v != 0), .bool (bits .and .u32 (k : Int) b != 0)]) ∧ Below w.heap.size w w' := by
  have hb := and_255 k h
  have hAC := allocC
  have hAF := allocF
  go_enter Try.func22, Try.ntmps22
  go_wp2_with fail
  refine bodyPost_ret (v := .agg #[.int .i64 ((k % 256 : Nat) : Int), .bool (bits .and .u32 (k : Int) v != 0), .bool (bits .and .u32 (k : Int) b != 0)]) (by simp [results, Try.results22, go_sem, hAC, hAF, hb]) rfl ?_
  exact ⟨rfl, (by repeat (first | exact brefl _ | assumption | refine balloc ?_ _ | refine bdrew ?_ _ | refine bdrew1 ?_ | refine bthen ?_ (by assumption) | refine Below.trans ?_ (by assumption) | (refine bset ?_ (by first | (simp; done) | (simp; omega)) _)))⟩

set_option maxRecDepth 100000 in
set_option maxHeartbeats 800000 in
theorem ofMorx_any (k : Nat) (h : k ≤ 4294967295) (w : World) :
    Calls Try.prog 7 #[.int .u32 (k : Nat)] w fun e w' => e = .returned (.agg #[.int .i64 ((k % 256 : Nat) : Int), .bool (bt k 31), .bool (bt k 30), .bool (bt k 29), .bool (bt k 28)]) ∧ Below w.heap.size w w' := by
  have hb := bits_any k h
  have hw : ∀ W, Calls Try.prog 22 #[.int .u32 (k : Nat), .int .u32 2147483648, .int .u32 1073741824] W fun e w' => e = .returned (.agg #[.int .i64 ((k % 256 : Nat) : Int), .bool (bt k 31), .bool (bt k 30)]) ∧ Below W.heap.size W w' := fun W => by
    have := way_any k 2147483648 1073741824 h W
    rw [hb.b31, hb.b30] at this
    exact this
  have HW := Lib.hid hw
  clear hw
  have hAC := allocC
  have hAF := allocF
  go_enter Try.func7, Try.ntmps7
  go_wp2_with (first | (go_at_call 22; refine (HW.out _).mono ?_; rintro e w1 ⟨rfl, hb1⟩; have h1c := bc hb1; have h1f := bf hb1; have h1z := hb1.size; try simp only [World.size_alloc, World.size_drew] at h1z))
  have hc : ∀ o, w1.cell? ⟨w.heap.size, o, none⟩ = (w.alloc (Obj.cells #[.int .i64 0, .bool false, .bool false, .bool false, .bool false] 27)).cell? ⟨w.heap.size, o, none⟩ := fun o => hb1.cell (p := ⟨w.heap.size, o, none⟩) (by simp)
  have hf : ∀ o, w1.frozen? ⟨w.heap.size, o, none⟩ = (w.alloc (Obj.cells #[.int .i64 0, .bool false, .bool false, .bool false, .bool false] 27)).frozen? ⟨w.heap.size, o, none⟩ := fun o => hb1.frozen (p := ⟨w.heap.size, o, none⟩) (by simp)
  have HB := Lib.hid (bthen (balloc (brefl w) _) hb1)
  refine bodyPost_ret (v := .agg #[.int .i64 ((k % 256 : Nat) : Int), .bool (bt k 31), .bool (bt k 30), .bool (bt k 29), .bool (bt k 28)]) (by simp [results, Try.results7, go_sem, hc, hf, hAC, hAF, hb.b31, hb.b30, hb.b29, hb.b28, hb.low]) rfl ?_
  exact ⟨rfl, bset (bset (bset (bset (bset HB.out (by simp) _) (by simp) _) (by simp) _) (by simp) _) (by simp) _⟩

set_option maxRecDepth 100000 in
set_option maxHeartbeats 800000 in
theorem ofKerx_any (k : Nat) (h : k ≤ 4294967295) (w : World) :
    Calls Try.prog 15 #[.int .u32 (k : Nat)] w fun e w' => e = .returned (.agg #[.int .i64 ((k % 256 : Nat) : Int), .bool (bt k 31), .bool (bt k 28), .bool (bt k 30), .bool (bt k 29)]) ∧ Below w.heap.size w w' := by
  have hb := bits_any k h
  have hw : ∀ W, Calls Try.prog 22 #[.int .u32 (k : Nat), .int .u32 2147483648, .int .u32 268435456] W fun e w' => e = .returned (.agg #[.int .i64 ((k % 256 : Nat) : Int), .bool (bt k 31), .bool (bt k 28)]) ∧ Below W.heap.size W w' := fun W => by
    have := way_any k 2147483648 268435456 h W
    rw [hb.b31, hb.b28] at this
    exact this
  have HW := Lib.hid hw
  clear hw
  have hAC := allocC
  have hAF := allocF
  go_enter Try.func15, Try.ntmps15
  go_wp2_with (first | (go_at_call 22; refine (HW.out _).mono ?_; rintro e w1 ⟨rfl, hb1⟩; have h1c := bc hb1; have h1f := bf hb1; have h1z := hb1.size; try simp only [World.size_alloc, World.size_drew] at h1z))
  have hc : ∀ o, w1.cell? ⟨w.heap.size, o, none⟩ = (w.alloc (Obj.cells #[.int .i64 0, .bool false, .bool false, .bool false, .bool false] 35)).cell? ⟨w.heap.size, o, none⟩ := fun o => hb1.cell (p := ⟨w.heap.size, o, none⟩) (by simp)
  have hf : ∀ o, w1.frozen? ⟨w.heap.size, o, none⟩ = (w.alloc (Obj.cells #[.int .i64 0, .bool false, .bool false, .bool false, .bool false] 35)).frozen? ⟨w.heap.size, o, none⟩ := fun o => hb1.frozen (p := ⟨w.heap.size, o, none⟩) (by simp)
  have HB := Lib.hid (bthen (balloc (brefl w) _) hb1)
  refine bodyPost_ret (v := .agg #[.int .i64 ((k % 256 : Nat) : Int), .bool (bt k 31), .bool (bt k 28), .bool (bt k 30), .bool (bt k 29)]) (by simp [results, Try.results15, go_sem, hc, hf, hAC, hAF, hb.b31, hb.b30, hb.b29, hb.b28, hb.low]) rfl ?_
  exact ⟨rfl, bset (bset (bset (bset (bset HB.out (by simp) _) (by simp) _) (by simp) _) (by simp) _) (by simp) _⟩

def isD (d : Int) : Bool := d == 0 || d == 1 || d == 2
theorem isD_def (d : Int) : isD d = (d == 0 || d == 1 || d == 2) := rfl
set_option maxRecDepth 100000 in
theorem is_any (d : Int) (w : World) : Calls Try.prog 14 #[.int .i64 d] w fun e w' => e = .returned (.bool (isD d)) ∧ Below w.heap.size w w' := by
  go_enter Try.func14, Try.ntmps14
  go_wp2_with fail
  all_goals go_ret
  · rename_i h; subst h; exact ⟨rfl, (by repeat (first | exact brefl _ | assumption | refine balloc ?_ _ | refine bdrew ?_ _ | refine bdrew1 ?_ | refine bthen ?_ (by assumption) | refine Below.trans ?_ (by assumption) | (refine bset ?_ (by first | (simp; done) | (simp; omega)) _)))⟩
  · rename_i _ h; subst h; exact ⟨rfl, (by repeat (first | exact brefl _ | assumption | refine balloc ?_ _ | refine bdrew ?_ _ | refine bdrew1 ?_ | refine bthen ?_ (by assumption) | refine Below.trans ?_ (by assumption) | (refine bset ?_ (by first | (simp; done) | (simp; omega)) _)))⟩
  · exact ⟨rfl, (by repeat (first | exact brefl _ | assumption | refine balloc ?_ _ | refine bdrew ?_ _ | refine bdrew1 ?_ | refine bthen ?_ (by assumption) | refine Below.trans ?_ (by assumption) | (refine bset ?_ (by first | (simp; done) | (simp; omega)) _)))⟩

set_option maxRecDepth 100000 in
set_option maxHeartbeats 400000 in
theorem fits_any (z d : Int) (v b : Bool) (w : World) : Calls Try.prog 21 #[.agg #[.int .i64 z, .bool v, .bool b], .int .i64 d] w fun e w' => e = .returned (.bool (isD d && (v == (d == 2)))) ∧ Below w.heap.size w w' := by
  have hAC := allocC
  have hAF := allocF
  go_enter Try.func21, Try.ntmps21
  go_wp2_with (first | (go_at_call 14; refine (is_any d _).mono ?_; rintro e w1 ⟨rfl, hb1⟩; have h1c := bc hb1; have h1f := bf hb1; have h1z := hb1.size; try simp only [World.size_alloc, World.size_drew] at h1z))
  all_goals go_ret
  all_goals refine ⟨?_, (by repeat (first | exact brefl _ | assumption | refine balloc ?_ _ | refine bdrew ?_ _ | refine bdrew1 ?_ | refine bthen ?_ (by assumption) | refine Below.trans ?_ (by assumption) | (refine bset ?_ (by first | (simp; done) | (simp; omega)) _)))⟩
  all_goals clear hAC hAF
  all_goals simp_all

set_option maxRecDepth 100000 in
set_option maxHeartbeats 400000 in
theorem fromEnd_any (z d : Int) (v b : Bool) (w : World) : Calls Try.prog 24 #[.agg #[.int .i64 z, .bool v, .bool b], .int .i64 d] w fun e w' => e = .returned (.bool (!(b == (d == 1)))) ∧ Below w.heap.size w w' := by
  have hAC := allocC
  have hAF := allocF
  go_enter Try.func24, Try.ntmps24
  go_wp2_with (fail)
  all_goals go_ret
  all_goals refine ⟨?_, (by repeat (first | exact brefl _ | assumption | refine balloc ?_ _ | refine bdrew ?_ _ | refine bdrew1 ?_ | refine bthen ?_ (by assumption) | refine Below.trans ?_ (by assumption) | (refine bset ?_ (by first | (simp; done) | (simp; omega)) _)))⟩
  all_goals clear hAC hAF
  all_goals simp_all

set_option maxRecDepth 100000 in
set_option maxHeartbeats 400000 in
theorem mruns_any (z d : Int) (v b x y : Bool) (w : World) : Calls Try.prog 10 #[.agg #[.int .i64 z, .bool v, .bool b, .bool x, .bool y], .int .i64 d] w fun e w' => e = .returned (.bool ((isD d && (v == (d == 2))) || (x && isD d))) ∧ Below w.heap.size w w' := by
  have hAC := allocC
  have hAF := allocF
  go_enter Try.func10, Try.ntmps10
  go_wp2_with (first | (go_at_call 21; refine (fits_any z d v b _).mono ?_; rintro e w1 ⟨rfl, hb1⟩; have h1c := bc hb1; have h1f := bf hb1; have h1z := hb1.size; try simp only [World.size_alloc, World.size_drew] at h1z) | (go_at_call 14; refine (is_any d _).mono ?_; rintro e w2 ⟨rfl, hb2⟩; have h2c := bc hb2; have h2f := bf hb2; have h2z := hb2.size; try simp only [World.size_alloc, World.size_drew] at h2z))
  all_goals go_ret
  all_goals refine ⟨?_, (by repeat (first | exact brefl _ | assumption | refine balloc ?_ _ | refine bdrew ?_ _ | refine bdrew1 ?_ | refine bthen ?_ (by assumption) | refine Below.trans ?_ (by assumption) | (refine bset ?_ (by first | (simp; done) | (simp; omega)) _)))⟩
  all_goals clear hAC hAF
  all_goals simp_all

set_option maxRecDepth 100000 in
set_option maxHeartbeats 400000 in
theorem mturned_any (z d : Int) (v b x y : Bool) (w : World) : Calls Try.prog 12 #[.agg #[.int .i64 z, .bool v, .bool b, .bool x, .bool y], .int .i64 d] w fun e w' => e = .returned (.bool (if y then b else !(b == (d == 1)))) ∧ Below w.heap.size w w' := by
  have hAC := allocC
  have hAF := allocF
  go_enter Try.func12, Try.ntmps12
  go_wp2_with (first | (go_at_call 24; refine (fromEnd_any z d v b _).mono ?_; rintro e w1 ⟨rfl, hb1⟩; have h1c := bc hb1; have h1f := bf hb1; have h1z := hb1.size; try simp only [World.size_alloc, World.size_drew] at h1z))
  all_goals go_ret
  all_goals refine ⟨?_, (by repeat (first | exact brefl _ | assumption | refine balloc ?_ _ | refine bdrew ?_ _ | refine bdrew1 ?_ | refine bthen ?_ (by assumption) | refine Below.trans ?_ (by assumption) | (refine bset ?_ (by first | (simp; done) | (simp; omega)) _)))⟩
  all_goals clear hAC hAF
  all_goals simp_all

set_option maxRecDepth 100000 in
set_option maxHeartbeats 400000 in
theorem kruns_any (z d : Int) (v b x y : Bool) (w : World) : Calls Try.prog 17 #[.agg #[.int .i64 z, .bool v, .bool b, .bool x, .bool y], .int .i64 d] w fun e w' => e = .returned (.bool ((isD d && (v == (d == 2))) && !y)) ∧ Below w.heap.size w w' := by
  have hAC := allocC
  have hAF := allocF
  go_enter Try.func17, Try.ntmps17
  go_wp2_with (first | (go_at_call 21; refine (fits_any z d v b _).mono ?_; rintro e w1 ⟨rfl, hb1⟩; have h1c := bc hb1; have h1f := bf hb1; have h1z := hb1.size; try simp only [World.size_alloc, World.size_drew] at h1z))
  all_goals go_ret
  all_goals refine ⟨?_, (by repeat (first | exact brefl _ | assumption | refine balloc ?_ _ | refine bdrew ?_ _ | refine bdrew1 ?_ | refine bthen ?_ (by assumption) | refine Below.trans ?_ (by assumption) | (refine bset ?_ (by first | (simp; done) | (simp; omega)) _)))⟩
  all_goals clear hAC hAF
  all_goals simp_all

set_option maxRecDepth 100000 in
set_option maxHeartbeats 400000 in
theorem kturned_any (z d : Int) (v b x y : Bool) (w : World) : Calls Try.prog 19 #[.agg #[.int .i64 z, .bool v, .bool b, .bool x, .bool y], .int .i64 d] w fun e w' => e = .returned (.bool (!(b == (d == 1)))) ∧ Below w.heap.size w w' := by
  have hAC := allocC
  have hAF := allocF
  go_enter Try.func19, Try.ntmps19
  go_wp2_with (first | (go_at_call 24; refine (fromEnd_any z d v b _).mono ?_; rintro e w1 ⟨rfl, hb1⟩; have h1c := bc hb1; have h1f := bf hb1; have h1z := hb1.size; try simp only [World.size_alloc, World.size_drew] at h1z))
  all_goals go_ret
  all_goals refine ⟨?_, (by repeat (first | exact brefl _ | assumption | refine balloc ?_ _ | refine bdrew ?_ _ | refine bdrew1 ?_ | refine bthen ?_ (by assumption) | refine Below.trans ?_ (by assumption) | (refine bset ?_ (by first | (simp; done) | (simp; omega)) _)))⟩
  all_goals clear hAC hAF
  all_goals simp_all

set_option maxRecDepth 100000 in
set_option maxHeartbeats 400000 in
theorem bit_any (k n : Nat) (w : World) (h : k ≤ 4294967295) (hn : n ≤ 31) : Calls Try.prog 23 #[.int .u32 (k : Nat), .int .i64 (n : Nat)] w fun e w' => e = .returned (.bool (bt k n)) ∧ Below w.heap.size w w' := by
  go_enter Try.func23, Try.ntmps23
  go_wp2_with fail
  go_loopw [0, 5] (fun x i wr => ∃ j : Nat, j ≤ n ∧ i = .int .i64 (j : Nat) ∧ x = .int .u32 ((k / 2 ^ j : Nat) : Int) ∧ Below w.heap.size w wr) (fun _ i _ => n - (intOf i).toNat)
  case atStart => exact ⟨0, Nat.zero_le _, rfl, by simp, brefl _⟩
  case round =>
    obtain ⟨j, hj, rfl, rfl, hb⟩ := hrel
    have hle : k / 2 ^ j ≤ 4294967295 := Nat.le_trans (Nat.div_le_self _ _) h
    have hd : k / 2 ^ (j + 1) = k / 2 ^ j / 2 := by rw [Nat.pow_succ, Nat.div_div_eq_div_mul]
    have HD := Lib.hid hd
    clear hd
    by_cases hlt : j < n
    · generalize hx : k / 2 ^ j = x at *
      go_wp2_with fail
      go_roundw
      case rel => exact ⟨j + 1, by omega, by go_num, by rw [HD.out]; first | rfl | go_num, hb⟩
      case measure => simp [intOf]; omega
    · obtain rfl : j = n := by omega
      have he : bt k j = decide (k / 2 ^ j % 2 = 1) := rfl
      generalize hx : k / 2 ^ j = x at *
      go_wp2_with fail
      go_ret
      refine ⟨?_, hb⟩
      rw [he]
      show Ending.returned (.bool (((x : Nat) : Int) % 2 == 1)) = _
      congr 2
      rw [Bool.eq_iff_iff]
      simp
      omega
theorem dir (d : Int) : d = 0 ∨ d = 1 ∨ d = 2 ∨ (isD d = false ∧ (d == 1) = false ∧ decide (0 ≤ d) = (decide (0 ≤ d)) ∧ (d < 0 ∨ 2 < d)) := by
  by_cases h0 : d = 0
  · exact .inl h0
  by_cases h1 : d = 1
  · exact .inr (.inl h1)
  by_cases h2 : d = 2
  · exact .inr (.inr (.inl h2))
  have e0 : (d == 0) = false := by rw [beq_eq_false_iff_ne]; exact h0
  have e1 : (d == 1) = false := by rw [beq_eq_false_iff_ne]; exact h1
  have e2 : (d == 2) = false := by rw [beq_eq_false_iff_ne]; exact h2
  refine .inr (.inr (.inr ⟨by rw [isD_def, e0, e1, e2]; rfl, e1, rfl, by omega⟩))

set_option maxRecDepth 100000 in
set_option maxHeartbeats 400000 in
theorem vert_any (k : Nat) (w : World) (h : k ≤ 4294967295) : Calls Try.prog 9 #[.int .u32 (k : Nat)] w fun e w' => e = .returned (.bool (bt k 31)) ∧ Below w.heap.size w w' := by
  have B31 := Lib.hid (fun W => show Calls Try.prog 23 #[.int .u32 (k : Nat), .int .i64 31] W fun e w' => e = .returned (.bool (bt k 31)) ∧ Below W.heap.size W w' from bit_any k 31 W h (by decide))
  clear h
  go_enter Try.func9, Try.ntmps9
  go_wp2_with (first | (go_at_call 23; (with_reducible refine (B31.out _).mono ?_); rintro e w1 ⟨rfl, hb1⟩; have h1c := bc hb1; have h1f := bf hb1; have h1z := hb1.size; try simp only [World.size_alloc, World.size_drew] at h1z))
  all_goals go_ret
  all_goals refine ⟨?_, (by repeat (first | exact brefl _ | assumption | refine balloc ?_ _ | refine bdrew ?_ _ | refine bdrew1 ?_ | refine bthen ?_ (by assumption) | refine Below.trans ?_ (by assumption) | (refine bset ?_ (by first | (simp; done) | (simp; omega)) _)))⟩
  all_goals simp_all

set_option maxRecDepth 100000 in
set_option maxHeartbeats 400000 in
theorem cross_any (k : Nat) (w : World) (h : k ≤ 4294967295) : Calls Try.prog 16 #[.int .u32 (k : Nat)] w fun e w' => e = .returned (.bool (bt k 30)) ∧ Below w.heap.size w w' := by
  have B30 := Lib.hid (fun W => show Calls Try.prog 23 #[.int .u32 (k : Nat), .int .i64 30] W fun e w' => e = .returned (.bool (bt k 30)) ∧ Below W.heap.size W w' from bit_any k 30 W h (by decide))
  clear h
  go_enter Try.func16, Try.ntmps16
  go_wp2_with (first | (go_at_call 23; (with_reducible refine (B30.out _).mono ?_); rintro e w1 ⟨rfl, hb1⟩; have h1c := bc hb1; have h1f := bf hb1; have h1z := hb1.size; try simp only [World.size_alloc, World.size_drew] at h1z))
  all_goals go_ret
  all_goals refine ⟨?_, (by repeat (first | exact brefl _ | assumption | refine balloc ?_ _ | refine bdrew ?_ _ | refine bdrew1 ?_ | refine bthen ?_ (by assumption) | refine Below.trans ?_ (by assumption) | (refine bset ?_ (by first | (simp; done) | (simp; omega)) _)))⟩
  all_goals simp_all

set_option maxRecDepth 100000 in
set_option maxHeartbeats 400000 in
theorem kind_any (k : Nat) (w : World) (h : k ≤ 4294967295) : Calls Try.prog 8 #[.int .u32 (k : Nat)] w fun e w' => e = .returned (.int .i64 (((k % 256 : Nat) : Int))) ∧ Below w.heap.size w w' := by
  clear h
  go_enter Try.func8, Try.ntmps8
  go_wp2_with (fail)
  all_goals go_ret
  all_goals refine ⟨?_, (by repeat (first | exact brefl _ | assumption | refine balloc ?_ _ | refine bdrew ?_ _ | refine bdrew1 ?_ | refine bthen ?_ (by assumption) | refine Below.trans ?_ (by assumption) | (refine bset ?_ (by first | (simp; done) | (simp; omega)) _)))⟩
  all_goals simp_all

set_option maxRecDepth 100000 in
set_option maxHeartbeats 800000 in
theorem rruns_any (k : Nat) (d : Int) (w : World) (h : k ≤ 4294967295) : Calls Try.prog 11 #[.int .u32 (k : Nat), .int .i64 d] w fun e w' => e = .returned (.bool (isD d && (bt k 29 || (bt k 31 == (d == 2))))) ∧ Below w.heap.size w w' := by
  have B29 := Lib.hid (fun W => show Calls Try.prog 23 #[.int .u32 (k : Nat), .int .i64 29] W fun e w' => e = .returned (.bool (bt k 29)) ∧ Below W.heap.size W w' from bit_any k 29 W h (by decide))
  have B31 := Lib.hid (fun W => show Calls Try.prog 23 #[.int .u32 (k : Nat), .int .i64 31] W fun e w' => e = .returned (.bool (bt k 31)) ∧ Below W.heap.size W w' from bit_any k 31 W h (by decide))
  clear h
  rcases dir d with rfl | rfl | rfl | ⟨hD, h1, _, hd | hd⟩
  · go_enter Try.func11, Try.ntmps11
    go_wp2_with (first | (go_at_call 23; (with_reducible refine (B29.out _).mono ?_); rintro e w1 ⟨rfl, hb1⟩; have h1c := bc hb1; have h1f := bf hb1; have h1z := hb1.size; try simp only [World.size_alloc, World.size_drew] at h1z) | (go_at_call 23; (with_reducible refine (B31.out _).mono ?_); rintro e w2 ⟨rfl, hb2⟩; have h2c := bc hb2; have h2f := bf hb2; have h2z := hb2.size; try simp only [World.size_alloc, World.size_drew] at h2z))
    all_goals go_ret
    all_goals refine ⟨?_, (by repeat (first | exact brefl _ | assumption | refine balloc ?_ _ | refine bdrew ?_ _ | refine bdrew1 ?_ | refine bthen ?_ (by assumption) | refine Below.trans ?_ (by assumption) | (refine bset ?_ (by first | (simp; done) | (simp; omega)) _)))⟩
    all_goals simp_all [isD]
  · go_enter Try.func11, Try.ntmps11
    go_wp2_with (first | (go_at_call 23; (with_reducible refine (B29.out _).mono ?_); rintro e w1 ⟨rfl, hb1⟩; have h1c := bc hb1; have h1f := bf hb1; have h1z := hb1.size; try simp only [World.size_alloc, World.size_drew] at h1z) | (go_at_call 23; (with_reducible refine (B31.out _).mono ?_); rintro e w2 ⟨rfl, hb2⟩; have h2c := bc hb2; have h2f := bf hb2; have h2z := hb2.size; try simp only [World.size_alloc, World.size_drew] at h2z))
    all_goals go_ret
    all_goals refine ⟨?_, (by repeat (first | exact brefl _ | assumption | refine balloc ?_ _ | refine bdrew ?_ _ | refine bdrew1 ?_ | refine bthen ?_ (by assumption) | refine Below.trans ?_ (by assumption) | (refine bset ?_ (by first | (simp; done) | (simp; omega)) _)))⟩
    all_goals simp_all [isD]
  · go_enter Try.func11, Try.ntmps11
    go_wp2_with (first | (go_at_call 23; (with_reducible refine (B29.out _).mono ?_); rintro e w1 ⟨rfl, hb1⟩; have h1c := bc hb1; have h1f := bf hb1; have h1z := hb1.size; try simp only [World.size_alloc, World.size_drew] at h1z) | (go_at_call 23; (with_reducible refine (B31.out _).mono ?_); rintro e w2 ⟨rfl, hb2⟩; have h2c := bc hb2; have h2f := bf hb2; have h2z := hb2.size; try simp only [World.size_alloc, World.size_drew] at h2z))
    all_goals go_ret
    all_goals refine ⟨?_, (by repeat (first | exact brefl _ | assumption | refine balloc ?_ _ | refine bdrew ?_ _ | refine bdrew1 ?_ | refine bthen ?_ (by assumption) | refine Below.trans ?_ (by assumption) | (refine bset ?_ (by first | (simp; done) | (simp; omega)) _)))⟩
    all_goals simp_all [isD]
  · go_enter Try.func11, Try.ntmps11
    go_wp2_with (first | (go_at_call 23; (with_reducible refine (B29.out _).mono ?_); rintro e w1 ⟨rfl, hb1⟩; have h1c := bc hb1; have h1f := bf hb1; have h1z := hb1.size; try simp only [World.size_alloc, World.size_drew] at h1z) | (go_at_call 23; (with_reducible refine (B31.out _).mono ?_); rintro e w2 ⟨rfl, hb2⟩; have h2c := bc hb2; have h2f := bf hb2; have h2z := hb2.size; try simp only [World.size_alloc, World.size_drew] at h2z))
    all_goals go_ret
    all_goals refine ⟨?_, (by repeat (first | exact brefl _ | assumption | refine balloc ?_ _ | refine bdrew ?_ _ | refine bdrew1 ?_ | refine bthen ?_ (by assumption) | refine Below.trans ?_ (by assumption) | (refine bset ?_ (by first | (simp; done) | (simp; omega)) _)))⟩
    all_goals simp_all [isD]
  · go_enter Try.func11, Try.ntmps11
    go_wp2_with (first | (go_at_call 23; (with_reducible refine (B29.out _).mono ?_); rintro e w1 ⟨rfl, hb1⟩; have h1c := bc hb1; have h1f := bf hb1; have h1z := hb1.size; try simp only [World.size_alloc, World.size_drew] at h1z) | (go_at_call 23; (with_reducible refine (B31.out _).mono ?_); rintro e w2 ⟨rfl, hb2⟩; have h2c := bc hb2; have h2f := bf hb2; have h2z := hb2.size; try simp only [World.size_alloc, World.size_drew] at h2z))
    all_goals go_ret
    all_goals refine ⟨?_, (by repeat (first | exact brefl _ | assumption | refine balloc ?_ _ | refine bdrew ?_ _ | refine bdrew1 ?_ | refine bthen ?_ (by assumption) | refine Below.trans ?_ (by assumption) | (refine bset ?_ (by first | (simp; done) | (simp; omega)) _)))⟩
    all_goals simp_all [isD]

set_option maxRecDepth 100000 in
set_option maxHeartbeats 800000 in
theorem rturned_any (k : Nat) (d : Int) (w : World) (h : k ≤ 4294967295) : Calls Try.prog 13 #[.int .u32 (k : Nat), .int .i64 d] w fun e w' => e = .returned (.bool (if (d == 1) && !bt k 28 then !bt k 30 else bt k 30)) ∧ Below w.heap.size w w' := by
  have B30 := Lib.hid (fun W => show Calls Try.prog 23 #[.int .u32 (k : Nat), .int .i64 30] W fun e w' => e = .returned (.bool (bt k 30)) ∧ Below W.heap.size W w' from bit_any k 30 W h (by decide))
  have B28 := Lib.hid (fun W => show Calls Try.prog 23 #[.int .u32 (k : Nat), .int .i64 28] W fun e w' => e = .returned (.bool (bt k 28)) ∧ Below W.heap.size W w' from bit_any k 28 W h (by decide))
  clear h
  rcases dir d with rfl | rfl | rfl | ⟨hD, h1, _, hd | hd⟩
  · go_enter Try.func13, Try.ntmps13
    go_wp2_with (first | (go_at_call 23; (with_reducible refine (B30.out _).mono ?_); rintro e w1 ⟨rfl, hb1⟩; have h1c := bc hb1; have h1f := bf hb1; have h1z := hb1.size; try simp only [World.size_alloc, World.size_drew] at h1z) | (go_at_call 23; (with_reducible refine (B28.out _).mono ?_); rintro e w2 ⟨rfl, hb2⟩; have h2c := bc hb2; have h2f := bf hb2; have h2z := hb2.size; try simp only [World.size_alloc, World.size_drew] at h2z))
    all_goals go_ret
    all_goals refine ⟨?_, (by repeat (first | exact brefl _ | assumption | refine balloc ?_ _ | refine bdrew ?_ _ | refine bdrew1 ?_ | refine bthen ?_ (by assumption) | refine Below.trans ?_ (by assumption) | (refine bset ?_ (by first | (simp; done) | (simp; omega)) _)))⟩
    all_goals simp_all [isD]
  · go_enter Try.func13, Try.ntmps13
    go_wp2_with (first | (go_at_call 23; (with_reducible refine (B30.out _).mono ?_); rintro e w1 ⟨rfl, hb1⟩; have h1c := bc hb1; have h1f := bf hb1; have h1z := hb1.size; try simp only [World.size_alloc, World.size_drew] at h1z) | (go_at_call 23; (with_reducible refine (B28.out _).mono ?_); rintro e w2 ⟨rfl, hb2⟩; have h2c := bc hb2; have h2f := bf hb2; have h2z := hb2.size; try simp only [World.size_alloc, World.size_drew] at h2z))
    all_goals go_ret
    all_goals refine ⟨?_, (by repeat (first | exact brefl _ | assumption | refine balloc ?_ _ | refine bdrew ?_ _ | refine bdrew1 ?_ | refine bthen ?_ (by assumption) | refine Below.trans ?_ (by assumption) | (refine bset ?_ (by first | (simp; done) | (simp; omega)) _)))⟩
    all_goals simp_all [isD]
  · go_enter Try.func13, Try.ntmps13
    go_wp2_with (first | (go_at_call 23; (with_reducible refine (B30.out _).mono ?_); rintro e w1 ⟨rfl, hb1⟩; have h1c := bc hb1; have h1f := bf hb1; have h1z := hb1.size; try simp only [World.size_alloc, World.size_drew] at h1z) | (go_at_call 23; (with_reducible refine (B28.out _).mono ?_); rintro e w2 ⟨rfl, hb2⟩; have h2c := bc hb2; have h2f := bf hb2; have h2z := hb2.size; try simp only [World.size_alloc, World.size_drew] at h2z))
    all_goals go_ret
    all_goals refine ⟨?_, (by repeat (first | exact brefl _ | assumption | refine balloc ?_ _ | refine bdrew ?_ _ | refine bdrew1 ?_ | refine bthen ?_ (by assumption) | refine Below.trans ?_ (by assumption) | (refine bset ?_ (by first | (simp; done) | (simp; omega)) _)))⟩
    all_goals simp_all [isD]
  · go_enter Try.func13, Try.ntmps13
    go_wp2_with (first | (go_at_call 23; (with_reducible refine (B30.out _).mono ?_); rintro e w1 ⟨rfl, hb1⟩; have h1c := bc hb1; have h1f := bf hb1; have h1z := hb1.size; try simp only [World.size_alloc, World.size_drew] at h1z) | (go_at_call 23; (with_reducible refine (B28.out _).mono ?_); rintro e w2 ⟨rfl, hb2⟩; have h2c := bc hb2; have h2f := bf hb2; have h2z := hb2.size; try simp only [World.size_alloc, World.size_drew] at h2z))
    all_goals go_ret
    all_goals refine ⟨?_, (by repeat (first | exact brefl _ | assumption | refine balloc ?_ _ | refine bdrew ?_ _ | refine bdrew1 ?_ | refine bthen ?_ (by assumption) | refine Below.trans ?_ (by assumption) | (refine bset ?_ (by first | (simp; done) | (simp; omega)) _)))⟩
    all_goals simp_all [isD]
  · go_enter Try.func13, Try.ntmps13
    go_wp2_with (first | (go_at_call 23; (with_reducible refine (B30.out _).mono ?_); rintro e w1 ⟨rfl, hb1⟩; have h1c := bc hb1; have h1f := bf hb1; have h1z := hb1.size; try simp only [World.size_alloc, World.size_drew] at h1z) | (go_at_call 23; (with_reducible refine (B28.out _).mono ?_); rintro e w2 ⟨rfl, hb2⟩; have h2c := bc hb2; have h2f := bf hb2; have h2z := hb2.size; try simp only [World.size_alloc, World.size_drew] at h2z))
    all_goals go_ret
    all_goals refine ⟨?_, (by repeat (first | exact brefl _ | assumption | refine balloc ?_ _ | refine bdrew ?_ _ | refine bdrew1 ?_ | refine bthen ?_ (by assumption) | refine Below.trans ?_ (by assumption) | (refine bset ?_ (by first | (simp; done) | (simp; omega)) _)))⟩
    all_goals simp_all [isD]

set_option maxRecDepth 100000 in
set_option maxHeartbeats 800000 in
theorem rrunsK_any (k : Nat) (d : Int) (w : World) (h : k ≤ 4294967295) : Calls Try.prog 18 #[.int .u32 (k : Nat), .int .i64 d] w fun e w' => e = .returned (.bool (isD d && !bt k 29 && (bt k 31 == (d == 2)))) ∧ Below w.heap.size w w' := by
  have B29 := Lib.hid (fun W => show Calls Try.prog 23 #[.int .u32 (k : Nat), .int .i64 29] W fun e w' => e = .returned (.bool (bt k 29)) ∧ Below W.heap.size W w' from bit_any k 29 W h (by decide))
  have B31 := Lib.hid (fun W => show Calls Try.prog 23 #[.int .u32 (k : Nat), .int .i64 31] W fun e w' => e = .returned (.bool (bt k 31)) ∧ Below W.heap.size W w' from bit_any k 31 W h (by decide))
  clear h
  rcases dir d with rfl | rfl | rfl | ⟨hD, h1, _, hd | hd⟩
  · go_enter Try.func18, Try.ntmps18
    go_wp2_with (first | (go_at_call 23; (with_reducible refine (B29.out _).mono ?_); rintro e w1 ⟨rfl, hb1⟩; have h1c := bc hb1; have h1f := bf hb1; have h1z := hb1.size; try simp only [World.size_alloc, World.size_drew] at h1z) | (go_at_call 23; (with_reducible refine (B31.out _).mono ?_); rintro e w2 ⟨rfl, hb2⟩; have h2c := bc hb2; have h2f := bf hb2; have h2z := hb2.size; try simp only [World.size_alloc, World.size_drew] at h2z))
    all_goals go_ret
    all_goals refine ⟨?_, (by repeat (first | exact brefl _ | assumption | refine balloc ?_ _ | refine bdrew ?_ _ | refine bdrew1 ?_ | refine bthen ?_ (by assumption) | refine Below.trans ?_ (by assumption) | (refine bset ?_ (by first | (simp; done) | (simp; omega)) _)))⟩
    all_goals simp_all [isD]
  · go_enter Try.func18, Try.ntmps18
    go_wp2_with (first | (go_at_call 23; (with_reducible refine (B29.out _).mono ?_); rintro e w1 ⟨rfl, hb1⟩; have h1c := bc hb1; have h1f := bf hb1; have h1z := hb1.size; try simp only [World.size_alloc, World.size_drew] at h1z) | (go_at_call 23; (with_reducible refine (B31.out _).mono ?_); rintro e w2 ⟨rfl, hb2⟩; have h2c := bc hb2; have h2f := bf hb2; have h2z := hb2.size; try simp only [World.size_alloc, World.size_drew] at h2z))
    all_goals go_ret
    all_goals refine ⟨?_, (by repeat (first | exact brefl _ | assumption | refine balloc ?_ _ | refine bdrew ?_ _ | refine bdrew1 ?_ | refine bthen ?_ (by assumption) | refine Below.trans ?_ (by assumption) | (refine bset ?_ (by first | (simp; done) | (simp; omega)) _)))⟩
    all_goals simp_all [isD]
  · go_enter Try.func18, Try.ntmps18
    go_wp2_with (first | (go_at_call 23; (with_reducible refine (B29.out _).mono ?_); rintro e w1 ⟨rfl, hb1⟩; have h1c := bc hb1; have h1f := bf hb1; have h1z := hb1.size; try simp only [World.size_alloc, World.size_drew] at h1z) | (go_at_call 23; (with_reducible refine (B31.out _).mono ?_); rintro e w2 ⟨rfl, hb2⟩; have h2c := bc hb2; have h2f := bf hb2; have h2z := hb2.size; try simp only [World.size_alloc, World.size_drew] at h2z))
    all_goals go_ret
    all_goals refine ⟨?_, (by repeat (first | exact brefl _ | assumption | refine balloc ?_ _ | refine bdrew ?_ _ | refine bdrew1 ?_ | refine bthen ?_ (by assumption) | refine Below.trans ?_ (by assumption) | (refine bset ?_ (by first | (simp; done) | (simp; omega)) _)))⟩
    all_goals simp_all [isD]
  · go_enter Try.func18, Try.ntmps18
    go_wp2_with (first | (go_at_call 23; (with_reducible refine (B29.out _).mono ?_); rintro e w1 ⟨rfl, hb1⟩; have h1c := bc hb1; have h1f := bf hb1; have h1z := hb1.size; try simp only [World.size_alloc, World.size_drew] at h1z) | (go_at_call 23; (with_reducible refine (B31.out _).mono ?_); rintro e w2 ⟨rfl, hb2⟩; have h2c := bc hb2; have h2f := bf hb2; have h2z := hb2.size; try simp only [World.size_alloc, World.size_drew] at h2z))
    all_goals go_ret
    all_goals refine ⟨?_, (by repeat (first | exact brefl _ | assumption | refine balloc ?_ _ | refine bdrew ?_ _ | refine bdrew1 ?_ | refine bthen ?_ (by assumption) | refine Below.trans ?_ (by assumption) | (refine bset ?_ (by first | (simp; done) | (simp; omega)) _)))⟩
    all_goals simp_all [isD]
  · go_enter Try.func18, Try.ntmps18
    go_wp2_with (first | (go_at_call 23; (with_reducible refine (B29.out _).mono ?_); rintro e w1 ⟨rfl, hb1⟩; have h1c := bc hb1; have h1f := bf hb1; have h1z := hb1.size; try simp only [World.size_alloc, World.size_drew] at h1z) | (go_at_call 23; (with_reducible refine (B31.out _).mono ?_); rintro e w2 ⟨rfl, hb2⟩; have h2c := bc hb2; have h2f := bf hb2; have h2z := hb2.size; try simp only [World.size_alloc, World.size_drew] at h2z))
    all_goals go_ret
    all_goals refine ⟨?_, (by repeat (first | exact brefl _ | assumption | refine balloc ?_ _ | refine bdrew ?_ _ | refine bdrew1 ?_ | refine bthen ?_ (by assumption) | refine Below.trans ?_ (by assumption) | (refine bset ?_ (by first | (simp; done) | (simp; omega)) _)))⟩
    all_goals simp_all [isD]

set_option maxRecDepth 100000 in
set_option maxHeartbeats 800000 in
theorem rturnedK_any (k : Nat) (d : Int) (w : World) (h : k ≤ 4294967295) : Calls Try.prog 20 #[.int .u32 (k : Nat), .int .i64 d] w fun e w' => e = .returned (.bool (if d == 1 then !bt k 28 else bt k 28)) ∧ Below w.heap.size w w' := by
  have B28 := Lib.hid (fun W => show Calls Try.prog 23 #[.int .u32 (k : Nat), .int .i64 28] W fun e w' => e = .returned (.bool (bt k 28)) ∧ Below W.heap.size W w' from bit_any k 28 W h (by decide))
  clear h
  rcases dir d with rfl | rfl | rfl | ⟨hD, h1, _, hd | hd⟩
  · go_enter Try.func20, Try.ntmps20
    go_wp2_with (first | (go_at_call 23; (with_reducible refine (B28.out _).mono ?_); rintro e w1 ⟨rfl, hb1⟩; have h1c := bc hb1; have h1f := bf hb1; have h1z := hb1.size; try simp only [World.size_alloc, World.size_drew] at h1z))
    all_goals go_ret
    all_goals refine ⟨?_, (by repeat (first | exact brefl _ | assumption | refine balloc ?_ _ | refine bdrew ?_ _ | refine bdrew1 ?_ | refine bthen ?_ (by assumption) | refine Below.trans ?_ (by assumption) | (refine bset ?_ (by first | (simp; done) | (simp; omega)) _)))⟩
    all_goals simp_all [isD]
  · go_enter Try.func20, Try.ntmps20
    go_wp2_with (first | (go_at_call 23; (with_reducible refine (B28.out _).mono ?_); rintro e w1 ⟨rfl, hb1⟩; have h1c := bc hb1; have h1f := bf hb1; have h1z := hb1.size; try simp only [World.size_alloc, World.size_drew] at h1z))
    all_goals go_ret
    all_goals refine ⟨?_, (by repeat (first | exact brefl _ | assumption | refine balloc ?_ _ | refine bdrew ?_ _ | refine bdrew1 ?_ | refine bthen ?_ (by assumption) | refine Below.trans ?_ (by assumption) | (refine bset ?_ (by first | (simp; done) | (simp; omega)) _)))⟩
    all_goals simp_all [isD]
  · go_enter Try.func20, Try.ntmps20
    go_wp2_with (first | (go_at_call 23; (with_reducible refine (B28.out _).mono ?_); rintro e w1 ⟨rfl, hb1⟩; have h1c := bc hb1; have h1f := bf hb1; have h1z := hb1.size; try simp only [World.size_alloc, World.size_drew] at h1z))
    all_goals go_ret
    all_goals refine ⟨?_, (by repeat (first | exact brefl _ | assumption | refine balloc ?_ _ | refine bdrew ?_ _ | refine bdrew1 ?_ | refine bthen ?_ (by assumption) | refine Below.trans ?_ (by assumption) | (refine bset ?_ (by first | (simp; done) | (simp; omega)) _)))⟩
    all_goals simp_all [isD]
  · go_enter Try.func20, Try.ntmps20
    go_wp2_with (first | (go_at_call 23; (with_reducible refine (B28.out _).mono ?_); rintro e w1 ⟨rfl, hb1⟩; have h1c := bc hb1; have h1f := bf hb1; have h1z := hb1.size; try simp only [World.size_alloc, World.size_drew] at h1z))
    all_goals go_ret
    all_goals refine ⟨?_, (by repeat (first | exact brefl _ | assumption | refine balloc ?_ _ | refine bdrew ?_ _ | refine bdrew1 ?_ | refine bthen ?_ (by assumption) | refine Below.trans ?_ (by assumption) | (refine bset ?_ (by first | (simp; done) | (simp; omega)) _)))⟩
    all_goals simp_all [isD]
  · go_enter Try.func20, Try.ntmps20
    go_wp2_with (first | (go_at_call 23; (with_reducible refine (B28.out _).mono ?_); rintro e w1 ⟨rfl, hb1⟩; have h1c := bc hb1; have h1f := bf hb1; have h1z := hb1.size; try simp only [World.size_alloc, World.size_drew] at h1z))
    all_goals go_ret
    all_goals refine ⟨?_, (by repeat (first | exact brefl _ | assumption | refine balloc ?_ _ | refine bdrew ?_ _ | refine bdrew1 ?_ | refine bthen ?_ (by assumption) | refine Below.trans ?_ (by assumption) | (refine bset ?_ (by first | (simp; done) | (simp; omega)) _)))⟩
    all_goals simp_all [isD]
end Go.Proofs.Ytjkgkjdhehbepaa
