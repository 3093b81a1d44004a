/- The walk of ViewHalves: numbers of four bytes are made of those of two, and of one. -/
import Derived.Test.YtfgkmgabldjpaaaLaw1
import Derived.Deep.RegionHeld3
namespace Go.Proofs.Ytfgkmgabldjpaaa
open Go.RowKit

theorem keep1 {w w' : World} {p : Addr} {v : Value} (h0 : w.cell? p = some v) (hb : Below w.heap.size w w') : w'.cell? p = some v ∧ Below w.heap.size w w' :=
  ⟨by rw [hb.cell (cell_lt h0)]; exact h0, hb⟩
theorem keep3 {w w' : World} {p q r : Addr} {v u t : Value} (h0 : w.cell? p = some v) (h1 : w.cell? q = some u) (h2 : w.cell? r = some t) (hb : Below w.heap.size w w') :
    w'.cell? p = some v ∧ w'.cell? q = some u ∧ w'.cell? r = some t ∧ Below w.heap.size w w' :=
  ⟨(keep1 h0 hb).1, (keep1 h1 hb).1, (keep1 h2 hb).1, hb⟩
theorem s32_facts (n : Nat) (h : n ≤ 4294967295) : -2147483648 ≤ s32 n ∧ s32 n ≤ 2147483647 ∧ (s32 n - n).tmod 4294967296 = 0 ∧ (s32 n < 0 ↔ 2147483648 ≤ n) := by
  unfold s32; split
  · refine ⟨by omega, by omega, ?_, by omega⟩
    rw [show (n : Int) - 4294967296 - n = -4294967296 by omega]; rfl
  · refine ⟨by omega, by omega, ?_, by omega⟩
    rw [Int.sub_self]; rfl
theorem s16_facts (n : Nat) (h : n ≤ 65535) : -32768 ≤ s16 n ∧ s16 n ≤ 32767 ∧ (s16 n - n).tmod 65536 = 0 ∧ (s16 n < 0 ↔ 32768 ≤ n) := by
  unfold s16; split
  · refine ⟨by omega, by omega, ?_, by omega⟩
    rw [show (n : Int) - 65536 - n = -65536 by omega]; rfl
  · refine ⟨by omega, by omega, ?_, by omega⟩
    rw [Int.sub_self]; rfl
set_option maxRecDepth 100000 in
set_option maxHeartbeats 1600000 in
theorem viewHalves_walk (x0 x1 x2 x3 : UInt8) (w : World) :
    Calls Try.prog 8 #[.agg #[.int .u8 x0.toNat, .int .u8 x1.toNat, .int .u8 x2.toNat, .int .u8 x3.toNat]] w fun e w' => e = .returned (.bool true) ∧ Below w.heap.size w w' := by
  have hB : Has (w.alloc (.cells #[.int .u8 x0.toNat, .int .u8 x1.toNat, .int .u8 x2.toNat, .int .u8 x3.toNat] 37)) (some ⟨w.heap.size, 0, none⟩) (bytesV [x0, x1, x2, x3]) := by
    refine has_of fun j u hu => ?_
    match j, hu with
    | 0, hu => simp [bytesV] at hu; subst hu; simp [allocC]
    | 1, hu => simp [bytesV] at hu; subst hu; simp [allocC]
    | 2, hu => simp [bytesV] at hu; subst hu; simp [allocC]
    | 3, hu => simp [bytesV] at hu; subst hu; simp [allocC]
    | j + 4, hu => simp [bytesV] at hu
  have HB := Lib.hid hB
  clear hB
  have c4 : ∀ W, Has W (some ⟨w.heap.size, 0, none⟩) (bytesV [x0, x1, x2, x3]) → Calls Try.prog 25 #[.agg #[.slice (some ⟨w.heap.size, 0, none⟩) 4 4], .int .i64 0] W fun e w' => e = .returned (.int .i64 ((num [x0, x1, x2, x3] 0 4 : Nat))) ∧ Below W.heap.size W w' := fun W h => u32_ok _ 4 4 0 _ W h rfl (by omega) (by omega) (by decide)
  have C4 := Lib.hid c4
  clear c4
  have c20 : ∀ W, Has W (some ⟨w.heap.size, 0, none⟩) (bytesV [x0, x1, x2, x3]) → Calls Try.prog 26 #[.agg #[.slice (some ⟨w.heap.size, 0, none⟩) 4 4], .int .i64 0] W fun e w' => e = .returned (.int .i64 ((num [x0, x1, x2, x3] 0 2 : Nat))) ∧ Below W.heap.size W w' := fun W h => u16_ok _ 4 4 0 _ W h rfl (by omega) (by omega) (by decide)
  have C20 := Lib.hid c20
  clear c20
  have c21 : ∀ W, Has W (some ⟨w.heap.size, 0, none⟩) (bytesV [x0, x1, x2, x3]) → Calls Try.prog 26 #[.agg #[.slice (some ⟨w.heap.size, 0, none⟩) 4 4], .int .i64 1] W fun e w' => e = .returned (.int .i64 ((num [x0, x1, x2, x3] 1 2 : Nat))) ∧ Below W.heap.size W w' := fun W h => u16_ok _ 4 4 1 _ W h rfl (by omega) (by omega) (by decide)
  have C21 := Lib.hid c21
  clear c21
  have c22 : ∀ W, Has W (some ⟨w.heap.size, 0, none⟩) (bytesV [x0, x1, x2, x3]) → Calls Try.prog 26 #[.agg #[.slice (some ⟨w.heap.size, 0, none⟩) 4 4], .int .i64 2] W fun e w' => e = .returned (.int .i64 ((num [x0, x1, x2, x3] 2 2 : Nat))) ∧ Below W.heap.size W w' := fun W h => u16_ok _ 4 4 2 _ W h rfl (by omega) (by omega) (by decide)
  have C22 := Lib.hid c22
  clear c22
  have c11 : ∀ W, Has W (some ⟨w.heap.size, 0, none⟩) (bytesV [x0, x1, x2, x3]) → Calls Try.prog 27 #[.agg #[.slice (some ⟨w.heap.size, 0, none⟩) 4 4], .int .i64 1] W fun e w' => e = .returned (.int .i64 ((num [x0, x1, x2, x3] 1 1 : Nat))) ∧ Below W.heap.size W w' := fun W h => u8_ok _ 4 4 1 _ W h rfl (by omega) (by omega) (by decide)
  have C11 := Lib.hid c11
  clear c11
  have c12 : ∀ W, Has W (some ⟨w.heap.size, 0, none⟩) (bytesV [x0, x1, x2, x3]) → Calls Try.prog 27 #[.agg #[.slice (some ⟨w.heap.size, 0, none⟩) 4 4], .int .i64 2] W fun e w' => e = .returned (.int .i64 ((num [x0, x1, x2, x3] 2 1 : Nat))) ∧ Below W.heap.size W w' := fun W h => u8_ok _ 4 4 2 _ W h rfl (by omega) (by omega) (by decide)
  have C12 := Lib.hid c12
  clear c12
  have d4 : ∀ W, Has W (some ⟨w.heap.size, 0, none⟩) (bytesV [x0, x1, x2, x3]) → Calls Try.prog 28 #[.agg #[.slice (some ⟨w.heap.size, 0, none⟩) 4 4], .int .i64 0] W fun e w' => e = .returned (.int .i64 (s32 (num [x0, x1, x2, x3] 0 4))) ∧ Below W.heap.size W w' := fun W h => i32_ok _ 4 4 0 _ W h rfl (by omega) (by omega) (by decide)
  have D4 := Lib.hid d4
  clear d4
  have d22 : ∀ W, Has W (some ⟨w.heap.size, 0, none⟩) (bytesV [x0, x1, x2, x3]) → Calls Try.prog 29 #[.agg #[.slice (some ⟨w.heap.size, 0, none⟩) 4 4], .int .i64 2] W fun e w' => e = .returned (.int .i64 (s16 (num [x0, x1, x2, x3] 2 2))) ∧ Below W.heap.size W w' := fun W h => i16_ok _ 4 4 2 _ W h rfl (by omega) (by omega) (by decide)
  have D22 := Lib.hid d22
  clear d22
  have e1 : num [x0, x1, x2, x3] 0 4 = 65536 * num [x0, x1, x2, x3] 0 2 + num [x0, x1, x2, x3] 2 2 := by simp [num]; omega
  have e2 : num [x0, x1, x2, x3] 1 2 = 256 * num [x0, x1, x2, x3] 1 1 + num [x0, x1, x2, x3] 2 1 := by simp [num]
  have b4 := num4_lt [x0, x1, x2, x3] 0
  have b20 := num2_lt [x0, x1, x2, x3] 0
  have b22 := num2_lt [x0, x1, x2, x3] 2
  have b11 : num [x0, x1, x2, x3] 1 1 ≤ 255 := by rw [num1]; exact byte_le _
  have b12 : num [x0, x1, x2, x3] 2 1 ≤ 255 := by rw [num1]; exact byte_le _
  have g20 : num [x0, x1, x2, x3] 2 2 = 256 * x2.toNat + x3.toNat := by simp [num]
  have g4 : num [x0, x1, x2, x3] 0 4 = 256 * (256 * (256 * x0.toNat + x1.toNat) + x2.toNat) + x3.toNat := by simp [num]
  have l0 := byte_le x0
  have l1 := byte_le x1
  have l2 := byte_le x2
  have l3 := byte_le x3
  obtain ⟨f1, f2, f3, f4⟩ := s32_facts (num [x0, x1, x2, x3] 0 4) (num4_lt _ _)
  obtain ⟨t1, t2, t3, t4⟩ := s16_facts (num [x0, x1, x2, x3] 2 2) (num2_lt _ _)
  generalize s32 (num [x0, x1, x2, x3] 0 4) = i4 at *
  generalize s16 (num [x0, x1, x2, x3] 2 2) = i2 at *
  generalize num [x0, x1, x2, x3] 0 4 = n4 at *
  generalize num [x0, x1, x2, x3] 0 2 = n20 at *
  generalize num [x0, x1, x2, x3] 2 2 = n22 at *
  generalize num [x0, x1, x2, x3] 1 2 = n21 at *
  generalize num [x0, x1, x2, x3] 1 1 = n11 at *
  generalize num [x0, x1, x2, x3] 2 1 = n12 at *
  have k1 : ((n4 : Int) != 65536 * (n20 : Int) + (n22 : Int)) = false := by simp; omega
  have k2 : ((n21 : Int) != 256 * (n11 : Int) + (n12 : Int)) = false := by simp; omega
  have m1 : decide ((128 : Int) ≤ x0.toNat) = decide (i4 < 0) := by rw [decide_eq_decide]; omega
  have m2 : decide ((128 : Int) ≤ x2.toNat) = decide (i2 < 0) := by rw [decide_eq_decide]; omega
  have E1 := Lib.hid e1
  have E2 := Lib.hid e2
  have G20 := Lib.hid g20
  have G4 := Lib.hid g4
  clear e1 e2 g20 g4 f4 t4
  have hAC := allocC
  have hAF := allocF
  go_enter Try.func8, Try.ntmps8
  go_wp2_with (first
    | (go_at_call 10; refine (speaks_any _).mono ?_; rintro e w1 ⟨rfl, hb1⟩; have h1c := bc hb1; have h1f := bf hb1; have h1z := hb1.size; try simp only [World.size_alloc] at h1z)
    | (go_at_call 23; refine (of_any _ _ _ _).mono ?_; rintro e w2 ⟨rfl, hb2⟩; have h2c := bc hb2; have h2f := bf hb2; have h2z := hb2.size; try simp only [World.size_alloc] at h2z)
    | (go_at_call 25; refine (C4.out _ (HB.out.below (by repeat (first | exact brefl _ | assumption | refine balloc ?_ _ | refine bdrew ?_ _ | refine bdrew1 ?_ | refine bthen ?_ (by assumption) | refine Below.trans ?_ (by assumption) | (refine bset ?_ (by first | (simp; done) | (simp; omega)) _))))).mono ?_; rintro e w3 ⟨rfl, hb3⟩; have h3c := bc hb3; have h3f := bf hb3; have h3z := hb3.size; try simp only [World.size_alloc] at h3z))
  have hV : w3.cell? ⟨w2.heap.size, 0, none⟩ = some (.slice (some ⟨w.heap.size, 0, none⟩) 4 4) := by
    rw [h3c, if_pos (by simp), allocC, if_pos rfl]; rfl
  clear h1c h1f h2c h2f h3c h3f
  have r1 : IntKind.i64.wrap (65536 * (n20 : Int)) = 65536 * (n20 : Int) := IntWalk.i64_in _ (by omega)
  have r2 : IntKind.i64.wrap (65536 * (n20 : Int) + (n22 : Int)) = 65536 * (n20 : Int) + (n22 : Int) := IntWalk.i64_in _ (by omega)
  have r3 : IntKind.i64.wrap (256 * (n11 : Int)) = 256 * (n11 : Int) := IntWalk.i64_in _ (by omega)
  have r4 : IntKind.i64.wrap (256 * (n11 : Int) + (n12 : Int)) = 256 * (n11 : Int) + (n12 : Int) := IntWalk.i64_in _ (by omega)
  go_region_held3 (fun w' => w'.cell? ⟨w2.heap.size, 0, none⟩ = some (.slice (some ⟨w.heap.size, 0, none⟩) 4 4) ∧ Below w3.heap.size w3 w')
    (((try go_split_ands); exact keep1 hV (by repeat (first | exact brefl _ | assumption | refine balloc ?_ _ | refine bdrew ?_ _ | refine bdrew1 ?_ | refine bthen ?_ (by assumption) | refine Below.trans ?_ (by assumption) | (refine bset ?_ (by first | (simp; done) | (simp; omega)) _)))))
    (first
      | ((try go_split_ands); go_at_call 26; (with_reducible refine (C20.out _ (HB.out.below (by repeat (first | exact brefl _ | assumption | refine balloc ?_ _ | refine bdrew ?_ _ | refine bdrew1 ?_ | refine bthen ?_ (by assumption) | refine Below.trans ?_ (by assumption) | (refine bset ?_ (by first | (simp; done) | (simp; omega)) _))))).mono ?_); rintro e w4 ⟨rfl, hb4⟩)
      | ((try go_split_ands); go_at_call 26; (with_reducible refine (C22.out _ (HB.out.below (by repeat (first | exact brefl _ | assumption | refine balloc ?_ _ | refine bdrew ?_ _ | refine bdrew1 ?_ | refine bthen ?_ (by assumption) | refine Below.trans ?_ (by assumption) | (refine bset ?_ (by first | (simp; done) | (simp; omega)) _))))).mono ?_); rintro e w5 ⟨rfl, hb5⟩)
      | ((try go_split_ands); go_at_call 26; (with_reducible refine (C21.out _ (HB.out.below (by repeat (first | exact brefl _ | assumption | refine balloc ?_ _ | refine bdrew ?_ _ | refine bdrew1 ?_ | refine bthen ?_ (by assumption) | refine Below.trans ?_ (by assumption) | (refine bset ?_ (by first | (simp; done) | (simp; omega)) _))))).mono ?_); rintro e w6 ⟨rfl, hb6⟩)
      | ((try go_split_ands); go_at_call 27; (with_reducible refine (C11.out _ (HB.out.below (by repeat (first | exact brefl _ | assumption | refine balloc ?_ _ | refine bdrew ?_ _ | refine bdrew1 ?_ | refine bthen ?_ (by assumption) | refine Below.trans ?_ (by assumption) | (refine bset ?_ (by first | (simp; done) | (simp; omega)) _))))).mono ?_); rintro e w7 ⟨rfl, hb7⟩)
      | ((try go_split_ands); go_at_call 27; (with_reducible refine (C12.out _ (HB.out.below (by repeat (first | exact brefl _ | assumption | refine balloc ?_ _ | refine bdrew ?_ _ | refine bdrew1 ?_ | refine bthen ?_ (by assumption) | refine Below.trans ?_ (by assumption) | (refine bset ?_ (by first | (simp; done) | (simp; omega)) _))))).mono ?_); rintro e w8 ⟨rfl, hb8⟩))
  go_wp2_with fail
  obtain ⟨p0, hV', hb8'⟩ : ∃ p : Unit, w8.cell? ⟨w2.heap.size, 0, none⟩ = some (.slice (some ⟨w.heap.size, 0, none⟩) 4 4) ∧ Below w3.heap.size w3 w8 := ⟨(), (by go_split_ands; assumption), (by go_split_ands; assumption)⟩
  have hb8'' : Below (w.alloc (.cells #[.int .u8 x0.toNat, .int .u8 x1.toNat, .int .u8 x2.toNat, .int .u8 x3.toNat] 37)).heap.size (w.alloc (.cells #[.int .u8 x0.toNat, .int .u8 x1.toNat, .int .u8 x2.toNat, .int .u8 x3.toNat] 37)) w8 := (by repeat (first | exact brefl _ | assumption | refine balloc ?_ _ | refine bdrew ?_ _ | refine bdrew1 ?_ | refine bthen ?_ (by assumption) | refine Below.trans ?_ (by assumption) | (refine bset ?_ (by first | (simp; done) | (simp; omega)) _)))
  have hX0 : w8.cell? ⟨w.heap.size, 0, none⟩ = some (.int .u8 x0.toNat) := by
    rw [hb8''.cell (p := ⟨w.heap.size, 0, none⟩) (by simp), allocC, if_pos rfl]; rfl
  have hX2 : w8.cell? ⟨w.heap.size, 2, none⟩ = some (.int .u8 x2.toNat) := by
    rw [hb8''.cell (p := ⟨w.heap.size, 2, none⟩) (by simp), allocC, if_pos rfl]; rfl
  have r5 : IntKind.i64.wrap (i4 - (n4 : Int)) = i4 - (n4 : Int) := IntWalk.i64_in _ (by omega)
  have r6 : IntKind.i64.wrap (i2 - (n22 : Int)) = i2 - (n22 : Int) := IntWalk.i64_in _ (by omega)
  go_region_held3 (fun w' => w'.cell? ⟨w2.heap.size, 0, none⟩ = some (.slice (some ⟨w.heap.size, 0, none⟩) 4 4) ∧ w'.cell? ⟨w.heap.size, 0, none⟩ = some (.int .u8 x0.toNat) ∧ w'.cell? ⟨w.heap.size, 2, none⟩ = some (.int .u8 x2.toNat) ∧ Below w8.heap.size w8 w')
    (((try go_split_ands); exact keep3 hV' hX0 hX2 (by repeat (first | exact brefl _ | assumption | refine balloc ?_ _ | refine bdrew ?_ _ | refine bdrew1 ?_ | refine bthen ?_ (by assumption) | refine Below.trans ?_ (by assumption) | (refine bset ?_ (by first | (simp; done) | (simp; omega)) _)))))
    (first
      | ((try go_split_ands); go_at_call 28; (with_reducible refine (D4.out _ (HB.out.below (by repeat (first | exact brefl _ | assumption | refine balloc ?_ _ | refine bdrew ?_ _ | refine bdrew1 ?_ | refine bthen ?_ (by assumption) | refine Below.trans ?_ (by assumption) | (refine bset ?_ (by first | (simp; done) | (simp; omega)) _))))).mono ?_); rintro e w9 ⟨rfl, hb9⟩)
      | ((try go_split_ands); go_at_call 29; (with_reducible refine (D22.out _ (HB.out.below (by repeat (first | exact brefl _ | assumption | refine balloc ?_ _ | refine bdrew ?_ _ | refine bdrew1 ?_ | refine bthen ?_ (by assumption) | refine Below.trans ?_ (by assumption) | (refine bset ?_ (by first | (simp; done) | (simp; omega)) _))))).mono ?_); rintro e w11 ⟨rfl, hb11⟩)
      | ((try go_split_ands); go_at_call 26; (with_reducible refine (C22.out _ (HB.out.below (by repeat (first | exact brefl _ | assumption | refine balloc ?_ _ | refine bdrew ?_ _ | refine bdrew1 ?_ | refine bthen ?_ (by assumption) | refine Below.trans ?_ (by assumption) | (refine bset ?_ (by first | (simp; done) | (simp; omega)) _))))).mono ?_); rintro e w12 ⟨rfl, hb12⟩))
  go_wp2
  go_ret
  exact ⟨rfl, by go_split_ands; exact (by repeat (first | exact brefl _ | assumption | refine balloc ?_ _ | refine bdrew ?_ _ | refine bdrew1 ?_ | refine bthen ?_ (by assumption) | refine Below.trans ?_ (by assumption) | (refine bset ?_ (by first | (simp; done) | (simp; omega)) _)))⟩
end Go.Proofs.Ytfgkmgabldjpaaa
