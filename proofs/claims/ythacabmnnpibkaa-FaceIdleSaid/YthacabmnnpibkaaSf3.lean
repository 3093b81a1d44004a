
/- Contract of package sfnt's header. Condition: no more than 4000 tables. -/
import Derived.Test.YthacabmnnpibkaaSf2
import Derived.Test.YthacabmnnpibkaaShelf
namespace Go.Proofs.Ythacabmnnpibkaa
open Go.RowKit

theorem bl (x : Nat) : x ≠ 0 → x < 2 ^ 64 → ∃ e, Lib.bitLen x = e + 1 ∧ 2 ^ e ≤ x ∧ x < 2 ^ (e + 1) := by
  induction x using Nat.strongRecOn with
  | _ x ih =>
    intro h0 h
    by_cases h1 : x = 1
    · subst h1; exact ⟨0, by decide, by decide, by decide⟩
    · obtain ⟨e, g1, g2, g3⟩ := ih (x / 2) (by omega) (by omega) (by omega)
      refine ⟨e + 1, by rw [Lib.bitLen_half x h0 h, g1]; omega, ?_, ?_⟩
      · rw [Nat.pow_succ]; omega
      · rw [Nat.pow_succ]; omega

/-- The greatest power of two that isn't above a number: its exponent. -/
def expo (n : Nat) : Nat := Lib.bitLen n - 1
def power (n : Nat) : Nat := if n = 0 then 0 else 16 * 2 ^ expo n
theorem expo_le (n : Nat) (h : n ≤ 4000) : expo n ≤ 11 ∧ (n ≠ 0 → 2 ^ expo n ≤ n) ∧ power n ≤ 16 * n := by
  by_cases h0 : n = 0
  · subst h0; decide
  · obtain ⟨e, h1, h2, h3⟩ := bl n h0 (by omega)
    have he : expo n = e := by unfold expo; omega
    have : e ≤ 11 := by
      rcases Nat.lt_or_ge 11 e with g | g
      · have : 2 ^ 12 ≤ 2 ^ e := Nat.pow_le_pow_right (by omega) g
        omega
      · exact g
    refine ⟨by omega, fun _ => by rw [he]; exact h2, ?_⟩
    unfold power
    rw [if_neg h0, he]
    omega
def hdr (n : Nat) : List UInt8 := be4 65536 ++ [n, power n, expo n, 16 * n - power n].flatMap be2
theorem hdr_length (n : Nat) : (hdr n).length = 12 := by simp [hdr, be4, be2]

theorem put32_one (w : World) :
    Calls Try.prog 35 #[.slice none 0 0, .slice (some ⟨w.heap.size, 0, none⟩) 1 1] (w.alloc (.cells #[.int .u32 65536] 70)) fun e w' => ∃ a c, e = .returned (.slice a 4 c) ∧ w'.ownsRow w.heap.size 5 1 (.slice a 4 c) 4 (bytesV (be4 65536)) ∧ 4 ≤ c ∧ c ≤ maxLen ∧ (a = none → c = 0) ∧ Below w.heap.size w w' := by
  refine (put32_any w.heap.size none 0 0 [] w.heap.size 1 [65536] _ (World.ownsRow_nil _ _ _ _) (by simp) (by rw [heap_push, if_pos rfl]; rfl) (by simp) (by simp) (by omega) (by omega)).mono ?_
  rintro e w' ⟨a, c, rfl, h1, h2, h3, h4, h5, _⟩
  have e4 : 0 + 4 * [65536].length = 4 := rfl
  rw [e4] at *
  refine ⟨a, c, rfl, ?_, h2, h3, h4, (balloc (brefl w) _).trans h5⟩
  rw [List.nil_append, List.flatMap_cons, List.flatMap_nil, List.append_nil] at h1
  exact h1
theorem put16_four (w : World) (base : Nat) (a : Option Addr) (c : Nat) (xs : List UInt8) (x0 x1 x2 x3 : Nat) (z3 : Int) (hz : z3 = x3) (h0 : x0 < 65536) (h1 : x1 < 65536) (h2 : x2 < 65536) (h3 : x3 < 65536)
    (hown : w.ownsRow base 5 1 (.slice a 4 c) 4 (bytesV xs)) (hb : base ≤ w.heap.size) :
    Calls Try.prog 50 #[.slice a 4 c, .slice (some ⟨w.heap.size, 0, none⟩) 4 4] (w.alloc (.cells #[.int .i64 x0, .int .i64 x1, .int .i64 x2, .int .i64 z3] 3)) fun e w' => ∃ a c, e = .returned (.slice a 12 c) ∧ w'.ownsRow base 5 1 (.slice a 12 c) 12 (bytesV (xs ++ [x0, x1, x2, x3].flatMap be2)) ∧ 12 ≤ c ∧ c ≤ maxLen ∧ (a = none → c = 0) ∧ Below base w w' := by
  subst hz
  refine (put16_any base a 4 c xs w.heap.size 4 [x0, x1, x2, x3] _ (owns_below hown (balloc (brefl w) _) (Nat.le_refl _)) (by simp; omega) (by rw [heap_push, if_pos rfl]; rfl) (by simp; omega) (by simp) (by omega) (by omega)).mono ?_
  rintro e w' ⟨a, c, rfl, h1, h2, h3, h4, h5, _⟩
  have e4 : 4 + 2 * [x0, x1, x2, x3].length = 12 := rfl
  rw [e4] at *
  exact ⟨a, c, rfl, h1, h2, h3, h4, ((balloc (brefl w) _).mono hb).trans h5⟩

set_option maxRecDepth 100000 in
set_option maxHeartbeats 1600000 in
theorem header_any (n : Nat) (w : World) (hn : n ≤ 4000) :
    Calls Try.prog 34 #[.int .i64 n] w fun e w' => ∃ a c, e = .returned (.slice a 12 c) ∧ w'.ownsRow w.heap.size 5 1 (.slice a 12 c) 12 (bytesV (hdr n)) ∧ 12 ≤ c ∧ c ≤ maxLen ∧ (a = none → c = 0) ∧ Below w.heap.size w w' := by
  obtain ⟨h1, h2, h3⟩ := expo_le n hn
  have hAC := allocC
  have hAF := allocF
  by_cases h0 : n = 0
  · subst h0
    clear h1 h2 h3
    go_enter Try.func34, Try.ntmps34
    go_wp2_with (first
      | (go_at_call 35; refine (put32_one _).mono ?_; rintro e w2 ⟨a2, c2, rfl, hown2, k21, k22, k23, hb2⟩; have HO2 := Lib.hid hown2; have HA2 := Lib.hid k23; have h2z := hb2.size; clear hown2 k23)
      | (go_at_call 50; refine (put16_four _ w.heap.size a2 c2 (be4 65536) 0 0 0 0 0 rfl (by omega) (by omega) (by omega) (by omega) HO2.out h2z).mono ?_; rintro e w3 ⟨a3, c3, rfl, hown3, k31, k32, k33, hb3⟩; have HO3 := Lib.hid hown3; have HA3 := Lib.hid k33; clear hown3 k33))
    go_ret
    exact ⟨a3, c3, rfl, HO3.out, k31, k32, HA3.out, hb2.trans hb3⟩
  · have hp : power n = 16 * 2 ^ expo n := by unfold power; exact if_neg h0
    obtain ⟨y, g, _⟩ := bl n h0 (by omega)
    have hx : expo n = y := by unfold expo; omega
    have HP := Lib.hid hp
    have HX := Lib.hid hx
    have hBL : ∀ w, Calls Try.prog 48 #[.int .u64 n] w fun e w' => e = .returned (.int .i64 ((y : Int) + 1)) ∧ w = w' := fun w => (Try.bits_Len (n : Int) w (by omega) (by omega)).mono fun e w' h => by
      rw [Int.toNat_natCast, g] at h
      exact ⟨h.1, h.2.symm⟩
    have HBL := Lib.hid hBL
    rw [hx] at h1 h2
    have h4 : power n ≤ 64000 := by omega
    have HD := Lib.hid (show hdr n = be4 65536 ++ [n, power n, expo n, 16 * n - power n].flatMap be2 from rfl)
    rw [hx] at HD hp
    have hs : IntKind.i64.wrap (16 * 2 ^ y) = ((power n : Nat) : Int) := by
      have e : ((power n : Nat) : Int) = 16 * 2 ^ y := by rw [hp]; simp
      rw [← e]
      exact IntWalk.i64_in _ (by omega)
    clear hp hx hBL g HP HX
    generalize power n = p at *
    go_enter Try.func34, Try.ntmps34
    go_wp2_with (first
      | (go_at_call 48; refine (HBL.out _).mono ?_; rintro e w_ ⟨rfl, rfl⟩)
      | (go_at_call 35; refine (put32_one _).mono ?_; rintro e w2 ⟨a2, c2, rfl, hown2, k21, k22, k23, hb2⟩; have HO2 := Lib.hid hown2; have HA2 := Lib.hid k23; have h2z := hb2.size; clear hown2 k23)
      | (go_at_call 50; refine (put16_four _ w.heap.size a2 c2 (be4 65536) n p y (16 * n - p) (16 * (n : Int) - (p : Int)) (by omega) (by omega) (by omega) (by omega) (by omega) HO2.out h2z).mono ?_; rintro e w3 ⟨a3, c3, rfl, hown3, k31, k32, k33, hb3⟩; have HO3 := Lib.hid hown3; have HA3 := Lib.hid k33; clear hown3 k33))
    go_ret
    exact ⟨a3, c3, rfl, by rw [HD.out]; exact HO3.out, k31, k32, HA3.out, hb2.trans hb3⟩
end Go.Proofs.Ythacabmnnpibkaa
