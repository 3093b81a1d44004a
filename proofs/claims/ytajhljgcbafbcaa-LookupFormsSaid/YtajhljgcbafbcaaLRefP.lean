
/- The reference's parts of layer 6: those of a row of numbers. Conditions: no more than 2000 bytes. -/
import Derived.Test.YtajhljgcbafbcaaLRef4
namespace Go.Proofs.Ytajhljgcbafbcaa
open Go.RowKit Go.Lib

theorem u2_any (a : Option Addr) (n c k : Nat) (z : Int) (hz : z = (k : Nat)) (bs : List UInt8) (w : World) (h : Has w a (bytesV bs)) (hl : bs.length = n) (hn : n ≤ maxLen) (hk : k ≤ 100000) :
    Calls Try.prog 62 #[.slice a n c, .int .i64 z, .int .i64 2] w fun e w' => e = .returned (.int .i64 (if k + 2 ≤ n then (num bs k 2 : Nat) else -1)) ∧ w = w' := by
  subst hz
  by_cases hx : k + 2 ≤ n
  · rw [if_pos hx]; exact u_in a n c k 2 bs w h hl hx (by omega) hn
  · rw [if_neg hx]; exact u_out a n c 2 k w (by omega) (by omega) (by omega) hn
/-- What trimmed answers: its parts, and whether there are such. -/
def TrimZ (bs : List UInt8) (at_ S : Nat) : Prop := at_ + 4 ≤ bs.length ∧ num bs at_ 2 + num bs (at_ + 2) 2 ≤ 65536 ∧ num bs (at_ + 2) 2 * S ≤ bs.length - (at_ + 4)
theorem fitK2 (n k m s : Nat) (hs : 1 ≤ s) : fitK n 2 (k : Int) (m : Int) (s : Int) ↔ k ≤ n ∧ m * s ≤ n - k := by
  unfold fitK
  simp only [Int.toNat_natCast]
  constructor
  · rintro ⟨_, h1, _, _, h2 | h2⟩
    · omega
    · exact ⟨by omega, (Nat.le_div_iff_mul_le (by omega)).1 h2⟩
  · rintro ⟨h1, h2⟩
    exact ⟨by omega, by omega, by omega, by omega, .inr ((Nat.le_div_iff_mul_le (by omega)).2 h2)⟩
set_option maxRecDepth 100000 in
set_option maxHeartbeats 3200000 in
theorem trimmed_any (a : Option Addr) (n c : Nat) (bs : List UInt8) (at_ S : Nat) (za zs : Int) (hza : za = (at_ : Nat)) (hzs : zs = (S : Nat)) (hat : at_ ≤ 10) (hS : S = 1 ∨ S = 2 ∨ S = 4) (w : World) (h : Has w a (bytesV bs)) (hl : bs.length = n) (hn : n ≤ c) (hc : c ≤ maxLen) (h20 : n ≤ 2000) :
    Calls Try.prog 73 #[.slice a n c, .int .i64 za, .int .i64 zs] w (PartsRes (fun rs okb => (okb = true → TrimZ bs at_ S ∧ rs = rowsT (num bs at_ 2) (num bs (at_ + 2) 2) (at_ + 4) S) ∧ (okb = false → ¬ TrimZ bs at_ S)) w) := by
  have hAC := allocC
  have hAF := allocF
  subst hza hzs
  have HH := Lib.hid h
  have HL := Lib.hid hl
  clear h hl
  have hnm : n ≤ maxLen := Nat.le_trans hn hc
  by_cases h2 : at_ + 4 ≤ n
  case neg =>
    have HNO := Lib.hid (show ¬ TrimZ bs at_ S from fun hx => by have := hx.1; rw [HL.out] at this; exact h2 this)
    obtain ⟨f, hf, hf2⟩ : ∃ f : Int, (if at_ + 2 ≤ n then ((num bs at_ 2 : Nat) : Int) else -1) = f ∧ -1 ≤ f ∧ f ≤ 65535 := ⟨_, rfl, by have := num2_lt bs at_; split <;> omega⟩
    obtain ⟨hf2, hf3⟩ := hf2
    have HU0 := Lib.hid (fun W hw => u2_any a n c at_ (at_ : Int) rfl bs W hw HL.out hnm (by omega))
    have HU2 := Lib.hid (fun W hw => u2_any a n c (at_ + 2) ((at_ : Int) + 2) (by omega) bs W hw HL.out hnm (by omega))
    rw [hf] at HU0
    rw [if_neg (by omega)] at HU2
    clear hf
    by_cases hf0 : f < 0
    all_goals
      go_enter Try.func73, Try.ntmps73
      go_wp2_with (first | (go_at_call 62; (with_reducible refine (HU2.out _ HH.out).mono ?_); rintro e w_ ⟨rfl, rfl⟩) | (go_at_call 62; (with_reducible refine (HU0.out _ HH.out).mono ?_); rintro e w_ ⟨rfl, rfl⟩))
      go_ret2
      exact ⟨⟨[], false, none, 0, rfl, fun j u hu => (by simp [encRs] at hu), Nat.zero_le _, Nat.zero_le _, Nat.zero_le _, fun hx => (by cases hx), fun _ => HNO.out⟩, Below.refl _ _⟩
  have HU0 := Lib.hid (fun W hw => u2_z a n c at_ (at_ : Int) rfl bs W hw HL.out (by omega) hnm)
  have HU2 := Lib.hid (fun W hw => u2_z a n c (at_ + 2) ((at_ : Int) + 2) (by omega) bs W hw HL.out (by omega) hnm)
  have hfl := num2_lt bs at_
  have hml := num2_lt bs (at_ + 2)
  have HTZ := Lib.hid (show TrimZ bs at_ S ↔ num bs at_ 2 + num bs (at_ + 2) 2 ≤ 65536 ∧ num bs (at_ + 2) 2 * S ≤ n - (at_ + 4) from by unfold TrimZ; rw [HL.out]; exact ⟨fun hx => hx.2, fun hx => ⟨h2, hx⟩⟩)
  generalize num bs at_ 2 = f at *
  generalize num bs (at_ + 2) 2 = m at *
  by_cases hfm : f + m ≤ 65536
  case neg =>
    have HNO := Lib.hid (show ¬ TrimZ bs at_ S from fun hx => hfm (HTZ.out.1 hx).1)
    have hbig : (65536 : Int) < (f : Int) + (m : Int) := by omega
    go_enter Try.func73, Try.ntmps73
    go_wp2_with (first | (go_at_call 62; (with_reducible refine (HU2.out _ HH.out).mono ?_); rintro e w_ ⟨rfl, rfl⟩) | (go_at_call 62; (with_reducible refine (HU0.out _ HH.out).mono ?_); rintro e w_ ⟨rfl, rfl⟩))
    go_ret2
    exact ⟨⟨[], false, none, 0, rfl, fun j u hu => (by simp [encRs] at hu), Nat.zero_le _, Nat.zero_le _, Nat.zero_le _, fun hx => (by cases hx), fun _ => HNO.out⟩, Below.refl _ _⟩
  have hbig : ¬ (65536 : Int) < (f : Int) + (m : Int) := by omega
  have hS1 : 1 ≤ S ∧ S ≤ 4 := by omega
  by_cases hfit : m * S ≤ n - (at_ + 4)
  case neg =>
    have HNO := Lib.hid (show ¬ TrimZ bs at_ S from fun hx => hfit (HTZ.out.1 hx).2)
    have HRR := Lib.hid (fun W => rref_any n ((at_ : Int) + 4) (m : Int) (S : Int) false (by have := fitK2 n (at_ + 4) m S hS1.1; rw [show (((at_ + 4 : Nat)) : Int) = (at_ : Int) + 4 by omega] at this; rw [this]; simp; omega) W hnm (by omega) (by omega) (by omega))
    clear hfit
    go_enter Try.func73, Try.ntmps73
    go_wp2_with (first | (go_at_call 62; (with_reducible refine (HU2.out _ HH.out).mono ?_); rintro e w_ ⟨rfl, rfl⟩) | (go_at_call 62; (with_reducible refine (HU0.out _ HH.out).mono ?_); rintro e w_ ⟨rfl, rfl⟩) | (go_at_call 63; refine (HRR.out _).mono ?_; rintro e w_ ⟨rfl, rfl⟩))
    go_ret2
    exact ⟨⟨[], false, none, 0, rfl, fun j u hu => (by simp [encRs] at hu), Nat.zero_le _, Nat.zero_le _, Nat.zero_le _, fun hx => (by cases hx), fun _ => HNO.out⟩, Below.refl _ _⟩
  have HRR := Lib.hid (fun W => rref_any n ((at_ : Int) + 4) (m : Int) (S : Int) true (by have := fitK2 n (at_ + 4) m S hS1.1; rw [show (((at_ + 4 : Nat)) : Int) = (at_ : Int) + 4 by omega] at this; rw [this]; simp; omega) W hnm (by omega) (by omega) (by omega))
  have HOK := Lib.hid (HTZ.out.2 ⟨hfm, hfit⟩)
  clear hfit
  by_cases hm0 : m = 0
  · subst hm0
    go_enter Try.func73, Try.ntmps73
    go_wp2_with (first | (go_at_call 62; (with_reducible refine (HU2.out _ HH.out).mono ?_); rintro e w_ ⟨rfl, rfl⟩) | (go_at_call 62; (with_reducible refine (HU0.out _ HH.out).mono ?_); rintro e w_ ⟨rfl, rfl⟩) | (go_at_call 63; refine (HRR.out _).mono ?_; rintro e w_ ⟨rfl, rfl⟩))
    go_ret2
    exact ⟨⟨[], true, _, _, rfl, fun j u hu => (by simp [encRs] at hu), Nat.le_refl _, Nat.zero_le _, Nat.zero_le _, fun _ => ⟨HOK.out, by simp [rowsT]⟩, fun hx => (by cases hx)⟩, (by repeat (first | exact brefl _ | assumption | refine balloc ?_ _ | refine bdrew ?_ _ | refine bdrew1 ?_ | refine bthen ?_ (by assumption) | refine Below.trans ?_ (by assumption) | (refine bset ?_ (by first | (simp; done) | (simp; omega)) _)))⟩
  · have hmz : ((m : Int) == 0) = false := by rw [beq_eq_false_iff_ne]; omega
    have HRT := Lib.hid (show rowsT f m (at_ + 4) S = [⟨f, f + m - 1, at_ + 4, S, true⟩] from by simp [rowsT, hm0])
    have HL1 := Lib.hid (show (f : Int) + (m : Int) - 1 = ((f + m - 1 : Nat) : Int) by omega)
    go_enter Try.func73, Try.ntmps73
    go_wp2_with (first | (go_at_call 62; (with_reducible refine (HU2.out _ HH.out).mono ?_); rintro e w_ ⟨rfl, rfl⟩) | (go_at_call 62; (with_reducible refine (HU0.out _ HH.out).mono ?_); rintro e w_ ⟨rfl, rfl⟩) | (go_at_call 63; refine (HRR.out _).mono ?_; rintro e w_ ⟨rfl, rfl⟩))
    go_ret2
    refine ⟨⟨rowsT f m (at_ + 4) S, true, _, 1, by rw [HRT.out]; rfl, ?_, by rw [HRT.out]; exact Nat.le_refl _, by decide, by rw [HRT.out]; show 1 ≤ 65535; omega, fun _ => ⟨HOK.out, rfl⟩, fun hx => (by cases hx)⟩, (by repeat (first | exact brefl _ | assumption | refine balloc ?_ _ | refine bdrew ?_ _ | refine bdrew1 ?_ | refine bthen ?_ (by assumption) | refine Below.trans ?_ (by assumption) | (refine bset ?_ (by first | (simp; done) | (simp; omega)) _)))⟩
    rw [HRT.out]
    have e : encRs [⟨f, f + m - 1, at_ + 4, S, true⟩] = [.int .i64 (f : Nat), .int .i64 ((f : Int) + (m : Int) - 1), .int .i64 ((at_ : Int) + 4), .int .i64 (S : Nat), .int .i64 (S : Nat)] := by rw [HL1.out]; rfl
    rw [e]
    exact has_alloc w _ _
end Go.Proofs.Ytajhljgcbafbcaa
