/- The walk of ViewDeep. -/
import Derived.Test.YtfgkmgabldjpaaaDeep
namespace Go.Proofs.Ytfgkmgabldjpaaa
open Go.RowKit

set_option maxRecDepth 100000 in
set_option maxHeartbeats 1600000 in
theorem viewDeep_walk (a : Option Addr) (n c : Nat) (bs : List UInt8) (x0 x1 x2 x3 : Nat) (w : World) (h : Has w a (bytesV bs)) (hl : bs.length = n) (hn : n ≤ c) (hc : c ≤ maxLen)
    (b0 : x0 ≤ 255) (b1 : x1 ≤ 255) (b2 : x2 ≤ 255) (b3 : x3 ≤ 255) :
    Calls Try.prog 5 #[.slice a n c, .agg #[.int .u8 x0, .int .u8 x1, .int .u8 x2, .int .u8 x3]] w fun e w' => e = .returned (.bool true) ∧ Below w.heap.size w w' := by
  have hAC := allocC
  have hAF := allocF
  by_cases hbig : 1000 < n
  · clear h hl
    unfold maxLen at hc
    go_enter Try.func5, Try.ntmps5
    go_wp2_with (first | (go_at_call 10; refine (speaks_any _).mono ?_; rintro e w1 ⟨rfl, hb1⟩; have h1c := bc hb1; have h1f := bf hb1; have h1z := hb1.size; try simp only [World.size_alloc, World.size_drew] at h1z))
    go_ret
    exact ⟨rfl, (by repeat (first | exact brefl _ | assumption | refine balloc ?_ _ | refine bdrew ?_ _ | refine bdrew1 ?_ | refine bthen ?_ (by assumption) | refine Below.trans ?_ (by assumption) | (refine bset ?_ (by first | (simp; done) | (simp; omega)) _)))⟩
  have hn1 : n ≤ 1000 := by omega
  have T1 := Lib.hid fun W h => twice_any a n c bs x0 x1 x2 x3 W h hl hn hc hn1
  have t2 : ∀ W, Has W a (bytesV bs) → Calls Try.prog 18 #[.slice a n c, .agg #[.int .i64 ((x0 : Int) + (x2 : Int)), .int .i64 x3, .int .i64 0, .int .i64 x3]] W
      (TwiceR W ((bs.drop (x0 + x2)).take x3) (x0 + x2 + x3 ≤ n)) := fun W h => by
    have := twice_any a n c bs (x0 + x2) x3 0 x3 W h hl hn hc hn1
    simp only [Nat.add_zero, Nat.zero_add, Nat.le_refl, and_true] at this
    exact this
  have T2 := Lib.hid t2
  have HH := Lib.hid h
  have HL := Lib.hid hl
  clear h hl t2
  have hi : ∀ j, j < 4 → (w.alloc (Obj.cells #[.int .u8 x0, .int .u8 x1, .int .u8 x2, .int .u8 x3] 37)).cell? ⟨w.heap.size, j, none⟩ = some (.int .u8 ([x0, x1, x2, x3].getD j 0 : Nat)) := by
    intro j hj
    match j, hj with
    | 0, _ => simp [hAC]
    | 1, _ => simp [hAC]
    | 2, _ => simp [hAC]
    | 3, _ => simp [hAC]
  by_cases hfit : x0 + x1 ≤ n ∧ x2 + x3 ≤ x1
  · obtain ⟨f1, f2⟩ := hfit
    have HI := Lib.hid hi
    clear hi
    go_enter Try.func5, Try.ntmps5
    go_wp2_with (first | (go_at_call 10; refine (speaks_any _).mono ?_; rintro e w1 ⟨rfl, hb1⟩; have h1c := bc hb1; have h1f := bf hb1; have h1z := hb1.size; try simp only [World.size_alloc, World.size_drew] at h1z))
    have g0 := (hb1.cell (p := ⟨w.heap.size, 0, none⟩) (by simp)).trans (HI.out 0 (by omega))
    have g1 := (hb1.cell (p := ⟨w.heap.size, 1, none⟩) (by simp)).trans (HI.out 1 (by omega))
    have g2 := (hb1.cell (p := ⟨w.heap.size, 2, none⟩) (by simp)).trans (HI.out 2 (by omega))
    have g3 := (hb1.cell (p := ⟨w.heap.size, 3, none⟩) (by simp)).trans (HI.out 3 (by omega))
    simp only [List.getD_cons_zero, List.getD_cons_succ] at g0 g1 g2 g3
    clear h1c h1f
    go_quiet (fail)
    go_wp2_with fail
    refine (T1.out _ (HH.out.below (by repeat (first | exact brefl _ | assumption | refine balloc ?_ _ | refine bdrew ?_ _ | refine bdrew1 ?_ | refine bthen ?_ (by assumption) | refine Below.trans ?_ (by assumption) | (refine bset ?_ (by first | (simp; done) | (simp; omega)) _))))).mono ?_
    rintro e w2 hR
    have HX : x0 + x1 ≤ n ∧ x2 + x3 ≤ x1 := ⟨f1, f2⟩
    rcases hR with ⟨_, a2, c2, rfl, hown2, k1, k2, k3, hb2⟩ | ⟨hno, _, _⟩
    · have HO2 := Lib.hid (has_of_owns hown2)
      have h2c := bc hb2
      have h2f := bf hb2
      have h2z := hb2.size
      have hxl : ((bs.drop (x0 + x2)).take x3).length = x3 := by rw [List.length_take, List.length_drop, HL.out]; omega
      have HXL := Lib.hid hxl
      have K3 := Lib.hid k3
      clear hown2 k3 hxl
      generalize (bs.drop (x0 + x2)).take x3 = xs at *
      have e1 : ((x0 : Int) + (x1 : Int) ≤ (n : Int)) := by omega
      have e2 : ((x2 : Int) + (x3 : Int) ≤ (x1 : Int)) := by omega
      go_wp2_with fail
      refine (T2.out _ (HH.out.below (by repeat (first | exact brefl _ | assumption | refine balloc ?_ _ | refine bdrew ?_ _ | refine bdrew1 ?_ | refine bthen ?_ (by assumption) | refine Below.trans ?_ (by assumption) | (refine bset ?_ (by first | (simp; done) | (simp; omega)) _))))).mono ?_
      rintro e w4 hR
      rcases hR with ⟨_, a4, c4, rfl, hown4, k41, k42, k43, hb4⟩ | ⟨hno, _, _⟩
      · have HO4 := Lib.hid (has_of_owns hown4)
        have hs2 := run_str (P := Try.prog) (w := w4) Try.underlying22 Try.underlying5 Try.underlying9 (c := c2) (HO2.out.below (by repeat (first | exact brefl _ | assumption | refine balloc ?_ _ | refine bdrew ?_ _ | refine bdrew1 ?_ | refine bthen ?_ (by assumption) | refine Below.trans ?_ (by assumption) | (refine bset ?_ (by first | (simp; done) | (simp; omega)) _)))) rfl
        have hs4 := run_str (P := Try.prog) (w := w4) Try.underlying22 Try.underlying5 Try.underlying9 (c := c4) HO4.out rfl
        clear hown4 k43
        go_wp2
        go_ret
        exact ⟨rfl, (by repeat (first | exact brefl _ | assumption | refine balloc ?_ _ | refine bdrew ?_ _ | refine bdrew1 ?_ | refine bthen ?_ (by assumption) | refine Below.trans ?_ (by assumption) | (refine bset ?_ (by first | (simp; done) | (simp; omega)) _)))⟩
      · exact absurd (by omega) hno
    · exact absurd HX hno
  · have HI := Lib.hid hi
    have HF := Lib.hid hfit
    clear hi
    by_cases e1 : x0 + x1 ≤ n
    · have e2 : ¬ ((x2 : Int) + (x3 : Int) ≤ (x1 : Int)) := by omega
      have e1' : ((x0 : Int) + (x1 : Int) ≤ (n : Int)) := by omega
      clear hfit
      go_enter Try.func5, Try.ntmps5
      go_wp2_with (first | (go_at_call 10; refine (speaks_any _).mono ?_; rintro e w1 ⟨rfl, hb1⟩; have h1c := bc hb1; have h1f := bf hb1; have h1z := hb1.size; try simp only [World.size_alloc, World.size_drew] at h1z))
      have g0 := (hb1.cell (p := ⟨w.heap.size, 0, none⟩) (by simp)).trans (HI.out 0 (by omega))
      have g1 := (hb1.cell (p := ⟨w.heap.size, 1, none⟩) (by simp)).trans (HI.out 1 (by omega))
      have g2 := (hb1.cell (p := ⟨w.heap.size, 2, none⟩) (by simp)).trans (HI.out 2 (by omega))
      have g3 := (hb1.cell (p := ⟨w.heap.size, 3, none⟩) (by simp)).trans (HI.out 3 (by omega))
      simp only [List.getD_cons_zero, List.getD_cons_succ] at g0 g1 g2 g3
      clear h1c h1f
      go_quiet (fail)
      go_wp2_with fail
      refine (T1.out _ (HH.out.below (by repeat (first | exact brefl _ | assumption | refine balloc ?_ _ | refine bdrew ?_ _ | refine bdrew1 ?_ | refine bthen ?_ (by assumption) | refine Below.trans ?_ (by assumption) | (refine bset ?_ (by first | (simp; done) | (simp; omega)) _))))).mono ?_
      rintro e w2 hR
      rcases hR with ⟨hyes, _⟩ | ⟨_, rfl, hb2⟩
      · exact absurd hyes HF.out
      have h2c := bc hb2
      have h2f := bf hb2
      have h2z := hb2.size
      go_wp2_with fail
      refine (T2.out _ (HH.out.below (by repeat (first | exact brefl _ | assumption | refine balloc ?_ _ | refine bdrew ?_ _ | refine bdrew1 ?_ | refine bthen ?_ (by assumption) | refine Below.trans ?_ (by assumption) | (refine bset ?_ (by first | (simp; done) | (simp; omega)) _))))).mono ?_
      rintro e w4 hR
      rcases hR with ⟨_, a4, c4, rfl, _, k41, k42, _, hb4⟩ | ⟨_, rfl, hb4⟩
      · go_wp2
        go_ret
        exact ⟨rfl, (by repeat (first | exact brefl _ | assumption | refine balloc ?_ _ | refine bdrew ?_ _ | refine bdrew1 ?_ | refine bthen ?_ (by assumption) | refine Below.trans ?_ (by assumption) | (refine bset ?_ (by first | (simp; done) | (simp; omega)) _)))⟩
      · go_wp2
        go_ret
        exact ⟨rfl, (by repeat (first | exact brefl _ | assumption | refine balloc ?_ _ | refine bdrew ?_ _ | refine bdrew1 ?_ | refine bthen ?_ (by assumption) | refine Below.trans ?_ (by assumption) | (refine bset ?_ (by first | (simp; done) | (simp; omega)) _)))⟩
    · have e1' : ¬ ((x0 : Int) + (x1 : Int) ≤ (n : Int)) := by omega
      clear hfit
      go_enter Try.func5, Try.ntmps5
      go_wp2_with (first | (go_at_call 10; refine (speaks_any _).mono ?_; rintro e w1 ⟨rfl, hb1⟩; have h1c := bc hb1; have h1f := bf hb1; have h1z := hb1.size; try simp only [World.size_alloc, World.size_drew] at h1z))
      have g0 := (hb1.cell (p := ⟨w.heap.size, 0, none⟩) (by simp)).trans (HI.out 0 (by omega))
      have g1 := (hb1.cell (p := ⟨w.heap.size, 1, none⟩) (by simp)).trans (HI.out 1 (by omega))
      have g2 := (hb1.cell (p := ⟨w.heap.size, 2, none⟩) (by simp)).trans (HI.out 2 (by omega))
      have g3 := (hb1.cell (p := ⟨w.heap.size, 3, none⟩) (by simp)).trans (HI.out 3 (by omega))
      simp only [List.getD_cons_zero, List.getD_cons_succ] at g0 g1 g2 g3
      clear h1c h1f
      go_quiet (fail)
      go_wp2_with fail
      refine (T1.out _ (HH.out.below (by repeat (first | exact brefl _ | assumption | refine balloc ?_ _ | refine bdrew ?_ _ | refine bdrew1 ?_ | refine bthen ?_ (by assumption) | refine Below.trans ?_ (by assumption) | (refine bset ?_ (by first | (simp; done) | (simp; omega)) _))))).mono ?_
      rintro e w2 hR
      rcases hR with ⟨hyes, _⟩ | ⟨_, rfl, hb2⟩
      · exact absurd hyes HF.out
      have h2c := bc hb2
      have h2f := bf hb2
      have h2z := hb2.size
      go_wp2_with fail
      refine (T2.out _ (HH.out.below (by repeat (first | exact brefl _ | assumption | refine balloc ?_ _ | refine bdrew ?_ _ | refine bdrew1 ?_ | refine bthen ?_ (by assumption) | refine Below.trans ?_ (by assumption) | (refine bset ?_ (by first | (simp; done) | (simp; omega)) _))))).mono ?_
      rintro e w4 hR
      rcases hR with ⟨_, a4, c4, rfl, _, k41, k42, _, hb4⟩ | ⟨_, rfl, hb4⟩
      · go_wp2
        go_ret
        exact ⟨rfl, (by repeat (first | exact brefl _ | assumption | refine balloc ?_ _ | refine bdrew ?_ _ | refine bdrew1 ?_ | refine bthen ?_ (by assumption) | refine Below.trans ?_ (by assumption) | (refine bset ?_ (by first | (simp; done) | (simp; omega)) _)))⟩
      · go_wp2
        go_ret
        exact ⟨rfl, (by repeat (first | exact brefl _ | assumption | refine balloc ?_ _ | refine bdrew ?_ _ | refine bdrew1 ?_ | refine bthen ?_ (by assumption) | refine Below.trans ?_ (by assumption) | (refine bset ?_ (by first | (simp; done) | (simp; omega)) _)))⟩
end Go.Proofs.Ytfgkmgabldjpaaa
