
/- The walks of layer 10's laws. No condition but that a word is one of 32 bits, a direction one of 64. -/
import Derived.Test.YtjkgkjdhehbepaaCCover
import Derived.Test.YtjkgkjdhehbepaaTree
namespace Go.Proofs.Ytjkgkjdhehbepaa
open Go.RowKit

set_option maxRecDepth 100000 in
set_option maxHeartbeats 1600000 in
theorem speaks10_any (w : World) : Calls Try.prog 6 #[] w fun e w' => e = .returned (.bool true) ∧ Below w.heap.size w w' := by
  have HM := Lib.hid (fun W => show Calls Try.prog 7 #[.int .u32 1073741826] W fun e w' => e = .returned (.agg #[.int .i64 2, .bool false, .bool true, .bool false, .bool false]) ∧ Below W.heap.size W w' from ofMorx_any 1073741826 (by decide) W)
  have T0 := Lib.hid (fun W => show Calls Try.prog 12 #[.agg #[.int .i64 2, .bool false, .bool true, .bool false, .bool false], .int .i64 0] W fun e w' => e = .returned (.bool true) ∧ Below W.heap.size W w' from mturned_any 2 0 false true false false W)
  have T1 := Lib.hid (fun W => show Calls Try.prog 12 #[.agg #[.int .i64 2, .bool false, .bool true, .bool false, .bool false], .int .i64 1] W fun e w' => e = .returned (.bool false) ∧ Below W.heap.size W w' from mturned_any 2 1 false true false false W)
  have R0 := Lib.hid (fun W => show Calls Try.prog 10 #[.agg #[.int .i64 2, .bool false, .bool true, .bool false, .bool false], .int .i64 0] W fun e w' => e = .returned (.bool true) ∧ Below W.heap.size W w' from mruns_any 2 0 false true false false W)
  have R2 := Lib.hid (fun W => show Calls Try.prog 10 #[.agg #[.int .i64 2, .bool false, .bool true, .bool false, .bool false], .int .i64 2] W fun e w' => e = .returned (.bool false) ∧ Below W.heap.size W w' from mruns_any 2 2 false true false false W)
  have I2 := Lib.hid (fun W => show Calls Try.prog 14 #[.int .i64 2] W fun e w' => e = .returned (.bool true) ∧ Below W.heap.size W w' from is_any 2 W)
  have I3 := Lib.hid (fun W => show Calls Try.prog 14 #[.int .i64 3] W fun e w' => e = .returned (.bool false) ∧ Below W.heap.size W w' from is_any 3 W)
  have hAC := allocC
  have hAF := allocF
  go_enter Try.func6, Try.ntmps6
  go_wp2_with (first
    | (go_at_call 7; (with_reducible refine (HM.out _).mono ?_); rintro e w1 ⟨rfl, hb1⟩; have h1c := bc hb1; have h1f := bf hb1; have h1z := hb1.size; try simp only [World.size_alloc, World.size_drew] at h1z)
    | (go_at_call 12; (with_reducible refine (T0.out _).mono ?_); rintro e w2 ⟨rfl, hb2⟩; have h2c := bc hb2; have h2f := bf hb2; have h2z := hb2.size; try simp only [World.size_alloc, World.size_drew] at h2z)
    | (go_at_call 12; (with_reducible refine (T1.out _).mono ?_); rintro e w3 ⟨rfl, hb3⟩; have h3c := bc hb3; have h3f := bf hb3; have h3z := hb3.size; try simp only [World.size_alloc, World.size_drew] at h3z)
    | (go_at_call 10; (with_reducible refine (R0.out _).mono ?_); rintro e w4 ⟨rfl, hb4⟩; have h4c := bc hb4; have h4f := bf hb4; have h4z := hb4.size; try simp only [World.size_alloc, World.size_drew] at h4z)
    | (go_at_call 10; (with_reducible refine (R2.out _).mono ?_); rintro e w5 ⟨rfl, hb5⟩; have h5c := bc hb5; have h5f := bf hb5; have h5z := hb5.size; try simp only [World.size_alloc, World.size_drew] at h5z)
    | (go_at_call 14; (with_reducible refine (I2.out _).mono ?_); rintro e w6 ⟨rfl, hb6⟩; have h6c := bc hb6; have h6f := bf hb6; have h6z := hb6.size; try simp only [World.size_alloc, World.size_drew] at h6z)
    | (go_at_call 14; (with_reducible refine (I3.out _).mono ?_); rintro e w7 ⟨rfl, hb7⟩; have h7c := bc hb7; have h7f := bf hb7; have h7z := hb7.size; try simp only [World.size_alloc, World.size_drew] at h7z))
  go_ret
  exact ⟨rfl, (by repeat (first | exact brefl _ | assumption | refine balloc ?_ _ | refine bdrew ?_ _ | refine bdrew1 ?_ | refine bthen ?_ (by assumption) | refine Below.trans ?_ (by assumption) | (refine bset ?_ (by first | (simp; done) | (simp; omega)) _)))⟩
end Go.Proofs.Ytjkgkjdhehbepaa
