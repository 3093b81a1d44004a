/- Joined from: IRef. -/
import Derived.Test.YtbicnkopmamnpaaJ01
import Derived.Test.YtbicnkopmamnpaaJ13
section

/- The document's small functions of layer 18: Here, Marked; and From. Conditions: as each says. -/
namespace Go.Proofs.Ytbicnkopmamnpaa
open Go.RowKit Go.Lib

set_option maxRecDepth 100000 in
theorem from_bad (a : Option Addr) (n c : Nat) (z : Int) (hz : z < 0 ∨ (n : Int) < z) (w : World) : Calls Try.prog 69 #[.slice a n c, .int .i64 z] w fun r w' => r = .returned (.tuple #[.slice none 0 0, .bool false]) ∧ w = w' := by
  by_cases h0 : z < 0
  · have d1 : decide (z < 0) = true := by simpa using h0
    clear hz
    go_enter Try.func69, Try.ntmps69
    go_wp2_with fail
    refine bodyPost_ret (v := .tuple #[.slice none 0 0, .bool false]) (by simp [results, Try.results69, go_sem]) rfl ?_
    exact ⟨rfl, rfl⟩
  · have d1 : decide (z < 0) = false := by simpa using h0
    have h2 : (n : Int) < z := hz.resolve_left h0
    have d2 : decide ((n : Int) < z) = true := by simpa using h2
    clear hz
    go_enter Try.func69, Try.ntmps69
    go_wp2_with fail
    refine bodyPost_ret (v := .tuple #[.slice none 0 0, .bool false]) (by simp [results, Try.results69, go_sem]) rfl ?_
    exact ⟨rfl, rfl⟩
set_option maxRecDepth 100000 in
theorem from_ok (a : Option Addr) (n c k : Nat) (hn : n ≤ c) (hk : k ≤ n) (w : World) : Calls Try.prog 69 #[.slice a n c, .int .i64 (k : Nat)] w fun r w' => r = .returned (.tuple #[.slice (adv a c k) (n - k) (c - k), .bool true]) ∧ w = w' := by
  have d1 : decide ((k : Int) < 0) = false := by simp
  have d2 : decide ((n : Int) < (k : Int)) = false := by simp; omega
  have d3 : decide (n < k) = false := by simp; omega
  go_enter Try.func69, Try.ntmps69
  go_wp2_with fail
  · refine bodyPost_ret (v := .tuple #[.slice a (n - k) 0, .bool true]) (by simp [results, Try.results69, go_sem]) rfl ?_
    exact ⟨by simp [adv], rfl⟩
  · refine bodyPost_ret (v := .tuple #[.slice (Option.map (fun x => x.add k) a) (n - k) (c - k), .bool true]) (by simp [results, Try.results69, go_sem]) rfl ?_
    exact ⟨by simp [adv, h], rfl⟩
end Go.Proofs.Ytbicnkopmamnpaa
end
