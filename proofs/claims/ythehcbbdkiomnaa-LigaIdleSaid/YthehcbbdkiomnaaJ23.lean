/- Joined from: ISome ITake ITake2 IRead IIns IAct IDo IPure IRun IWrite IRef. -/
import Derived.Test.YthehcbbdkiomnaaJ01
import Derived.Test.YthehcbbdkiomnaaJ21
import Derived.Test.YthehcbbdkiomnaaJ17
import Derived.Test.YthehcbbdkiomnaaJ18
import Derived.Test.YthehcbbdkiomnaaJ16
import Derived.Test.YthehcbbdkiomnaaJ03
section

/- ins: glyphs of the list, so many from one on. Conditions: a list as the slice says; numbers of an entry. -/
namespace Go.Proofs.Ythehcbbdkiomnaa
open Go.RowKit Go.Lib

end Go.Proofs.Ythehcbbdkiomnaa
end
section

/- ins.Take: such a subtable that a View begins with, or it throws. Conditions: as many bytes as the slice says. -/
namespace Go.Proofs.Ythehcbbdkiomnaa
open Go.RowKit Go.Lib

end Go.Proofs.Ythehcbbdkiomnaa
end
section

/- ins.Take: such a subtable that a View begins with, or it throws. Conditions: as many bytes as the slice says. -/
namespace Go.Proofs.Ythehcbbdkiomnaa
open Go.RowKit Go.Lib

end Go.Proofs.Ythehcbbdkiomnaa
end
section

/- ins.Read: such a subtable that bytes begin with, upon bytes of its own. Conditions: as many bytes as the slice says, no more than a hundred million; glyphs as an int. -/
namespace Go.Proofs.Ythehcbbdkiomnaa
open Go.RowKit Go.Lib

end Go.Proofs.Ythehcbbdkiomnaa
end
section

/- ins: glyphs are put ahead of a place, unless they are too many. Conditions: a line in memory; what is remembered along it in a block of the call's own; sizes. -/
namespace Go.Proofs.Ythehcbbdkiomnaa
open Go.RowKit Go.Lib

end Go.Proofs.Ythehcbbdkiomnaa
end
section

/- ins: what an entry puts at the mark; what it does at a place. Conditions: a subtable, a line and what is remembered along it, in memory; sizes. -/
namespace Go.Proofs.Ythehcbbdkiomnaa
open Go.RowKit Go.Lib

end Go.Proofs.Ythehcbbdkiomnaa
end
section

/- ins: what an entry does at a place. Conditions: a subtable, a line and what is remembered along it, in memory; sizes. -/
namespace Go.Proofs.Ythehcbbdkiomnaa
open Go.RowKit Go.Lib

end Go.Proofs.Ythehcbbdkiomnaa
end
section

/- ins: what an entry does at a place, as its walk tells it, is what the lists say. No walk; condition: flags of two bytes. -/
namespace Go.Proofs.Ythehcbbdkiomnaa
open Go.RowKit Go.Lib

end Go.Proofs.Ythehcbbdkiomnaa
end
section

/- ins.Run: what a subtable that puts glyphs between others does to a line. Conditions: a subtable and a line in memory; no more than half a million glyphs, with those that may be put. -/
namespace Go.Proofs.Ythehcbbdkiomnaa
open Go.RowKit Go.Lib

end Go.Proofs.Ythehcbbdkiomnaa
end
section

/- The law's Write of layer 18: a plan's bytes. Conditions: a plan in memory; sizes. -/
namespace Go.Proofs.Ythehcbbdkiomnaa
open Go.RowKit Go.Lib

end Go.Proofs.Ythehcbbdkiomnaa
end
section

/- The document's small functions of layer 18: Here, Marked; and From. Conditions: as each says. -/
namespace Go.Proofs.Ythehcbbdkiomnaa
open Go.RowKit Go.Lib

set_option maxRecDepth 100000 in
theorem from_bad (a : Option Addr) (n c : Nat) (z : Int) (hz : z < 0 ∨ (n : Int) < z) (w : World) : Calls Try.prog 37 #[.slice a n c, .int .i64 z] w fun r w' => r = .returned (.tuple #[.slice none 0 0, .bool false]) ∧ w = w' := by
  by_cases h0 : z < 0
  · have d1 : decide (z < 0) = true := by simpa using h0
    clear hz
    go_enter Try.func37, Try.ntmps37
    go_wp2_with fail
    refine bodyPost_ret (v := .tuple #[.slice none 0 0, .bool false]) (by simp [results, Try.results37, go_sem]) rfl ?_
    exact ⟨rfl, rfl⟩
  · have d1 : decide (z < 0) = false := by simpa using h0
    have h2 : (n : Int) < z := hz.resolve_left h0
    have d2 : decide ((n : Int) < z) = true := by simpa using h2
    clear hz
    go_enter Try.func37, Try.ntmps37
    go_wp2_with fail
    refine bodyPost_ret (v := .tuple #[.slice none 0 0, .bool false]) (by simp [results, Try.results37, go_sem]) rfl ?_
    exact ⟨rfl, rfl⟩
set_option maxRecDepth 100000 in
theorem from_ok (a : Option Addr) (n c k : Nat) (hn : n ≤ c) (hk : k ≤ n) (w : World) : Calls Try.prog 37 #[.slice a n c, .int .i64 (k : Nat)] w fun r w' => r = .returned (.tuple #[.slice (adv a c k) (n - k) (c - k), .bool true]) ∧ w = w' := by
  have d1 : decide ((k : Int) < 0) = false := by simp
  have d2 : decide ((n : Int) < (k : Int)) = false := by simp; omega
  have d3 : decide (n < k) = false := by simp; omega
  go_enter Try.func37, Try.ntmps37
  go_wp2_with fail
  · refine bodyPost_ret (v := .tuple #[.slice a (n - k) 0, .bool true]) (by simp [results, Try.results37, go_sem]) rfl ?_
    exact ⟨by simp [adv], rfl⟩
  · refine bodyPost_ret (v := .tuple #[.slice (Option.map (fun x => x.add k) a) (n - k) (c - k), .bool true]) (by simp [results, Try.results37, go_sem]) rfl ?_
    exact ⟨by simp [adv, h], rfl⟩
end Go.Proofs.Ythehcbbdkiomnaa
end
