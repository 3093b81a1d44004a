
/- What law 13 asks of a verb first; orders as slices. Condition: the table of verbs lies in memory. -/
import Derived.Test.YtonogcbcjmdmhaaDoorVOrd
import Derived.Test.YtonogcbcjmdmhaaDoorVOrdF
namespace Go.Proofs.YtonogcbcjmdmhaaDoor
open Go.RowKit Go.Lib

theorem okV_pre {z zn : Int} (h : okV z zn) : ∃ v n : Nat, z = v ∧ zn = n ∧ 1 ≤ v ∧ v < 16 ∧ (preV v).length + (sufV v).length ≤ n := by
  obtain ⟨h1, h2, h3⟩ := h
  refine ⟨z.toNat, zn.toNat, by omega, by omega, by omega, by omega, by omega⟩
theorem IRow.slice {B : Nat} {l : List Int} {v : Value} {w : World} (h : IRow B l v w) : ∃ a c, v = .slice a l.length c ∧ Has w a (iv l) ∧ l.length ≤ c ∧ c ≤ maxLen ∧ (a = none → c = 0) := by
  obtain ⟨a, c, rfl, h2⟩ := h
  obtain ⟨a', c', e, k1, k2, k3⟩ := owns_slice h2
  injection e with e1 e2 e3
  subst e1 e3
  exact ⟨a, c, rfl, has_of_owns h2, k1, k2, k3⟩
theorem vorder_yes (v n : Nat) (w : World) (hV : VerbsIn w) (hn : n ≤ 1000000) (h1 : 1 ≤ v) (hv : v < 16) (h : (preV v).length + (sufV v).length ≤ n) (z zn : Int) (hz : z = v) (hzn : zn = n) :
    Calls Tryd.prog 7 #[.int .i64 z, .int .i64 zn] w fun e w' => ∃ a c, e = .returned (.tuple #[.slice a n c, .bool true]) ∧ Has w' a (iv (ordV v n)) ∧ n ≤ c ∧ c ≤ maxLen ∧ (a = none → c = 0) ∧ Below w.heap.size w w' := by
  subst hz hzn
  refine (vorder_any v n w hV (by omega) (by omega)).mono ?_
  rintro e w' (⟨_, x, rfl, hI, hb⟩ | ⟨hno, _⟩)
  · obtain ⟨a, c, rfl, k1, k2, k3, k4⟩ := hI.slice
    rw [Int.toNat_natCast, Int.toNat_natCast] at k1 k2 ⊢
    rw [ordV_length v n hv h1 h] at k2 ⊢
    exact ⟨a, c, rfl, k1, k2, k3, k4, hb⟩
  · exact absurd ⟨by omega, by omega, by rw [Int.toNat_natCast]; omega⟩ hno
theorem refvorder_yes (v n : Nat) (w : World) (hn : n ≤ 1000000) (h1 : 1 ≤ v) (hv : v < 16) (h : (preV v).length + (sufV v).length ≤ n) (z zn : Int) (hz : z = v) (hzn : zn = n)
    (href : Calls Tryd.prog 8 #[.int .i64 z, .int .i64 zn] w (OrdIs w.heap.size z zn w)) :
    Calls Tryd.prog 8 #[.int .i64 z, .int .i64 zn] w fun e w' => ∃ a c, e = .returned (.tuple #[.slice a n c, .bool true]) ∧ Has w' a (iv (ordV v n)) ∧ n ≤ c ∧ c ≤ maxLen ∧ (a = none → c = 0) ∧ Below w.heap.size w w' := by
  subst hz hzn
  refine href.mono ?_
  rintro e w' (⟨_, x, rfl, hI, hb⟩ | ⟨hno, _⟩)
  · obtain ⟨a, c, rfl, k1, k2, k3, k4⟩ := hI.slice
    rw [Int.toNat_natCast, Int.toNat_natCast] at k1 k2 ⊢
    rw [ordV_length v n hv h1 h] at k2 ⊢
    exact ⟨a, c, rfl, k1, k2, k3, k4, hb⟩
  · exact absurd ⟨by omega, by omega, by rw [Int.toNat_natCast]; omega⟩ hno
theorem vorder_no (z zn : Int) (w : World) (hV : VerbsIn w) (hn : zn ≤ 1000000) (hz : -9223372036854775808 ≤ zn) (hno : ¬ okV z zn) :
    Calls Tryd.prog 7 #[.int .i64 z, .int .i64 zn] w fun e w' => e = .returned (.tuple #[.slice none 0 0, .bool false]) ∧ Below w.heap.size w w' := by
  refine (vorder_any z zn w hV hn hz).mono ?_
  rintro e w' (⟨hok, _⟩ | ⟨_, h, hb⟩)
  · exact absurd hok hno
  · exact ⟨h, hb⟩
/-- A number of a slice, its address written out. -/
theorem iv_cell {w : World} {a : Option Addr} {l : List Int} (h : Has w a (iv l)) (h0 : 0 < l.length) : ∃ g o, a = some ⟨g, o, none⟩ ∧ g < w.heap.size ∧ ∀ j z, l[j]? = some z → w.cell? ⟨g, o + j, none⟩ = some (.int .i64 z) := by
  obtain ⟨g, o, ha, hg, hx⟩ := h.get (by rw [iv_length]; omega)
  exact ⟨g, o, ha, hg, fun j z hz => hx j _ (iv_get hz)⟩
theorem ord34 : ordV 3 4 = [3, 1, 2, 0] := by decide
set_option maxRecDepth 100000 in
theorem speaks13_any (w : World) (hV : VerbsIn w) : Calls Tryd.prog 6 #[] w fun e w' => e = .returned (.bool true) ∧ Below w.heap.size w w' := by
  have HO := Lib.hid (vorder_yes 3 4 w hV (by decide) (by decide) (by decide) (by decide) 3 4 rfl rfl)
  clear hV
  go_enter Tryd.func6, Tryd.ntmps6
  go_wp2_with (go_at_call 7; (with_reducible refine HO.out.mono ?_); rintro e w1 ⟨a, c, rfl, hh, k1, k2, k3, hb⟩; rw [ord34] at hh; obtain ⟨g, o, rfl, hg, hx⟩ := iv_cell hh (by decide); have x0 := hx 0 3 rfl; have x1 := hx 1 1 rfl; have x3 := hx 3 0 rfl; clear hx hh; simp only [Nat.add_zero] at x0)
  go_ret
  exact ⟨rfl, hb⟩
end Go.Proofs.YtonogcbcjmdmhaaDoor
