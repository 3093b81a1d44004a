
/- Contract of the reference's Rows. Conditions: sizes as the law hands them in. -/
import Derived.Test.YtfnghinefbmlmaaCut
namespace Go.Proofs.Ytfnghinefbmlmaa
open Go.RowKit

set_option maxRecDepth 100000 in
set_option maxHeartbeats 800000 in
theorem rref_any (n : Nat) (k m s : Int) (B : Bool) (hB : B = true ↔ fitK n 2 k m s) (w : World) (hn : n ≤ maxLen) (hk : -9223372036854775808 ≤ k ∧ k ≤ 9223372036854775807) (hm : -9223372036854775808 ≤ m ∧ m ≤ 9223372036854775807) (hs : -9223372036854775808 ≤ s ∧ s ≤ 9223372036854775807) :
    Calls Try.prog 40 #[.int .i64 n, .int .i64 k, .int .i64 m, .int .i64 s] w fun e w' => e = .returned (.bool B) ∧ w = w' := by
  unfold maxLen at hn
  obtain ⟨hk1, hk2⟩ := hk
  obtain ⟨hm1, hm2⟩ := hm
  obtain ⟨hs1, hs2⟩ := hs
  simp only [fitK] at hB
  have bad : ¬ (0 ≤ k ∧ k ≤ n ∧ 0 ≤ m ∧ 0 ≤ s) → B = false := by
    intro h
    cases B with
    | false => rfl
    | true => exact absurd ((hB.1 rfl)) (fun g => h ⟨g.1, g.2.1, g.2.2.1, g.2.2.2.1⟩)
  by_cases h1 : 0 ≤ k
  · by_cases h2 : 0 ≤ m
    · by_cases h3 : 0 ≤ s
      · by_cases h4 : k ≤ n
        · by_cases h5 : s = 0
          · have hb : B = true := hB.2 ⟨h1, h4, h2, h3, .inl h5⟩
            subst hb
            subst h5
            clear hB bad
            go_enter Try.func40, Try.ntmps40
            go_wp2
            go_ret
            exact ⟨rfl, rfl⟩
          · obtain ⟨j, rfl⟩ : ∃ j : Nat, k = j := ⟨k.toNat, by omega⟩
            obtain ⟨i, rfl⟩ : ∃ i : Nat, m = i := ⟨m.toNat, by omega⟩
            obtain ⟨t, rfl⟩ : ∃ t : Nat, s = t := ⟨s.toNat, by omega⟩
            simp only [Int.toNat_natCast] at hB
            have hq : (((n : Int) - (j : Int)) / (t : Int)) = (((n - j) / t : Nat) : Int) := by
              rw [← Int.ofNat_sub (by omega)]; exact (Int.natCast_ediv _ _).symm
            have ht : ((t : Int) == 0) = false := by simp; omega
            by_cases h6 : i ≤ (n - j) / t
            · have hb : B = true := hB.2 ⟨h1, h4, h2, h3, .inr h6⟩
              subst hb
              have HQ := Lib.hid (show ((t : Int) == 0 || decide ((i : Int) ≤ ((n : Int) - (j : Int)) / (t : Int))) = true by
                rw [hq]
                generalize (n - j) / t = q at *
                have : decide ((i : Int) ≤ (q : Int)) = true := by simp; omega
                rw [this, Bool.or_true])
              clear hB bad h6 hq ht
              go_enter Try.func40, Try.ntmps40
              go_wp2
              go_ret
              exact ⟨by rw [HQ.out]; rfl, rfl⟩
            · have hb : B = false := by
                cases B with
                | false => rfl
                | true =>
                  rcases (hB.1 rfl).2.2.2.2 with h | h
                  · exact absurd h h5
                  · exact absurd h h6
              subst hb
              have HQ := Lib.hid (show ((t : Int) == 0 || decide ((i : Int) ≤ ((n : Int) - (j : Int)) / (t : Int))) = false by
                rw [hq, ht]
                generalize (n - j) / t = q at *
                have : decide ((i : Int) ≤ (q : Int)) = false := by simp; omega
                rw [this]; rfl)
              clear hB bad h6 hq ht
              go_enter Try.func40, Try.ntmps40
              go_wp2
              go_ret
              exact ⟨by rw [HQ.out]; rfl, rfl⟩
        · obtain rfl := bad (fun h => h4 h.2.1)
          clear hB bad
          go_enter Try.func40, Try.ntmps40
          go_wp2
          go_ret
          exact ⟨rfl, rfl⟩
      · obtain rfl := bad (fun h => h3 h.2.2.2)
        clear hB bad
        go_enter Try.func40, Try.ntmps40
        go_wp2
        go_ret
        exact ⟨rfl, rfl⟩
    · obtain rfl := bad (fun h => h2 h.2.2.1)
      clear hB bad
      go_enter Try.func40, Try.ntmps40
      go_wp2
      go_ret
      exact ⟨rfl, rfl⟩
  · obtain rfl := bad (fun h => h1 h.1)
    clear hB bad
    go_enter Try.func40, Try.ntmps40
    go_wp2
    go_ret
    exact ⟨rfl, rfl⟩
end Go.Proofs.Ytfnghinefbmlmaa
