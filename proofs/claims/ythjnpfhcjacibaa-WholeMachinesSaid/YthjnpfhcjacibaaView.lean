
/- Contracts of package view's functions: what each returns, or that it panics by the value that Fail throws; nothing that was there is changed. Conditions: a View's slice has no more bytes than its capacity. -/
import Derived.Test.YthjnpfhcjacibaaBase
namespace Go.Proofs.Ythjnpfhcjacibaa
open Go.RowKit

def thrownV : Value := .iface 55 (.agg #[])
def thrown : List PanicEntry := [{ v := thrownV, recovered := false }]

set_option maxHeartbeats 400000 in
theorem len_any (a : Option Addr) (n c : Nat) (w : World) :
    Calls Try.prog 34 #[.agg #[.slice a n c]] w fun e w' => e = .returned (.int .i64 n) ∧ Below w.heap.size w w' := by
  go_enter Try.func34, Try.ntmps34
  go_wp2
  go_ret
  exact ⟨rfl, balloc (brefl _) _⟩

set_option maxHeartbeats 400000 in
theorem fail_any (w : World) :
    Calls Try.prog 26 #[] w fun e w' => e = .panicked thrown ∧ w' = w := by
  go_enter Try.func26, Try.ntmps26
  go_wp2
  exact ⟨rfl, rfl, rfl⟩

set_option maxHeartbeats 400000 in
theorem need_true (w : World) :
    Calls Try.prog 18 #[.bool true] w fun e w' => e = .returned (.tuple #[]) ∧ w' = w := by
  go_enter Try.func18, Try.ntmps18
  go_wp2
  go_end0
  exact ⟨rfl, rfl⟩

set_option maxHeartbeats 400000 in
theorem need_false (w : World) :
    Calls Try.prog 18 #[.bool false] w fun e w' => e = .panicked thrown ∧ w' = w := by
  go_enter Try.func18, Try.ntmps18
  go_wp2_with (go_at_call 26; refine (fail_any _).mono ?_; rintro e w' ⟨rfl, rfl⟩)
  exact ⟨rfl, rfl, rfl⟩
theorem need_t (b : Bool) (h : b = true) (w : World) : Calls Try.prog 18 #[.bool b] w fun e w' => e = .returned (.tuple #[]) ∧ w = w' := by subst h; exact (need_true w).mono fun _ _ h => ⟨h.1, h.2.symm⟩
theorem need_f (b : Bool) (h : b = false) (w : World) : Calls Try.prog 18 #[.bool b] w fun e w' => e = .panicked thrown ∧ w = w' := by subst h; exact (need_false w).mono fun _ _ h => ⟨h.1, h.2.symm⟩

set_option maxHeartbeats 400000 in
theorem rest_ok (a : Option Addr) (n c k : Nat) (w : World) (hk : k ≤ n) (hn : n ≤ c) (hc : c ≤ maxLen) :
    Calls Try.prog 21 #[.agg #[.slice a n c], .int .i64 k] w fun e w' => e = .returned (.agg #[.slice (adv a c k) (n - k) (c - k)]) ∧ Below w.heap.size w w' := by
  unfold maxLen at hc
  have hAC := allocC
  have hAF := allocF
  go_enter Try.func21, Try.ntmps21
  go_wp2_with (first | (go_at_call 34; refine (len_any _ _ _ _).mono ?_; rintro e w' ⟨rfl, hb⟩; have hc1 := bc hb; have hc2 := bf hb; have hz := hb.size; simp only [World.size_alloc] at hz) | (go_at_call 18; refine (need_true _).mono ?_; rintro e w' ⟨rfl, rfl⟩))
  · refine bodyPost_ret (v := .agg #[.slice (adv a k k) (n - k) 0]) (by simp [results, Try.results21, go_sem, hc1, adv, *]) rfl ⟨by simp, ?_⟩
    exact bset (bthen (balloc (balloc (brefl _) _) _) hb) (by simp) _
  · refine bodyPost_ret (v := .agg #[.slice (adv a c k) (n - k) (c - k)]) (by simp [results, Try.results21, go_sem, hc1, adv, *]) rfl ⟨rfl, ?_⟩
    exact bset (bthen (balloc (balloc (brefl _) _) _) hb) (by simp) _

set_option maxHeartbeats 400000 in
theorem rest_bad (a : Option Addr) (n c : Nat) (k : Int) (w : World) (hk : k < 0 ∨ (n : Int) < k) :
    Calls Try.prog 21 #[.agg #[.slice a n c], .int .i64 k] w fun e w' => e = .panicked thrown ∧ Below w.heap.size w w' := by
  have hAC := allocC
  have hAF := allocF
  by_cases h0 : k < 0
  · clear hk
    go_enter Try.func21, Try.ntmps21
    go_wp2_with (go_at_call 18; refine (need_false _).mono ?_; rintro e w' ⟨rfl, rfl⟩)
    exact ⟨rfl, rfl, balloc (balloc (brefl _) _) _⟩
  · have hk' : (n : Int) < k := by omega
    clear hk
    go_enter Try.func21, Try.ntmps21
    go_wp2_with (first | (go_at_call 34; refine (len_any _ _ _ _).mono ?_; rintro e w' ⟨rfl, hb⟩; have hc1 := bc hb; have hc2 := bf hb; have hz := hb.size; simp only [World.size_alloc] at hz) | (go_at_call 18; refine (need_f _ (by simp; omega) _).mono ?_; rintro e w' ⟨rfl, rfl⟩))
    exact ⟨rfl, rfl, bthen (balloc (balloc (brefl _) _) _) hb⟩

set_option maxHeartbeats 400000 in
theorem cut_ok (a : Option Addr) (n c k m : Nat) (w : World) (hk : k + m ≤ n) (hn : n ≤ c) (hc : c ≤ maxLen) :
    Calls Try.prog 27 #[.agg #[.slice a n c], .int .i64 k, .int .i64 m] w fun e w' => e = .returned (.agg #[.slice (adv a c k) m (c - k)]) ∧ Below w.heap.size w w' := by
  have hc' := hc
  unfold maxLen at hc
  have hAC := allocC
  have hAF := allocF
  go_enter Try.func27, Try.ntmps27
  go_wp2_with (first
    | (go_at_call 21; refine (rest_ok _ _ _ _ _ (by omega) hn hc').mono ?_; rintro e w1 ⟨rfl, hb1⟩; have h1c := bc hb1; have h1f := bf hb1; have h1z := hb1.size; try simp only [World.size_alloc] at h1z)
    | (go_at_call 34; refine (len_any _ _ _ _).mono ?_; rintro e w2 ⟨rfl, hb2⟩; have h2c := bc hb2; have h2f := bf hb2; have h2z := hb2.size; try simp only [World.size_alloc] at h2z)
    | (go_at_call 18; refine (need_t _ (by first | rfl | (simp; omega)) _).mono ?_; rintro e w' ⟨rfl, rfl⟩))
  have hlt : w.heap.size + 1 < w1.heap.size + 1 := by omega
  have hlt' : w.heap.size < w1.heap.size := by omega
  have hne : ¬ w.heap.size + 1 = w1.heap.size := by omega
  refine bodyPost_ret (v := .agg #[.slice (adv a c k) m (c - k)]) (by simp [results, Try.results27, go_sem, h2c, h1c, hAC, hlt', hne]) rfl ⟨rfl, ?_⟩
  exact bset (bthen (balloc (bthen (balloc (balloc (brefl _) _) _) hb1) _) hb2) (by simp) _

set_option maxHeartbeats 400000 in
/-- Cut throws: the place is none, the number is below nought, or so many aren't there. -/
theorem cut_bad (a : Option Addr) (n c : Nat) (k m : Int) (w : World) (hk : ¬ (0 ≤ k ∧ k ≤ n ∧ 0 ≤ m ∧ m ≤ n - k)) (hn : n ≤ c) (hc : c ≤ maxLen) :
    Calls Try.prog 27 #[.agg #[.slice a n c], .int .i64 k, .int .i64 m] w fun e w' => e = .panicked thrown ∧ Below w.heap.size w w' := by
  have hc' := hc
  unfold maxLen at hc
  have hAC := allocC
  have hAF := allocF
  by_cases h1 : k < 0 ∨ (n : Int) < k
  · have H1 := Lib.hid h1
    clear hk h1
    go_enter Try.func27, Try.ntmps27
    go_wp2_with (go_at_call 21; refine (rest_bad _ _ _ _ _ H1.out).mono ?_; rintro e w1 ⟨rfl, hb1⟩)
    exact ⟨rfl, rfl, bthen (balloc (balloc (brefl _) _) _) hb1⟩
  · obtain ⟨j, rfl⟩ : ∃ j : Nat, k = j := ⟨k.toNat, by omega⟩
    have hj : j ≤ n := by omega
    by_cases h2 : 0 ≤ m
    · have h3 : (n : Int) - j < m := by omega
      clear hk h1
      go_enter Try.func27, Try.ntmps27
      go_wp2_with (first
        | (go_at_call 21; refine (rest_ok _ _ _ _ _ hj hn hc').mono ?_; rintro e w1 ⟨rfl, hb1⟩; have h1c := bc hb1; have h1f := bf hb1; have h1z := hb1.size; try simp only [World.size_alloc] at h1z)
        | (go_at_call 34; refine (len_any _ _ _ _).mono ?_; rintro e w2 ⟨rfl, hb2⟩; have h2c := bc hb2; have h2f := bf hb2; have h2z := hb2.size; try simp only [World.size_alloc] at h2z)
        | (go_at_call 18; refine (need_f _ (by first | rfl | (simp; omega)) _).mono ?_; rintro e w' ⟨rfl, rfl⟩))
      exact ⟨rfl, rfl, bthen (balloc (bthen (balloc (balloc (brefl _) _) _) hb1) _) hb2⟩
    · clear hk h1
      go_enter Try.func27, Try.ntmps27
      go_wp2_with (first
        | (go_at_call 21; refine (rest_ok _ _ _ _ _ hj hn hc').mono ?_; rintro e w1 ⟨rfl, hb1⟩; have h1c := bc hb1; have h1f := bf hb1; have h1z := hb1.size; try simp only [World.size_alloc] at h1z)
        | (go_at_call 18; refine (need_f _ (by first | rfl | (simp; omega)) _).mono ?_; rintro e w' ⟨rfl, rfl⟩))
      exact ⟨rfl, rfl, balloc (bthen (balloc (balloc (brefl _) _) _) hb1) _⟩
end Go.Proofs.Ythjnpfhcjacibaa
