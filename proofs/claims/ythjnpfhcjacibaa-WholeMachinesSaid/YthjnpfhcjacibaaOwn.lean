
/- Contracts of view.Of, (View).Rows, (View).Bytes and slices.Clone of bytes. Conditions: as many bytes as the slice says, no more than its capacity; Bytes: fewer than 2^46. -/
import Derived.Test.YthjnpfhcjacibaaNums
namespace Go.Proofs.Ythjnpfhcjacibaa
open Go.RowKit

set_option maxHeartbeats 400000 in
theorem of_any (a : Option Addr) (n c : Nat) (w : World) :
    Calls Try.prog 14 #[.slice a n c] w fun e w' => e = .returned (.agg #[.slice a n c]) ∧ Below w.heap.size w w' := by
  go_enter Try.func14, Try.ntmps14
  go_wp2
  refine bodyPost_ret (v := .agg #[.slice a n c]) (by simp [results, Try.results14, go_sem]) rfl ⟨rfl, ?_⟩
  exact balloc (brefl _) _


theorem adv_zero (a : Option Addr) (c : Nat) : adv a c 0 = a := by
  unfold adv
  cases a <;> simp [Addr.add]

theorem quo_in (x s : Nat) (h : x ≤ 9223372036854775807) : wrap64 ((x : Int) / (s : Int)) = ((x / s : Nat) : Int) := by
  rw [← Int.natCast_ediv]
  have := Nat.div_le_self x s
  generalize x / s = q at *
  exact IntWalk.wrap64_in _ (by omega)
theorem quo_dec (x s m : Nat) (h : x ≤ 9223372036854775807) (hd : m ≤ x / s) : ((s : Int) == 0 || decide ((m : Int) ≤ wrap64 ((x : Int) / (s : Int)))) = true := by
  rw [quo_in x s h]
  generalize x / s = q at *
  have : decide ((m : Int) ≤ (q : Int)) = true := by simp; omega
  rw [this, Bool.or_true]
theorem quo_dec' (x s m : Nat) (h : x ≤ 9223372036854775807) (h0 : ¬ s = 0) (hd : ¬ m ≤ x / s) : ((s : Int) == 0 || decide ((m : Int) ≤ wrap64 ((x : Int) / (s : Int)))) = false := by
  rw [quo_in x s h]
  generalize x / s = q at *
  have h1 : decide ((m : Int) ≤ (q : Int)) = false := by simp; omega
  have h2 : ((s : Int) == 0) = false := by simp; omega
  rw [h1, h2]; rfl

set_option maxHeartbeats 800000 in
theorem rows_ok (a : Option Addr) (n c k m s p : Nat) (w : World) (hp : m * s = p) (hk : k ≤ n) (hs : s = 0 ∨ m ≤ (n - k) / s) (hm : m ≤ 9223372036854775807) (hs' : s ≤ 9223372036854775807) (hn : n ≤ c) (hc : c ≤ maxLen) :
    Calls Try.prog 38 #[.agg #[.slice a n c], .int .i64 k, .int .i64 m, .int .i64 s] w fun e w' => e = .returned (.agg #[.slice (adv a c k) p (c - k)]) ∧ Below w.heap.size w w' := by
  have hc' := hc
  unfold maxLen at hc
  have hle : p ≤ n - k := by
    rw [← hp]
    rcases hs with rfl | h
    · simp
    · exact Nat.le_trans (Nat.mul_le_mul_right _ h) (Nat.div_mul_le_self _ _)
  have hAC := allocC
  have hAF := allocF
  have hcut := fun w => cut_ok (adv a c k) (n - k) (c - k) 0 p w (by omega) (by omega) (by omega)
  rw [adv_zero] at hcut
  have HC := Lib.hid hcut
  clear hcut
  have hmul : IntKind.i64.wrap ((m : Int) * (s : Int)) = (p : Int) := by
    rw [← Int.natCast_mul, hp]; exact IntWalk.i64_in _ (by omega)
  have hmul2 : wrap64 ((m : Int) * (s : Int)) = (p : Int) := by rw [← IntWalk.i64_left]; exact hmul
  by_cases h0 : s = 0
  · subst h0
    obtain rfl : p = 0 := by simpa using hp.symm
    clear hs hle hp
    go_enter Try.func38, Try.ntmps38
    go_wp2_with (first
      | (go_at_call 21; refine (rest_ok _ _ _ _ _ hk hn hc').mono ?_; rintro e w1 ⟨rfl, hb1⟩; have h1c := bc hb1; have h1f := bf hb1; have h1z := hb1.size; try simp only [World.size_alloc] at h1z)
      | (go_at_call 27; refine (HC.out _).mono ?_; rintro e w3 ⟨rfl, hb3⟩; have h3c := bc hb3; have h3f := bf hb3; have h3z := hb3.size; try simp only [World.size_alloc] at h3z)
      | (go_at_call 18; refine (need_t _ (by first | rfl | (simp; omega)) _).mono ?_; rintro e w' ⟨rfl, rfl⟩))
    have hlt' : w.heap.size < w1.heap.size := by omega
    have hne : ¬ w.heap.size + 1 = w1.heap.size := by omega
    have hlt3 : w.heap.size + 1 < w1.heap.size + 1 := by omega
    refine bodyPost_ret (v := .agg #[.slice (adv a c k) 0 (c - k)]) (by simp [results, Try.results38, go_sem, h3c, h1c, hAC, hlt', hne]) rfl ⟨rfl, ?_⟩
    exact bset (bthen (balloc (bthen (balloc (balloc (brefl _) _) _) hb1) _) hb3) (by simp) _
  · have hd : m ≤ (n - k) / s := by omega
    have hnd := quo_dec (n - k) s m (by omega) hd
    have HND := Lib.hid hnd
    clear hs hp hnd hd
    go_enter Try.func38, Try.ntmps38
    go_wp2_with (first
      | (go_at_call 21; refine (rest_ok _ _ _ _ _ hk hn hc').mono ?_; rintro e w1 ⟨rfl, hb1⟩; have h1c := bc hb1; have h1f := bf hb1; have h1z := hb1.size; try simp only [World.size_alloc] at h1z)
      | (go_at_call 34; refine (len_any _ _ _ _).mono ?_; rintro e w2 ⟨rfl, hb2⟩; have h2c := bc hb2; have h2f := bf hb2; have h2z := hb2.size; try simp only [World.size_alloc] at h2z)
      | (go_at_call 27; refine (HC.out _).mono ?_; rintro e w3 ⟨rfl, hb3⟩; have h3c := bc hb3; have h3f := bf hb3; have h3z := hb3.size; try simp only [World.size_alloc] at h3z)
      | (go_at_call 18; refine (need_t _ (by first | rfl | exact HND.out | (simp; omega)) _).mono ?_; rintro e w' ⟨rfl, rfl⟩))
    have hlt' : w.heap.size < w1.heap.size := by omega
    have hne : ¬ w.heap.size + 1 = w1.heap.size := by omega
    have hlt2 : w1.heap.size < w2.heap.size := by omega
    have hlt3 : w.heap.size + 1 < w2.heap.size := by omega
    refine bodyPost_ret (v := .agg #[.slice (adv a c k) p (c - k)]) (by simp [results, Try.results38, go_sem, h3c, h2c, h1c, hAC, hlt', hne, hlt3]) rfl ⟨rfl, ?_⟩
    exact bset (bthen (bthen (balloc (bthen (balloc (balloc (brefl _) _) _) hb1) _) hb2) hb3) (by simp) _

set_option maxHeartbeats 800000 in
theorem rows_bad (a : Option Addr) (n c : Nat) (k m s : Int) (w : World) (hm : m ≤ 9223372036854775807) (hs : s ≤ 9223372036854775807)
    (hk : ¬ (0 ≤ k ∧ k ≤ n ∧ 0 ≤ m ∧ 0 ≤ s ∧ (s = 0 ∨ m.toNat ≤ (n - k.toNat) / s.toNat))) (hn : n ≤ c) (hc : c ≤ maxLen) :
    Calls Try.prog 38 #[.agg #[.slice a n c], .int .i64 k, .int .i64 m, .int .i64 s] w fun e w' => e = .panicked thrown ∧ Below w.heap.size w w' := by
  have hc' := hc
  unfold maxLen at hc
  have hAC := allocC
  have hAF := allocF
  by_cases h1 : k < 0 ∨ (n : Int) < k
  · have H1 := Lib.hid h1
    clear hk h1
    go_enter Try.func38, Try.ntmps38
    go_wp2_with (first | (go_at_call 21; refine (rest_bad _ _ _ _ _ H1.out).mono ?_; rintro e w1 ⟨rfl, hb1⟩; have h1c := bc hb1; have h1f := bf hb1; have h1z := hb1.size; try simp only [World.size_alloc, World.size_drew] at h1z))
    exact ⟨rfl, rfl, bthen (balloc (balloc (brefl _) _) _) hb1⟩
  obtain ⟨j, rfl⟩ : ∃ j : Nat, k = j := ⟨k.toNat, by omega⟩
  have hj : j ≤ n := by omega
  by_cases h2 : m < 0
  · clear hk h1
    go_enter Try.func38, Try.ntmps38
    go_wp2_with (first | (go_at_call 21; refine (rest_ok _ _ _ _ _ hj hn hc').mono ?_; rintro e w1 ⟨rfl, hb1⟩; have h1c := bc hb1; have h1f := bf hb1; have h1z := hb1.size; try simp only [World.size_alloc, World.size_drew] at h1z) | (go_at_call 18; refine (need_f _ (by first | rfl | (simp; omega)) _).mono ?_; rintro e w_ ⟨rfl, rfl⟩))
    exact ⟨rfl, rfl, balloc (bthen (balloc (balloc (brefl _) _) _) hb1) _⟩
  by_cases h3 : s < 0
  · clear hk h1
    go_enter Try.func38, Try.ntmps38
    go_wp2_with (first | (go_at_call 21; refine (rest_ok _ _ _ _ _ hj hn hc').mono ?_; rintro e w1 ⟨rfl, hb1⟩; have h1c := bc hb1; have h1f := bf hb1; have h1z := hb1.size; try simp only [World.size_alloc, World.size_drew] at h1z) | (go_at_call 18; refine (need_f _ (by first | rfl | (simp; omega)) _).mono ?_; rintro e w_ ⟨rfl, rfl⟩))
    exact ⟨rfl, rfl, balloc (bthen (balloc (balloc (brefl _) _) _) hb1) _⟩
  obtain ⟨i, rfl⟩ : ∃ i : Nat, m = i := ⟨m.toNat, by omega⟩
  obtain ⟨t, rfl⟩ : ∃ t : Nat, s = t := ⟨s.toNat, by omega⟩
  simp only [Int.toNat_natCast] at hk
  have h0 : ¬ t = 0 := by omega
  have hnd := quo_dec' (n - j) t i (by omega) h0 (by omega)
  have HND := Lib.hid hnd
  clear hk h1 hnd
  go_enter Try.func38, Try.ntmps38
  go_wp2_with (first
    | (go_at_call 21; refine (rest_ok _ _ _ _ _ hj hn hc').mono ?_; rintro e w1 ⟨rfl, hb1⟩; have h1c := bc hb1; have h1f := bf hb1; have h1z := hb1.size; try simp only [World.size_alloc, World.size_drew] at h1z)
    | (go_at_call 34; refine (len_any _ _ _ _).mono ?_; rintro e w2 ⟨rfl, hb2⟩; have h2c := bc hb2; have h2f := bf hb2; have h2z := hb2.size; try simp only [World.size_alloc, World.size_drew] at h2z)
    | (go_at_call 18; refine (need_f _ (by exact HND.out) _).mono ?_; rintro e w_ ⟨rfl, rfl⟩)
    | (go_at_call 18; refine (need_t _ (by first | rfl | (simp; omega)) _).mono ?_; rintro e w_ ⟨rfl, rfl⟩))
  exact ⟨rfl, rfl, bthen (balloc (bthen (balloc (balloc (brefl _) _) _) hb1) _) hb2⟩

theorem u8_info : (Try.prog.info? 5).map (fun i => (i.zero, i.size, i.bytes)) = some (some (.int .u8 0), 1, 1) := by kernel_rfl


theorem eq_nil (w : World) (n c : Nat) : (binOp .eql 22 (.slice none n c) (.slice none 0 0)).run Try.prog w = .ok (.bool true) w := by kernel_rfl
theorem eq_some (w : World) (p : Addr) (n c : Nat) : (binOp .eql 22 (.slice (some p) n c) (.slice none 0 0)).run Try.prog w = .ok (.bool false) w := by kernel_rfl

end Go.Proofs.Ythjnpfhcjacibaa
