/- Joined from: SPlaceLaw SRef. -/
import Derived.Test.YtcegoenlajkgfaaJ08
import Derived.Test.YtcegoenlajkgfaaJ04
import Derived.Test.YtcegoenlajkgfaaJ03
import Derived.Test.YtcegoenlajkgfaaJ02
section

/- The walk of SeekPlace. Condition: as many steps as the slice says. -/
namespace Go.Proofs.Ytcegoenlajkgfaa
open Go.RowKit

theorem int_info : (Try.prog.info? 3).map (fun i => (i.zero, i.size, i.bytes)) = some (some (.int .i64 0), 1, 8) := by kernel_rfl
/-- The numbers that the law builds: each is above the one ahead by its step and one. -/
def stepsTo : Int → List Nat → List Int
  | _, [] => []
  | x, s :: ss => (x + (1 + s)) :: stepsTo (x + (1 + s)) ss
def lastOf : Int → List Nat → Int
  | x, [] => x
  | x, s :: ss => lastOf (x + (1 + s)) ss
theorem stepsTo_length (x : Int) (ss : List Nat) : (stepsTo x ss).length = ss.length := by
  induction ss generalizing x with
  | nil => rfl
  | cons s ss ih => simp [stepsTo, ih]
theorem stepsTo_snoc (x : Int) (ss : List Nat) (s : Nat) : stepsTo x (ss ++ [s]) = stepsTo x ss ++ [lastOf x ss + (1 + s)] ∧ lastOf x (ss ++ [s]) = lastOf x ss + (1 + s) := by
  induction ss generalizing x with
  | nil => exact ⟨rfl, rfl⟩
  | cons t ss ih =>
    have := ih (x + (1 + t))
    exact ⟨by simp [stepsTo, lastOf, this.1], by simp [lastOf, this.2]⟩
theorem lastOf_le (x : Int) (ss : List Nat) (h : ∀ s ∈ ss, s ≤ 65535) : x ≤ lastOf x ss ∧ lastOf x ss ≤ x + 65536 * ss.length := by
  induction ss generalizing x with
  | nil => simp [lastOf]
  | cons s ss ih =>
    have h1 := ih (x + (1 + s)) (fun t ht => h t (by simp [ht]))
    have h2 := h s (by simp)
    simp only [lastOf, List.length_cons]
    constructor <;> omega
theorem stepsTo_above (x : Int) (ss : List Nat) (i : Nat) (h : i < ss.length) : x < (stepsTo x ss).getD i 0 := by
  induction ss generalizing x i with
  | nil => simp at h
  | cons s ss ih =>
    cases i with
    | zero => simp [stepsTo]; omega
    | succ i =>
      have := ih (x + (1 + s)) i (by simpa using h)
      simp only [stepsTo, List.getD_cons_succ]; omega
theorem stepsTo_rises (x : Int) (ss : List Nat) (i j : Nat) (h : i < j) (hj : j < ss.length) : (stepsTo x ss).getD i 0 < (stepsTo x ss).getD j 0 := by
  induction ss generalizing x i j with
  | nil => simp at hj
  | cons s ss ih =>
    obtain ⟨k, rfl⟩ : ∃ k, j = k + 1 := ⟨j - 1, by omega⟩
    cases i with
    | zero =>
      simp only [stepsTo, List.getD_cons_succ, List.getD_cons_zero]
      exact stepsTo_above _ ss k (by simpa using hj)
    | succ i =>
      simp only [stepsTo, List.getD_cons_succ]
      exact ih _ i k (by omega) (by simpa using hj)
theorem intsV_snoc (zs : List Int) (z : Int) : intsV (zs ++ [z]) = intsV zs ++ [.int .i64 z] := by simp [intsV]
theorem take_next (ss : List Nat) (k : Nat) (h : k < ss.length) : ss.take (k + 1) = ss.take k ++ [ss.getD k 0] := by
  rw [List.take_succ_eq_append_getElem h, List.getD_eq_getElem?_getD, List.getElem?_eq_getElem h]; rfl
def StepRel (B : Nat) (ss : List Nat) (w : World) (l x i : Value) (wr : World) : Prop :=
  ∃ (k : Nat) (a' : Option Addr) (c' : Nat), k ≤ ss.length ∧ i = .int .i64 (k : Nat) ∧ x = .int .i64 (lastOf (-1099511627776) (ss.take k)) ∧ l = .slice a' k c' ∧ k ≤ c' ∧ c' ≤ maxLen ∧ (a' = none → c' = 0) ∧
    wr.ownsRow B 3 1 l k (intsV (stepsTo (-1099511627776) (ss.take k))) ∧ Below w.heap.size w wr
/-- Where a number stands among so many; -1: it doesn't. -/
def thereI (zs : List Int) (x : Int) : Nat → Int
  | 0 => -1
  | k + 1 => if zs.getD k 0 = x then (k : Int) else thereI zs x k
theorem thereI_lt (zs : List Int) (x : Int) (k : Nat) : -1 ≤ thereI zs x k ∧ thereI zs x k < k := by
  induction k with
  | zero => simp [thereI]
  | succ k ih => simp only [thereI]; split <;> omega
theorem thereI_is (zs : List Int) (x : Int) (k i : Nat) (hi : i < k) (hx : zs.getD i 0 = x) (hr : ∀ i j, i < j → j < k → zs.getD i 0 < zs.getD j 0) : thereI zs x k = i := by
  induction k with
  | zero => omega
  | succ k ih =>
    simp only [thereI]
    by_cases h : zs.getD k 0 = x
    · rw [if_pos h]
      rcases Nat.lt_or_ge i k with g | g
      · have := hr i k g (by omega); omega
      · omega
    · rw [if_neg h]
      have : i < k := by
        rcases Nat.lt_or_ge i k with g | g
        · exact g
        · obtain rfl : i = k := by omega
          exact absurd hx h
      exact ih this (fun i j h1 h2 => hr i j h1 (by omega))
theorem thereI_no (zs : List Int) (x : Int) (k : Nat) (h : ∀ i, i < k → zs.getD i 0 ≠ x) : thereI zs x k = -1 := by
  induction k with
  | zero => rfl
  | succ k ih =>
    simp only [thereI]
    rw [if_neg (h k (by omega)), ih (fun i hi => h i (by omega))]
def SeenRel (zs : List Int) (x : Int) (n : Nat) (w : World) (t i : Value) (wr : World) : Prop :=
  ∃ k : Nat, k ≤ n ∧ i = .int .i64 (k : Nat) ∧ t = .int .i64 (thereI zs x k) ∧ Below w.heap.size w wr

end Go.Proofs.Ytcegoenlajkgfaa
end
section

/- The contract of the reference's rows of layer 5. Conditions: no more than 2000 bytes; need at least 2, keys at least 1, and need at least twice keys. -/
namespace Go.Proofs.Ytcegoenlajkgfaa
open Go.RowKit

theorem wrap64_bd (x : Int) : -9223372036854775808 ≤ wrap64 x ∧ wrap64 x ≤ 9223372036854775807 := by unfold wrap64; omega
theorem wrapi64_bd (x : Int) : -9223372036854775808 ≤ IntKind.i64.wrap x ∧ IntKind.i64.wrap x ≤ 9223372036854775807 := by rw [IntWalk.i64_left]; exact wrap64_bd x
theorem u_q (a : Option Addr) (n c : Nat) (bs : List UInt8) (z : Int) (w : World) (h : Has w a (bytesV bs)) (hl : bs.length = n) (hz : -9223372036854775808 ≤ z ∧ z ≤ 9223372036854775807) (hn : n ≤ maxLen) :
    Calls Try.prog 43 #[.slice a n c, .int .i64 z, .int .i64 2] w fun e w' => ∃ q : Int, -1 ≤ q ∧ q ≤ 65535 ∧ e = .returned (.int .i64 q) ∧ w = w' := by
  by_cases hin : 0 ≤ z ∧ z + (2 : Nat) ≤ n
  · obtain ⟨j, rfl⟩ : ∃ j : Nat, z = j := ⟨z.toNat, by omega⟩
    have := num2_lt bs j
    exact (u_in a n c j 2 bs w h hl (by omega) (by omega) hn).mono fun e w' g => ⟨_, by omega, by omega, g.1, g.2⟩
  · exact (u_out a n c 2 z w hin hz (by omega) hn).mono fun e w' g => ⟨_, by omega, by omega, g.1, g.2⟩
theorem u2_z (a : Option Addr) (n c k : Nat) (z : Int) (hz : z = (k : Nat)) (bs : List UInt8) (w : World) (h : Has w a (bytesV bs)) (hl : bs.length = n) (hk : k + 2 ≤ n) (hn : n ≤ maxLen) :
    Calls Try.prog 43 #[.slice a n c, .int .i64 z, .int .i64 2] w fun e w' => e = .returned (.int .i64 (num bs k 2 : Nat)) ∧ w = w' := by
  subst hz; exact u_in a n c k 2 bs w h hl hk (by omega) hn
def placesV (j S M : Nat) : List Int := (List.range M).map fun i => ((j + 10 + i * S : Nat) : Int)
theorem placesV_length (j S M : Nat) : (placesV j S M).length = M := by simp [placesV]
theorem placesV_get (j S M i : Nat) (h : i < M) : (placesV j S M).getD i 0 = ((j + 10 + i * S : Nat) : Int) := by
  simp [placesV, List.getD_eq_getElem?_getD, List.getElem?_map, List.getElem?_range h]
theorem placesV_succ (j S M : Nat) : placesV j S (M + 1) = placesV j S M ++ [((j + 10 + M * S : Nat) : Int)] := by simp [placesV, List.range_succ]
theorem placesV_take (j S M m : Nat) (h : m ≤ M) : (placesV j S M).take m = placesV j S m := by
  simp only [placesV]
  rw [← List.map_take, List.take_range, Nat.min_eq_left h]
def PlRel (B : Nat) (w : World) (j S N : Nat) (l i : Value) (wr : World) : Prop :=
  ∃ (k : Nat) (a' : Option Addr) (c' : Nat), k ≤ N ∧ i = .int .i64 (k : Nat) ∧ l = .slice a' k c' ∧ k ≤ c' ∧ c' ≤ maxLen ∧ (a' = none → c' = 0) ∧ wr.ownsRow B 3 1 l k (intsV (placesV j S k)) ∧ Below w.heap.size w wr
def AllFFRel (T : List UInt8) (K : Nat) (l i : Value) : Prop := ∃ k : Nat, k ≤ K ∧ i = .int .i64 (k : Nat) ∧ l = .bool (allFF T k)
theorem allFF_succ (T : List UInt8) (k : Nat) : allFF T (k + 1) = (allFF T k && (num T (2 * k) 2 == 65535)) := by simp [allFF, List.range_succ]
def SRefIs (bs : List UInt8) (k : Int) (need keys : Nat) (w : World) (e : Ending) (w' : World) : Prop :=
  ((∃ (j : Nat) (a' : Option Addr) (c' : Nat), k = (j : Nat) ∧ skOk bs j need ∧ e = .returned (.tuple #[.slice a' (skM bs j keys) c', .int .i64 (skS bs j : Nat), .bool true]) ∧ Has w' a' (intsV (placesV j (skS bs j) (skM bs j keys))) ∧ skM bs j keys ≤ c' ∧ c' ≤ maxLen) ∨
   ((∀ j : Nat, k = (j : Nat) → ¬ skOk bs j need) ∧ e = .returned (.tuple #[.slice none 0 0, .int .i64 0, .bool false]))) ∧ Below w.heap.size w w'

set_option maxRecDepth 100000 in
set_option maxHeartbeats 3200000 in
theorem sref_any (a : Option Addr) (n c : Nat) (bs : List UInt8) (k : Int) (need keys : Nat) (w : World) (h : Has w a (bytesV bs)) (hl : bs.length = n) (hn : n ≤ c) (hc : c ≤ maxLen) (h20 : n ≤ 2000) (hk : -9223372036854775808 ≤ k ∧ k ≤ 9223372036854775807)
    (h2 : 2 ≤ need) (hn63 : need ≤ 9223372036854775807) (h1 : 1 ≤ keys) (hkn : 2 * keys ≤ need) :
    Calls Try.prog 87 #[.slice a n c, .int .i64 k, .int .i64 (need : Nat), .int .i64 (keys : Nat)] w (SRefIs bs k need keys w) := by
  have HH := Lib.hid h
  have HL := Lib.hid hl
  have hnm : n ≤ maxLen := Nat.le_trans hn hc
  have HK := Lib.hid hk
  clear h hl
  have hAC := allocC
  have hAF := allocF
  obtain ⟨hk1, hk2⟩ := hk
  have hin := in_any n k 10
  by_cases hd : 0 ≤ k ∧ k + 10 ≤ n
  case neg =>
    have HNO := Lib.hid (show ∀ j : Nat, k = (j : Nat) → ¬ skOk bs j need from fun j hj ho => hd (by have := ho.head; rw [HL.out] at this; omega))
    rw [show decide ((0 : Int) ≤ k ∧ (0 : Int) ≤ 10 ∧ k ≤ n ∧ (10 : Int) ≤ n - k) = false by simp; omega] at hin
    have HI := Lib.hid hin
    have HU := Lib.hid (fun z W hw hz => u_q a n c bs z W hw HL.out hz hnm)
    have HB := Lib.hid wrap64_bd
    have HB2 := Lib.hid wrapi64_bd
    clear hin hd
    go_enter Try.func87, Try.ntmps87
    go_wp2_with (first | (go_at_call 43; refine (HU.out _ _ HH.out (by first | exact HK.out | exact HB.out _ | exact HB2.out _)).mono ?_; rintro e w_ ⟨q, hq1, hq2, rfl, rfl⟩) | (go_at_call 70; refine (HI.out _ hnm HK.out (by omega)).mono ?_; rintro e w_ ⟨rfl, rfl⟩))
    refine bodyPost_ret (v := .tuple #[.slice none 0 0, .int .i64 0, .bool false]) (by simp [results, Try.results87, go_sem]) rfl ?_
    exact ⟨.inr ⟨HNO.out, rfl⟩, brefl _⟩
  obtain ⟨hk0, hkn'⟩ := hd
  obtain ⟨j, rfl⟩ : ∃ j : Nat, k = j := ⟨k.toNat, by omega⟩
  have hjn : j + 10 ≤ n := by omega
  rw [show decide ((0 : Int) ≤ (j : Int) ∧ (0 : Int) ≤ 10 ∧ (j : Int) ≤ n ∧ (10 : Int) ≤ n - (j : Int)) = true by simp; omega] at hin
  have HI := Lib.hid hin
  have hu0 := fun W hw => u2_z a n c j (j : Int) rfl bs W hw HL.out (by omega) hnm
  have hu2 := fun W hw => u2_z a n c (j + 2) ((j : Int) + 2) (by omega) bs W hw HL.out (by omega) hnm
  have hS2 := num2_lt bs j
  have hN2 := num2_lt bs (j + 2)
  have HSS := Lib.hid (show skS bs j = num bs j 2 from rfl)
  have HNN := Lib.hid (show skN bs j = num bs (j + 2) 2 from rfl)
  generalize num bs j 2 = S at *
  generalize num bs (j + 2) 2 = N at *
  have HU0 := Lib.hid hu0
  have HU2 := Lib.hid hu2
  clear hin hu0 hu2
  by_cases hsz : need ≤ S
  case neg =>
    have HNO := Lib.hid (show ∀ i : Nat, ((j : Nat) : Int) = (i : Nat) → ¬ skOk bs i need from fun i hi ho => hsz (by obtain rfl : j = i := (by omega); have := ho.size; rw [HSS.out] at this; exact this))
    go_enter Try.func87, Try.ntmps87
    go_wp2_with (first | (go_at_call 43; first | ((with_reducible refine (HU0.out _ HH.out).mono ?_); rintro e w_ ⟨rfl, rfl⟩) | ((with_reducible refine (HU2.out _ HH.out).mono ?_); rintro e w_ ⟨rfl, rfl⟩)) | (go_at_call 70; refine (HI.out _ hnm HK.out (by omega)).mono ?_; rintro e w_ ⟨rfl, rfl⟩))
    refine bodyPost_ret (v := .tuple #[.slice none 0 0, .int .i64 0, .bool false]) (by simp [results, Try.results87, go_sem]) rfl ?_
    exact ⟨.inr ⟨HNO.out, rfl⟩, brefl _⟩
  have hS0 : 0 < S := by omega
  have hfe : (N ≤ (n - (j + 10)) / S) ↔ j + 10 + N * S ≤ n := by
    rw [Nat.le_div_iff_mul_le hS0]; omega
  have hfk : fitK n 2 ((j : Int) + 10) (N : Nat) (S : Nat) ↔ j + 10 + N * S ≤ n := by
    rw [← hfe]
    simp only [fitK]
    rw [show ((j : Int) + 10).toNat = j + 10 by omega]
    simp only [Int.toNat_natCast]
    constructor
    · rintro ⟨_, _, _, _, hx | hx⟩
      · omega
      · exact hx
    · intro hx
      exact ⟨by omega, by omega, by omega, by omega, .inr hx⟩
  by_cases hfit : j + 10 + N * S ≤ n
  case neg =>
    have HNO := Lib.hid (show ∀ i : Nat, ((j : Nat) : Int) = (i : Nat) → ¬ skOk bs i need from fun i hi ho => by
      obtain rfl : j = i := by omega
      have := ho.rows
      rw [HSS.out, HNN.out, HL.out] at this
      exact hfit this)
    have HRF := Lib.hid (fun W => rref_any n ((j : Int) + 10) (N : Nat) (S : Nat) false (by rw [hfk]; simp; omega) W hnm (by omega) (by omega) (by omega))
    clear hfk hfe
    go_enter Try.func87, Try.ntmps87
    go_wp2_with (first | (go_at_call 43; first | ((with_reducible refine (HU0.out _ HH.out).mono ?_); rintro e w_ ⟨rfl, rfl⟩) | ((with_reducible refine (HU2.out _ HH.out).mono ?_); rintro e w_ ⟨rfl, rfl⟩)) | (go_at_call 70; refine (HI.out _ hnm HK.out (by omega)).mono ?_; rintro e w_ ⟨rfl, rfl⟩) | (go_at_call 68; refine (HRF.out _).mono ?_; rintro e w_ ⟨rfl, rfl⟩))
    refine bodyPost_ret (v := .tuple #[.slice none 0 0, .int .i64 0, .bool false]) (by simp [results, Try.results87, go_sem]) rfl ?_
    exact ⟨.inr ⟨HNO.out, rfl⟩, brefl _⟩
  have HOK := Lib.hid (show skOk bs j need from ⟨by rw [HL.out]; omega, by rw [HSS.out]; exact hsz, by rw [HSS.out, HNN.out, HL.out]; exact hfit⟩)
  have HRF := Lib.hid (fun W => rref_any n ((j : Int) + 10) (N : Nat) (S : Nat) true (by rw [hfk]; simp; omega) W hnm (by omega) (by omega) (by omega))
  have hns : N * S ≤ n := by omega
  have hN20 : N ≤ 2000 := by have := Nat.le_mul_of_pos_right N hS0; omega
  have hdS : decide (S < need) = false := by simp; omega
  clear hfk hfe
  go_enter Try.func87, Try.ntmps87
  go_wp2_with (first | (go_at_call 43; first | ((with_reducible refine (HU0.out _ HH.out).mono ?_); rintro e w_ ⟨rfl, rfl⟩) | ((with_reducible refine (HU2.out _ HH.out).mono ?_); rintro e w_ ⟨rfl, rfl⟩)) | (go_at_call 70; refine (HI.out _ hnm HK.out (by omega)).mono ?_; rintro e w_ ⟨rfl, rfl⟩) | (go_at_call 68; refine (HRF.out _).mono ?_; rintro e w_ ⟨rfl, rfl⟩))
  go_loopw [13, 14] (PlRel w.heap.size w j S N) (fun _ i _ => N - (Go.RowKit.intOf i).toNat)
  case atStart => exact ⟨0, _, _, Nat.zero_le _, rfl, rfl, Nat.le_refl _, Nat.zero_le _, (fun h => by first | rfl | cases h), World.ownsRow_lit w #[] 0 (Nat.le_refl _) (by decide) rfl, blw⟩
  case round =>
    obtain ⟨i, a', c', hiN, rfl, rfl, hi1, hi2, hi3, hown, hbr⟩ := hrel
    have HO := Lib.hid hown
    have HBR := Lib.hid hbr
    have HA' := Lib.hid hi3
    clear hown hbr hi3
    by_cases hlt : i < N
    · have hks : i * S + S ≤ N * S := by rw [← Nat.succ_mul]; exact Nat.mul_le_mul_right _ (by omega)
      have hb1 : 0 ≤ (i : Int) * (S : Int) := by rw [← Int.natCast_mul]; omega
      have hb2 : (i : Int) * (S : Int) ≤ 2000 := by rw [← Int.natCast_mul]; omega
      have HP := Lib.hid (show intsV (placesV j S (i + 1)) = intsV (placesV j S i) ++ [.int .i64 ((j : Int) + 10 + (i : Int) * (S : Int))] by rw [placesV_succ, intsV_snoc]; simp)
      have HLT := Lib.hid hlt
      have hzr := HBR.out.size
      clear hks
      go_wp2_with (first | (at_builtin; refine wpApp rfl _ _ 30 rfl w.heap.size 3 (.int .i64 0) 1 8 Try.underlying30 int_info rfl (by decide) _ i (intsV (placesV j S i)) rfl (owns_below HO.out (balloc (brefl wr) _) (Nat.le_refl _)) (some ⟨wr.heap.size, 0, none⟩) 1 1 [.int .i64 ((j : Int) + 10 + (i : Int) * (S : Int))] rfl rfl (has_alloc _ _ _) (fun h => by cases h) (fun u hu => by simp at hu; subst hu; rfl) (by unfold maxLen; omega) (by omega) (by simp; omega) ?_; intro a2 c2 w2 hown2 k21 k22 k23 hb2 hg2; have HO2 := Lib.hid hown2; have HA2 := Lib.hid k23; have HB2 := Lib.hid hb2; clear hown2 k23 hb2 hg2))
      go_roundw
      case rel => exact ⟨i + 1, a2, c2, HLT.out, by go_num, rfl, k21, k22, HA2.out, by rw [HP.out]; exact HO2.out, HBR.out.trans (((balloc (brefl wr) _).mono hzr).trans HB2.out)⟩
      case measure => simp [Go.RowKit.intOf]; have := HLT.out; omega
    · obtain rfl : i = N := by omega
      have HHP := Lib.hid (has_of_owns HO.out)
      rename World => W
      by_cases hN0 : 0 < i
      case neg =>
        have HM := Lib.hid (show skM bs j keys = i from by unfold skM skEnd; rw [HNN.out]; simp [hN0])
        go_wp2_with fail
        refine bodyPost_ret (v := .tuple #[.slice a' i c', .int .i64 (S : Nat), .bool true]) (by simp [results, Try.results87, go_sem]) rfl ?_
        refine ⟨.inl ⟨j, a', c', rfl, HOK.out, by rw [HM.out, HSS.out], by rw [HM.out, HSS.out]; exact HHP.out, by rw [HM.out]; exact hi1, hi2⟩, HBR.out⟩
      obtain ⟨P, hP⟩ : ∃ P, i = P + 1 := ⟨i - 1, by omega⟩
      have hPS : P * S + S = i * S := by rw [← Nat.succ_mul, hP]
      have hb1 : 0 ≤ (P : Int) * (S : Int) := by rw [← Int.natCast_mul]; omega
      have hb2 : (P : Int) * (S : Int) ≤ 2000 := by rw [← Int.natCast_mul]; omega
      obtain ⟨q, hq⟩ : ∃ q, q = P * S := ⟨_, rfl⟩
      obtain ⟨bb, oo, rfl, hlb, hg⟩ := HHP.out.get (by rw [intsV_length, placesV_length]; omega)
      have hcl := hg P _ (intsV_get (placesV j S i) P (by rw [placesV_length]; omega))
      rw [placesV_get j S i P (by omega), ← hq] at hcl
      have hrl : (rowB bs (j + 10 + q) S).length = S := by rw [rowB, List.length_take, List.length_drop, HL.out]; omega
      have HEND := Lib.hid (show skEnd bs j keys = allFF (rowB bs (j + 10 + q) S) keys from by unfold skEnd; rw [HNN.out, HSS.out, decide_eq_true hN0, Bool.true_and, show i - 1 = P by omega, ← hq])
      have HNUM := Lib.hid (show ∀ m, m + 2 ≤ S → num (rowB bs (j + 10 + q) S) m 2 = num bs (j + 10 + q + m) 2 from fun m hm => by rw [rowB, num_take _ _ _ hm, num_drop])
      have HU := Lib.hid (fun (m : Nat) (z : Int) (hz : z = ((j + 10 + q + 2 * m : Nat) : Int)) (hm : 2 * m + 2 ≤ S) W hw => u2_z a n c (j + 10 + q + 2 * m) z hz bs W hw HL.out (by omega) hnm)
      have hNP : (i : Int) - 1 = (P : Int) := by omega
      have hqn : j + 10 + q + S ≤ n := by omega
      have HHW := Lib.hid (HH.out.below HBR.out)
      have HPL := Lib.hid (show placesV j S (P + 1) = placesV j S i by rw [hP])
      have HPI := Lib.hid hP
      have hPi : P < i := by omega
      clear hq hPS hb1 hb2 hg hP
      generalize rowB bs (j + 10 + q) S = T at *
      go_wp2_with fail
      go_loop [15, 16] (AllFFRel T keys) (fun _ m => keys - (Go.RowKit.intOf m).toNat)
      case atStart => exact ⟨0, Nat.zero_le _, rfl, rfl⟩
      case round =>
        obtain ⟨m, hm, rfl, rfl⟩ := hrel
        have HS := Lib.hid (allFF_succ T m)
        by_cases hlt2 : m < keys
        · have HNM := Lib.hid (HNUM.out (2 * m) (by omega))
          have HUM := Lib.hid (HU.out m ((j : Int) + 10 + (q : Int) + 2 * (m : Int)) (by omega) (by omega) W HHW.out)
          have hqb := num2_lt bs (j + 10 + q + 2 * m)
          generalize num bs (j + 10 + q + 2 * m) 2 = y at *
          have HLT := Lib.hid hlt2
          generalize hall : allFF T m = t at *
          have HAL := Lib.hid hall
          clear hall
          cases t with
          | false =>
            go_wp2_with fail
            go_round
            case rel => exact ⟨m + 1, HLT.out, by go_num, by rw [HS.out]; rfl⟩
            case measure => simp [Go.RowKit.intOf]; have := HLT.out; omega
          | true =>
            go_wp2_with (first | (go_at_call 43; (with_reducible refine HUM.out.mono ?_); rintro e w_ ⟨rfl, rfl⟩))
            go_round
            case rel => exact ⟨m + 1, HLT.out, by go_num, by rw [HS.out, HNM.out, Bool.true_and]; congr 1; rw [Bool.eq_iff_iff]; simp; omega⟩
            case measure => simp [Go.RowKit.intOf]; have := HLT.out; omega
        · obtain rfl : m = keys := by omega
          generalize hall : allFF T m = t at *
          have HAL := Lib.hid hall
          clear hall
          cases t with
          | false =>
            have HM := Lib.hid (show skM bs j m = i from by unfold skM; rw [HEND.out, HNN.out]; rfl)
            go_wp2_with fail
            refine bodyPost_ret (v := .tuple #[.slice (some ⟨bb, oo, none⟩) i c', .int .i64 (S : Nat), .bool true]) (by simp [results, Try.results87, go_sem]) rfl ?_
            refine ⟨.inl ⟨j, _, c', rfl, HOK.out, by rw [HM.out, HSS.out], by rw [HM.out, HSS.out]; exact HHP.out, by rw [HM.out]; exact hi1, hi2⟩, HBR.out⟩
          | true =>
            have HM := Lib.hid (show skM bs j m = P from by unfold skM; rw [HEND.out, HNN.out, HPI.out]; rfl)
            have HTK := Lib.hid (show Has W (some ⟨bb, oo, none⟩) (intsV (placesV j S P)) by
              have := HHP.out.take P
              rw [intsV, ← List.map_take, placesV_take j S i P (by omega)] at this
              exact this)
            go_wp2_with fail
            refine bodyPost_ret (v := .tuple #[.slice (some ⟨bb, oo, none⟩) P c', .int .i64 (S : Nat), .bool true]) (by simp [results, Try.results87, go_sem]) rfl ?_
            refine ⟨.inl ⟨j, _, c', rfl, HOK.out, by rw [HM.out, HSS.out], by rw [HM.out, HSS.out]; exact HTK.out, by rw [HM.out]; omega, hi2⟩, HBR.out⟩
end Go.Proofs.Ytcegoenlajkgfaa
end
