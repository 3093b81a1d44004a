/- The walk of ViewDeep: what is cut of what was cut. -/
import Derived.Test.YtfgkmgabldjpaaaLaw1
import Derived.Test.YtfgkmgabldjpaaaOrd
namespace Go.Proofs.Ytfgkmgabldjpaaa
open Go.RowKit

def PairR (W : World) (g : Nat) (bs : List UInt8) (ok : Bool) (w' : World) : Prop :=
  (ok = true ∧ ∃ W1 a c, Below W.heap.size W W1 ∧ W1.ownsRow W.heap.size 5 1 (.slice a bs.length c) bs.length (bytesV bs) ∧ bs.length ≤ c ∧ c ≤ maxLen ∧ (a = none → c = 0) ∧ w' = W1.setCell ⟨g, 0, none⟩ (.slice a bs.length c)) ∨ (ok = false ∧ Below W.heap.size W w')

set_option maxRecDepth 100000 in
set_option maxHeartbeats 1600000 in
theorem twice1_in (a : Option Addr) (n c : Nat) (bs : List UInt8) (k m i j : Nat) (g0 g1 g2 : Nat) (x : Value) (w : World) (h : Has w a (bytesV bs)) (hl : bs.length = n) (hn : n ≤ c) (hc : c ≤ maxLen)
    (h1 : k + m ≤ n) (h2 : i + j ≤ m) (hm : n ≤ 1000) (n0 : ¬ g0 = g2) (n1 : ¬ g1 = g2)
    (c0 : w.cell? ⟨g0, 0, none⟩ = some (.slice a n c)) (d0 : w.cell? ⟨g1, 0, none⟩ = some (.int .i64 k)) (d1 : w.cell? ⟨g1, 1, none⟩ = some (.int .i64 m)) (d2 : w.cell? ⟨g1, 2, none⟩ = some (.int .i64 i)) (d3 : w.cell? ⟨g1, 3, none⟩ = some (.int .i64 j))
    (c2 : w.cell? ⟨g2, 0, none⟩ = some x) (f2 : w.frozen? ⟨g2, 0, none⟩ = false) :
    Calls Try.prog 39 #[.pointer (some ⟨g0, 0, none⟩), .pointer (some ⟨g1, 0, none⟩), .pointer (some ⟨g2, 0, none⟩)] w fun e w' => e = .returned (.tuple #[]) ∧ PairR w g2 ((bs.drop (k + i)).take j) true w' := by
  have HH := Lib.hid h
  have HL := Lib.hid hl
  have l0 := cell_lt c0
  have l1 := cell_lt d0
  have l2 := cell_lt c2
  simp only at l0 l1 l2
  clear h hl
  have hcut1 := fun W => cut_ok a n c k m W h1 hn hc
  have hcut2 := fun W => cut_ok (adv a c k) m (c - k) i j W h2 (by omega) (by omega)
  have hB : Has w (adv (adv a c k) (c - k) i) (bytesV ((bs.drop (k + i)).take j)) := by
    have h1 := HH.out.adv c k (by rw [bytesV_length, HL.out]; omega)
    have h2 := (h1.adv (c - k) i (by rw [List.length_drop, bytesV_length, HL.out]; omega)).take j
    rw [bytesV_drop, bytesV_drop, bytesV_take, List.drop_drop] at h2
    exact h2
  have hlen : ((bs.drop (k + i)).take j).length = j := by rw [List.length_take, List.length_drop, HL.out]; omega
  generalize (bs.drop (k + i)).take j = cs at *
  generalize adv (adv a c k) (c - k) i = A2 at *
  generalize adv a c k = A1 at *
  have HC1 := Lib.hid hcut1
  have HC2 := Lib.hid hcut2
  have HBB := Lib.hid hB
  have HN := Lib.hid hlen
  clear hcut1 hcut2 hB hlen
  have hAC := allocC
  have hAF := allocF
  go_enter Try.func39, Try.ntmps39
  go_wp2_with fail
  refine wp_region_ord [0, 2, 3, 4, 5, 7, 8, 9, 10, 1, 6, 11, 12, 13] (by kernel_rfl) (by kernel_rfl) (by kernel_rfl) (by kernel_rfl) (by intro _ _ d_ _ _ h_; cases d_ <;> first | exact h_ | (dsimp +zetaDelta only at h_ ⊢; exact h_)) (fun w' => ∃ p : Wld w [g2], w' = p.val) (wld_start _ _) ?_
  have hG_ := @wldC1 w g2
  (refine ord_quiet (by simp only [List.getElem?_toArray, List.getElem?_cons_succ, List.getElem?_cons_zero]; rfl) (by rfl) (by rfl) (fun K_ hK_ => ?_); go_big_quiet_op; refine hK_ _ ?_; clear hK_ K_)
  (refine ord_quiet (by simp only [List.getElem?_toArray, List.getElem?_cons_succ, List.getElem?_cons_zero]; rfl) (by rfl) (by rfl) (fun K_ hK_ => ?_); go_big_quiet_op; refine hK_ _ ?_; clear hK_ K_)
  (refine ord_quiet (by simp only [List.getElem?_toArray, List.getElem?_cons_succ, List.getElem?_cons_zero]; rfl) (by rfl) (by rfl) (fun K_ hK_ => ?_); go_big_quiet_op; refine hK_ _ ?_; clear hK_ K_)
  (refine ord_quiet (by simp only [List.getElem?_toArray, List.getElem?_cons_succ, List.getElem?_cons_zero]; rfl) (by rfl) (by rfl) (fun K_ hK_ => ?_); go_big_quiet_op; refine hK_ _ ?_; clear hK_ K_)
  (refine ord_quiet (by simp only [List.getElem?_toArray, List.getElem?_cons_succ, List.getElem?_cons_zero]; rfl) (by rfl) (by rfl) (fun K_ hK_ => ?_); go_big_quiet_op; refine hK_ _ ?_; clear hK_ K_)
  (refine ord_quiet (by simp only [List.getElem?_toArray, List.getElem?_cons_succ, List.getElem?_cons_zero]; rfl) (by rfl) (by rfl) (fun K_ hK_ => ?_); go_big_quiet_op; refine hK_ _ ?_; clear hK_ K_)
  (refine ord_quiet (by simp only [List.getElem?_toArray, List.getElem?_cons_succ, List.getElem?_cons_zero]; rfl) (by rfl) (by rfl) (fun K_ hK_ => ?_); go_big_quiet_op; refine hK_ _ ?_; clear hK_ K_)
  (refine ord_quiet (by simp only [List.getElem?_toArray, List.getElem?_cons_succ, List.getElem?_cons_zero]; rfl) (by rfl) (by rfl) (fun K_ hK_ => ?_); go_big_quiet_op; refine hK_ _ ?_; clear hK_ K_)
  (refine ord_quiet (by simp only [List.getElem?_toArray, List.getElem?_cons_succ, List.getElem?_cons_zero]; rfl) (by rfl) (by rfl) (fun K_ hK_ => ?_); go_big_quiet_op; refine hK_ _ ?_; clear hK_ K_)
  (refine ord_run (by simp only [List.getElem?_toArray, List.getElem?_cons_succ, List.getElem?_cons_zero]; rfl) (by rfl) (by rfl) (fun K_ hK_ => ?_); have HK_ := Lib.hid hK_; clear hK_; go_wp2_with (first
      | (go_at_call 23; refine (of_any _ _ _ _).mono ?_; rintro e w1 ⟨rfl, hb1⟩; have h1c := bc hb1; have h1f := bf hb1; have h1z := hb1.size; try simp only [World.size_alloc, World.size_drew] at h1z)
      | (go_at_call 36; (with_reducible refine (HC1.out _).mono ?_); rintro e w2 ⟨rfl, hb2⟩; have h2c := bc hb2; have h2f := bf hb2; have h2z := hb2.size; try simp only [World.size_alloc, World.size_drew] at h2z)
      | (go_at_call 36; (with_reducible refine (HC2.out _).mono ?_); rintro e w3 ⟨rfl, hb3⟩; have h3c := bc hb3; have h3f := bf hb3; have h3z := hb3.size; try simp only [World.size_alloc, World.size_drew] at h3z)
      | (go_at_call 24; refine (bytes_any _ _ _ cs _ (HBB.out.below (by repeat (first | exact brefl _ | assumption | refine balloc ?_ _ | refine bdrew ?_ _ | refine bdrew1 ?_ | refine bthen ?_ (by assumption) | refine Below.trans ?_ (by assumption) | (refine bset ?_ (by first | (simp; done) | (simp; omega)) _)))) HN.out (by omega)).mono ?_; rintro e w4 ⟨a4, c4, rfl, hown, k1, k2, k3, hb4⟩; have HO := Lib.hid hown; have HA := Lib.hid k3; have h4c := bc hb4; have h4f := bf hb4; have h4z := hb4.size; clear hown k3)); refine HK_.out _ _ (wld_of (by repeat (first | exact same_below (bdrew1 (brefl _)) | assumption | refine same_then ?_ (by assumption) | refine same_alloc ?_ _ | (refine same_set ?_ (by first | (left; simp; done) | (right; simp; done) | (right; simp; omega)) _)))) ?_; clear HK_)
  (refine ord_run (by simp only [List.getElem?_toArray, List.getElem?_cons_succ, List.getElem?_cons_zero]; rfl) (by rfl) (by rfl) (fun K_ hK_ => ?_); have HK_ := Lib.hid hK_; clear hK_; go_wp2_with (first
      | (go_at_call 23; refine (of_any _ _ _ _).mono ?_; rintro e w1 ⟨rfl, hb1⟩; have h1c := bc hb1; have h1f := bf hb1; have h1z := hb1.size; try simp only [World.size_alloc, World.size_drew] at h1z)
      | (go_at_call 36; (with_reducible refine (HC1.out _).mono ?_); rintro e w2 ⟨rfl, hb2⟩; have h2c := bc hb2; have h2f := bf hb2; have h2z := hb2.size; try simp only [World.size_alloc, World.size_drew] at h2z)
      | (go_at_call 36; (with_reducible refine (HC2.out _).mono ?_); rintro e w3 ⟨rfl, hb3⟩; have h3c := bc hb3; have h3f := bf hb3; have h3z := hb3.size; try simp only [World.size_alloc, World.size_drew] at h3z)
      | (go_at_call 24; refine (bytes_any _ _ _ cs _ (HBB.out.below (by repeat (first | exact brefl _ | assumption | refine balloc ?_ _ | refine bdrew ?_ _ | refine bdrew1 ?_ | refine bthen ?_ (by assumption) | refine Below.trans ?_ (by assumption) | (refine bset ?_ (by first | (simp; done) | (simp; omega)) _)))) HN.out (by omega)).mono ?_; rintro e w4 ⟨a4, c4, rfl, hown, k1, k2, k3, hb4⟩; have HO := Lib.hid hown; have HA := Lib.hid k3; have h4c := bc hb4; have h4f := bf hb4; have h4z := hb4.size; clear hown k3)); refine HK_.out _ _ (wld_of (by repeat (first | exact same_below (bdrew1 (brefl _)) | assumption | refine same_then ?_ (by assumption) | refine same_alloc ?_ _ | (refine same_set ?_ (by first | (left; simp; done) | (right; simp; done) | (right; simp; omega)) _)))) ?_; clear HK_)
  (refine ord_run (by simp only [List.getElem?_toArray, List.getElem?_cons_succ, List.getElem?_cons_zero]; rfl) (by rfl) (by rfl) (fun K_ hK_ => ?_); have HK_ := Lib.hid hK_; clear hK_; go_wp2_with (first
      | (go_at_call 23; refine (of_any _ _ _ _).mono ?_; rintro e w1 ⟨rfl, hb1⟩; have h1c := bc hb1; have h1f := bf hb1; have h1z := hb1.size; try simp only [World.size_alloc, World.size_drew] at h1z)
      | (go_at_call 36; (with_reducible refine (HC1.out _).mono ?_); rintro e w2 ⟨rfl, hb2⟩; have h2c := bc hb2; have h2f := bf hb2; have h2z := hb2.size; try simp only [World.size_alloc, World.size_drew] at h2z)
      | (go_at_call 36; (with_reducible refine (HC2.out _).mono ?_); rintro e w3 ⟨rfl, hb3⟩; have h3c := bc hb3; have h3f := bf hb3; have h3z := hb3.size; try simp only [World.size_alloc, World.size_drew] at h3z)
      | (go_at_call 24; refine (bytes_any _ _ _ cs _ (HBB.out.below (by repeat (first | exact brefl _ | assumption | refine balloc ?_ _ | refine bdrew ?_ _ | refine bdrew1 ?_ | refine bthen ?_ (by assumption) | refine Below.trans ?_ (by assumption) | (refine bset ?_ (by first | (simp; done) | (simp; omega)) _)))) HN.out (by omega)).mono ?_; rintro e w4 ⟨a4, c4, rfl, hown, k1, k2, k3, hb4⟩; have HO := Lib.hid hown; have HA := Lib.hid k3; have h4c := bc hb4; have h4f := bf hb4; have h4z := hb4.size; clear hown k3)); refine HK_.out _ _ (wld_of (by repeat (first | exact same_below (bdrew1 (brefl _)) | assumption | refine same_then ?_ (by assumption) | refine same_alloc ?_ _ | (refine same_set ?_ (by first | (left; simp; done) | (right; simp; done) | (right; simp; omega)) _)))) ?_; clear HK_)
  (refine ord_run (by simp only [List.getElem?_toArray, List.getElem?_cons_succ, List.getElem?_cons_zero]; rfl) (by rfl) (by rfl) (fun K_ hK_ => ?_); have HK_ := Lib.hid hK_; clear hK_; go_wp2_with (first
      | (go_at_call 23; refine (of_any _ _ _ _).mono ?_; rintro e w1 ⟨rfl, hb1⟩; have h1c := bc hb1; have h1f := bf hb1; have h1z := hb1.size; try simp only [World.size_alloc, World.size_drew] at h1z)
      | (go_at_call 36; (with_reducible refine (HC1.out _).mono ?_); rintro e w2 ⟨rfl, hb2⟩; have h2c := bc hb2; have h2f := bf hb2; have h2z := hb2.size; try simp only [World.size_alloc, World.size_drew] at h2z)
      | (go_at_call 36; (with_reducible refine (HC2.out _).mono ?_); rintro e w3 ⟨rfl, hb3⟩; have h3c := bc hb3; have h3f := bf hb3; have h3z := hb3.size; try simp only [World.size_alloc, World.size_drew] at h3z)
      | (go_at_call 24; refine (bytes_any _ _ _ cs _ (HBB.out.below (by repeat (first | exact brefl _ | assumption | refine balloc ?_ _ | refine bdrew ?_ _ | refine bdrew1 ?_ | refine bthen ?_ (by assumption) | refine Below.trans ?_ (by assumption) | (refine bset ?_ (by first | (simp; done) | (simp; omega)) _)))) HN.out (by omega)).mono ?_; rintro e w4 ⟨a4, c4, rfl, hown, k1, k2, k3, hb4⟩; have HO := Lib.hid hown; have HA := Lib.hid k3; have h4c := bc hb4; have h4f := bf hb4; have h4z := hb4.size; clear hown k3)); refine HK_.out _ _ (wld_of (by repeat (first | exact same_below (bdrew1 (brefl _)) | assumption | refine same_then ?_ (by assumption) | refine same_alloc ?_ _ | (refine same_set ?_ (by first | (left; simp; done) | (right; simp; done) | (right; simp; omega)) _)))) ?_; clear HK_)
  (refine ord_run (by simp only [List.getElem?_toArray, List.getElem?_cons_succ, List.getElem?_cons_zero]; rfl) (by rfl) (by rfl) (fun K_ hK_ => ?_); have HK_ := Lib.hid hK_; clear hK_; go_wp2_with (first
      | (go_at_call 23; refine (of_any _ _ _ _).mono ?_; rintro e w1 ⟨rfl, hb1⟩; have h1c := bc hb1; have h1f := bf hb1; have h1z := hb1.size; try simp only [World.size_alloc, World.size_drew] at h1z)
      | (go_at_call 36; (with_reducible refine (HC1.out _).mono ?_); rintro e w2 ⟨rfl, hb2⟩; have h2c := bc hb2; have h2f := bf hb2; have h2z := hb2.size; try simp only [World.size_alloc, World.size_drew] at h2z)
      | (go_at_call 36; (with_reducible refine (HC2.out _).mono ?_); rintro e w3 ⟨rfl, hb3⟩; have h3c := bc hb3; have h3f := bf hb3; have h3z := hb3.size; try simp only [World.size_alloc, World.size_drew] at h3z)
      | (go_at_call 24; refine (bytes_any _ _ _ cs _ (HBB.out.below (by repeat (first | exact brefl _ | assumption | refine balloc ?_ _ | refine bdrew ?_ _ | refine bdrew1 ?_ | refine bthen ?_ (by assumption) | refine Below.trans ?_ (by assumption) | (refine bset ?_ (by first | (simp; done) | (simp; omega)) _)))) HN.out (by omega)).mono ?_; rintro e w4 ⟨a4, c4, rfl, hown, k1, k2, k3, hb4⟩; have HO := Lib.hid hown; have HA := Lib.hid k3; have h4c := bc hb4; have h4f := bf hb4; have h4z := hb4.size; clear hown k3)); refine HK_.out _ _ (wld_of (by repeat (first | exact same_below (bdrew1 (brefl _)) | assumption | refine same_then ?_ (by assumption) | refine same_alloc ?_ _ | (refine same_set ?_ (by first | (left; simp; done) | (right; simp; done) | (right; simp; omega)) _)))) ?_; clear HK_)
  refine ord_nil ?_
  clear hG_
  go_wp2
  go_end0
  refine ⟨rfl, .inl ⟨rfl, w4, a4, c4, (by repeat (first | exact brefl _ | assumption | refine balloc ?_ _ | refine bdrew ?_ _ | refine bdrew1 ?_ | refine bthen ?_ (by assumption) | refine Below.trans ?_ (by assumption) | (refine bset ?_ (by first | (simp; done) | (simp; omega)) _))), ?_⟩⟩
  rw [HN.out]
  exact ⟨owns_mono HO.out (by omega), k1, k2, HA.out, rfl⟩

set_option maxRecDepth 100000 in
set_option maxHeartbeats 1600000 in
theorem twice1_out1 (a : Option Addr) (n c : Nat) (bs : List UInt8) (k m i j : Nat) (g0 g1 g2 : Nat) (x : Value) (w : World) (h : Has w a (bytesV bs)) (hl : bs.length = n) (hn : n ≤ c) (hc : c ≤ maxLen)
    (h1 : ¬ k + m ≤ n) (n0 : ¬ g0 = g2) (n1 : ¬ g1 = g2)
    (c0 : w.cell? ⟨g0, 0, none⟩ = some (.slice a n c)) (d0 : w.cell? ⟨g1, 0, none⟩ = some (.int .i64 k)) (d1 : w.cell? ⟨g1, 1, none⟩ = some (.int .i64 m)) (d2 : w.cell? ⟨g1, 2, none⟩ = some (.int .i64 i)) (d3 : w.cell? ⟨g1, 3, none⟩ = some (.int .i64 j))
    (c2 : w.cell? ⟨g2, 0, none⟩ = some x) (f2 : w.frozen? ⟨g2, 0, none⟩ = false) :
    Calls Try.prog 39 #[.pointer (some ⟨g0, 0, none⟩), .pointer (some ⟨g1, 0, none⟩), .pointer (some ⟨g2, 0, none⟩)] w fun e w' => e = .panicked thrown ∧ Below w.heap.size w w' := by
  have l0 := cell_lt c0
  have l1 := cell_lt d0
  have l2 := cell_lt c2
  simp only at l0 l1 l2
  clear h hl
  have hcut1 := fun W => cut_bad a n c (k : Int) (m : Int) W (by omega) hn hc
  have HC1 := Lib.hid hcut1
  clear hcut1 h1
  have hAC := allocC
  have hAF := allocF
  go_enter Try.func39, Try.ntmps39
  go_wp2_with fail
  refine wp_region_ord [0, 2, 3, 4, 5, 7, 8, 9, 10, 1, 6, 11, 12, 13] (by kernel_rfl) (by kernel_rfl) (by kernel_rfl) (by kernel_rfl) (by intro _ _ d_ _ _ h_; cases d_ <;> first | exact h_ | (dsimp +zetaDelta only at h_ ⊢; exact h_)) (fun w' => ∃ p : Wld w [g2], w' = p.val) (wld_start _ _) ?_
  have hG_ := @wldC1 w g2
  (refine ord_quiet (by simp only [List.getElem?_toArray, List.getElem?_cons_succ, List.getElem?_cons_zero]; rfl) (by rfl) (by rfl) (fun K_ hK_ => ?_); go_big_quiet_op; refine hK_ _ ?_; clear hK_ K_)
  (refine ord_quiet (by simp only [List.getElem?_toArray, List.getElem?_cons_succ, List.getElem?_cons_zero]; rfl) (by rfl) (by rfl) (fun K_ hK_ => ?_); go_big_quiet_op; refine hK_ _ ?_; clear hK_ K_)
  (refine ord_quiet (by simp only [List.getElem?_toArray, List.getElem?_cons_succ, List.getElem?_cons_zero]; rfl) (by rfl) (by rfl) (fun K_ hK_ => ?_); go_big_quiet_op; refine hK_ _ ?_; clear hK_ K_)
  (refine ord_quiet (by simp only [List.getElem?_toArray, List.getElem?_cons_succ, List.getElem?_cons_zero]; rfl) (by rfl) (by rfl) (fun K_ hK_ => ?_); go_big_quiet_op; refine hK_ _ ?_; clear hK_ K_)
  (refine ord_quiet (by simp only [List.getElem?_toArray, List.getElem?_cons_succ, List.getElem?_cons_zero]; rfl) (by rfl) (by rfl) (fun K_ hK_ => ?_); go_big_quiet_op; refine hK_ _ ?_; clear hK_ K_)
  (refine ord_quiet (by simp only [List.getElem?_toArray, List.getElem?_cons_succ, List.getElem?_cons_zero]; rfl) (by rfl) (by rfl) (fun K_ hK_ => ?_); go_big_quiet_op; refine hK_ _ ?_; clear hK_ K_)
  (refine ord_quiet (by simp only [List.getElem?_toArray, List.getElem?_cons_succ, List.getElem?_cons_zero]; rfl) (by rfl) (by rfl) (fun K_ hK_ => ?_); go_big_quiet_op; refine hK_ _ ?_; clear hK_ K_)
  (refine ord_quiet (by simp only [List.getElem?_toArray, List.getElem?_cons_succ, List.getElem?_cons_zero]; rfl) (by rfl) (by rfl) (fun K_ hK_ => ?_); go_big_quiet_op; refine hK_ _ ?_; clear hK_ K_)
  (refine ord_quiet (by simp only [List.getElem?_toArray, List.getElem?_cons_succ, List.getElem?_cons_zero]; rfl) (by rfl) (by rfl) (fun K_ hK_ => ?_); go_big_quiet_op; refine hK_ _ ?_; clear hK_ K_)
  (refine ord_run (by simp only [List.getElem?_toArray, List.getElem?_cons_succ, List.getElem?_cons_zero]; rfl) (by rfl) (by rfl) (fun K_ hK_ => ?_); have HK_ := Lib.hid hK_; clear hK_; go_wp2_with (first
      | (go_at_call 23; refine (of_any _ _ _ _).mono ?_; rintro e w1 ⟨rfl, hb1⟩; have h1c := bc hb1; have h1f := bf hb1; have h1z := hb1.size; try simp only [World.size_alloc, World.size_drew] at h1z)
      | (go_at_call 36; (with_reducible refine (HC1.out _).mono ?_); rintro e w2 ⟨rfl, hb2⟩; have h2c := bc hb2; have h2f := bf hb2; have h2z := hb2.size; try simp only [World.size_alloc, World.size_drew] at h2z)); refine HK_.out _ _ (wld_of (by repeat (first | exact same_below (bdrew1 (brefl _)) | assumption | refine same_then ?_ (by assumption) | refine same_alloc ?_ _ | (refine same_set ?_ (by first | (left; simp; done) | (right; simp; done) | (right; simp; omega)) _)))) ?_; clear HK_)
  (refine ord_run (by simp only [List.getElem?_toArray, List.getElem?_cons_succ, List.getElem?_cons_zero]; rfl) (by rfl) (by rfl) (fun K_ hK_ => ?_); have HK_ := Lib.hid hK_; clear hK_; go_wp2_with (first
      | (go_at_call 23; refine (of_any _ _ _ _).mono ?_; rintro e w1 ⟨rfl, hb1⟩; have h1c := bc hb1; have h1f := bf hb1; have h1z := hb1.size; try simp only [World.size_alloc, World.size_drew] at h1z)
      | (go_at_call 36; (with_reducible refine (HC1.out _).mono ?_); rintro e w2 ⟨rfl, hb2⟩; have h2c := bc hb2; have h2f := bf hb2; have h2z := hb2.size; try simp only [World.size_alloc, World.size_drew] at h2z)))
  exact ⟨rfl, rfl, (by repeat (first | exact brefl _ | assumption | refine balloc ?_ _ | refine bdrew ?_ _ | refine bdrew1 ?_ | refine bthen ?_ (by assumption) | refine Below.trans ?_ (by assumption) | (refine bset ?_ (by first | (simp; done) | (simp; omega)) _)))⟩

set_option maxRecDepth 100000 in
set_option maxHeartbeats 1600000 in
theorem twice1_out2 (a : Option Addr) (n c : Nat) (bs : List UInt8) (k m i j : Nat) (g0 g1 g2 : Nat) (x : Value) (w : World) (h : Has w a (bytesV bs)) (hl : bs.length = n) (hn : n ≤ c) (hc : c ≤ maxLen)
    (h1 : k + m ≤ n) (h2 : ¬ i + j ≤ m) (n0 : ¬ g0 = g2) (n1 : ¬ g1 = g2)
    (c0 : w.cell? ⟨g0, 0, none⟩ = some (.slice a n c)) (d0 : w.cell? ⟨g1, 0, none⟩ = some (.int .i64 k)) (d1 : w.cell? ⟨g1, 1, none⟩ = some (.int .i64 m)) (d2 : w.cell? ⟨g1, 2, none⟩ = some (.int .i64 i)) (d3 : w.cell? ⟨g1, 3, none⟩ = some (.int .i64 j))
    (c2 : w.cell? ⟨g2, 0, none⟩ = some x) (f2 : w.frozen? ⟨g2, 0, none⟩ = false) :
    Calls Try.prog 39 #[.pointer (some ⟨g0, 0, none⟩), .pointer (some ⟨g1, 0, none⟩), .pointer (some ⟨g2, 0, none⟩)] w fun e w' => e = .panicked thrown ∧ Below w.heap.size w w' := by
  have l0 := cell_lt c0
  have l1 := cell_lt d0
  have l2 := cell_lt c2
  simp only at l0 l1 l2
  clear h hl
  have hcut1 := fun W => cut_ok a n c k m W h1 hn hc
  have hcut2 := fun W => cut_bad (adv a c k) m (c - k) (i : Int) (j : Int) W (by omega) (by omega) (by omega)
  generalize adv a c k = A1 at *
  have HC1 := Lib.hid hcut1
  have HC2 := Lib.hid hcut2
  clear hcut1 hcut2 h1 h2
  have hAC := allocC
  have hAF := allocF
  go_enter Try.func39, Try.ntmps39
  go_wp2_with fail
  refine wp_region_ord [0, 2, 3, 4, 5, 7, 8, 9, 10, 1, 6, 11, 12, 13] (by kernel_rfl) (by kernel_rfl) (by kernel_rfl) (by kernel_rfl) (by intro _ _ d_ _ _ h_; cases d_ <;> first | exact h_ | (dsimp +zetaDelta only at h_ ⊢; exact h_)) (fun w' => ∃ p : Wld w [g2], w' = p.val) (wld_start _ _) ?_
  have hG_ := @wldC1 w g2
  (refine ord_quiet (by simp only [List.getElem?_toArray, List.getElem?_cons_succ, List.getElem?_cons_zero]; rfl) (by rfl) (by rfl) (fun K_ hK_ => ?_); go_big_quiet_op; refine hK_ _ ?_; clear hK_ K_)
  (refine ord_quiet (by simp only [List.getElem?_toArray, List.getElem?_cons_succ, List.getElem?_cons_zero]; rfl) (by rfl) (by rfl) (fun K_ hK_ => ?_); go_big_quiet_op; refine hK_ _ ?_; clear hK_ K_)
  (refine ord_quiet (by simp only [List.getElem?_toArray, List.getElem?_cons_succ, List.getElem?_cons_zero]; rfl) (by rfl) (by rfl) (fun K_ hK_ => ?_); go_big_quiet_op; refine hK_ _ ?_; clear hK_ K_)
  (refine ord_quiet (by simp only [List.getElem?_toArray, List.getElem?_cons_succ, List.getElem?_cons_zero]; rfl) (by rfl) (by rfl) (fun K_ hK_ => ?_); go_big_quiet_op; refine hK_ _ ?_; clear hK_ K_)
  (refine ord_quiet (by simp only [List.getElem?_toArray, List.getElem?_cons_succ, List.getElem?_cons_zero]; rfl) (by rfl) (by rfl) (fun K_ hK_ => ?_); go_big_quiet_op; refine hK_ _ ?_; clear hK_ K_)
  (refine ord_quiet (by simp only [List.getElem?_toArray, List.getElem?_cons_succ, List.getElem?_cons_zero]; rfl) (by rfl) (by rfl) (fun K_ hK_ => ?_); go_big_quiet_op; refine hK_ _ ?_; clear hK_ K_)
  (refine ord_quiet (by simp only [List.getElem?_toArray, List.getElem?_cons_succ, List.getElem?_cons_zero]; rfl) (by rfl) (by rfl) (fun K_ hK_ => ?_); go_big_quiet_op; refine hK_ _ ?_; clear hK_ K_)
  (refine ord_quiet (by simp only [List.getElem?_toArray, List.getElem?_cons_succ, List.getElem?_cons_zero]; rfl) (by rfl) (by rfl) (fun K_ hK_ => ?_); go_big_quiet_op; refine hK_ _ ?_; clear hK_ K_)
  (refine ord_quiet (by simp only [List.getElem?_toArray, List.getElem?_cons_succ, List.getElem?_cons_zero]; rfl) (by rfl) (by rfl) (fun K_ hK_ => ?_); go_big_quiet_op; refine hK_ _ ?_; clear hK_ K_)
  (refine ord_run (by simp only [List.getElem?_toArray, List.getElem?_cons_succ, List.getElem?_cons_zero]; rfl) (by rfl) (by rfl) (fun K_ hK_ => ?_); have HK_ := Lib.hid hK_; clear hK_; go_wp2_with (first
      | (go_at_call 23; refine (of_any _ _ _ _).mono ?_; rintro e w1 ⟨rfl, hb1⟩; have h1c := bc hb1; have h1f := bf hb1; have h1z := hb1.size; try simp only [World.size_alloc, World.size_drew] at h1z)
      | (go_at_call 36; (with_reducible refine (HC1.out _).mono ?_); rintro e w2 ⟨rfl, hb2⟩; have h2c := bc hb2; have h2f := bf hb2; have h2z := hb2.size; try simp only [World.size_alloc, World.size_drew] at h2z)
      | (go_at_call 36; (with_reducible refine (HC2.out _).mono ?_); rintro e w3 ⟨rfl, hb3⟩; have h3c := bc hb3; have h3f := bf hb3; have h3z := hb3.size; try simp only [World.size_alloc, World.size_drew] at h3z)); refine HK_.out _ _ (wld_of (by repeat (first | exact same_below (bdrew1 (brefl _)) | assumption | refine same_then ?_ (by assumption) | refine same_alloc ?_ _ | (refine same_set ?_ (by first | (left; simp; done) | (right; simp; done) | (right; simp; omega)) _)))) ?_; clear HK_)
  (refine ord_run (by simp only [List.getElem?_toArray, List.getElem?_cons_succ, List.getElem?_cons_zero]; rfl) (by rfl) (by rfl) (fun K_ hK_ => ?_); have HK_ := Lib.hid hK_; clear hK_; go_wp2_with (first
      | (go_at_call 23; refine (of_any _ _ _ _).mono ?_; rintro e w1 ⟨rfl, hb1⟩; have h1c := bc hb1; have h1f := bf hb1; have h1z := hb1.size; try simp only [World.size_alloc, World.size_drew] at h1z)
      | (go_at_call 36; (with_reducible refine (HC1.out _).mono ?_); rintro e w2 ⟨rfl, hb2⟩; have h2c := bc hb2; have h2f := bf hb2; have h2z := hb2.size; try simp only [World.size_alloc, World.size_drew] at h2z)
      | (go_at_call 36; (with_reducible refine (HC2.out _).mono ?_); rintro e w3 ⟨rfl, hb3⟩; have h3c := bc hb3; have h3f := bf hb3; have h3z := hb3.size; try simp only [World.size_alloc, World.size_drew] at h3z)); refine HK_.out _ _ (wld_of (by repeat (first | exact same_below (bdrew1 (brefl _)) | assumption | refine same_then ?_ (by assumption) | refine same_alloc ?_ _ | (refine same_set ?_ (by first | (left; simp; done) | (right; simp; done) | (right; simp; omega)) _)))) ?_; clear HK_)
  (refine ord_run (by simp only [List.getElem?_toArray, List.getElem?_cons_succ, List.getElem?_cons_zero]; rfl) (by rfl) (by rfl) (fun K_ hK_ => ?_); have HK_ := Lib.hid hK_; clear hK_; go_wp2_with (first
      | (go_at_call 23; refine (of_any _ _ _ _).mono ?_; rintro e w1 ⟨rfl, hb1⟩; have h1c := bc hb1; have h1f := bf hb1; have h1z := hb1.size; try simp only [World.size_alloc, World.size_drew] at h1z)
      | (go_at_call 36; (with_reducible refine (HC1.out _).mono ?_); rintro e w2 ⟨rfl, hb2⟩; have h2c := bc hb2; have h2f := bf hb2; have h2z := hb2.size; try simp only [World.size_alloc, World.size_drew] at h2z)
      | (go_at_call 36; (with_reducible refine (HC2.out _).mono ?_); rintro e w3 ⟨rfl, hb3⟩; have h3c := bc hb3; have h3f := bf hb3; have h3z := hb3.size; try simp only [World.size_alloc, World.size_drew] at h3z)))
  exact ⟨rfl, rfl, (by repeat (first | exact brefl _ | assumption | refine balloc ?_ _ | refine bdrew ?_ _ | refine bdrew1 ?_ | refine bthen ?_ (by assumption) | refine Below.trans ?_ (by assumption) | (refine bset ?_ (by first | (simp; done) | (simp; omega)) _)))⟩

set_option maxRecDepth 100000 in
theorem twice1_any (a : Option Addr) (n c : Nat) (bs : List UInt8) (k m i j : Nat) (g0 g1 g2 : Nat) (x : Value) (w : World) (h : Has w a (bytesV bs)) (hl : bs.length = n) (hn : n ≤ c) (hc : c ≤ maxLen)
    (hm : n ≤ 1000) (n0 : ¬ g0 = g2) (n1 : ¬ g1 = g2)
    (c0 : w.cell? ⟨g0, 0, none⟩ = some (.slice a n c)) (d0 : w.cell? ⟨g1, 0, none⟩ = some (.int .i64 k)) (d1 : w.cell? ⟨g1, 1, none⟩ = some (.int .i64 m)) (d2 : w.cell? ⟨g1, 2, none⟩ = some (.int .i64 i)) (d3 : w.cell? ⟨g1, 3, none⟩ = some (.int .i64 j))
    (c2 : w.cell? ⟨g2, 0, none⟩ = some x) (f2 : w.frozen? ⟨g2, 0, none⟩ = false) :
    Calls Try.prog 39 #[.pointer (some ⟨g0, 0, none⟩), .pointer (some ⟨g1, 0, none⟩), .pointer (some ⟨g2, 0, none⟩)] w fun e w' => (e = .returned (.tuple #[]) ∧ (true = true ↔ k + m ≤ n ∧ i + j ≤ m) ∧ PairR w g2 ((bs.drop (k + i)).take j) true w') ∨ (e = .panicked thrown ∧ (false = true ↔ k + m ≤ n ∧ i + j ≤ m) ∧ PairR w g2 ((bs.drop (k + i)).take j) false w') := by
  by_cases h1 : k + m ≤ n
  · by_cases h2 : i + j ≤ m
    · exact (twice1_in a n c bs k m i j g0 g1 g2 x w h hl hn hc h1 h2 hm n0 n1 c0 d0 d1 d2 d3 c2 f2).mono fun e w' ⟨he, hr⟩ => .inl ⟨he, by simp [h1, h2], hr⟩
    · exact (twice1_out2 a n c bs k m i j g0 g1 g2 x w h hl hn hc h1 h2 n0 n1 c0 d0 d1 d2 d3 c2 f2).mono fun e w' ⟨he, hr⟩ => .inr ⟨he, by simp [h2], .inr ⟨rfl, hr⟩⟩
  · exact (twice1_out1 a n c bs k m i j g0 g1 g2 x w h hl hn hc h1 n0 n1 c0 d0 d1 d2 d3 c2 f2).mono fun e w' ⟨he, hr⟩ => .inr ⟨he, by simp [h1], .inr ⟨rfl, hr⟩⟩

theorem enter_twice1 (args : Array Value) (w : World) : (callFunc 39 args).run Try.prog w = .ok (.enter 39 args) w := by kernel_rfl

/-- What 'twice' answers: a slice of its own that holds so many bytes, and true; or nil, and false. -/
def TwiceR (w : World) (xs : List UInt8) (is : Prop) (e : Ending) (w' : World) : Prop :=
  (is ∧ ∃ a c, e = .returned (.tuple #[.slice a xs.length c, .bool true]) ∧ w'.ownsRow w.heap.size 5 1 (.slice a xs.length c) xs.length (bytesV xs) ∧ xs.length ≤ c ∧ c ≤ maxLen ∧ (a = none → c = 0) ∧ Below w.heap.size w w') ∨
  (¬ is ∧ e = .returned (.tuple #[.slice none 0 0, .bool false]) ∧ Below w.heap.size w w')

set_option maxRecDepth 100000 in
set_option maxHeartbeats 1600000 in
theorem twice_any (a : Option Addr) (n c : Nat) (bs : List UInt8) (k m i j : Nat) (w : World) (h : Has w a (bytesV bs)) (hl : bs.length = n) (hn : n ≤ c) (hc : c ≤ maxLen) (hm : n ≤ 1000) :
    Calls Try.prog 18 #[.slice a n c, .agg #[.int .i64 k, .int .i64 m, .int .i64 i, .int .i64 j]] w (TwiceR w ((bs.drop (k + i)).take j) (k + m ≤ n ∧ i + j ≤ m)) := by
  obtain ⟨is, his⟩ : ∃ is : Prop, is = (k + m ≤ n ∧ i + j ≤ m) := ⟨_, rfl⟩
  obtain ⟨xs, hxs⟩ : ∃ xs, xs = (bs.drop (k + i)).take j := ⟨_, rfl⟩
  rw [← his, ← hxs]
  have HI := Lib.hid his
  have HX := Lib.hid hxs
  have HH := Lib.hid h
  have HL := Lib.hid hl
  clear h hl his hxs
  have hAC := allocC
  have hAF := allocF
  have hmf : ∀ (fn : Fn) (first cap : Array Value) (w : World), (Instr.makeFunc fn first cap).run Try.prog w = .ok (.func fn first cap) w := fun _ _ _ _ => rfl
  go_enter Try.func18, Try.ntmps18
  go_wp2_with fail
  obtain ⟨W, hW⟩ : ∃ W, W = ((w.alloc (Obj.cells #[.slice a n c] 22)).alloc (Obj.cells #[.int .i64 k, .int .i64 m, .int .i64 i, .int .i64 j] 40)).alloc (Obj.cells #[.slice none 0 0] 22) := ⟨_, rfl⟩
  have hb : Below w.heap.size w W := by rw [hW]; exact (by repeat (first | exact brefl _ | assumption | refine balloc ?_ _ | refine bdrew ?_ _ | refine bdrew1 ?_ | refine bthen ?_ (by assumption) | refine Below.trans ?_ (by assumption) | (refine bset ?_ (by first | (simp; done) | (simp; omega)) _)))
  have hz : W.heap.size = w.heap.size + 1 + 1 + 1 := by rw [hW]; simp
  have c0 : W.cell? ⟨w.heap.size, 0, none⟩ = some (.slice a n c) := by rw [hW]; simp [hAC]; (try (intro; omega))
  have d0 : W.cell? ⟨w.heap.size + 1, 0, none⟩ = some (.int .i64 k) := by rw [hW]; simp [hAC]
  have d1 : W.cell? ⟨w.heap.size + 1, 1, none⟩ = some (.int .i64 m) := by rw [hW]; simp [hAC]
  have d2 : W.cell? ⟨w.heap.size + 1, 2, none⟩ = some (.int .i64 i) := by rw [hW]; simp [hAC]
  have d3 : W.cell? ⟨w.heap.size + 1, 3, none⟩ = some (.int .i64 j) := by rw [hW]; simp [hAC]
  have c2 : W.cell? ⟨w.heap.size + 1 + 1, 0, none⟩ = some (.slice none 0 0) := by rw [hW]; simp [hAC]
  have f2 : W.frozen? ⟨w.heap.size + 1 + 1, 0, none⟩ = false := by rw [hW]; simp [hAF]
  rw [← hW]
  clear hW
  refine (try_any _ _ _ (fun ok w' => (ok = true ↔ k + m ≤ n ∧ i + j ≤ m) ∧ PairR W (w.heap.size + 1 + 1) ((bs.drop (k + i)).take j) ok w') (enter_twice1 _)
    ((twice1_any a n c bs k m i j _ _ _ _ _ (HH.out.below hb) HL.out hn hc hm (by omega) (by omega) c0 d0 d1 d2 d3 c2 f2).mono fun e w' h => by
      rcases h with ⟨h1, h2, h3⟩ | ⟨h1, h2, h3⟩
      · exact .inl ⟨h1, h2, h3⟩
      · exact .inr ⟨h1, h2, h3⟩)).mono ?_
  rw [← HX.out]
  clear c0 d0 d1 d2 d3
  rintro e w2 ⟨ok, rfl, hk, hr⟩
  rcases hr with ⟨rfl, W1, a1, c1, hb1, hown, k1, k2, k3, rfl⟩ | ⟨rfl, hb2⟩
  · have e2 := (hb1.cell (p := ⟨w.heap.size + 1 + 1, 0, none⟩) (by rw [hz]; simp)).trans c2
    have f2' := (hb1.frozen (p := ⟨w.heap.size + 1 + 1, 0, none⟩) (by rw [hz]; simp)).trans f2
    have HK := Lib.hid (hk.1 rfl)
    have HO := Lib.hid hown
    have HZ := Lib.hid hz
    have H3 := Lib.hid k3
    clear hk hown c2 f2 hz k3
    go_wp2
    refine bodyPost_ret (v := .tuple #[.slice a1 xs.length c1, .bool true]) (by simp [results, Try.results18, go_sem, e2]) rfl (.inl ⟨by rw [HI.out]; exact HK.out, a1, c1, rfl, ?_, k1, k2, H3.out, (by repeat (first | exact brefl _ | assumption | refine balloc ?_ _ | refine bdrew ?_ _ | refine bdrew1 ?_ | refine bthen ?_ (by assumption) | refine Below.trans ?_ (by assumption) | (refine bset ?_ (by first | (simp; done) | (simp; omega)) _)))⟩)
    have hlt : w.heap.size + 1 + 1 < W.heap.size := by rw [HZ.out]; omega
    exact owns_mono (ownsRow_setCell_below (ownsRow_setCell_below HO.out hlt _) hlt _) hb.size
  · have e2 := (hb2.cell (p := ⟨w.heap.size + 1 + 1, 0, none⟩) (by rw [hz]; simp)).trans c2
    have f2' := (hb2.frozen (p := ⟨w.heap.size + 1 + 1, 0, none⟩) (by rw [hz]; simp)).trans f2
    have HK := Lib.hid hk
    have HZ := Lib.hid hz
    clear hk c2 f2 hz
    go_wp2
    refine bodyPost_ret (v := .tuple #[.slice none 0 0, .bool false]) (by simp [results, Try.results18, go_sem, e2]) rfl (.inr ⟨(by rw [HI.out]; intro h; have := HK.out.2 h; cases this), rfl, (by repeat (first | exact brefl _ | assumption | refine balloc ?_ _ | refine bdrew ?_ _ | refine bdrew1 ?_ | refine bthen ?_ (by assumption) | refine Below.trans ?_ (by assumption) | (refine bset ?_ (by first | (simp; done) | (simp; omega)) _)))⟩)
end Go.Proofs.Ytfgkmgabldjpaaa
