
/- Contracts of Advance, Bearing, Face and has of a Width that was read. Conditions: 1 to 65535 glyphs; numbers within 64 bits. -/
import Derived.Test.YthacabmnnpibkaaWRead
namespace Go.Proofs.Ythacabmnnpibkaa
open Go.RowKit Go.Lib

def advOf (g m : Nat) (T : List UInt8) (id : Int) : Nat := if 0 ≤ id ∧ id < (g : Nat) then num T (4 * min id.toNat (m - 1)) 2 else 0
def beaOf (g m : Nat) (T : List UInt8) (id : Int) : Int := if 0 ≤ id ∧ id < (g : Nat) then (if id.toNat < m then s16 (num T (4 * id.toNat + 2) 2) else s16 (num T (4 * m + 2 * (id.toNat - m)) 2)) else 0
theorem row_cell {w : World} {B e M cl : Nat} {al : Option Addr} {vs : List Value} (h : w.ownsRow B e 1 (.slice al M cl) M vs) (k : Nat) (hk : k < M) : ∃ g v, al = some ⟨g, 0, none⟩ ∧ B ≤ g ∧ vs[k]? = some v ∧ w.cell? ⟨g, k, none⟩ = some v := by
  have hl : vs.length = M := by simpa using h.1
  rcases h.2 with ⟨hv, h0⟩ | ⟨g, cap, cur, hv, hg, _⟩
  · omega
  · injection hv with e1 _ e3
    subst e1 e3
    exact ⟨g, vs[k], rfl, hg, List.getElem?_eq_getElem (by omega), (h.cellAt k (by omega)).trans (List.getElem?_eq_getElem (by omega))⟩
set_option maxRecDepth 100000 in
set_option maxHeartbeats 800000 in
theorem has_any (gw g e m : Nat) (s1 s2 : Value) (id : Int) (w : World) (hgw : w.heap[gw]? = some (.cells (widV g e m s1 s2) 59 (0, 0))) :
    Calls Try.prog 28 #[.pointer (some ⟨gw, 0, none⟩), .int .i64 id] w fun r w' => r = .returned (.bool (decide (0 ≤ id ∧ id < (g : Nat)))) ∧ w = w' := by
  have c0 := cell_of_heap hgw 0
  simp only [widV, List.getElem?_toArray, List.getElem?_cons_zero] at c0
  clear hgw
  by_cases h0 : 0 ≤ id
  · by_cases h1 : id < (g : Nat)
    · have hd : decide (id < ((g : Nat) : Int)) = true := by simpa using h1
      rw [show decide (0 ≤ id ∧ id < (g : Nat)) = true by simp; omega]
      go_enter Try.func28, Try.ntmps28
      go_wp2_with fail
      go_ret
      exact ⟨rfl, rfl⟩
    · have hd : decide (id < ((g : Nat) : Int)) = false := by simpa using h1
      rw [show decide (0 ≤ id ∧ id < (g : Nat)) = false by simp; omega]
      go_enter Try.func28, Try.ntmps28
      go_wp2_with fail
      go_ret
      exact ⟨rfl, rfl⟩
  · rw [show decide (0 ≤ id ∧ id < (g : Nat)) = false by simp; omega]
    go_enter Try.func28, Try.ntmps28
    go_wp2_with fail
    go_ret
    exact ⟨rfl, rfl⟩

set_option maxRecDepth 100000 in
set_option maxHeartbeats 1600000 in
theorem adv_any (B gw g e m : Nat) (T : List UInt8) (id : Int) (w : World) (h : WDone B gw g e m T w) (hm : 1 ≤ m) (hmg : m ≤ g) (hg : g ≤ 65535) (hid : -9223372036854775808 ≤ id ∧ id ≤ 9223372036854775807) :
    Calls Try.prog 16 #[.pointer (some ⟨gw, 0, none⟩), .int .i64 id] w fun r w' => r = .returned (.int .i64 (advOf g m T id : Nat)) ∧ Below w.heap.size w w' := by
  obtain ⟨a1, c1, a2, c2, h0, h1, h2, k1, k2, k3, k4⟩ := h
  have HHS := Lib.hid (has_any gw g e m (.slice a1 m c1) (.slice a2 g c2) id w h0)
  by_cases hin : 0 ≤ id ∧ id < (g : Nat)
  · rw [show decide (0 ≤ id ∧ id < (g : Nat)) = true by simp; omega] at HHS
    obtain ⟨i, rfl⟩ : ∃ i : Nat, id = i := ⟨id.toNat, by omega⟩
    have hA : advOf g m T (i : Nat) = num T (4 * min i (m - 1)) 2 := by unfold advOf; rw [if_pos hin]; rfl
    obtain ⟨g1, v, rfl, _, hv, hc⟩ := row_cell h1 (min i (m - 1)) (by omega)
    rw [advV, List.getElem?_map, List.getElem?_range (by omega)] at hv
    cases hv
    have hc' : w.cell? ⟨g1, min i (m - 1), none⟩ = some (.int .u16 (num T (4 * min i (m - 1)) 2 : Nat)) := hc
    have hg1 := cell_lt hc
    simp only at hg1
    clear hc
    have c3 := cell_of_heap h0 3
    simp only [widV, List.getElem?_toArray, List.getElem?_cons_succ, List.getElem?_cons_zero] at c3
    have hgl := (Array.getElem?_eq_some_iff.1 h0).1
    have hi64 : (i : Int) ≤ 65535 := by omega
    have hq : min (i : Int) ((m : Int) - 1) = ((min i (m - 1) : Nat) : Int) := by omega
    have hqm : min i (m - 1) < m := by omega
    have HA := Lib.hid hA
    have hn2 := num2_lt T (4 * min i (m - 1))
    unfold maxLen at k3
    clear h0 h1 h2 hA hin hid
    generalize num T (4 * min i (m - 1)) 2 = y at *
    generalize hqq : min i (m - 1) = q at *
    clear hqq
    go_enter Try.func16, Try.ntmps16
    go_wp2_with (first | (go_at_call 28; refine (HHS.out).mono ?_; rintro e w_ ⟨rfl, rfl⟩))
    refine wp_region_tree (.step 0 (.step 1 (.step 2 (.step 3 (.step 4 (.step 5 (.step 6 (.step 7 (.step 8 (.step 9 (.step 10 (.step 11 (.step 12 (.step 13 (.step 14 (.step 15 .nil)))))))))))))))) (by kernel_rfl) (by kernel_rfl) (by kernel_rfl) (by kernel_rfl) (by intro _ _ d_ _ _ h_; cases d_ <;> first | exact h_ | (dsimp +zetaDelta only at h_ ⊢; exact h_)) (fun w' => ∃ p : Wld w [], w' = p.val) (wld_start _ _) ?_
    have hG_ := @wldC w
    (refine tree_quiet (by simp only [List.getElem?_toArray, List.getElem?_cons_succ, List.getElem?_cons_zero]; rfl) (by rfl) (by rfl) (fun K_ hK_ => ?_); go_big_quiet_op; refine hK_ _ ?_; clear hK_ K_)
    (refine tree_quiet (by simp only [List.getElem?_toArray, List.getElem?_cons_succ, List.getElem?_cons_zero]; rfl) (by rfl) (by rfl) (fun K_ hK_ => ?_); go_big_quiet_op; refine hK_ _ ?_; clear hK_ K_)
    (refine tree_quiet (by simp only [List.getElem?_toArray, List.getElem?_cons_succ, List.getElem?_cons_zero]; rfl) (by rfl) (by rfl) (fun K_ hK_ => ?_); go_big_quiet_op; refine hK_ _ ?_; clear hK_ K_)
    (refine tree_quiet (by simp only [List.getElem?_toArray, List.getElem?_cons_succ, List.getElem?_cons_zero]; rfl) (by rfl) (by rfl) (fun K_ hK_ => ?_); go_big_quiet_op; refine hK_ _ ?_; clear hK_ K_)
    (refine tree_quiet (by simp only [List.getElem?_toArray, List.getElem?_cons_succ, List.getElem?_cons_zero]; rfl) (by rfl) (by rfl) (fun K_ hK_ => ?_); go_big_quiet_op; refine hK_ _ ?_; clear hK_ K_)
    (refine tree_quiet (by simp only [List.getElem?_toArray, List.getElem?_cons_succ, List.getElem?_cons_zero]; rfl) (by rfl) (by rfl) (fun K_ hK_ => ?_); go_big_quiet_op; refine hK_ _ ?_; clear hK_ K_)
    (refine tree_quiet (by simp only [List.getElem?_toArray, List.getElem?_cons_succ, List.getElem?_cons_zero]; rfl) (by rfl) (by rfl) (fun K_ hK_ => ?_); go_big_quiet_op; refine hK_ _ ?_; clear hK_ K_)
    (refine tree_quiet (by simp only [List.getElem?_toArray, List.getElem?_cons_succ, List.getElem?_cons_zero]; rfl) (by rfl) (by rfl) (fun K_ hK_ => ?_); go_big_quiet_op; refine hK_ _ ?_; clear hK_ K_)
    (refine tree_quiet (by simp only [List.getElem?_toArray, List.getElem?_cons_succ, List.getElem?_cons_zero]; rfl) (by rfl) (by rfl) (fun K_ hK_ => ?_); go_big_quiet_op; refine hK_ _ ?_; clear hK_ K_)
    (refine tree_quiet (by simp only [List.getElem?_toArray, List.getElem?_cons_succ, List.getElem?_cons_zero]; rfl) (by rfl) (by rfl) (fun K_ hK_ => ?_); go_big_quiet_op; refine hK_ _ ?_; clear hK_ K_)
    (refine tree_quiet (by simp only [List.getElem?_toArray, List.getElem?_cons_succ, List.getElem?_cons_zero]; rfl) (by rfl) (by rfl) (fun K_ hK_ => ?_); go_big_quiet_op; refine hK_ _ ?_; clear hK_ K_)
    (refine tree_quiet (by simp only [List.getElem?_toArray, List.getElem?_cons_succ, List.getElem?_cons_zero]; rfl) (by rfl) (by rfl) (fun K_ hK_ => ?_); go_big_quiet_op; refine hK_ _ ?_; clear hK_ K_)
    (refine tree_quiet (by simp only [List.getElem?_toArray, List.getElem?_cons_succ, List.getElem?_cons_zero]; rfl) (by rfl) (by rfl) (fun K_ hK_ => ?_); go_big_quiet_op; refine hK_ _ ?_; clear hK_ K_)
    (refine tree_quiet (by simp only [List.getElem?_toArray, List.getElem?_cons_succ, List.getElem?_cons_zero]; rfl) (by rfl) (by rfl) (fun K_ hK_ => ?_); go_big_quiet_op; refine hK_ _ ?_; clear hK_ K_)
    (refine tree_quiet (by simp only [List.getElem?_toArray, List.getElem?_cons_succ, List.getElem?_cons_zero]; rfl) (by rfl) (by rfl) (fun K_ hK_ => ?_); go_big_quiet_op; refine hK_ _ ?_; clear hK_ K_)
    (refine tree_quiet (by simp only [List.getElem?_toArray, List.getElem?_cons_succ, List.getElem?_cons_zero]; rfl) (by rfl) (by rfl) (fun K_ hK_ => ?_); go_big_quiet_op; refine hK_ _ ?_; clear hK_ K_)
    refine tree_nil ?_
    clear hG_
    go_wp2_with fail
    go_ret
    exact ⟨by rw [HA.out]; rfl, (brefl w).drew⟩
  · rw [show decide (0 ≤ id ∧ id < (g : Nat)) = false by simp; omega] at HHS
    have HA := Lib.hid (show advOf g m T id = 0 by unfold advOf; rw [if_neg hin])
    clear h0 h1 h2 hin
    go_enter Try.func16, Try.ntmps16
    go_wp2_with (first | (go_at_call 28; refine (HHS.out).mono ?_; rintro e w_ ⟨rfl, rfl⟩))
    go_ret
    exact ⟨by rw [HA.out]; rfl, brefl w⟩
set_option maxRecDepth 100000 in
set_option maxHeartbeats 1600000 in
theorem bea_any (B gw g e m : Nat) (T : List UInt8) (id : Int) (w : World) (h : WDone B gw g e m T w) (hm : 1 ≤ m) (hmg : m ≤ g) (hg : g ≤ 65535) (hid : -9223372036854775808 ≤ id ∧ id ≤ 9223372036854775807) :
    Calls Try.prog 17 #[.pointer (some ⟨gw, 0, none⟩), .int .i64 id] w fun r w' => r = .returned (.int .i64 (beaOf g m T id)) ∧ w = w' := by
  obtain ⟨a1, c1, a2, c2, h0, h1, h2, k1, k2, k3, k4⟩ := h
  have HHS := Lib.hid (has_any gw g e m (.slice a1 m c1) (.slice a2 g c2) id w h0)
  by_cases hin : 0 ≤ id ∧ id < (g : Nat)
  · rw [show decide (0 ≤ id ∧ id < (g : Nat)) = true by simp; omega] at HHS
    obtain ⟨i, rfl⟩ : ∃ i : Nat, id = i := ⟨id.toNat, by omega⟩
    have hig : i < g := by omega
    obtain ⟨g2, v, rfl, _, hv, hc⟩ := row_cell h2 i hig
    have hv2 : v = .int .i16 (beaOf g m T (i : Nat)) := by
      unfold beaOf
      rw [if_pos hin]
      show v = Value.int .i16 (if i < m then s16 (num T (4 * i + 2) 2) else s16 (num T (4 * m + 2 * (i - m)) 2))
      by_cases him : i < m
      · rw [List.getElem?_append_left (by simp [beaV]; exact him), beaV, List.getElem?_map, List.getElem?_range him] at hv
        cases hv
        rw [if_pos him]
      · rw [List.getElem?_append_right (by simp [beaV]; omega)] at hv
        have hbl : (beaV T m).length = m := by simp [beaV]
        rw [hbl, beaV2, List.getElem?_map, List.getElem?_range (by omega)] at hv
        cases hv
        rw [if_neg him]
    subst hv2
    have hbd : -32768 ≤ beaOf g m T (i : Nat) ∧ beaOf g m T (i : Nat) ≤ 32767 := by
      unfold beaOf
      rw [if_pos hin]
      show -32768 ≤ (if i < m then s16 (num T (4 * i + 2) 2) else s16 (num T (4 * m + 2 * (i - m)) 2)) ∧ (if i < m then s16 (num T (4 * i + 2) 2) else s16 (num T (4 * m + 2 * (i - m)) 2)) ≤ 32767
      have e1 := num2_lt T (4 * i + 2)
      have e2 := num2_lt T (4 * m + 2 * (i - m))
      unfold s16
      split <;> split <;> omega
    obtain ⟨hb1, hb2⟩ := hbd
    have c4 := cell_of_heap h0 4
    simp only [widV, List.getElem?_toArray, List.getElem?_cons_succ, List.getElem?_cons_zero] at c4
    have hi64 : (i : Int) ≤ 65535 := by omega
    unfold maxLen at k4
    clear h0 h1 h2 hin hid hv
    generalize beaOf g m T (i : Nat) = y at *
    go_enter Try.func17, Try.ntmps17
    go_wp2_with (first | (go_at_call 28; refine (HHS.out).mono ?_; rintro e w_ ⟨rfl, rfl⟩))
    go_ret
    exact ⟨rfl, rfl⟩
  · rw [show decide (0 ≤ id ∧ id < (g : Nat)) = false by simp; omega] at HHS
    have HA := Lib.hid (show beaOf g m T id = 0 by unfold beaOf; rw [if_neg hin])
    clear h0 h1 h2 hin
    go_enter Try.func17, Try.ntmps17
    go_wp2_with (first | (go_at_call 28; refine (HHS.out).mono ?_; rintro e w_ ⟨rfl, rfl⟩))
    go_ret
    exact ⟨by rw [HA.out]; rfl, rfl⟩
set_option maxRecDepth 100000 in
set_option maxHeartbeats 800000 in
theorem wface_any (gw g e m : Nat) (s1 s2 : Value) (w : World) (hgw : w.heap[gw]? = some (.cells (widV g e m s1 s2) 59 (0, 0))) :
    Calls Try.prog 20 #[.pointer (some ⟨gw, 0, none⟩)] w fun r w' => r = .returned (faceV g e m) ∧ Below w.heap.size w w' := by
  have hAC := allocC
  have hAF := allocF
  have c0 := cell_of_heap hgw 0
  have c1 := cell_of_heap hgw 1
  have c2 := cell_of_heap hgw 2
  have hgl := (Array.getElem?_eq_some_iff.1 hgw).1
  have hgne : ¬ gw = w.heap.size := by omega
  simp only [widV, List.getElem?_toArray, List.getElem?_cons_succ, List.getElem?_cons_zero] at c0 c1 c2
  clear hgw
  go_enter Try.func20, Try.ntmps20
  go_wp2_with fail
  refine bodyPost_ret (v := faceV g e m) (by simp [results, Try.results20, go_sem, faceV, hAC]) rfl ⟨rfl, ?_⟩
  exact (by repeat (first | exact brefl _ | assumption | refine balloc ?_ _ | refine bdrew ?_ _ | refine bdrew1 ?_ | refine bthen ?_ (by assumption) | refine Below.trans ?_ (by assumption) | (refine bset ?_ (by first | (simp; done) | (simp; omega)) _)))
end Go.Proofs.Ythacabmnnpibkaa
