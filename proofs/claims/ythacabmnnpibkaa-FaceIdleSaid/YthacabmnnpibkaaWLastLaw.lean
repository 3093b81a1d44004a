
/- The walk of WidthLast. Condition: as many advances as the slice says. -/
import Derived.Test.YthacabmnnpibkaaWSpeak
namespace Go.Proofs.Ythacabmnnpibkaa
open Go.RowKit Go.Lib

def LastRel (w : World) (M : Nat) (i : Value) (wr : World) : Prop := ∃ k : Nat, k ≤ M ∧ i = .int .i64 (k : Nat) ∧ Below w.heap.size w wr

set_option maxRecDepth 100000 in
set_option maxHeartbeats 3200000 in
theorem widthLast_walk (a : Option Addr) (n c : Nat) (vs : List Nat) (more : Nat) (w : World) (h : Has w a (u16V vs)) (hl : vs.length = n) (hn : n ≤ c) (hc : c ≤ maxLen) (hv : ∀ s ∈ vs, s ≤ 65535) (hm : more ≤ 255) :
    Calls Try.prog 5 #[.slice a n c, .int .u8 (more : Nat)] w fun r w' => r = .returned (.bool true) ∧ Below w.heap.size w w' := by
  have hAC := allocC
  have HH := Lib.hid h
  have HL := Lib.hid hl
  have HV := Lib.hid hv
  have hcm := hc
  unfold maxLen at hcm
  clear h hl hv
  by_cases h0 : n = 0
  · subst h0
    go_enter Try.func5, Try.ntmps5
    go_wp2_with (first | (go_at_call 13; refine (speaks_width _).mono ?_; rintro e w1 ⟨rfl, hb1⟩; have h1c := bc hb1; have h1f := bf hb1; have h1z := hb1.size; try simp only [World.size_alloc, World.size_drew] at h1z))
    go_ret
    exact ⟨rfl, (by repeat (first | exact brefl _ | assumption | refine balloc ?_ _ | refine bdrew ?_ _ | refine bdrew1 ?_ | refine bthen ?_ (by assumption) | refine Below.trans ?_ (by assumption) | (refine bset ?_ (by first | (simp; done) | (simp; omega)) _)))⟩
  by_cases h2 : 200 < n
  · have hz : ((n : Int) == 0) = false := by simp; omega
    go_enter Try.func5, Try.ntmps5
    go_wp2_with (first | (go_at_call 13; refine (speaks_width _).mono ?_; rintro e w1 ⟨rfl, hb1⟩; have h1c := bc hb1; have h1f := bf hb1; have h1z := hb1.size; try simp only [World.size_alloc, World.size_drew] at h1z))
    go_ret
    exact ⟨rfl, (by repeat (first | exact brefl _ | assumption | refine balloc ?_ _ | refine bdrew ?_ _ | refine bdrew1 ?_ | refine bthen ?_ (by assumption) | refine Below.trans ?_ (by assumption) | (refine bset ?_ (by first | (simp; done) | (simp; omega)) _)))⟩
  have hz : ((n : Int) == 0) = false := by simp; omega
  have hz2 : decide (200 < (n : Int)) = false := by simp; omega
  have hz3 : decide (200 < n) = false := by simp; omega
  go_enter Try.func5, Try.ntmps5
  go_wp2_with (first | (go_at_call 13; refine (speaks_width _).mono ?_; rintro e w1 ⟨rfl, hb1⟩; have h1c := bc hb1; have h1f := bf hb1; have h1z := hb1.size; try simp only [World.size_alloc, World.size_drew] at h1z))
  have HB1 := Lib.hid hb1
  clear h1c h1f
  refine (font_any a n c more vs w1 (HH.out.below hb1) HL.out hn hc HV.out (by omega) (by omega) (by omega)).mono ?_
  rintro r w2 ⟨a2, n2, c2, F, rfl, hF, hFl, k1, k2, k3, k4, hP, hb2⟩
  have HR := Lib.hid (wread_four a2 n2 c2 F (n + more) 1000 n _ w2 (has_of_owns hF) hFl k1 k2 hP (by decide) (by omega) (by rw [List.length_append, rowsF_length, List.length_replicate]; omega))
  have HB2 := Lib.hid (HB1.out.trans (hb2.mono HB1.out.size))
  clear hb1 hF hFl k3 hP hb2
  go_wp2_with fail
  refine HR.out.mono ?_
  rintro r w3 ⟨gw, rfl, hd, hgw, hb3⟩
  have HD := Lib.hid hd
  have HB3 := Lib.hid (HB2.out.trans (hb3.mono HB2.out.size))
  have hnm : n + more ≤ 65535 := by omega
  have HA := Lib.hid (fun (id : Int) (hid : -9223372036854775808 ≤ id ∧ id ≤ 9223372036854775807) W (hb : Below w3.heap.size w3 W) => adv_any w2.heap.size gw (n + more) 1000 n _ id W (HD.out.below hb) (by omega) (by omega) hnm hid)
  clear hd hb3 HR
  go_wp2_with fail
  go_loopw [37] (LastRel w3 (n + more)) (fun i _ => (n + more) - (intOf i).toNat)
  case atStart => exact ⟨0, Nat.zero_le _, rfl, Below.refl _ _⟩
  case round =>
    obtain ⟨i, hi, rfl, hbr⟩ := hrel
    have HBR := Lib.hid hbr
    have HBX := Lib.hid (HB3.out.trans (hbr.mono HB3.out.size))
    clear hbr
    by_cases hlt : i < n + more
    · have HLT := Lib.hid hlt
      have hai := HA.out (i : Nat) (by omega) wr.drew (HBR.out.drew)
      rw [adv_rows vs id n (n + more) i _ (by omega) hlt HV.out HL.out (fun j hj => by show j ≤ 65535; omega)] at hai
      obtain ⟨b, o, rfl, hlb, hg⟩ := HH.out.get (by rw [u16V_length, HL.out]; omega)
      have hcell := (HBX.out.cell (p := ⟨b, o + min i (n - 1), none⟩) hlb).trans (hg _ _ (u16V_get vs (min i (n - 1)) (by rw [HL.out]; omega)))
      have hbl : b < wr.heap.size := Nat.lt_of_lt_of_le hlb HBX.out.size
      have hq : min (i : Int) ((n : Int) - 1) = ((min i (n - 1) : Nat) : Int) := by omega
      have hqm : min i (n - 1) < n := by omega
      have hs6 : vs.getD (min i (n - 1)) 0 ≤ 65535 := HV.out _ (by rw [List.getD_eq_getElem?_getD, List.getElem?_eq_getElem (by rw [HL.out]; omega)]; exact List.getElem_mem _)
      have HAI := Lib.hid hai
      clear hai hg
      generalize hqq : min i (n - 1) = q at *
      generalize vs.getD q 0 = s at *
      clear hqq
      go_wp2_with fail
      refine wp_region_tree (.step 0 (.step 1 (.step 3 (.step 4 (.step 5 (.step 6 (.step 7 (.step 8 (.step 9 (.step 10 (.step 11 (.step 2 (.step 12 .nil))))))))))))) (by kernel_rfl) (by kernel_rfl) (by kernel_rfl) (by kernel_rfl) (by intro _ _ d_ _ _ h_; cases d_ <;> first | exact h_ | (dsimp +zetaDelta only at h_ ⊢; exact h_)) (fun w' => ∃ p : Wld wr [], w' = p.val) (wld_start _ _) ?_
      have hG_ := @wldC wr
      (refine tree_quiet (by simp only [List.getElem?_toArray, List.getElem?_cons_succ, List.getElem?_cons_zero]; rfl) (by rfl) (by rfl) (fun K_ hK_ => ?_); go_big_quiet_op; refine hK_ _ ?_; clear hK_ K_)
      (refine tree_quiet (by simp only [List.getElem?_toArray, List.getElem?_cons_succ, List.getElem?_cons_zero]; rfl) (by rfl) (by rfl) (fun K_ hK_ => ?_); go_big_quiet_op; refine hK_ _ ?_; clear hK_ K_)
      (refine tree_quiet (by simp only [List.getElem?_toArray, List.getElem?_cons_succ, List.getElem?_cons_zero]; rfl) (by rfl) (by rfl) (fun K_ hK_ => ?_); go_big_quiet_op; refine hK_ _ ?_; clear hK_ K_)
      (refine tree_quiet (by simp only [List.getElem?_toArray, List.getElem?_cons_succ, List.getElem?_cons_zero]; rfl) (by rfl) (by rfl) (fun K_ hK_ => ?_); go_big_quiet_op; refine hK_ _ ?_; clear hK_ K_)
      (refine tree_quiet (by simp only [List.getElem?_toArray, List.getElem?_cons_succ, List.getElem?_cons_zero]; rfl) (by rfl) (by rfl) (fun K_ hK_ => ?_); go_big_quiet_op; refine hK_ _ ?_; clear hK_ K_)
      (refine tree_quiet (by simp only [List.getElem?_toArray, List.getElem?_cons_succ, List.getElem?_cons_zero]; rfl) (by rfl) (by rfl) (fun K_ hK_ => ?_); go_big_quiet_op; refine hK_ _ ?_; clear hK_ K_)
      (refine tree_quiet (by simp only [List.getElem?_toArray, List.getElem?_cons_succ, List.getElem?_cons_zero]; rfl) (by rfl) (by rfl) (fun K_ hK_ => ?_); go_big_quiet_op; refine hK_ _ ?_; clear hK_ K_)
      (refine tree_quiet (by simp only [List.getElem?_toArray, List.getElem?_cons_succ, List.getElem?_cons_zero]; rfl) (by rfl) (by rfl) (fun K_ hK_ => ?_); go_big_quiet_op; refine hK_ _ ?_; clear hK_ K_)
      (refine tree_quiet (by simp only [List.getElem?_toArray, List.getElem?_cons_succ, List.getElem?_cons_zero]; rfl) (by rfl) (by rfl) (fun K_ hK_ => ?_); go_big_quiet_op; refine hK_ _ ?_; clear hK_ K_)
      (refine tree_quiet (by simp only [List.getElem?_toArray, List.getElem?_cons_succ, List.getElem?_cons_zero]; rfl) (by rfl) (by rfl) (fun K_ hK_ => ?_); go_big_quiet_op; refine hK_ _ ?_; clear hK_ K_)
      (refine tree_quiet (by simp only [List.getElem?_toArray, List.getElem?_cons_succ, List.getElem?_cons_zero]; rfl) (by rfl) (by rfl) (fun K_ hK_ => ?_); go_big_quiet_op; refine hK_ _ ?_; clear hK_ K_)
      (refine tree_run (by simp only [List.getElem?_toArray, List.getElem?_cons_succ, List.getElem?_cons_zero]; rfl) (by rfl) (by rfl) (fun K_ hK_ => ?_); have HK_ := Lib.hid hK_; clear hK_; go_wp2_with ((go_at_call 16; (with_reducible refine (HAI.out).mono ?_); rintro e wa ⟨rfl, hba⟩; have hac := bc hba; have haf := bf hba; have haz := hba.size; try simp only [World.size_alloc, World.size_drew] at haz)); refine HK_.out _ _ (wld_of (by repeat (first | exact same_below (brefl _) | exact same_realloc (by simp) | exact same_below (bdrew1 (brefl _)) | assumption | refine same_drew ?_ | refine same_then ?_ (by assumption) | refine same_alloc ?_ _ | (refine same_set ?_ (by first | (left; simp; done) | (right; simp; done) | (right; simp; omega)) _)))) ?_; clear HK_)
      (refine tree_quiet (by simp only [List.getElem?_toArray, List.getElem?_cons_succ, List.getElem?_cons_zero]; rfl) (by rfl) (by rfl) (fun K_ hK_ => ?_); go_big_quiet_op; refine hK_ _ ?_; clear hK_ K_)
      refine tree_nil ?_
      clear hG_
      go_wp2_with fail
      go_roundw
      case rel => exact ⟨i + 1, HLT.out, by go_num, HBR.out.trans (Below.mono (show Below wr.heap.size wr _ from (by repeat (first | exact brefl _ | assumption | refine balloc ?_ _ | refine bdrew ?_ _ | refine bdrew1 ?_ | refine bthen ?_ (by assumption) | refine Below.trans ?_ (by assumption) | (refine bset ?_ (by first | (simp; done) | (simp; omega)) _)))) HBR.out.size)⟩
      case measure => simp [intOf]; have := HLT.out; omega
    · obtain rfl : i = n + more := by omega
      have hm1 := HA.out (-1) (by decide) wr HBR.out
      rw [adv_out _ _ _ _ (by omega)] at hm1
      have HM1 := Lib.hid hm1
      have hm2 := fun (z : Int) (hz : z = ((n + more : Nat) : Int)) W (hb : Below w3.heap.size w3 W) => HA.out z (by omega) W hb
      have HM2 := Lib.hid (fun (z : Int) (hz : z = ((n + more : Nat) : Int)) W (hb : Below w3.heap.size w3 W) => show Calls Try.prog 16 #[.pointer (some ⟨gw, 0, none⟩), .int .i64 z] W fun r w' => r = .returned (.int .i64 ((0 : Nat) : Int)) ∧ Below W.heap.size W w' from by
        have := hm2 z hz W hb
        rw [adv_out _ _ _ _ (by omega)] at this
        exact this)
      clear hm1 hm2
      go_wp2_with (first | (go_at_call 16; (with_reducible refine (HM1.out).mono ?_); rintro e w5 ⟨rfl, hb5⟩; have h5c := bc hb5; have h5f := bf hb5; have h5z := hb5.size; try simp only [World.size_alloc, World.size_drew] at h5z) | (go_at_call 16; (with_reducible refine (HM2.out ((n : Int) + (more : Int)) (by omega) _ (HBR.out.trans (hb5.mono HBR.out.size))).mono ?_); rintro e w6 ⟨rfl, hb6⟩; have h6c := bc hb6; have h6f := bf hb6; have h6z := hb6.size; try simp only [World.size_alloc, World.size_drew] at h6z))
      go_ret
      exact ⟨rfl, HBX.out.trans (Below.mono (show Below wr.heap.size wr _ from (by repeat (first | exact brefl _ | assumption | refine balloc ?_ _ | refine bdrew ?_ _ | refine bdrew1 ?_ | refine bthen ?_ (by assumption) | refine Below.trans ?_ (by assumption) | (refine bset ?_ (by first | (simp; done) | (simp; omega)) _)))) HBX.out.size)⟩
end Go.Proofs.Ythacabmnnpibkaa
