/- Joined from: MFill. -/
import Derived.Test.YtaladlaffglkeaaJ01
import Derived.Test.YtaladlaffglkeaaJ04
import Derived.Test.YtaladlaffglkeaaJ09
section

/- A class of worlds: all blocks that aren't a call's own are as they were, by their numbers and types. No condition of its own. The contract of (*state.Machine).addEntries. Conditions: as many bytes as the slice says; a machine that is being filled. The contract of (*state.Machine).addStates. Conditions: as many bytes as the slice says; a machine that is being filled. The contract of (*state.Machine).fill. Conditions: as many bytes as the slices say; a machine without states. -/
namespace Go.Proofs.Ytaladlaffglkeaa
open Go.RowKit

open Go.RowKit Go.Lib

def next16 (eb : List UInt8) (k j : Nat) : Nat := num eb (j * (4 + 2 * k)) 2
def AddEIs (B g C : Nat) (lk : Value) (f : Nat → Nat) (eb : List UInt8) (k s n nw N : Nat) (w : World) (e : Ending) (w' : World) : Prop :=
  (nw * (4 + 2 * k) ≤ N ∧ e = .returned (.int .i64 (needF (next16 eb k) n (nw - n) : Nat)) ∧ MSt B g C lk f eb k s (max n nw) w' ∧ KeepC B ownM w w') ∨ (¬ nw * (4 + 2 * k) ≤ N ∧ e = .panicked thrown ∧ Below w.heap.size w w')
def AERel (B g C : Nat) (lk : Value) (f : Nat → Nat) (eb : List UInt8) (k s n nw : Nat) (g10 : Nat) (V : Value) (W : World) (st i : Value) (wr : World) : Prop :=
  ∃ j, n ≤ j ∧ j ≤ max n nw ∧ i = .int .i64 (j : Nat) ∧ st = .int .i64 (needF (next16 eb k) n (j - n) : Nat) ∧ wr.heap[g10]? = some (.cells #[V] 93 (0, 0)) ∧ MSt B g C lk f eb k s j wr ∧ KeepC B ownM W wr
set_option maxRecDepth 100000 in
set_option maxHeartbeats 3200000 in
theorem addEntries_any (B g C : Nat) (lk : Value) (f : Nat → Nat) (eb : List UInt8) (k s n nw : Nat) (a : Option Addr) (N c : Nat) (z zk : Int) (hz : z = (nw : Nat)) (hzk : zk = (k : Nat)) (w : World) (hh : ∀ W, Below B w W → Has W a (bytesV eb)) (hl : eb.length = N) (hn : N ≤ c) (hc : c ≤ maxLen)
    (hm : MSt B g C lk f eb k s n w) (hk : k ≤ 2) (hn6 : n ≤ 65536) (hw : nw ≤ 65536) (hB : B ≤ w.heap.size) (hBg : B ≤ g) :
    Calls Try.prog 152 #[.pointer (some ⟨g, 0, none⟩), .agg #[.slice a N c], .int .i64 z, .int .i64 zk] w (AddEIs B g C lk f eb k s n nw N w) := by
  have hAC := allocC
  have hAF := allocF
  subst hz hzk
  have HH := Lib.hid hh
  have HL := Lib.hid hl
  have HM := Lib.hid hm
  obtain ⟨aS, cS, vs, aE, cE, hg, ho, hr, he⟩ := hm.is
  have hgl := (Array.getElem?_eq_some_iff.1 hg).1
  have HG := Lib.hid hg
  obtain ⟨S, hS⟩ : ∃ S, S = 4 + 2 * k := ⟨_, rfl⟩
  have hSC : (2 + (k : Int)) * 2 = (S : Int) := by omega
  have hcm := hc
  unfold maxLen at hcm
  have HBAD := Lib.hid (fun (hx : ¬ nw * S ≤ N) W => rows_bad a N c 0 (nw : Nat) (S : Nat) W (by omega) (by omega) (by
      rintro ⟨_, _, _, _, hy | hy⟩
      · omega
      · simp only [Int.toNat_natCast] at hy
        exact hx (by have := (Nat.le_div_iff_mul_le (show 0 < S by omega)).1 hy; simpa using this)) hn hc)
  have HOK := Lib.hid (fun (P : Nat) (hP : nw * S = P) (hx : P ≤ N) W => rows_z a N c 0 nw S P 0 (nw : Nat) (S : Nat) rfl rfl rfl W hP (by omega) (.inr ((Nat.le_div_iff_mul_le (show 0 < S by omega)).2 (by omega))) (by omega) (by omega) hn hc)
  have HSS := Lib.hid hS
  have hS8 : 4 ≤ S ∧ S ≤ 8 := by omega
  clear hh hl hm hg ho hr he hS
  have c3 := cell_of_heap HG.out 3
  simp only [machC, List.getElem?_toArray, List.getElem?_cons_succ, List.getElem?_cons_zero] at c3
  have hgne : ¬ g = w.heap.size := by omega
  go_enter Try.func152, Try.ntmps152
  by_cases hfit : nw * S ≤ N
  case neg =>
    have HB1 := Lib.hid (HBAD.out hfit)
    have HNO := Lib.hid (show ¬ nw * (4 + 2 * k) ≤ N from by rw [← HSS.out]; exact hfit)
    clear hfit
    go_wp2_with (first | (go_at_call 142; (with_reducible refine (HB1.out _).mono ?_); rintro e w1 ⟨rfl, hb1⟩; have h1c := bc hb1; have h1f := bf hb1; have h1z := hb1.size; try simp only [World.size_alloc, World.size_drew] at h1z))
    exact ⟨rfl, .inr ⟨HNO.out, rfl, blw⟩⟩
  obtain ⟨P, hP⟩ : ∃ P, P = nw * S := ⟨_, rfl⟩
  have HRW := HOK.out P hP.symm (by rw [hP]; exact hfit)
  rw [adv_zero, Nat.sub_zero] at HRW
  have HRW := Lib.hid HRW
  have HPN := Lib.hid (show P ≤ N from by rw [hP]; exact hfit)
  have HPP := Lib.hid hP
  have HCM := Lib.hid hcm
  clear HBAD HOK hfit hP hcm
  go_wp2_with (first | (go_at_call 142; (with_reducible refine (HRW.out _).mono ?_); rintro e w1 ⟨rfl, hb1⟩; have h1c := bc hb1; have h1f := bf hb1; have h1z := hb1.size; try simp only [World.size_alloc, World.size_drew] at h1z))
  obtain ⟨W, hW⟩ : ∃ W, W = w1.alloc (Obj.cells #[.slice a P c] 93) := ⟨_, rfl⟩
  have hbW : Below w.heap.size w W := by rw [hW]; exact blw
  have h8 : W.heap[w1.heap.size]? = some (.cells #[.slice a P c] 93 (0, 0)) := by rw [hW]; exact heap_new _ _ _
  have c3W := (hbW.cell (p := ⟨g, 3, none⟩) hgl).trans c3
  rw [← hW]
  have HW := Lib.hid hbW
  have HKW := Lib.hid (KeepC.of (own := ownM) hbW hB)
  have H8 := Lib.hid h8
  have hgW : g < W.heap.size := Nat.lt_of_lt_of_le hgl hbW.size
  clear hW hbW h8 h1c h1f hb1 c3 HRW hSC
  generalize w1.heap.size = g8 at *
  go_wp2_with fail
  go_loopw [8, 11] (AERel B g C lk f eb k s n nw g8 (.slice a P c) W) (fun _ i _ => max n nw - (Go.RowKit.intOf i).toNat)
  case atStart => exact ⟨n, Nat.le_refl _, by omega, rfl, by rw [Nat.sub_self]; rfl, H8.out, HM.out.below HW.out, KeepC.refl _ _ _⟩
  case round =>
    obtain ⟨j, hj1, hj2, rfl, rfl, h8, hm, hk'⟩ := hrel
    have HMR := Lib.hid hm
    have HKR := Lib.hid hk'
    have hzr : W.heap.size ≤ wr.heap.size := hk'.size
    obtain ⟨aT, cT, vt, aF, cF, hg, hot, hrt, het⟩ := hm.is
    have q8 := cell_of_heap h8 0
    simp only [List.getElem?_toArray, List.getElem?_cons_zero] at q8
    have hgr : g < wr.heap.size := by omega
    have hg8r := cell_lt q8
    simp only at hg8r
    have H8R := Lib.hid h8
    have hne8 : g8 ≠ g := by
      rintro rfl
      rw [h8] at hg
      cases hg
    have HGR := Lib.hid hg
    have HOT := Lib.hid hot
    have HRT := Lib.hid hrt
    have HET := Lib.hid het
    clear hm hk' hg h8 hot hrt het
    have hent : needF (next16 eb k) n (j - n) ≤ 65536 := needF_le fun i => by have := num2_lt eb (i * (4 + 2 * k)); unfold next16; omega
    by_cases hlt : j < nw
    · obtain ⟨q, hq⟩ : ∃ q, q = j * S := ⟨_, rfl⟩
      have hqP : q + S ≤ P := by rw [hq, HPP.out, ← Nat.succ_mul]; exact Nat.mul_le_mul_right _ (by omega)
      have HQ := Lib.hid hq
      have hPN := HPN.out
      have hcm := HCM.out
      have HQ1 := Lib.hid (show IntKind.i64.wrap ((j : Int) * (S : Int)) = (q : Int) by rw [← Int.natCast_mul, ← hq]; exact IntWalk.i64_in _ (by omega))
      have HC := Lib.hid (fun W => cut_z a P c q S (q : Int) (S : Int) rfl rfl W hqP (by omega) hc)
      have HNF := Lib.hid (show needF (next16 eb k) n (j + 1 - n) = max (needF (next16 eb k) n (j - n)) (next16 eb k j + 1) from by
        rw [show j + 1 - n = (j - n) + 1 by omega, needF_succ, show n + (j - n) = j by omega])
      have hdl : ((eb.drop q).take S).length = S := by rw [List.length_take, List.length_drop, HL.out]; omega
      have HEN := Lib.hid (fun W (hW : Below B w W) => entry_any (adv a c q) S (c - q) ((eb.drop q).take S) k hk (k : Int) rfl W (by
        have := ((HH.out W hW).adv c q (by rw [bytesV_length, HL.out]; exact hn)).take S
        rwa [bytesV_drop, bytesV_take] at this) hdl (by have := HSS.out; omega) (by omega) (Nat.le_trans (Nat.sub_le _ _) hc))
      have hq4 : q = j * (4 + 2 * k) := by rw [HQ.out, HSS.out]
      have hSS := HSS.out
      have e0 : num ((eb.drop q).take S) 0 2 = next16 eb k j := by rw [num_take _ _ _ (by omega), num_drop, hq4]; rfl
      have e2 : num ((eb.drop q).take S) 2 2 = num eb (j * (4 + 2 * k) + 2) 2 := by rw [num_take _ _ _ (by omega), num_drop, hq4]
      have e4 : (if 0 < k then num ((eb.drop q).take S) 4 2 else 0) = if 0 < k then num eb (j * (4 + 2 * k) + 4) 2 else 0 := by
        split
        · rw [num_take _ _ _ (by omega), num_drop, hq4]
        · rfl
      have e6 : (if 1 < k then num ((eb.drop q).take S) 6 2 else 0) = if 1 < k then num eb (j * (4 + 2 * k) + 6) 2 else 0 := by
        split
        · rw [num_take _ _ _ (by omega), num_drop, hq4]
        · rfl
      rw [e0, e2, e4, e6] at HEN
      have HEV := Lib.hid (show entV eb k j = [.int .i64 (next16 eb k j : Nat), .int .i64 (num eb (j * (4 + 2 * k) + 2) 2 : Nat), .int .i64 ((if 0 < k then num eb (j * (4 + 2 * k) + 4) 2 else 0 : Nat) : Int), .int .i64 ((if 1 < k then num eb (j * (4 + 2 * k) + 6) 2 else 0 : Nat) : Int)] from rfl)
      have hx16 : next16 eb k j ≤ 65535 := num2_lt eb _
      clear hq hcm e0 e2 e4 e6 hq4 hSS hdl
      generalize next16 eb k j = x0 at *
      generalize num eb (j * (4 + 2 * k) + 2) 2 = x2 at *
      generalize (if 0 < k then num eb (j * (4 + 2 * k) + 4) 2 else 0) = x4 at *
      generalize (if 1 < k then num eb (j * (4 + 2 * k) + 6) 2 else 0) = x6 at *
      generalize hE0 : needF (next16 eb k) n (j - n) = E0 at *
      generalize hE1 : needF (next16 eb k) n (j + 1 - n) = E1 at *
      have HE1 := Lib.hid hE1
      clear hE0 hE1
      have hq1 := HQ1.out
      have hq2 : wrap64 ((j : Int) * (S : Int)) = (q : Int) := by rw [← IntWalk.i64_left]; exact hq1
      have HBR := Lib.hid ((HW.out.mono hB).trans HKR.out.below)
      go_wp2_with (first | (go_at_call 134; (with_reducible refine (HC.out _).mono ?_); rintro e w2 ⟨rfl, hb2⟩; have h2c := bc hb2; have h2f := bf hb2; have h2z := hb2.size; try simp only [World.size_alloc, World.size_drew] at h2z) | (go_at_call 164; (with_reducible refine (HEN.out _ (HBR.out.trans (hb2.mono (by omega)))).mono ?_); rintro e w3 ⟨rfl, hb3⟩; have h3c := bc hb3; have h3f := bf hb3; have h3z := hb3.size; try simp only [World.size_alloc, World.size_drew] at h3z))
      obtain ⟨X, hX⟩ : ∃ X, X = w3.alloc (Obj.cells #[.int .i64 (x0 : Nat), .int .i64 (x2 : Nat), .int .i64 (x4 : Nat), .int .i64 (x6 : Nat)] 88) := ⟨_, rfl⟩
      have bX : Below wr.heap.size wr X := by rw [hX]; exact blw
      have x12 : X.heap[w3.heap.size]? = some (.cells #[.int .i64 (x0 : Nat), .int .i64 (x2 : Nat), .int .i64 (x4 : Nat), .int .i64 (x6 : Nat)] 88 (0, 0)) := by rw [hX, heap_push, if_pos rfl]
      have xg := (bX.block g hgr).trans HGR.out
      have hz3 : wr.heap.size ≤ w3.heap.size := by omega
      rw [← hX]
      have HEX := Lib.hid (owns_below HET.out bX (Nat.le_refl _))
      have HBX := Lib.hid bX
      have hXz := bX.size
      have h12 : ∀ m, some m = (Value.slice aF j cF).ownBlock → m ≠ w3.heap.size := fun m hm => by have := (HET.out.lt m hm.symm).2; omega
      have H12 := Lib.hid h12
      have hzX : w3.heap.size < X.heap.size := by rw [hX]; simp
      have hne12 : w3.heap.size ≠ g := by omega
      have HXG := Lib.hid xg
      have HX12 := Lib.hid x12
      have hBX : B ≤ X.heap.size := by omega
      clear hX bX h12 h2c h2f hb2 h3c h3f hb3 hq1 hq2 hPN
      generalize w3.heap.size = g12 at *
      simp only [machC] at xg
      refine wp_region_last (.step 0 (.step 1 (.step 2 (.step 3 (.step 4 (.step 5 (.step 6 (.step 7 (.step 8 (.step 9 (.step 10 .nil))))))))))) 10 (by kernel_rfl) (by kernel_rfl) (by kernel_rfl) (by kernel_rfl) (by kernel_rfl) (by intro _ _ d_ _ _ h_; cases d_ <;> first | exact h_ | (dsimp +zetaDelta only at h_ ⊢; exact h_)) (fun w' => ∃ p : KepP (fun k_ t_ => t_ = 88 ∧ k_ ≠ g12) X, w' = p.val) (kepP_start _ _) ?_
      have hK0_ := fun (p : KepP (fun k_ t_ => t_ = 88 ∧ k_ ≠ g12) X) (o : Nat) => p.is.cell xg (by first | (intro h_; exact absurd h_.1 (by decide)) | (intro h_; exact h_.2 rfl) | (intro h_; rcases h_ with h_ | h_ | h_ <;> exact absurd h_ (by decide)) | (intro h_; rcases h_ with h_ | h_ <;> exact absurd h_ (by decide))) o
      have hK1_ := fun (p : KepP (fun k_ t_ => t_ = 88 ∧ k_ ≠ g12) X) (o : Nat) => p.is.cell x12 (by first | (intro h_; exact absurd h_.1 (by decide)) | (intro h_; exact h_.2 rfl) | (intro h_; rcases h_ with h_ | h_ | h_ <;> exact absurd h_ (by decide)) | (intro h_; rcases h_ with h_ | h_ <;> exact absurd h_ (by decide))) o
      (refine z_quiet gtA (by rfl) (by rfl) (fun K_ hK_ => ?_); go_big_quiet_op; refine hK_ _ ?_; clear hK_ K_)
      (refine z_quiet gtA (by rfl) (by rfl) (fun K_ hK_ => ?_); go_big_quiet_op; refine hK_ _ ?_; clear hK_ K_)
      (refine z_quiet gtA (by rfl) (by rfl) (fun K_ hK_ => ?_); go_big_quiet_op; refine hK_ _ ?_; clear hK_ K_)
      (refine z_quiet gtA (by rfl) (by rfl) (fun K_ hK_ => ?_); go_big_quiet_op; refine hK_ _ ?_; clear hK_ K_)
      (refine z_quiet gtA (by rfl) (by rfl) (fun K_ hK_ => ?_); go_big_quiet_op; refine hK_ _ ?_; clear hK_ K_)
      (refine z_quiet gtA (by rfl) (by rfl) (fun K_ hK_ => ?_); go_big_quiet_op; refine hK_ _ ?_; clear hK_ K_)
      (refine z_run gtA (by rfl) (by rfl) (fun K_ hK_ => ?_); have HK_ := Lib.hid hK_; clear hK_; (first | (((refine wpAppO _ _ 49 rfl B 88 (.agg #[.int .i64 0, .int .i64 0, .int .i64 0, .int .i64 0]) 4 32 Try.underlying49 info_entry rfl (by decide) _ j (entsV eb k j) rfl (owns_below HEX.out (balloc (bdrew1 (brefl X)) _) (Nat.le_refl _)) ⟨X.heap.size, 0, none⟩ 1 1 [.int .i64 (x0 : Nat), .int .i64 (x2 : Nat), .int .i64 (x4 : Nat), .int .i64 (x6 : Nat)] rfl rfl (has_alloc _ _ _) (fun u hu => by simp at hu; rcases hu with rfl | rfl | rfl | rfl <;> rfl) (by unfold maxLen; omega) (by omega) (by simp; omega) ?_); intro a3 c3 w5 hown3 t31 t32 t33 hb3 hg3; have hko : KeptO (fun k_ t_ => t_ = 88 ∧ k_ ≠ g12) X w5 := (KeptO.below (bdrew1 (brefl X))).trans ((KeptO.below (balloc (brefl _) _)).trans (KeptO.grown (owns_below HEX.out (balloc (bdrew1 (brefl X)) _) (Nat.le_refl _)) hg3 fun m hm => ⟨rfl, H12.out m hm⟩)); have hkc : KeepC B ownM X w5 := (KeepC.of (bdrew1 (brefl X)) hBX).trans ((KeepC.of (balloc (brefl _) _) (by simp; omega)).trans (KeepC.appM (owns_below HEX.out (balloc (bdrew1 (brefl X)) _) (Nat.le_refl _)) (Nat.le_refl _) hb3 hg3 fun _ => .inr (.inl rfl))); have hw5 := (hko.2 g _ _ _ HXG.out (fun h_ => absurd h_.1 (by decide))).trans HXG.out; have h125 := (hko.2 g12 _ _ _ HX12.out (fun h_ => h_.2 rfl)).trans HX12.out; have s3 := cell_of_heap hw5 3; simp only [machC, List.getElem?_toArray, List.getElem?_cons_succ, List.getElem?_cons_zero] at s3; have sf := fun o => froz_of_heap hw5 o; have HO5 := Lib.hid hown3; have HKO := Lib.hid hko; have HKC := Lib.hid hkc; have HW5 := Lib.hid hw5; have H125 := Lib.hid h125; have hz5 := hko.1; clear hown3 t31 t32 t33 hb3 hg3 hkc hw5 h125; dsimp only [Act.put]; simp only [List.setIfInBounds_toArray, List.set_cons_succ, List.set_cons_zero])) | (go_wp2_with (fail))); refine HK_.out _ _ (kepP_ofA) ?_; clear HK_)
      (refine z_run gtA (by rfl) (by rfl) (fun K_ hK_ => ?_); have HK_ := Lib.hid hK_; clear hK_; (first | (((refine wpAppO _ _ 49 rfl B 88 (.agg #[.int .i64 0, .int .i64 0, .int .i64 0, .int .i64 0]) 4 32 Try.underlying49 info_entry rfl (by decide) _ j (entsV eb k j) rfl (owns_below HEX.out (balloc (bdrew1 (brefl X)) _) (Nat.le_refl _)) ⟨X.heap.size, 0, none⟩ 1 1 [.int .i64 (x0 : Nat), .int .i64 (x2 : Nat), .int .i64 (x4 : Nat), .int .i64 (x6 : Nat)] rfl rfl (has_alloc _ _ _) (fun u hu => by simp at hu; rcases hu with rfl | rfl | rfl | rfl <;> rfl) (by unfold maxLen; omega) (by omega) (by simp; omega) ?_); intro a3 c3 w5 hown3 t31 t32 t33 hb3 hg3; have hko : KeptO (fun k_ t_ => t_ = 88 ∧ k_ ≠ g12) X w5 := (KeptO.below (bdrew1 (brefl X))).trans ((KeptO.below (balloc (brefl _) _)).trans (KeptO.grown (owns_below HEX.out (balloc (bdrew1 (brefl X)) _) (Nat.le_refl _)) hg3 fun m hm => ⟨rfl, H12.out m hm⟩)); have hkc : KeepC B ownM X w5 := (KeepC.of (bdrew1 (brefl X)) hBX).trans ((KeepC.of (balloc (brefl _) _) (by simp; omega)).trans (KeepC.appM (owns_below HEX.out (balloc (bdrew1 (brefl X)) _) (Nat.le_refl _)) (Nat.le_refl _) hb3 hg3 fun _ => .inr (.inl rfl))); have hw5 := (hko.2 g _ _ _ HXG.out (fun h_ => absurd h_.1 (by decide))).trans HXG.out; have h125 := (hko.2 g12 _ _ _ HX12.out (fun h_ => h_.2 rfl)).trans HX12.out; have s3 := cell_of_heap hw5 3; simp only [machC, List.getElem?_toArray, List.getElem?_cons_succ, List.getElem?_cons_zero] at s3; have sf := fun o => froz_of_heap hw5 o; have HO5 := Lib.hid hown3; have HKO := Lib.hid hko; have HKC := Lib.hid hkc; have HW5 := Lib.hid hw5; have H125 := Lib.hid h125; have hz5 := hko.1; clear hown3 t31 t32 t33 hb3 hg3 hkc hw5 h125; dsimp only [Act.put]; simp only [List.setIfInBounds_toArray, List.set_cons_succ, List.set_cons_zero])) | (go_wp2_with (fail))); refine HK_.out _ _ (kepP_ofA) ?_; clear HK_)
      (refine z_quiet gtA (by rfl) (by rfl) (fun K_ hK_ => ?_); go_big_quiet_op; refine hK_ _ ?_; clear hK_ K_)
      (refine z_quiet gtA (by rfl) (by rfl) (fun K_ hK_ => ?_); go_big_quiet_op; refine hK_ _ ?_; clear hK_ K_)
      (refine z_last gtA (by rfl) (by rfl) (by rfl) (fun K_ hK_ => ?_); have HK_ := Lib.hid hK_; clear hK_; (first | (((refine wpAppO _ _ 49 rfl B 88 (.agg #[.int .i64 0, .int .i64 0, .int .i64 0, .int .i64 0]) 4 32 Try.underlying49 info_entry rfl (by decide) _ j (entsV eb k j) rfl (owns_below HEX.out (balloc (bdrew1 (brefl X)) _) (Nat.le_refl _)) ⟨X.heap.size, 0, none⟩ 1 1 [.int .i64 (x0 : Nat), .int .i64 (x2 : Nat), .int .i64 (x4 : Nat), .int .i64 (x6 : Nat)] rfl rfl (has_alloc _ _ _) (fun u hu => by simp at hu; rcases hu with rfl | rfl | rfl | rfl <;> rfl) (by unfold maxLen; omega) (by omega) (by simp; omega) ?_); intro a3 c3 w5 hown3 t31 t32 t33 hb3 hg3; have hko : KeptO (fun k_ t_ => t_ = 88 ∧ k_ ≠ g12) X w5 := (KeptO.below (bdrew1 (brefl X))).trans ((KeptO.below (balloc (brefl _) _)).trans (KeptO.grown (owns_below HEX.out (balloc (bdrew1 (brefl X)) _) (Nat.le_refl _)) hg3 fun m hm => ⟨rfl, H12.out m hm⟩)); have hkc : KeepC B ownM X w5 := (KeepC.of (bdrew1 (brefl X)) hBX).trans ((KeepC.of (balloc (brefl _) _) (by simp; omega)).trans (KeepC.appM (owns_below HEX.out (balloc (bdrew1 (brefl X)) _) (Nat.le_refl _)) (Nat.le_refl _) hb3 hg3 fun _ => .inr (.inl rfl))); have hw5 := (hko.2 g _ _ _ HXG.out (fun h_ => absurd h_.1 (by decide))).trans HXG.out; have h125 := (hko.2 g12 _ _ _ HX12.out (fun h_ => h_.2 rfl)).trans HX12.out; have s3 := cell_of_heap hw5 3; simp only [machC, List.getElem?_toArray, List.getElem?_cons_succ, List.getElem?_cons_zero] at s3; have sf := fun o => froz_of_heap hw5 o; have HO5 := Lib.hid hown3; have HKO := Lib.hid hko; have HKC := Lib.hid hkc; have HW5 := Lib.hid hw5; have H125 := Lib.hid h125; have hz5 := hko.1; clear hown3 t31 t32 t33 hb3 hg3 hkc hw5 h125; dsimp only [Act.put]; simp only [List.setIfInBounds_toArray, List.set_cons_succ, List.set_cons_zero])) | (go_wp2_with (fail))); refine HK_.out _ _ ?_; clear HK_)
      refine z_nil ?_
      clear hK0_ hK1_
      have hY := (set_heap_other (o := 3) (.slice a3 (j + 1) c3) hne12).trans H125.out
      have y12 := cell_of_heap hY 0
      simp only [List.getElem?_toArray, List.getElem?_cons_succ, List.getElem?_cons_zero] at y12
      clear hY s3 sf xg x12
      go_wp2_with fail
      go_roundw
      case rel =>
        have hset := (KeepC.refl B ownM w5).set (o := 3) hBg HW5.out (.inr (.inr rfl)) (.slice a3 (j + 1) c3)
        have hall := ((KeepC.of HBX.out (by omega)).trans HKC.out).trans hset
        have hst := HKO.out.owns (owns_below HOT.out HBX.out (Nat.le_refl _)) (fun _ h_ => absurd h_.1 (by decide))
        refine ⟨j + 1, by omega, by omega, by go_num, ?_, ?_, ⟨aT, cT, vt, a3, c3, set_heap_at _ HW5.out, set_owns _ hst (own_neE hst HW5.out (by decide)), HRT.out.keep hall, ?_⟩, HKR.out.trans hall⟩
        · rw [HE1.out, HNF.out]
          congr 1
          split <;> omega
        · exact (set_heap_other _ hne8).trans ((HKO.out.2 g8 _ _ _ ((HBX.out.block g8 hg8r).trans H8R.out) (fun h_ => absurd h_.1 (by decide))).trans ((HBX.out.block g8 hg8r).trans H8R.out))
        · exact set_owns _ (owns_eq HO5.out (by rw [entsV_succ, HEV.out])) (own_neE HO5.out HW5.out (by decide))
      case measure => simp [Go.RowKit.intOf]; omega
    · have e : max n nw = j := by omega
      go_wp2_with fail
      go_ret
      refine .inl ⟨by have := HPN.out; rw [HPP.out, HSS.out] at this; exact this, ?_, ?_, HKW.out.trans HKR.out⟩
      · rw [show j - n = nw - n by omega]; rfl
      · rw [e]; exact HMR.out

def AddSIs (B g C : Nat) (lk : Value) (f : Nat → Nat) (eb : List UInt8) (k s n nw N : Nat) (w : World) (e : Ending) (w' : World) : Prop :=
  (nw * (2 * C) ≤ N ∧ e = .returned (.int .i64 (needF f (s * C) ((nw - s) * C) : Nat)) ∧ MSt B g C lk f eb k nw n w' ∧ KeepC B ownM w w') ∨ (¬ nw * (2 * C) ≤ N ∧ e = .panicked thrown ∧ Below w.heap.size w w')
def ASRel (B g C : Nat) (lk : Value) (f : Nat → Nat) (eb : List UInt8) (k s n nw : Nat) (g8 : Nat) (V : Value) (W : World) (ent i : Value) (wr : World) : Prop :=
  ∃ j, s ≤ j ∧ j ≤ nw ∧ i = .int .i64 (j : Nat) ∧ ent = .int .i64 (needF f (s * C) ((j - s) * C) : Nat) ∧ wr.heap[g8]? = some (.cells #[V] 93 (0, 0)) ∧ MSt B g C lk f eb k j n wr ∧ KeepC B ownM W wr
def ASIn (f : Nat → Nat) (C s j gm g10 : Nat) (V : Value) (W : World) (ent cls : Value) (wv : World) : Prop :=
  ∃ q, q ≤ C ∧ cls = .int .i64 (q : Nat) ∧ ent = .int .i64 (needF f (s * C) ((j - s) * C + q) : Nat) ∧ wv.ownsRow W.heap.size 157 1 (.slice (some ⟨gm, 0, none⟩) C C) C (part16 f C j q) ∧ wv.heap[g10]? = some (.cells #[V] 93 (0, 0)) ∧ Below W.heap.size W wv
set_option maxRecDepth 100000 in
set_option maxHeartbeats 3200000 in
theorem addStates_any (B g C : Nat) (lk : Value) (sb eb : List UInt8) (k s n nw : Nat) (a : Option Addr) (N c : Nat) (z : Int) (hz : z = (nw : Nat)) (w : World) (hh : ∀ W, Below B w W → Has W a (bytesV sb)) (hl : sb.length = N) (hn : N ≤ c) (hc : c ≤ maxLen)
    (hm : MSt B g C lk (ent16 sb) eb k s n w) (hC : 4 ≤ C) (hC2 : C ≤ 65535) (hs : s ≤ nw) (hw : nw ≤ 65536) (hB : B ≤ w.heap.size) (hBg : B ≤ g) :
    Calls Try.prog 153 #[.pointer (some ⟨g, 0, none⟩), .agg #[.slice a N c], .int .i64 z] w (AddSIs B g C lk (ent16 sb) eb k s n nw N w) := by
  have hAC := allocC
  have hAF := allocF
  subst hz
  have HH := Lib.hid hh
  have HL := Lib.hid hl
  have HM := Lib.hid hm
  obtain ⟨aS, cS, vs, aE, cE, hg, ho, hr, he⟩ := hm.is
  have hgl := (Array.getElem?_eq_some_iff.1 hg).1
  have HG := Lib.hid hg
  obtain ⟨S, hS⟩ : ∃ S, S = 2 * C := ⟨_, rfl⟩
  have hSC : IntKind.i64.wrap ((C : Int) * 2) = (S : Int) := by rw [show (C : Int) * 2 = (S : Int) by omega]; exact IntWalk.i64_in _ (by omega)
  have hcm := hc
  unfold maxLen at hcm
  have HBAD := Lib.hid (fun (hx : ¬ nw * S ≤ N) W => rows_bad a N c 0 (nw : Nat) (S : Nat) W (by omega) (by omega) (by
      rintro ⟨_, _, _, _, hy | hy⟩
      · omega
      · simp only [Int.toNat_natCast] at hy
        exact hx (by have := (Nat.le_div_iff_mul_le (show 0 < S by omega)).1 hy; simpa using this)) hn hc)
  have HOK := Lib.hid (fun (P : Nat) (hP : nw * S = P) (hx : P ≤ N) W => rows_z a N c 0 nw S P 0 (nw : Nat) (S : Nat) rfl rfl rfl W hP (by omega) (.inr ((Nat.le_div_iff_mul_le (show 0 < S by omega)).2 (by omega))) (by omega) (by omega) hn hc)
  have HSS := Lib.hid hS
  clear hh hl hm hg ho hr he hS
  have c0 := cell_of_heap HG.out 0
  have c2 := cell_of_heap HG.out 2
  simp only [machC, List.getElem?_toArray, List.getElem?_cons_succ, List.getElem?_cons_zero] at c0 c2
  have hgne : ¬ g = w.heap.size := by omega
  go_enter Try.func153, Try.ntmps153
  by_cases hfit : nw * S ≤ N
  case neg =>
    have HB1 := Lib.hid (HBAD.out hfit)
    have HNO := Lib.hid (show ¬ nw * (2 * C) ≤ N from by rw [← HSS.out]; exact hfit)
    clear hfit
    go_wp2_with (first | (go_at_call 142; (with_reducible refine (HB1.out _).mono ?_); rintro e w1 ⟨rfl, hb1⟩; have h1c := bc hb1; have h1f := bf hb1; have h1z := hb1.size; try simp only [World.size_alloc, World.size_drew] at h1z))
    exact ⟨rfl, .inr ⟨HNO.out, rfl, blw⟩⟩
  obtain ⟨P, hP⟩ : ∃ P, P = nw * S := ⟨_, rfl⟩
  have HRW := HOK.out P hP.symm (by rw [hP]; exact hfit)
  rw [adv_zero, Nat.sub_zero] at HRW
  have HRW := Lib.hid HRW
  have HPN := Lib.hid (show P ≤ N from by rw [hP]; exact hfit)
  have HPP := Lib.hid hP
  have HCM := Lib.hid hcm
  clear HBAD HOK hfit hP hcm
  go_wp2_with (first | (go_at_call 142; (with_reducible refine (HRW.out _).mono ?_); rintro e w1 ⟨rfl, hb1⟩; have h1c := bc hb1; have h1f := bf hb1; have h1z := hb1.size; try simp only [World.size_alloc, World.size_drew] at h1z))
  obtain ⟨W, hW⟩ : ∃ W, W = w1.alloc (Obj.cells #[.slice a P c] 93) := ⟨_, rfl⟩
  have hbW : Below w.heap.size w W := by rw [hW]; exact blw
  have h8 : W.heap[w1.heap.size]? = some (.cells #[.slice a P c] 93 (0, 0)) := by rw [hW]; exact heap_new _ _ _
  have c2W := (hbW.cell (p := ⟨g, 2, none⟩) hgl).trans c2
  rw [← hW]
  have HW := Lib.hid hbW
  have HKW := Lib.hid (KeepC.of (own := ownM) hbW hB)
  have H8 := Lib.hid h8
  have hgW : g < W.heap.size := Nat.lt_of_lt_of_le hgl hbW.size
  clear hW hbW h8 h1c h1f hb1 c0 c2 HRW hSC
  generalize w1.heap.size = g8 at *
  go_wp2_with fail
  go_loopw [6, 9] (ASRel B g C lk (ent16 sb) eb k s n nw g8 (.slice a P c) W) (fun _ i _ => nw - (Go.RowKit.intOf i).toNat)
  case atStart => exact ⟨s, Nat.le_refl _, hs, rfl, by rw [Nat.sub_self, Nat.zero_mul]; rfl, H8.out, HM.out.below HW.out, KeepC.refl _ _ _⟩
  case round =>
    obtain ⟨j, hj1, hj2, rfl, rfl, h8, hm, hk⟩ := hrel
    have HMR := Lib.hid hm
    have HKR := Lib.hid hk
    have hzr : W.heap.size ≤ wr.heap.size := hk.size
    obtain ⟨aT, cT, vt, aF, cF, hg, _, _, _⟩ := hm.is
    have c0 := cell_of_heap hg 0
    simp only [machC, List.getElem?_toArray, List.getElem?_cons_succ, List.getElem?_cons_zero] at c0
    have q8 := cell_of_heap h8 0
    simp only [List.getElem?_toArray, List.getElem?_cons_zero] at q8
    have hgr : g < wr.heap.size := by omega
    have hg8r := cell_lt q8
    simp only at hg8r
    have H8R := Lib.hid h8
    have hne8 : g8 ≠ g := by
      rintro rfl
      rw [h8] at hg
      cases hg
    clear hm hk hg h8
    have hent : needF (ent16 sb) (s * C) ((j - s) * C) ≤ 65536 := needF_le fun i => by have := ent16_lt sb i; omega
    by_cases hlt : j < nw
    · obtain ⟨q, hq⟩ : ∃ q, q = j * S := ⟨_, rfl⟩
      have hqP : q + S ≤ P := by rw [hq, HPP.out, ← Nat.succ_mul]; exact Nat.mul_le_mul_right _ (by omega)
      have HQ := Lib.hid hq
      have hPN := HPN.out
      have hcm := HCM.out
      have HQ1 := Lib.hid (show IntKind.i64.wrap ((j : Int) * (S : Int)) = (q : Int) by rw [← Int.natCast_mul, ← hq]; exact IntWalk.i64_in _ (by omega))
      have HC := Lib.hid (fun W => cut_z a P c q S (q : Int) (S : Int) rfl rfl W hqP (by omega) hc)
      clear hq hcm
      have hq1 := HQ1.out
      have hq2 : wrap64 ((j : Int) * (S : Int)) = (q : Int) := by rw [← IntWalk.i64_left]; exact hq1
      generalize hE0 : needF (ent16 sb) (s * C) ((j - s) * C) = E0 at *
      go_wp2_with (first | (go_at_call 134; (with_reducible refine (HC.out _).mono ?_); rintro e w2 ⟨rfl, hb2⟩; have h2c := bc hb2; have h2f := bf hb2; have h2z := hb2.size; try simp only [World.size_alloc, World.size_drew] at h2z) | (at_make; refine wpMake _ rfl _ _ 53 rfl wr.heap.size 157 (.int .u16 0) 1 2 Try.underlying53 info_u16m C rfl rfl (by omega) (by unfold maxLen; omega) (by first | omega | (simp; omega)) ?_; intro w4 hown hb4; have hz4 := hb4.size; (try simp only [World.size_alloc] at hz4); (try simp only [World.size_alloc] at hown); have HO := Lib.hid hown; have HB4 := Lib.hid hb4; have h4c := bc hb4; have h4f := bf hb4; clear hown hb4))
      have hz2 := h2z
      obtain ⟨gm, hgm⟩ : ∃ gm, gm = w2.heap.size + 1 := ⟨_, rfl⟩
      obtain ⟨g10, hg10⟩ : ∃ g10, g10 = w2.heap.size := ⟨_, rfl⟩
      have hb4 : Below wr.heap.size wr w4 := by have := HB4.out; exact blw
      have hh10 : w4.heap[g10]? = some (.cells #[.slice (adv a c q) S (c - q)] 93 (0, 0)) := (HB4.out.block g10 (by rw [World.size_alloc]; omega)).trans (by rw [hg10]; exact heap_new _ _ _)
      have hown := HO.out
      rw [← hgm] at hown ⊢
      rw [← hg10]
      have HO5 := Lib.hid (owns_eq hown ((made_u16 C).trans (part16_zero (ent16 sb) C j).symm))
      have HB5 := Lib.hid hb4
      have H10 := Lib.hid hh10
      have hgm0 := HO5.out.lt _ rfl
      have hgm1 : wr.heap.size ≤ gm ∧ gm < w4.heap.size := by omega
      have hgg : g10 < gm := by omega
      have h10w : wr.heap.size ≤ g10 := by omega
      have hgr4 : g < w4.heap.size := by omega
      have hg84 : g8 < w4.heap.size := by omega
      have hz5 : wr.heap.size ≤ w4.heap.size := by omega
      clear HB4 HO hb2 h2c h2f hb4 hh10 hown h4c h4f hgm hg10 hz4 hz2 h2z q8 hgm0 hq1 hq2 hPN
      go_loopw [6, 48] (ASIn (ent16 sb) C s j gm g10 (.slice (adv a c q) S (c - q)) wr) (fun _ i _ => C - (Go.RowKit.intOf i).toNat)
      case atStart => exact ⟨0, Nat.zero_le _, rfl, by rw [Nat.add_zero, hE0], HO5.out, H10.out, HB5.out⟩
      case round =>
        obtain ⟨x, hx, rfl, rfl, hov, h10, hbv⟩ := hrel
        rename World => wv
        have HOV := Lib.hid hov
        have HBV := Lib.hid hbv
        have q10 := cell_of_heap h10 0
        simp only [List.getElem?_toArray, List.getElem?_cons_zero] at q10
        have H10V := Lib.hid h10
        have hgv : g < wv.heap.size := by have := hbv.size; omega
        have hl10 := cell_lt q10
        simp only at hl10
        have hgmv := (HOV.out.lt _ rfl).2
        clear hov hbv h10
        by_cases hltx : x < C
        · have hS2 := HSS.out
          have hbS := ((HH.out wv (HW.out.mono hB |>.trans (HKR.out.below.trans (HBV.out.mono (by omega))))).adv c q (by rw [bytesV_length, HL.out]; exact hn)).take S
          rw [bytesV_drop, bytesV_take] at hbS
          have HU := Lib.hid (u16_z (adv a c q) S (c - q) (2 * x) ((x : Int) * 2) (by omega) ((sb.drop q).take S) wv hbS (by rw [List.length_take, List.length_drop, HL.out]; have := HPN.out; omega) (by omega) (by have := HPN.out; omega) (Nat.le_trans (Nat.sub_le _ _) hc))
          have hnum : num ((sb.drop q).take S) (2 * x) 2 = ent16 sb (j * C + x) := by
            rw [num_take _ _ _ (by omega), num_drop, ent16]
            congr 1
            rw [HQ.out, hS2, Nat.mul_add]
            have : j * (2 * C) = 2 * (j * C) := by rw [Nat.mul_left_comm]
            omega
          rw [hnum] at HU
          have hev := ent16_lt sb (j * C + x)
          have HSET := Lib.hid (part16_set (ent16 sb) C j x hltx)
          have HNF := Lib.hid (show needF (ent16 sb) (s * C) ((j - s) * C + (x + 1)) = max (needF (ent16 sb) (s * C) ((j - s) * C + x)) (ent16 sb (j * C + x) + 1) from by
            rw [← Nat.add_assoc, needF_succ, ← Nat.add_assoc, ← Nat.add_mul, show s + (j - s) = j by omega])
          have hent2 : needF (ent16 sb) (s * C) ((j - s) * C + x) ≤ 65536 := needF_le fun i => by have := ent16_lt sb i; omega
          generalize ent16 sb (j * C + x) = ev at *
          generalize needF (ent16 sb) (s * C) ((j - s) * C + x) = E1 at *
          have hF := fun i => World.ownsRow.frozenAt HOV.out i
          obtain ⟨x0, hx0⟩ := own_cell HOV.out (j := x) (by omega)
          clear hbS hnum hS2
          go_wp2_with (first | (go_at_call 95; (with_reducible refine (HU.out).mono ?_); rintro e w5 ⟨rfl, hb5⟩; have h5c := bc hb5; have h5f := bf hb5; have h5z := hb5.size; try simp only [World.size_alloc, World.size_drew] at h5z))
          go_roundw
          case rel =>
            refine ⟨x + 1, hltx, by go_num, ?_, ?_, ?_, ?_⟩
            · rw [HNF.out]
              congr 1
              split <;> omega
            · have := owns_below HOV.out hb5 (Nat.le_refl _)
              exact owns_eq (this.stored x _).1 HSET.out
            · exact (set_heap_other _ (by omega)).trans ((hb5.block g10 hl10).trans H10V.out)
            · exact (HBV.out.trans (hb5.mono HBV.out.size)).setCell (p := ⟨gm, x, none⟩) hgm1.1 _
          case measure => simp [Go.RowKit.intOf]; omega
        · obtain rfl : C = x := by omega
          have hBwv := HBV.out.size
          have HOX := Lib.hid (owns_eq HOV.out (part16_all (ent16 sb) C j))
          have HB0 := Lib.hid (show B ≤ wv.heap.size by omega)
          have hmv := HMR.out.below HBV.out
          obtain ⟨aU, cU, vu, aH, cH, hgu, hou, hru, heu⟩ := hmv.is
          have c2v := cell_of_heap hgu 2
          simp only [machC, List.getElem?_toArray, List.getElem?_cons_succ, List.getElem?_cons_zero] at c2v
          have HGU := Lib.hid hgu
          have HOU := Lib.hid hou
          have HRU := Lib.hid hru
          have HEU := Lib.hid heu
          have HEE := Lib.hid (show (j - s) * C + C = (j + 1 - s) * C from by rw [← Nat.succ_mul]; congr 1; omega)
          rw [HEE.out]
          generalize hE2 : needF (ent16 sb) (s * C) ((j + 1 - s) * C) = E2 at *
          have HE2 := Lib.hid hE2
          clear hE2 hmv hgu hou hru heu
          go_wp2_with (first | (at_builtin; refine wpAppL rfl _ _ 222 rfl B 53 (.slice none 0 0) 1 24 Try.underlying222 info_su16 rfl (by decide) _ j vu rfl (owns_below HOU.out (balloc (brefl wv) _) (Nat.le_refl _)) ⟨wv.heap.size, 0, none⟩ 1 1 [.slice (some ⟨gm, 0, none⟩) C C] rfl rfl (has_alloc _ _ _) (fun u hu => by simp at hu; subst hu; rfl) (by unfold maxLen; omega) (by omega) (by rw [World.size_alloc]; omega) ?_; intro a6 c6 w6 hown6 t61 t62 t63 hb6 hg6; have hk6 := (KeepC.of (own := ownM) (balloc (brefl wv) (.cells #[.slice (some ⟨gm, 0, none⟩) C C] 53)) HB0.out).trans (KeepC.appM (owns_below HOU.out (balloc (brefl wv) _) (Nat.le_refl _)) (Nat.le_refl _) hb6 hg6 fun k => .inl rfl); have hke := (KeptE.below (balloc (brefl wv) (.cells #[.slice (some ⟨gm, 0, none⟩) C C] 53))).trans (KeptE.grown (owns_below HOU.out (balloc (brefl wv) _) (Nat.le_refl _)) hg6); have hg66 := (hke.2 g _ _ _ HGU.out (by decide)).trans HGU.out; have q66 := cell_of_heap hg66 2; have f66 := fun o => froz_of_heap hg66 o; have HO6 := Lib.hid hown6; have HK6 := Lib.hid hk6; have HE6 := Lib.hid hke; have HG6 := Lib.hid hg66; have hz6 := hg6.size; simp only [machC, List.getElem?_toArray, List.getElem?_cons_succ, List.getElem?_cons_zero] at q66; clear hown6 t63 hb6 hg6 hk6 hke hg66; (try dsimp only [Act.put]); (try simp only [List.setIfInBounds_toArray, List.set_cons_succ, List.set_cons_zero])))
          go_roundw
          case rel =>
            have hset := (KeepC.refl B ownM w6).set (o := 2) hBg HG6.out (.inr (.inr rfl)) (.slice a6 (j + 1) c6)
            have hall := (HK6.out.trans hset)
            have hvl : vu.length = j := by have := HOU.out.1; omega
            refine ⟨j + 1, by omega, hlt, by go_num, by rw [HE2.out], ?_, ⟨a6, c6, vu ++ [.slice (some ⟨gm, 0, none⟩) C C], aH, cH, set_heap_at _ HG6.out, set_owns _ HO6.out (own_neE HO6.out HG6.out (by decide)), ?_, ?_⟩, ?_⟩
            · exact (set_heap_other _ hne8).trans ((HE6.out.2 g8 _ _ _ ((HBV.out.block g8 hg8r).trans H8R.out) (by decide)).trans ((HBV.out.block g8 hg8r).trans H8R.out))
            · exact (HRU.out.keep hall).snoc hvl (hall.owns (owns_mono HOX.out (by omega)) fun k hx => by rcases hx with hx | hx | hx <;> exact absurd hx (by decide))
            · exact set_owns _ (HE6.out.owns HEU.out (by decide)) (own_neE (HE6.out.owns HEU.out (by decide)) HG6.out (by decide))
            · exact HKR.out.trans ((KeepC.of HBV.out (by omega)).trans hall)
          case measure => simp [Go.RowKit.intOf]; omega
    · obtain rfl : nw = j := by omega
      go_wp2_with fail
      go_ret
      exact .inl ⟨by have := HPN.out; rw [HPP.out, HSS.out] at this; exact this, rfl, HMR.out, HKW.out.trans HKR.out⟩

theorem KeepC.kepO {B : Nat} {own : Nat → Nat → Prop} {w w' : World} (h : KeepC B own w w') : KeptO own w w' := ⟨h.size, h.kept⟩
theorem ent16_drop (bs : List UInt8) : ent16 (bs.drop (num bs 8 4)) = entN bs := by
  funext i
  unfold ent16 entN
  rw [num_drop]
theorem next16_drop (bs : List UInt8) (k : Nat) : next16 (bs.drop (num bs 12 4)) k = nextN bs k := by
  funext i
  unfold next16 nextN
  rw [num_drop]
def FillIs (B g C : Nat) (lk : Value) (bs : List UInt8) (k N1 N2 : Nat) (w : World) (e : Ending) (w' : World) : Prop :=
  (∃ S, MLeast bs k S ∧ S * (2 * C) ≤ N1 ∧ needE bs S * (4 + 2 * k) ≤ N2 ∧ e = .returned (.tuple #[]) ∧ MSt B g C lk (entN bs) (bs.drop (num bs 12 4)) k S (needE bs S) w' ∧ KeepC B ownM w w') ∨
  ((∀ S, MLeast bs k S → ¬ (S * (2 * C) ≤ N1 ∧ needE bs S * (4 + 2 * k) ≤ N2)) ∧ e = .panicked thrown ∧ Below B w w')
def FRel (B g C : Nat) (lk : Value) (bs : List UInt8) (k N1 N2 : Nat) (W : World) (i : Value) (wr : World) : Prop :=
  ∃ s n need, MInv bs k s n need ∧ i = .int .i64 (need : Nat) ∧ MSt B g C lk (entN bs) (bs.drop (num bs 12 4)) k s n wr ∧ KeepC B ownM W wr ∧ s * (2 * C) ≤ N1 ∧ n * (4 + 2 * k) ≤ N2
def stLen (g : Nat) (w : World) : Nat := match w.cell? ⟨g, 2, none⟩ with
  | some (.slice _ n _) => n
  | _ => 0
theorem stLen_is {B g C : Nat} {lk : Value} {f : Nat → Nat} {eb : List UInt8} {k s n : Nat} {w : World} (h : MSt B g C lk f eb k s n w) : stLen g w = s := by
  obtain ⟨aS, cS, vs, aE, cE, hg, _⟩ := h.is
  have := cell_of_heap hg 2
  simp only [machC, List.getElem?_toArray, List.getElem?_cons_succ, List.getElem?_cons_zero] at this
  unfold stLen
  rw [this]
set_option maxRecDepth 100000 in
set_option maxHeartbeats 3200000 in
theorem fill_any (B g C : Nat) (lk : Value) (bs : List UInt8) (k : Nat) (a1 a2 : Option Addr) (N1 N2 c1 c2 : Nat) (zk : Int) (hzk : zk = (k : Nat)) (w : World) (hh1 : ∀ W, Below B w W → Has W a1 (bytesV (bs.drop (num bs 8 4)))) (hh2 : ∀ W, Below B w W → Has W a2 (bytesV (bs.drop (num bs 12 4))))
    (hl1 : (bs.drop (num bs 8 4)).length = N1) (hl2 : (bs.drop (num bs 12 4)).length = N2) (hn1 : N1 ≤ c1) (hn2 : N2 ≤ c2) (hc1 : c1 ≤ maxLen) (hc2 : c2 ≤ maxLen)
    (hm : MSt B g C lk (entN bs) (bs.drop (num bs 12 4)) k 0 0 w) (hCb : C = num bs 0 4) (hC : 4 ≤ C) (hC2 : C ≤ 65535) (hk : k ≤ 2) (hB : B ≤ w.heap.size) (hBg : B ≤ g) :
    Calls Try.prog 133 #[.pointer (some ⟨g, 0, none⟩), .agg #[.slice a1 N1 c1], .agg #[.slice a2 N2 c2], .int .i64 zk] w (FillIs B g C lk bs k N1 N2 w) := by
  have hAC := allocC
  have hAF := allocF
  subst hzk
  have HS := Lib.hid (fun (W : World) (s n need : Nat) (hW : Below B w W) (hz : B ≤ W.heap.size) (hm : MSt B g C lk (entN bs) (bs.drop (num bs 12 4)) k s n W) (hs : s ≤ need) (hw : need ≤ 65536) => (by
    have := addStates_any B g C lk (bs.drop (num bs 8 4)) (bs.drop (num bs 12 4)) k s n need a1 N1 c1 (need : Nat) rfl W (fun V hV => hh1 V (hW.trans hV)) hl1 hn1 hc1 (by rw [ent16_drop]; exact hm) hC hC2 hs hw hz hBg
    rwa [ent16_drop] at this : Calls Try.prog 153 #[.pointer (some ⟨g, 0, none⟩), .agg #[.slice a1 N1 c1], .int .i64 (need : Nat)] W (AddSIs B g C lk (entN bs) (bs.drop (num bs 12 4)) k s n need N1 W)))
  have HE := Lib.hid (fun (W : World) (s n e : Nat) (hW : Below B w W) (hz : B ≤ W.heap.size) (hm : MSt B g C lk (entN bs) (bs.drop (num bs 12 4)) k s n W) (hn : n ≤ 65536) (he : e ≤ 65536) => addEntries_any B g C lk (entN bs) (bs.drop (num bs 12 4)) k s n e a2 N2 c2 (e : Nat) (k : Nat) rfl rfl W (fun V hV => hh2 V (hW.trans hV)) hl2 hn2 hc2 hm hk hn he hz hBg)
  have HM := Lib.hid hm
  have HCB := Lib.hid hCb
  have HNX := Lib.hid (next16_drop bs k)
  have hgl : g < w.heap.size := by
    obtain ⟨_, _, _, _, _, hg, _⟩ := hm.is
    exact (Array.getElem?_eq_some_iff.1 hg).1
  clear hh1 hh2 hl1 hl2 hm hCb
  go_enter Try.func133, Try.ntmps133
  go_wp2_with fail
  obtain ⟨W, hW⟩ : ∃ W, W = (w.alloc (Obj.cells #[.slice a1 N1 c1] 93)).alloc (Obj.cells #[.slice a2 N2 c2] 93) := ⟨_, rfl⟩
  have hbW : Below w.heap.size w W := by rw [hW]; exact blw
  have h5 : W.heap[w.heap.size]? = some (.cells #[.slice a1 N1 c1] 93 (0, 0)) := by rw [hW, heap_push, if_neg (by simp), heap_push, if_pos rfl]
  have h6 : W.heap[w.heap.size + 1]? = some (.cells #[.slice a2 N2 c2] 93 (0, 0)) := by rw [hW, heap_push, if_pos (by simp)]
  rw [← hW]
  have HW := Lib.hid hbW
  have HKW := Lib.hid (KeepC.of (own := ownM) hbW hB)
  have H5 := Lib.hid h5
  have H6 := Lib.hid h6
  clear hW hbW h5 h6
  go_loopw [8] (FRel B g C lk bs k N1 N2 W) (fun _ wr => 65537 - stLen g wr)
  case atStart => exact ⟨0, 0, 2, MInv.start bs k, rfl, HM.out.below HW.out, KeepC.refl _ _ _, by omega, by omega⟩
  case round =>
    obtain ⟨s, n, need, hi, rfl, hm, hk', hf1, hf2⟩ := hrel
    have hln := stLen_is hm
    obtain ⟨aS, cS, vs, aE, cE, hg, _⟩ := hm.is
    have c2' := cell_of_heap hg 2
    simp only [machC, List.getElem?_toArray, List.getElem?_cons_succ, List.getElem?_cons_zero] at c2'
    have hzr : W.heap.size ≤ wr.heap.size := hk'.size
    have hg5 : w.heap.size < wr.heap.size := by have := (Array.getElem?_eq_some_iff.1 H5.out).1; omega
    have hown5 : ∀ m, ¬ ownM m 93 := fun m hx => by rcases hx with hx | hx | hx <;> exact absurd hx (by decide)
    have r5 := (hk'.kept _ _ _ _ H5.out (hown5 _)).trans H5.out
    have r6 := (hk'.kept _ _ _ _ H6.out (hown5 _)).trans H6.out
    have q5 := cell_of_heap r5 0
    have q6 := cell_of_heap r6 0
    simp only [List.getElem?_toArray, List.getElem?_cons_zero] at q5 q6
    have HI := Lib.hid hi
    have HMR := Lib.hid hm
    have HKR := Lib.hid hk'
    have HLN := Lib.hid hln
    have HF1 := Lib.hid hf1
    have HF2 := Lib.hid hf2
    have HBR := Lib.hid ((HKW.out.trans hk').below)
    clear hi hm hk' hln hf1 hf2 hg hown5
    by_cases hlt : s < need
    · obtain ⟨hn2, hn6, hnS, hle⟩ := HI.out.need hlt
      have hst := HI.out.step (e := needF (entN bs) (s * C) ((need - s) * C)) hlt (by rw [HCB.out])
      have hE6 : needF (entN bs) (s * C) ((need - s) * C) ≤ 65536 := needF_le fun i => by have := num2_lt bs (num bs 8 4 + 2 * i); unfold entN; omega
      have hn66 : n ≤ 65536 := by rw [HI.out.ents]; exact needE_le bs s
      have HS1 := Lib.hid (HS.out wr.drew s n need (HBR.out.trans ((bdrew1 (brefl wr)).mono (by omega))) (by simp; omega) (HMR.out.below (bdrew1 (brefl wr))) (by omega) hn6)
      have HE1 := Lib.hid (fun V (hk5 : KeepC B ownM wr.drew V) (hm5 : MSt B g C lk (entN bs) (bs.drop (num bs 12 4)) k need n V) => HE.out V need n (needF (entN bs) (s * C) ((need - s) * C)) (HBR.out.trans (((bdrew1 (brefl wr)).mono (by omega)).trans hk5.below)) (by have := hk5.size; simp at this; omega) hm5 hn66 hE6)
      have HST := Lib.hid hst
      have HLE := Lib.hid hle
      generalize hEE : needF (entN bs) (s * C) ((need - s) * C) = E at *
      have HEE := Lib.hid hEE
      clear hst hle hEE hnS
      by_cases hfit : need * (2 * C) ≤ N1
      case neg =>
        have HS2 := Lib.hid (HS1.out.mono (R' := fun e w' => e = .panicked thrown ∧ Below wr.drew.heap.size wr.drew w') (by rintro e w' (⟨h0, _⟩ | ⟨_, h1, h2⟩); exact absurd h0 hfit; exact ⟨h1, h2⟩))
        have HNO := Lib.hid (show ∀ S, MLeast bs k S → ¬ (S * (2 * C) ≤ N1 ∧ needE bs S * (4 + 2 * k) ≤ N2) from fun S hS hx => hfit (Nat.le_trans (Nat.mul_le_mul_right _ (HLE.out S hS.closed)) hx.1))
        clear hfit HS1 HE1
        go_wp2_with fail
        refine wp_region_tree (.step 0 (.step 1 (.step 2 (.step 3 (.step 4 (.step 6 (.step 5 (.step 7 (.step 8 .nil))))))))) (by kernel_rfl) (by kernel_rfl) (by kernel_rfl) (by kernel_rfl) (by intro _ _ d_ _ _ h_; cases d_ <;> first | exact h_ | (dsimp +zetaDelta only at h_ ⊢; exact h_)) (fun w' => ∃ p : KepP (ownM) wr, w' = p.val) (kepP_start _ _) ?_
        have hK0_ := fun (p : KepP (ownM) wr) (o : Nat) => p.is.cell r5 (by first | (intro h_; exact absurd h_.1 (by decide)) | (intro h_; exact h_.2 rfl) | (intro h_; rcases h_ with h_ | h_ | h_ <;> exact absurd h_ (by decide)) | (intro h_; rcases h_ with h_ | h_ <;> exact absurd h_ (by decide))) o
        have hK1_ := fun (p : KepP (ownM) wr) (o : Nat) => p.is.cell r6 (by first | (intro h_; exact absurd h_.1 (by decide)) | (intro h_; exact h_.2 rfl) | (intro h_; rcases h_ with h_ | h_ | h_ <;> exact absurd h_ (by decide)) | (intro h_; rcases h_ with h_ | h_ <;> exact absurd h_ (by decide))) o
        (refine tree_quiet gtA (by rfl) (by rfl) (fun K_ hK_ => ?_); go_big_quiet_op; refine hK_ _ ?_; clear hK_ K_)
        (refine tree_quiet gtA (by rfl) (by rfl) (fun K_ hK_ => ?_); go_big_quiet_op; refine hK_ _ ?_; clear hK_ K_)
        (refine tree_quiet gtA (by rfl) (by rfl) (fun K_ hK_ => ?_); go_big_quiet_op; refine hK_ _ ?_; clear hK_ K_)
        (refine tree_quiet gtA (by rfl) (by rfl) (fun K_ hK_ => ?_); go_big_quiet_op; refine hK_ _ ?_; clear hK_ K_)
        (refine tree_quiet gtA (by rfl) (by rfl) (fun K_ hK_ => ?_); go_big_quiet_op; refine hK_ _ ?_; clear hK_ K_)
        (refine tree_quiet gtA (by rfl) (by rfl) (fun K_ hK_ => ?_); go_big_quiet_op; refine hK_ _ ?_; clear hK_ K_)
        (refine tree_run gtA (by rfl) (by rfl) (fun K_ hK_ => ?_); have HK_ := Lib.hid hK_; clear hK_; go_wp2_with ((go_at_call 153; (with_reducible refine HS2.out.mono ?_); rintro e w5 ⟨rfl, hb5⟩)); exact ⟨rfl, .inr ⟨HNO.out, rfl, HBR.out.trans (((bdrew1 (brefl wr)).trans (hb5.mono (by simp))).mono (by omega))⟩⟩)
      have HS2 := Lib.hid (HS1.out.mono (R' := fun e w' => e = .returned (.int .i64 (E : Nat)) ∧ MSt B g C lk (entN bs) (bs.drop (num bs 12 4)) k need n w' ∧ KeepC B ownM wr.drew w') (by rintro e w' (⟨_, h1, h2, h3⟩ | ⟨h0, _⟩); exact ⟨by rw [h1, HEE.out], h2, h3⟩; exact absurd hfit h0))
      have HFT := Lib.hid hfit
      by_cases hfit2 : E * (4 + 2 * k) ≤ N2
      case neg =>
        have HE2 := Lib.hid (fun V hk5 hm5 => (HE1.out V hk5 hm5).mono (R' := fun e w' => e = .panicked thrown ∧ Below V.heap.size V w') (by rintro e w' (⟨h0, _⟩ | ⟨_, h1, h2⟩); exact absurd h0 hfit2; exact ⟨h1, h2⟩))
        have HNO := Lib.hid (show ∀ S, MLeast bs k S → ¬ (S * (2 * C) ≤ N1 ∧ needE bs S * (4 + 2 * k) ≤ N2) from fun S hS hx => hfit2 (Nat.le_trans (Nat.mul_le_mul_right _ (by have h1 := HST.out.2; have h2 := needE_mono bs (HLE.out S hS.closed); omega)) hx.2))
        clear hfit2 hfit HS1 HE1
        go_wp2_with fail
        refine wp_region_tree (.step 0 (.step 1 (.step 2 (.step 3 (.step 4 (.step 6 (.step 5 (.step 7 (.step 8 .nil))))))))) (by kernel_rfl) (by kernel_rfl) (by kernel_rfl) (by kernel_rfl) (by intro _ _ d_ _ _ h_; cases d_ <;> first | exact h_ | (dsimp +zetaDelta only at h_ ⊢; exact h_)) (fun w' => ∃ p : KepP (ownM) wr, w' = p.val) (kepP_start _ _) ?_
        have hK0_ := fun (p : KepP (ownM) wr) (o : Nat) => p.is.cell r5 (by first | (intro h_; exact absurd h_.1 (by decide)) | (intro h_; exact h_.2 rfl) | (intro h_; rcases h_ with h_ | h_ | h_ <;> exact absurd h_ (by decide)) | (intro h_; rcases h_ with h_ | h_ <;> exact absurd h_ (by decide))) o
        have hK1_ := fun (p : KepP (ownM) wr) (o : Nat) => p.is.cell r6 (by first | (intro h_; exact absurd h_.1 (by decide)) | (intro h_; exact h_.2 rfl) | (intro h_; rcases h_ with h_ | h_ | h_ <;> exact absurd h_ (by decide)) | (intro h_; rcases h_ with h_ | h_ <;> exact absurd h_ (by decide))) o
        (refine tree_quiet gtA (by rfl) (by rfl) (fun K_ hK_ => ?_); go_big_quiet_op; refine hK_ _ ?_; clear hK_ K_)
        (refine tree_quiet gtA (by rfl) (by rfl) (fun K_ hK_ => ?_); go_big_quiet_op; refine hK_ _ ?_; clear hK_ K_)
        (refine tree_quiet gtA (by rfl) (by rfl) (fun K_ hK_ => ?_); go_big_quiet_op; refine hK_ _ ?_; clear hK_ K_)
        (refine tree_quiet gtA (by rfl) (by rfl) (fun K_ hK_ => ?_); go_big_quiet_op; refine hK_ _ ?_; clear hK_ K_)
        (refine tree_quiet gtA (by rfl) (by rfl) (fun K_ hK_ => ?_); go_big_quiet_op; refine hK_ _ ?_; clear hK_ K_)
        (refine tree_quiet gtA (by rfl) (by rfl) (fun K_ hK_ => ?_); go_big_quiet_op; refine hK_ _ ?_; clear hK_ K_)
        (refine tree_run gtA (by rfl) (by rfl) (fun K_ hK_ => ?_); have HK_ := Lib.hid hK_; clear hK_; go_wp2_with (first | (go_at_call 153; (with_reducible refine HS2.out.mono ?_); rintro e w5 ⟨rfl, hm5, hk5⟩; have hko5 := (KeptO.below (own := ownM) (bdrew1 (brefl wr))).trans hk5.kepO) | (go_at_call 152; (with_reducible refine (HE2.out _ hk5 hm5).mono ?_); rintro e w6 ⟨rfl, hb6⟩)); refine HK_.out _ _ (kepP_ofA) ?_; clear HK_)
        (refine tree_run gtA (by rfl) (by rfl) (fun K_ hK_ => ?_); have HK_ := Lib.hid hK_; clear hK_; go_wp2_with (first | (go_at_call 153; (with_reducible refine HS2.out.mono ?_); rintro e w5 ⟨rfl, hm5, hk5⟩; have hko5 := (KeptO.below (own := ownM) (bdrew1 (brefl wr))).trans hk5.kepO) | (go_at_call 152; (with_reducible refine (HE2.out _ hk5 hm5).mono ?_); rintro e w6 ⟨rfl, hb6⟩)); exact ⟨rfl, .inr ⟨HNO.out, rfl, (HBR.out.trans ((bdrew1 (brefl wr)).mono (by omega))).trans (hk5.below.trans (hb6.mono (by have := hk5.size; simp at this; omega)))⟩⟩)
      have HE2 := Lib.hid (fun V hk5 hm5 => (HE1.out V hk5 hm5).mono (R' := fun e w' => e = .returned (.int .i64 (needF (nextN bs k) n (E - n) : Nat)) ∧ MSt B g C lk (entN bs) (bs.drop (num bs 12 4)) k need (max n E) w' ∧ KeepC B ownM V w') (by rintro e w' (⟨_, h1, h2, h3⟩ | ⟨h0, _⟩); exact ⟨by rw [h1, HNX.out], h2, h3⟩; exact absurd hfit2 h0))
      have HFT2 := Lib.hid hfit2
      generalize hE2 : needF (nextN bs k) n (E - n) = E2 at *
      clear hfit2 hfit HS1 HE1 hE2
      go_wp2_with fail
      refine wp_region_tree (.step 0 (.step 1 (.step 2 (.step 3 (.step 4 (.step 6 (.step 5 (.step 7 (.step 8 .nil))))))))) (by kernel_rfl) (by kernel_rfl) (by kernel_rfl) (by kernel_rfl) (by intro _ _ d_ _ _ h_; cases d_ <;> first | exact h_ | (dsimp +zetaDelta only at h_ ⊢; exact h_)) (fun w' => ∃ p : KepP (ownM) wr, w' = p.val) (kepP_start _ _) ?_
      have hK0_ := fun (p : KepP (ownM) wr) (o : Nat) => p.is.cell r5 (by first | (intro h_; exact absurd h_.1 (by decide)) | (intro h_; exact h_.2 rfl) | (intro h_; rcases h_ with h_ | h_ | h_ <;> exact absurd h_ (by decide)) | (intro h_; rcases h_ with h_ | h_ <;> exact absurd h_ (by decide))) o
      have hK1_ := fun (p : KepP (ownM) wr) (o : Nat) => p.is.cell r6 (by first | (intro h_; exact absurd h_.1 (by decide)) | (intro h_; exact h_.2 rfl) | (intro h_; rcases h_ with h_ | h_ | h_ <;> exact absurd h_ (by decide)) | (intro h_; rcases h_ with h_ | h_ <;> exact absurd h_ (by decide))) o
      (refine tree_quiet gtA (by rfl) (by rfl) (fun K_ hK_ => ?_); go_big_quiet_op; refine hK_ _ ?_; clear hK_ K_)
      (refine tree_quiet gtA (by rfl) (by rfl) (fun K_ hK_ => ?_); go_big_quiet_op; refine hK_ _ ?_; clear hK_ K_)
      (refine tree_quiet gtA (by rfl) (by rfl) (fun K_ hK_ => ?_); go_big_quiet_op; refine hK_ _ ?_; clear hK_ K_)
      (refine tree_quiet gtA (by rfl) (by rfl) (fun K_ hK_ => ?_); go_big_quiet_op; refine hK_ _ ?_; clear hK_ K_)
      (refine tree_quiet gtA (by rfl) (by rfl) (fun K_ hK_ => ?_); go_big_quiet_op; refine hK_ _ ?_; clear hK_ K_)
      (refine tree_quiet gtA (by rfl) (by rfl) (fun K_ hK_ => ?_); go_big_quiet_op; refine hK_ _ ?_; clear hK_ K_)
      (refine tree_run gtA (by rfl) (by rfl) (fun K_ hK_ => ?_); have HK_ := Lib.hid hK_; clear hK_; go_wp2_with (first | (go_at_call 153; (with_reducible refine HS2.out.mono ?_); rintro e w5 ⟨rfl, hm5, hk5⟩; have hko5 := (KeptO.below (own := ownM) (bdrew1 (brefl wr))).trans hk5.kepO) | (go_at_call 152; (with_reducible refine (HE2.out _ hk5 hm5).mono ?_); rintro e w6 ⟨rfl, hm6, hk6⟩; have hko6 := hko5.trans hk6.kepO)); refine HK_.out _ _ (kepP_ofA) ?_; clear HK_)
      (refine tree_run gtA (by rfl) (by rfl) (fun K_ hK_ => ?_); have HK_ := Lib.hid hK_; clear hK_; go_wp2_with (first | (go_at_call 153; (with_reducible refine HS2.out.mono ?_); rintro e w5 ⟨rfl, hm5, hk5⟩; have hko5 := (KeptO.below (own := ownM) (bdrew1 (brefl wr))).trans hk5.kepO) | (go_at_call 152; (with_reducible refine (HE2.out _ hk5 hm5).mono ?_); rintro e w6 ⟨rfl, hm6, hk6⟩; have hko6 := hko5.trans hk6.kepO)); refine HK_.out _ _ (kepP_ofA) ?_; clear HK_)
      (refine tree_quiet gtA (by rfl) (by rfl) (fun K_ hK_ => ?_); go_big_quiet_op; refine hK_ _ ?_; clear hK_ K_)
      refine tree_nil ?_
      clear hK0_ hK1_
      go_wp2_with fail
      go_roundw
      case rel =>
        refine ⟨need, max n E, E2, ?_, rfl, hm6, HKR.out.trans ((KeepC.of (bdrew1 (brefl wr)) (by omega)).trans (hk5.trans hk6)), HFT.out, ?_⟩
        · exact HST.out.1
        · rcases Nat.le_total n E with h0 | h0
          · rw [Nat.max_eq_right h0]; exact HFT2.out
          · rw [Nat.max_eq_left h0]; exact HF2.out
      case measure =>
        rw [stLen_is hm6, HLN.out]
        omega
    · have hml := HI.out.ends (by omega)
      go_wp2_with fail
      refine bodyPost_end (v := .tuple #[]) (by simp [results, Try.results133, go_sem]; try rfl) rfl ?_
      exact .inl ⟨s, hml, HF1.out, by rw [← HI.out.ents]; exact HF2.out, rfl, by rw [← HI.out.ents]; exact HMR.out, HKW.out.trans HKR.out⟩
end Go.Proofs.Ytaladlaffglkeaa
end
