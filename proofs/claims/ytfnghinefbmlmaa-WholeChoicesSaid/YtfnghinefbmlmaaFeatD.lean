
/- Package feat: the features of a table, and whether it has them. Conditions: as many bytes as the slice says. -/
import Derived.Test.YtfnghinefbmlmaaFeatC
namespace Go.Proofs.Ytfnghinefbmlmaa
open Go.RowKit Go.Lib

theorem own_at {w : World} {base e size n g cap : Nat} {xs : List Value} (h : w.ownsRow base e size (.slice (some ⟨g, 0, none⟩) n cap) n xs) {j : Nat} {u : Value} (hu : xs[j]? = some u) : w.cell? ⟨g, j, none⟩ = some u := by
  obtain ⟨p, hp, hc⟩ := has_of_owns h j u hu
  cases hp
  have e : (⟨g, 0, none⟩ : Addr).add j = ⟨g, j, none⟩ := by simp only [Addr.add]; split <;> simp_all
  rwa [e] at hc
theorem lastF_lt (bs : List UInt8) (j : Nat) (hr : ∀ i, i + 1 < j → fTy bs i < fTy bs (i + 1)) (h : lastF bs j < (fTy bs j : Nat)) : ∀ i, i + 1 < j + 1 → fTy bs i < fTy bs (i + 1) := by
  intro i hi
  rcases Nat.lt_or_ge (i + 1) j with g | g
  · exact hr i g
  · obtain rfl : j = i + 1 := by omega
    unfold lastF at h
    rw [if_neg (by omega), Nat.add_sub_cancel] at h
    omega
theorem lastF_next (bs : List UInt8) (j : Nat) : lastF bs (j + 1) = (fTy bs j : Nat) := by unfold lastF; rw [if_neg (by omega), Nat.add_sub_cancel]
theorem lastF_bd (bs : List UInt8) (j : Nat) : -1 ≤ lastF bs j ∧ lastF bs j ≤ 65535 := by
  unfold lastF
  split
  · omega
  · have := num2_lt bs (12 + 12 * (j - 1)); unfold fTy; omega
theorem not_rise {bs : List UInt8} {j : Nat} (hj : j < num bs 4 2) (h : ¬ lastF bs j < (fTy bs j : Nat)) : ¬ FtOk bs := fun ho => h (by
  unfold lastF
  split
  · omega
  · have := ho.rise (j - 1) (by omega)
    rw [show j - 1 + 1 = j by omega] at this
    omega)
set_option maxRecDepth 100000 in
set_option maxHeartbeats 3200000 in
theorem ftake_any (a : Option Addr) (n c : Nat) (bs : List UInt8) (w : World) (h : Has w a (bytesV bs)) (hl : bs.length = n) (hn : n ≤ c) (hc : c ≤ maxLen) :
    Calls Try.prog 29 #[.agg #[.slice a n c]] w (FTakeIs bs w) := by
  by_cases hgood : 12 ≤ n ∧ num bs 0 4 = 65536 ∧ num bs 4 2 * 12 ≤ n - 12
  case neg => exact ftake_short a n c bs w h hl hn hc hgood
  obtain ⟨h12, hv, hP⟩ := hgood
  have hAC := allocC
  have hAF := allocF
  have hN := num2_lt bs 4
  have HU := Lib.hid (fun W (hW : Below w.heap.size w W) => u32_z a n c 0 0 rfl bs W (h.below hW) hl (by omega) hn hc)
  rw [hv] at HU
  have HU2 := Lib.hid (fun W (hW : Below w.heap.size w W) => u16_z a n c 4 4 rfl bs W (h.below hW) hl (by omega) hn hc)
  obtain ⟨P, hPP⟩ : ∃ P, P = num bs 4 2 * 12 := ⟨_, rfl⟩
  have HR := Lib.hid (fun W => rows_z a n c 12 (num bs 4 2) 12 P 12 ((num bs 4 2 : Nat) : Int) 12 rfl rfl rfl W hPP.symm h12 (.inr (by omega)) (by omega) (by omega) hn hc)
  have HV := Lib.hid hv
  have HH := Lib.hid h
  have HL := Lib.hid hl
  have HP1 := Lib.hid (show ∀ W, Below w.heap.size w W → Has W (adv a c 12) (bytesV ((bs.drop 12).take P)) from fun W hW => by
    have := ((h.below hW).adv c 12 (by rw [bytesV_length, hl]; exact hn)).take P
    rwa [bytesV_drop, bytesV_take] at this)
  have HLP := Lib.hid (show ((bs.drop 12).take P).length = P from by rw [List.length_take, List.length_drop, hl]; omega)
  have hPn : P ≤ c - 12 := by omega
  have hPP12 := hPP
  rw [← hPP] at hP
  have HPN := Lib.hid hPP
  clear hv h hl hPP hPP12
  generalize hNN : num bs 4 2 = N at *
  have HNN := Lib.hid hNN
  clear hNN
  go_enter Try.func29, Try.ntmps29
  go_wp2_with (first | (go_at_call 45; (with_reducible refine (HU.out _ (by exact blw)).mono ?_); rintro e w1 ⟨rfl, hb1⟩; have h1c := bc hb1; have h1f := bf hb1; have h1z := hb1.size; try simp only [World.size_alloc, World.size_drew] at h1z) | (go_at_call 44; refine (need_t _ (by first | rfl | assumption) _).mono ?_; rintro e w_ ⟨rfl, rfl⟩) | (go_at_call 46; (with_reducible refine (HU2.out _ (by exact blw)).mono ?_); rintro e w2 ⟨rfl, hb2⟩; have h2c := bc hb2; have h2f := bf hb2; have h2z := hb2.size; try simp only [World.size_alloc, World.size_drew] at h2z) | (go_at_call 47; (with_reducible refine (HR.out _).mono ?_); rintro e w3 ⟨rfl, hb3⟩; have h3c := bc hb3; have h3f := bf hb3; have h3z := hb3.size; try simp only [World.size_alloc, World.size_drew] at h3z) | (at_make; refine wpMake _ rfl _ _ 94 rfl w.heap.size 71 (.agg #[.slice none 0 0]) 1 24 Try.underlying94 info_view N rfl rfl (by omega) (by unfold maxLen; omega) (by first | omega | (simp; omega)) ?_; intro w4 hown hb4; have hz4 := hb4.size; (try simp only [World.size_alloc] at hz4); (try simp only [World.size_alloc] at hown); have HO := Lib.hid hown; have HB4 := Lib.hid hb4; have h4c := bc hb4; have h4f := bf hb4; clear hown hb4))
  have z1 : w4.heap[w.heap.size]? = some (.cells #[.slice a n c] 71 (0, 0)) := (HB4.out.block _ (by simp; omega)).trans (by rw [heap_push, if_neg (by omega)]; exact (hb3.block _ (by omega)).trans ((hb2.block _ (by omega)).trans (below_new hb1)))
  have z4 : w4.heap[w3.heap.size]? = some (.cells #[.slice (adv a c 12) P (c - 12)] 71 (0, 0)) := below_new HB4.out
  have hb4 : Below w.heap.size w w4 := by have := HB4.out; exact blw
  have HB := Lib.hid hb4
  have Z1 := Lib.hid z1
  have Z4 := Lib.hid z4
  obtain ⟨g4, hg4⟩ : ∃ g, g = w3.heap.size := ⟨_, rfl⟩
  rw [← hg4] at HO Z4 ⊢
  have hg4w : w.heap.size < g4 := by omega
  have hg4V : g4 + 1 ≤ w4.heap.size := by omega
  have hgS := (HO.out.lt _ rfl).2
  have hwV : w.heap.size ≤ w4.heap.size := by omega
  clear hb1 hb2 hb3 hb4 h1c h1f h1z h2c h2f h2z h3c h3f h3z h4c h4f hz4 z1 z4 hg4 HB4 HU HU2 HR
  have HO1 := Lib.hid (owns_eq HO.out ((made_view N).trans (vwP_zero bs a c N).symm))
  clear HO
  generalize hA1 : adv a c 12 = A1 at *
  have HA1 := Lib.hid hA1
  clear hA1
  have hC1 : c - 12 ≤ maxLen := Nat.le_trans (Nat.sub_le _ _) hc
  generalize hC1e : c - 12 = C1 at *
  clear hC1e
  go_loopw [6, 24] (TRel1 w w4 (g4 + 1) N a c bs) (fun _ i _ => N - (intOf i).toNat)
  case atStart => exact ⟨0, Nat.zero_le _, rfl, rfl, HO1.out, fun i hi => by omega, fun i hi => by omega, same_below (brefl _), HB.out⟩
  case round =>
    obtain ⟨j, hj, rfl, rfl, ho, hri, hse, hsm, hb⟩ := hrel
    have HOR := Lib.hid ho
    have HRI := Lib.hid hri
    have HSE := Lib.hid hse
    have HSM := Lib.hid hsm
    have HBR := Lib.hid hb
    have hzr := hsm.size
    have r1 := (hsm.block w.heap.size (by omega) (by simp; omega)).trans Z1.out
    have r4 := (hsm.block g4 (by omega) (by simp)).trans Z4.out
    have R1 := Lib.hid r1
    have R4 := Lib.hid r4
    have q1 := cell_of_heap r1 0
    have q4 := cell_of_heap r4 0
    simp only [List.getElem?_toArray, List.getElem?_cons_zero] at q1 q4
    have l1 := cell_lt q1
    have l4 := cell_lt q4
    simp only at l1 l4
    clear ho hri hse hsm hb r1 r4
    by_cases hlt : j < N
    · obtain ⟨q, hq⟩ : ∃ q, q = j * 12 := ⟨_, rfl⟩
      have hqP : q + 12 ≤ P := by rw [hq, HPN.out]; omega
      have hrb : ∀ W, Below w.heap.size w W → Has W (adv A1 C1 q) (bytesV (rowB bs P j)) := fun W hW => by
        have := ((HP1.out W hW).adv C1 q (by rw [bytesV_length, HLP.out]; exact hPn)).take 12
        rw [bytesV_drop, bytesV_take, hq] at this
        rw [hq]
        exact this
      have hrl : (rowB bs P j).length = 12 := by unfold rowB; rw [List.length_take, List.length_drop, HLP.out, ← hq]; omega
      have HC := Lib.hid (fun W => cut_z A1 P C1 q 12 ((j : Int) * 12) 12 (by omega) rfl W hqP hPn hC1)
      have hCq : 12 ≤ C1 - q := by omega
      have hCm : C1 - q ≤ maxLen := Nat.le_trans (Nat.sub_le _ _) hC1
      have HU0 := Lib.hid (fun W hW => u16_z (adv A1 C1 q) 12 (C1 - q) 0 0 rfl (rowB bs P j) W (hrb W hW) hrl (by omega) hCq hCm)
      have HU2 := Lib.hid (fun W hW => u16_z (adv A1 C1 q) 12 (C1 - q) 2 2 rfl (rowB bs P j) W (hrb W hW) hrl (by omega) hCq hCm)
      have HU4 := Lib.hid (fun W hW => u32_z (adv A1 C1 q) 12 (C1 - q) 4 4 rfl (rowB bs P j) W (hrb W hW) hrl (by omega) hCq hCm)
      rw [rowB_ty bs P j (by omega)] at HU0
      rw [rowB_many bs P j (by omega)] at HU2
      rw [rowB_from bs P j (by omega)] at HU4
      have HLT := Lib.hid (lastF_lt bs j HRI.out)
      have HNR := Lib.hid (fun hx => not_rise (bs := bs) (j := j) (by rw [HNN.out]; exact hlt) hx)
      have HNX := Lib.hid (lastF_next bs j)
      have hlb := lastF_bd bs j
      have hty : fTy bs j ≤ 65535 := num2_lt _ _
      have hmn : fMany bs j ≤ 65535 := num2_lt _ _
      have hfr : fFrom bs j ≤ 4294967295 := num4_lt _ _
      have HSO := Lib.hid (show setsOk bs j ↔ fFrom bs j ≤ n ∧ 4 * fMany bs j ≤ n - fFrom bs j from by unfold setsOk; rw [HL.out])
      have HSET := Lib.hid (vwP_set bs a c N j hlt)
      have HQ := Lib.hid hq
      clear hrb hrl hq
      generalize adv A1 C1 q = A5 at *
      generalize C1 - q = C5 at *
      generalize lastF bs j = lf at *
      generalize fTy bs j = ty at *
      generalize fMany bs j = mn at *
      generalize fFrom bs j = fr at *
      by_cases hla : lf < (ty : Int)
      case neg =>
        have d : decide (lf < (ty : Int)) = false := by simpa using hla
        have HNO := Lib.hid (HNR.out hla)
        clear hla
        go_wp2_with (first | (go_at_call 48; (with_reducible refine (HC.out _).mono ?_); rintro e w5 ⟨rfl, hb5⟩; have h5c := bc hb5; have h5f := bf hb5; have h5z := hb5.size; try simp only [World.size_alloc, World.size_drew] at h5z) | (go_at_call 46; (with_reducible refine (HU0.out _ (HBR.out.trans (Below.mono (w := wr) (by exact blw) HBR.out.size))).mono ?_); rintro e w6 ⟨rfl, hb6⟩; have h6c := bc hb6; have h6f := bf hb6; have h6z := hb6.size; try simp only [World.size_alloc, World.size_drew] at h6z) | (go_at_call 44; refine (need_f _ (by first | rfl | assumption) _).mono ?_; rintro e w_ ⟨rfl, rfl⟩))
        exact ⟨rfl, .inr ⟨HNO.out, rfl⟩, HBR.out.trans (Below.mono (w := wr) (by exact blw) HBR.out.size)⟩
      have d : decide (lf < (ty : Int)) = true := by simpa using hla
      have HRI2 := Lib.hid (HLT.out hla)
      clear hla
      go_wp2_with (first | (go_at_call 48; (with_reducible refine (HC.out _).mono ?_); rintro e w5 ⟨rfl, hb5⟩; have h5c := bc hb5; have h5f := bf hb5; have h5z := hb5.size; try simp only [World.size_alloc, World.size_drew] at h5z) | (go_at_call 46; (with_reducible refine (HU0.out _ (HBR.out.trans (Below.mono (w := wr) (by exact blw) HBR.out.size))).mono ?_); rintro e w6 ⟨rfl, hb6⟩; have h6c := bc hb6; have h6f := bf hb6; have h6z := hb6.size; try simp only [World.size_alloc, World.size_drew] at h6z) | (go_at_call 44; refine (need_t _ (by first | rfl | assumption) _).mono ?_; rintro e w_ ⟨rfl, rfl⟩))
      have hb6' : Below wr.heap.size wr w6 := blw
      have HB6 := Lib.hid (HBR.out.trans (hb6'.mono HBR.out.size))
      have HO6 := Lib.hid (owns_below HOR.out hb6' (Nat.le_refl _))
      have HS6 := Lib.hid (same_then HSM.out hb6')
      have x1 : w6.cell? ⟨w.heap.size, 0, none⟩ = some (.slice a n c) := (hb6'.cell (p := ⟨w.heap.size, 0, none⟩) l1).trans q1
      have x8 : w6.cell? ⟨w5.heap.size, 0, none⟩ = some (.slice A5 12 C5) := by
        have := cell_of_heap (below_new hb6) 0
        simpa using this
      have m1 := cell_lt x1
      have m8 := cell_lt x8
      simp only at m1 m8
      have hgS6 := (HO6.out.lt _ rfl).2
      clear hb5 hb6 hb6' h5c h5f h5z h6c h6f h6z q1 q4 l1 l4
      by_cases hso : setsOk bs j
      case neg =>
        have HNO := Lib.hid (show ¬ FtOk bs from fun hx => hso (hx.sets j (by rw [HNN.out]; exact hlt)))
        have HRW := Lib.hid (fun W => rows_zb a n c fr mn 4 (fr : Int) (mn : Int) 4 rfl rfl rfl W hmn (by omega) (by omega) (fun hx => hso (HSO.out.2 ⟨hx.1, by omega⟩)) hn hc)
        clear hso
        refine wp_region_tree (.step 0 (.step 1 (.step 2 (.step 3 (.step 5 (.step 4 (.step 6 (.step 7 (.step 8 (.step 9 .nil)))))))))) (by kernel_rfl) (by kernel_rfl) (by kernel_rfl) (by kernel_rfl) (by intro _ _ d_ _ _ h_; cases d_ <;> first | exact h_ | (dsimp +zetaDelta only at h_ ⊢; exact h_)) (fun w' => ∃ p : BelW w6.heap.size w6, w' = p.val) (bel_start _ _) ?_
        have hG_ := @belC w6.heap.size w6
        (refine tree_quiet (by simp only [List.getElem?_toArray, List.getElem?_cons_succ, List.getElem?_cons_zero]; rfl) (by rfl) (by rfl) (fun K_ hK_ => ?_); go_big_quiet_op; refine hK_ _ ?_; clear hK_ K_)
        (refine tree_quiet (by simp only [List.getElem?_toArray, List.getElem?_cons_succ, List.getElem?_cons_zero]; rfl) (by rfl) (by rfl) (fun K_ hK_ => ?_); go_big_quiet_op; refine hK_ _ ?_; clear hK_ K_)
        (refine tree_quiet (by simp only [List.getElem?_toArray, List.getElem?_cons_succ, List.getElem?_cons_zero]; rfl) (by rfl) (by rfl) (fun K_ hK_ => ?_); go_big_quiet_op; refine hK_ _ ?_; clear hK_ K_)
        (refine tree_quiet (by simp only [List.getElem?_toArray, List.getElem?_cons_succ, List.getElem?_cons_zero]; rfl) (by rfl) (by rfl) (fun K_ hK_ => ?_); go_big_quiet_op; refine hK_ _ ?_; clear hK_ K_)
        (refine tree_quiet (by simp only [List.getElem?_toArray, List.getElem?_cons_succ, List.getElem?_cons_zero]; rfl) (by rfl) (by rfl) (fun K_ hK_ => ?_); go_big_quiet_op; refine hK_ _ ?_; clear hK_ K_)
        (refine tree_run (by simp only [List.getElem?_toArray, List.getElem?_cons_succ, List.getElem?_cons_zero]; rfl) (by rfl) (by rfl) (fun K_ hK_ => ?_); have HK_ := Lib.hid hK_; clear hK_; go_wp2_with (first | (go_at_call 45; (with_reducible refine (HU4.out _ (HB6.out.trans (Below.mono (w := w6) (by exact blw) HB6.out.size))).mono ?_); rintro e wa ⟨rfl, hba⟩; have hac := bc hba; have haf := bf hba; have haz := hba.size; try simp only [World.size_alloc, World.size_drew] at haz) | (go_at_call 46; (with_reducible refine (HU2.out _ (HB6.out.trans (Below.mono (w := w6) (by exact blw) HB6.out.size))).mono ?_); rintro e wb ⟨rfl, hbb⟩; have hbc := bc hbb; have hbf := bf hbb; have hbz := hbb.size; try simp only [World.size_alloc, World.size_drew] at hbz) | (go_at_call 47; (with_reducible refine (HRW.out _).mono ?_); rintro e wc ⟨rfl, hbc⟩; have hcc := bc hbc; have hcf := bf hbc; have hcz := hbc.size; try simp only [World.size_alloc, World.size_drew] at hcz)); refine HK_.out _ _ (bel_ofA) ?_; clear HK_)
        (refine tree_run (by simp only [List.getElem?_toArray, List.getElem?_cons_succ, List.getElem?_cons_zero]; rfl) (by rfl) (by rfl) (fun K_ hK_ => ?_); have HK_ := Lib.hid hK_; clear hK_; go_wp2_with (first | (go_at_call 45; (with_reducible refine (HU4.out _ (HB6.out.trans (Below.mono (w := w6) (by exact blw) HB6.out.size))).mono ?_); rintro e wa ⟨rfl, hba⟩; have hac := bc hba; have haf := bf hba; have haz := hba.size; try simp only [World.size_alloc, World.size_drew] at haz) | (go_at_call 46; (with_reducible refine (HU2.out _ (HB6.out.trans (Below.mono (w := w6) (by exact blw) HB6.out.size))).mono ?_); rintro e wb ⟨rfl, hbb⟩; have hbc := bc hbb; have hbf := bf hbb; have hbz := hbb.size; try simp only [World.size_alloc, World.size_drew] at hbz) | (go_at_call 47; (with_reducible refine (HRW.out _).mono ?_); rintro e wc ⟨rfl, hbc⟩; have hcc := bc hbc; have hcf := bf hbc; have hcz := hbc.size; try simp only [World.size_alloc, World.size_drew] at hcz)); refine HK_.out _ _ (bel_ofA) ?_; clear HK_)
        (refine tree_run (by simp only [List.getElem?_toArray, List.getElem?_cons_succ, List.getElem?_cons_zero]; rfl) (by rfl) (by rfl) (fun K_ hK_ => ?_); have HK_ := Lib.hid hK_; clear hK_; go_wp2_with (first | (go_at_call 45; (with_reducible refine (HU4.out _ (HB6.out.trans (Below.mono (w := w6) (by exact blw) HB6.out.size))).mono ?_); rintro e wa ⟨rfl, hba⟩; have hac := bc hba; have haf := bf hba; have haz := hba.size; try simp only [World.size_alloc, World.size_drew] at haz) | (go_at_call 46; (with_reducible refine (HU2.out _ (HB6.out.trans (Below.mono (w := w6) (by exact blw) HB6.out.size))).mono ?_); rintro e wb ⟨rfl, hbb⟩; have hbc := bc hbb; have hbf := bf hbb; have hbz := hbb.size; try simp only [World.size_alloc, World.size_drew] at hbz) | (go_at_call 47; (with_reducible refine (HRW.out _).mono ?_); rintro e wc ⟨rfl, hbc⟩; have hcc := bc hbc; have hcf := bf hbc; have hcz := hbc.size; try simp only [World.size_alloc, World.size_drew] at hcz)); exact ⟨rfl, .inr ⟨HNO.out, rfl⟩, HB6.out.trans (Below.mono (w := w6) (by exact blw) HB6.out.size)⟩)
      have hso' := HSO.out.1 hso
      have HSJ := Lib.hid hso
      have HRW := Lib.hid (fun W => rows_z a n c fr mn 4 (4 * mn) (fr : Int) (mn : Int) 4 rfl rfl rfl W (by omega) hso'.1 (.inr (by omega)) (by omega) (by omega) hn hc)
      clear hso hso'
      obtain ⟨x0, hx0⟩ := own_cell HO6.out (j := j) (by omega)
      have hF := fun i => World.ownsRow.frozenAt HO6.out i
      generalize adv a c fr = A9 at *
      generalize c - fr = C9 at *
      generalize hP9 : 4 * mn = P9 at *
      have HP9 := Lib.hid hP9
      clear hP9
      refine wp_region_last (.step 0 (.step 1 (.step 2 (.step 3 (.step 5 (.step 4 (.step 6 (.step 7 (.step 8 (.step 9 .nil)))))))))) 9 (by kernel_rfl) (by kernel_rfl) (by kernel_rfl) (by kernel_rfl) (by kernel_rfl) (by intro _ _ d_ _ _ h_; cases d_ <;> first | exact h_ | (dsimp +zetaDelta only at h_ ⊢; exact h_)) (fun w' => ∃ p : BelW w6.heap.size w6, w' = p.val) (bel_start _ _) ?_
      have hG_ := @belC w6.heap.size w6
      (refine z_quiet (by simp only [List.getElem?_toArray, List.getElem?_cons_succ, List.getElem?_cons_zero]; rfl) (by rfl) (by rfl) (fun K_ hK_ => ?_); go_big_quiet_op; refine hK_ _ ?_; clear hK_ K_)
      (refine z_quiet (by simp only [List.getElem?_toArray, List.getElem?_cons_succ, List.getElem?_cons_zero]; rfl) (by rfl) (by rfl) (fun K_ hK_ => ?_); go_big_quiet_op; refine hK_ _ ?_; clear hK_ K_)
      (refine z_quiet (by simp only [List.getElem?_toArray, List.getElem?_cons_succ, List.getElem?_cons_zero]; rfl) (by rfl) (by rfl) (fun K_ hK_ => ?_); go_big_quiet_op; refine hK_ _ ?_; clear hK_ K_)
      (refine z_quiet (by simp only [List.getElem?_toArray, List.getElem?_cons_succ, List.getElem?_cons_zero]; rfl) (by rfl) (by rfl) (fun K_ hK_ => ?_); go_big_quiet_op; refine hK_ _ ?_; clear hK_ K_)
      (refine z_quiet (by simp only [List.getElem?_toArray, List.getElem?_cons_succ, List.getElem?_cons_zero]; rfl) (by rfl) (by rfl) (fun K_ hK_ => ?_); go_big_quiet_op; refine hK_ _ ?_; clear hK_ K_)
      (refine z_run (by simp only [List.getElem?_toArray, List.getElem?_cons_succ, List.getElem?_cons_zero]; rfl) (by rfl) (by rfl) (fun K_ hK_ => ?_); have HK_ := Lib.hid hK_; clear hK_; go_wp2_with (first | (go_at_call 45; (with_reducible refine (HU4.out _ (HB6.out.trans (Below.mono (w := w6) (by exact blw) HB6.out.size))).mono ?_); rintro e wa ⟨rfl, hba⟩; have hac := bc hba; have haf := bf hba; have haz := hba.size; try simp only [World.size_alloc, World.size_drew] at haz) | (go_at_call 46; (with_reducible refine (HU2.out _ (HB6.out.trans (Below.mono (w := w6) (by exact blw) HB6.out.size))).mono ?_); rintro e wb ⟨rfl, hbb⟩; have hbc := bc hbb; have hbf := bf hbb; have hbz := hbb.size; try simp only [World.size_alloc, World.size_drew] at hbz) | (go_at_call 47; (with_reducible refine (HRW.out _).mono ?_); rintro e wc ⟨rfl, hbc⟩; have hcc := bc hbc; have hcf := bf hbc; have hcz := hbc.size; try simp only [World.size_alloc, World.size_drew] at hcz)); refine HK_.out _ _ (bel_ofA) ?_; clear HK_)
      (refine z_run (by simp only [List.getElem?_toArray, List.getElem?_cons_succ, List.getElem?_cons_zero]; rfl) (by rfl) (by rfl) (fun K_ hK_ => ?_); have HK_ := Lib.hid hK_; clear hK_; go_wp2_with (first | (go_at_call 45; (with_reducible refine (HU4.out _ (HB6.out.trans (Below.mono (w := w6) (by exact blw) HB6.out.size))).mono ?_); rintro e wa ⟨rfl, hba⟩; have hac := bc hba; have haf := bf hba; have haz := hba.size; try simp only [World.size_alloc, World.size_drew] at haz) | (go_at_call 46; (with_reducible refine (HU2.out _ (HB6.out.trans (Below.mono (w := w6) (by exact blw) HB6.out.size))).mono ?_); rintro e wb ⟨rfl, hbb⟩; have hbc := bc hbb; have hbf := bf hbb; have hbz := hbb.size; try simp only [World.size_alloc, World.size_drew] at hbz) | (go_at_call 47; (with_reducible refine (HRW.out _).mono ?_); rintro e wc ⟨rfl, hbc⟩; have hcc := bc hbc; have hcf := bf hbc; have hcz := hbc.size; try simp only [World.size_alloc, World.size_drew] at hcz)); refine HK_.out _ _ (bel_ofA) ?_; clear HK_)
      (refine z_run (by simp only [List.getElem?_toArray, List.getElem?_cons_succ, List.getElem?_cons_zero]; rfl) (by rfl) (by rfl) (fun K_ hK_ => ?_); have HK_ := Lib.hid hK_; clear hK_; go_wp2_with (first | (go_at_call 45; (with_reducible refine (HU4.out _ (HB6.out.trans (Below.mono (w := w6) (by exact blw) HB6.out.size))).mono ?_); rintro e wa ⟨rfl, hba⟩; have hac := bc hba; have haf := bf hba; have haz := hba.size; try simp only [World.size_alloc, World.size_drew] at haz) | (go_at_call 46; (with_reducible refine (HU2.out _ (HB6.out.trans (Below.mono (w := w6) (by exact blw) HB6.out.size))).mono ?_); rintro e wb ⟨rfl, hbb⟩; have hbc := bc hbb; have hbf := bf hbb; have hbz := hbb.size; try simp only [World.size_alloc, World.size_drew] at hbz) | (go_at_call 47; (with_reducible refine (HRW.out _).mono ?_); rintro e wc ⟨rfl, hbc⟩; have hcc := bc hbc; have hcf := bf hbc; have hcz := hbc.size; try simp only [World.size_alloc, World.size_drew] at hcz)); refine HK_.out _ _ (bel_ofA) ?_; clear HK_)
      (refine z_quiet (by simp only [List.getElem?_toArray, List.getElem?_cons_succ, List.getElem?_cons_zero]; rfl) (by rfl) (by rfl) (fun K_ hK_ => ?_); go_big_quiet_op; refine hK_ _ ?_; clear hK_ K_)
      (refine z_last (by simp only [List.getElem?_toArray, List.getElem?_cons_succ, List.getElem?_cons_zero]; rfl) (by rfl) (by rfl) (by rfl) (fun K_ hK_ => ?_); have HK_ := Lib.hid hK_; clear hK_; go_wp2_with (first | (go_at_call 45; (with_reducible refine (HU4.out _ (HB6.out.trans (Below.mono (w := w6) (by exact blw) HB6.out.size))).mono ?_); rintro e wa ⟨rfl, hba⟩; have hac := bc hba; have haf := bf hba; have haz := hba.size; try simp only [World.size_alloc, World.size_drew] at haz) | (go_at_call 46; (with_reducible refine (HU2.out _ (HB6.out.trans (Below.mono (w := w6) (by exact blw) HB6.out.size))).mono ?_); rintro e wb ⟨rfl, hbb⟩; have hbc := bc hbb; have hbf := bf hbb; have hbz := hbb.size; try simp only [World.size_alloc, World.size_drew] at hbz) | (go_at_call 47; (with_reducible refine (HRW.out _).mono ?_); rintro e wc ⟨rfl, hbc⟩; have hcc := bc hbc; have hcf := bf hbc; have hcz := hbc.size; try simp only [World.size_alloc, World.size_drew] at hcz)); refine HK_.out _ _ ?_; clear HK_)
      refine z_nil ?_
      clear hG_
      have hbc' : Below w6.heap.size w6 wc := blw
      have HBC := Lib.hid hbc'
      clear hba hbb hbc hbc' hac haf hbf hcc hcf
      go_wp2_with fail
      go_roundw
      case rel =>
        refine ⟨j + 1, hlt, by go_num, by rw [HNX.out], ?_, HRI2.out, ?_, ?_, ?_⟩
        · exact owns_eq ((owns_below HO6.out HBC.out (Nat.le_refl _)).stored j _).1 HSET.out
        · intro i hi
          rcases Nat.lt_or_ge i j with g | g
          · exact HSE.out i g
          · obtain rfl : i = j := by omega
            exact HSJ.out
        · exact same_set (same_then HS6.out HBC.out) (.inl (by simp)) _
        · exact (HB6.out.trans (HBC.out.mono HB6.out.size)).setCell (p := ⟨g4 + 1, j, none⟩) (by show w.heap.size ≤ g4 + 1; omega) _
      case measure => simp [intOf]; omega
    · obtain rfl : N = j := by omega
      have HOK := Lib.hid (show FtOk bs from ⟨by rw [HL.out]; exact h12, HV.out, by rw [HNN.out, HL.out, ← HPN.out]; exact hP, by rw [HNN.out]; exact HRI.out, by rw [HNN.out]; exact HSE.out⟩)
      have HOV := Lib.hid (owns_eq HOR.out (vwP_all bs a c N))
      clear HRI HSE HSM HOR HO1 Z1 Z4 HB
      go_wp2_with (first | (at_make; refine wpMake _ rfl _ _ 28 rfl w.heap.size 36 (.agg #[.int .i64 0, .bool false, .int .i64 0, .slice none 0 0]) 4 48 Try.underlying28 info_feat N rfl rfl (by omega) (by unfold maxLen; omega) (by first | omega | (simp; omega)) ?_; intro w7 hown hb7; have hz7 := hb7.size; have HO := Lib.hid hown; have HB7 := Lib.hid hb7; clear hown hb7))
      have HO2 := Lib.hid (owns_eq HO.out (made_feat N))
      have s4 := (HB7.out.block g4 l4).trans R4.out
      have S4 := Lib.hid s4
      have HV7 := Lib.hid (owns_below HOV.out HB7.out (Nat.le_refl _))
      have HBW := Lib.hid (HBR.out.trans (HB7.out.mono HBR.out.size))
      have hz7w : w.heap.size ≤ w7.heap.size := HBW.out.size
      obtain ⟨gO, hgO⟩ : ∃ g, g = wr.heap.size := ⟨_, rfl⟩
      rw [← hgO] at HO2 ⊢
      have hgOw : w.heap.size ≤ gO := by omega
      have hgO7 := (HO2.out.lt _ rfl).2
      have l47 : g4 < w7.heap.size := by omega
      clear HO HOV HB7 R1 R4 s4 q1 q4 l1 l4 hgO HBR hzr
      go_loopw [51] (TRel2 w w7 gO N bs) (fun i _ => N - (intOf i).toNat)
      case atStart => exact ⟨[], Nat.zero_le _, rfl, HO2.out, ⟨fun i h hh => by simp at hh⟩, HBW.out, KeptE.refl _ _⟩
      case round =>
        rename World => wv
        obtain ⟨hs, hj, rfl, ho, hft, hb, hke⟩ := hrel
        have HOR := Lib.hid ho
        have HFT := Lib.hid hft
        have HBR := Lib.hid hb
        have HKE := Lib.hid hke
        have r4 := (hke.2 g4 _ _ _ S4.out (by decide)).trans S4.out
        have q4 := cell_of_heap r4 0
        simp only [List.getElem?_toArray, List.getElem?_cons_zero] at q4
        have l4 := cell_lt q4
        simp only at l4
        have hzr := hke.1
        have HVR := Lib.hid (hke.owns HV7.out (by decide))
        clear ho hft hb hke r4
        obtain ⟨j, hjl⟩ : ∃ j, j = hs.length := ⟨_, rfl⟩
        rw [← hjl] at hj HOR ⊢
        have HJ := Lib.hid hjl
        clear hjl
        by_cases hlt : j < N
        · obtain ⟨q, hq⟩ : ∃ q, q = j * 12 := ⟨_, rfl⟩
          have hqP : q + 12 ≤ P := by rw [hq, HPN.out]; omega
          have hrb : ∀ W, Below w.heap.size w W → Has W (adv A1 C1 q) (bytesV (rowB bs P j)) := fun W hW => by
            have := ((HP1.out W hW).adv C1 q (by rw [bytesV_length, HLP.out]; exact hPn)).take 12
            rw [bytesV_drop, bytesV_take, hq] at this
            rw [hq]
            exact this
          have hrl : (rowB bs P j).length = 12 := by unfold rowB; rw [List.length_take, List.length_drop, HLP.out, ← hq]; omega
          have HC := Lib.hid (fun W => cut_z A1 P C1 q 12 ((j : Int) * 12) 12 (by omega) rfl W hqP hPn hC1)
          have hCq : 12 ≤ C1 - q := by omega
          have hCm : C1 - q ≤ maxLen := Nat.le_trans (Nat.sub_le _ _) hC1
          have hso := HOK.out.sets j (by rw [HNN.out]; exact hlt)
          unfold setsOk at hso
          rw [HL.out] at hso
          have hmn : fMany bs j ≤ 65535 := num2_lt _ _
          have hsb : ∀ W, Below w.heap.size w W → Has W (adv a c (fFrom bs j)) (bytesV (fSb bs j)) := fun W hW => by
            have := ((HH.out.below hW).adv c (fFrom bs j) (by rw [bytesV_length, HL.out]; exact hn)).take (4 * fMany bs j)
            rwa [bytesV_drop, bytesV_take] at this
          have hsl : (fSb bs j).length = 4 * fMany bs j := by unfold fSb; rw [List.length_take, List.length_drop, HL.out]; omega
          have HF := Lib.hid (fun W (hW : Below w.heap.size w W) => feature_any (adv A1 C1 q) (C1 - q) (rowB bs P j) (adv a c (fFrom bs j)) (4 * fMany bs j) (c - fFrom bs j) (fMany bs j) (fSb bs j) W (hrb W hW) hrl hCq hCm (hsb W hW) hsl rfl (by omega) (Nat.le_trans (Nat.sub_le _ _) hc) hmn)
          rw [rowB_ty bs P j (by omega), rowB_fl bs P j (by omega)] at HF
          have k4 : wv.cell? ⟨g4 + 1, j, none⟩ = some (.slice (adv a c (fFrom bs j)) (4 * fMany bs j) (c - fFrom bs j)) := own_at HVR.out (vwV_get bs a c N j hlt)
          have HCC := Lib.hid (fun h => show ftC bs j h = [.int .i64 (fTy bs j : Nat), .bool (bt (fFl bs j) 15), .int .i64 (dfF (fSb bs j) (fMany bs j) (fFl bs j)), .slice (some ⟨h, 0, none⟩) (fMany bs j) (fMany bs j)] from rfl)
          have HQ := Lib.hid hq
          have HSN := Lib.hid (fun h => ftV_snoc bs h hs 0)
          rw [Nat.zero_add, ← HJ.out] at HSN
          have HSC := Lib.hid (fun (W : World) (h : Nat) (hW : FtIs w.heap.size bs hs W) (hh : W.ownsRow w.heap.size 3 1 (.slice (some ⟨h, 0, none⟩) (fMany bs j) (fMany bs j)) (fMany bs j) (setV (fSb bs j) (fMany bs j))) => hW.snoc (by rw [← HJ.out]; exact hh))
          unfold featC at HF
          clear hrb hrl hq hsb hsl hso
          generalize adv A1 C1 q = A5 at *
          generalize C1 - q = C5 at *
          generalize adv a c (fFrom bs j) = A9 at *
          generalize c - fFrom bs j = C9 at *
          generalize hP9 : 4 * fMany bs j = P9 at *
          clear hP9
          generalize dfF (fSb bs j) (fMany bs j) (fFl bs j) = df at *
          generalize bt (fFl bs j) 15 = ex at *
          generalize fTy bs j = ty at *
          generalize setV (fSb bs j) (fMany bs j) = sv at *
          generalize fMany bs j = mn at *
          obtain ⟨y0, hy0⟩ := own_cell HOR.out (j := j * 4) (by omega)
          obtain ⟨y1, hy1⟩ := own_cell HOR.out (j := j * 4 + 1) (by omega)
          obtain ⟨y2, hy2⟩ := own_cell HOR.out (j := j * 4 + 2) (by omega)
          obtain ⟨y3, hy3⟩ := own_cell HOR.out (j := j * 4 + 3) (by omega)
          have hF := fun i => World.ownsRow.frozenAt HOR.out i
          have m4 := cell_lt k4
          simp only at m4
          have mO := (HOR.out.lt _ rfl).2
          go_wp2_with fail
          refine wp_region_last (.step 0 (.step 1 (.step 2 (.step 3 (.step 4 (.step 6 (.step 7 (.step 8 (.step 9 (.step 5 (.step 10 (.step 11 (.step 12 .nil))))))))))))) 12 (by kernel_rfl) (by kernel_rfl) (by kernel_rfl) (by kernel_rfl) (by kernel_rfl) (by intro _ _ d_ _ _ h_; cases d_ <;> first | exact h_ | (dsimp +zetaDelta only at h_ ⊢; exact h_)) (fun w' => ∃ p : BelW wv.heap.size wv, w' = p.val) (bel_start _ _) ?_
          have hG_ := @belC wv.heap.size wv
          (refine z_quiet (by simp only [List.getElem?_toArray, List.getElem?_cons_succ, List.getElem?_cons_zero]; rfl) (by rfl) (by rfl) (fun K_ hK_ => ?_); go_big_quiet_op; refine hK_ _ ?_; clear hK_ K_)
          (refine z_quiet (by simp only [List.getElem?_toArray, List.getElem?_cons_succ, List.getElem?_cons_zero]; rfl) (by rfl) (by rfl) (fun K_ hK_ => ?_); go_big_quiet_op; refine hK_ _ ?_; clear hK_ K_)
          (refine z_quiet (by simp only [List.getElem?_toArray, List.getElem?_cons_succ, List.getElem?_cons_zero]; rfl) (by rfl) (by rfl) (fun K_ hK_ => ?_); go_big_quiet_op; refine hK_ _ ?_; clear hK_ K_)
          (refine z_quiet (by simp only [List.getElem?_toArray, List.getElem?_cons_succ, List.getElem?_cons_zero]; rfl) (by rfl) (by rfl) (fun K_ hK_ => ?_); go_big_quiet_op; refine hK_ _ ?_; clear hK_ K_)
          (refine z_quiet (by simp only [List.getElem?_toArray, List.getElem?_cons_succ, List.getElem?_cons_zero]; rfl) (by rfl) (by rfl) (fun K_ hK_ => ?_); go_big_quiet_op; refine hK_ _ ?_; clear hK_ K_)
          (refine z_quiet (by simp only [List.getElem?_toArray, List.getElem?_cons_succ, List.getElem?_cons_zero]; rfl) (by rfl) (by rfl) (fun K_ hK_ => ?_); go_big_quiet_op; refine hK_ _ ?_; clear hK_ K_)
          (refine z_quiet (by simp only [List.getElem?_toArray, List.getElem?_cons_succ, List.getElem?_cons_zero]; rfl) (by rfl) (by rfl) (fun K_ hK_ => ?_); go_big_quiet_op; refine hK_ _ ?_; clear hK_ K_)
          (refine z_quiet (by simp only [List.getElem?_toArray, List.getElem?_cons_succ, List.getElem?_cons_zero]; rfl) (by rfl) (by rfl) (fun K_ hK_ => ?_); go_big_quiet_op; refine hK_ _ ?_; clear hK_ K_)
          (refine z_quiet (by simp only [List.getElem?_toArray, List.getElem?_cons_succ, List.getElem?_cons_zero]; rfl) (by rfl) (by rfl) (fun K_ hK_ => ?_); go_big_quiet_op; refine hK_ _ ?_; clear hK_ K_)
          (refine z_run (by simp only [List.getElem?_toArray, List.getElem?_cons_succ, List.getElem?_cons_zero]; rfl) (by rfl) (by rfl) (fun K_ hK_ => ?_); have HK_ := Lib.hid hK_; clear hK_; go_wp2_with (first | (go_at_call 48; (with_reducible refine (HC.out _).mono ?_); rintro e wa ⟨rfl, hba⟩; have hac := bc hba; have haf := bf hba; have haz := hba.size; try simp only [World.size_alloc, World.size_drew] at haz) | (go_at_call 49; (with_reducible refine (HF.out _ (HBR.out.trans (Below.mono (w := wv) (by exact blw) HBR.out.size))).mono ?_); rintro e wb ⟨h, rfl, hown, hbb⟩; have hbc := bc hbb; have hbf := bf hbb; have hbz := hbb.size; (try simp only [World.size_alloc, World.size_drew] at hbz); have HOB := Lib.hid hown; clear hown)); refine HK_.out _ _ (bel_ofA) ?_; clear HK_)
          (refine z_run (by simp only [List.getElem?_toArray, List.getElem?_cons_succ, List.getElem?_cons_zero]; rfl) (by rfl) (by rfl) (fun K_ hK_ => ?_); have HK_ := Lib.hid hK_; clear hK_; go_wp2_with (first | (go_at_call 48; (with_reducible refine (HC.out _).mono ?_); rintro e wa ⟨rfl, hba⟩; have hac := bc hba; have haf := bf hba; have haz := hba.size; try simp only [World.size_alloc, World.size_drew] at haz) | (go_at_call 49; (with_reducible refine (HF.out _ (HBR.out.trans (Below.mono (w := wv) (by exact blw) HBR.out.size))).mono ?_); rintro e wb ⟨h, rfl, hown, hbb⟩; have hbc := bc hbb; have hbf := bf hbb; have hbz := hbb.size; (try simp only [World.size_alloc, World.size_drew] at hbz); have HOB := Lib.hid hown; clear hown)); refine HK_.out _ _ (bel_ofA) ?_; clear HK_)
          (refine z_quiet (by simp only [List.getElem?_toArray, List.getElem?_cons_succ, List.getElem?_cons_zero]; rfl) (by rfl) (by rfl) (fun K_ hK_ => ?_); go_big_quiet_op; refine hK_ _ ?_; clear hK_ K_)
          (refine z_last (by simp only [List.getElem?_toArray, List.getElem?_cons_succ, List.getElem?_cons_zero]; rfl) (by rfl) (by rfl) (by rfl) (fun K_ hK_ => ?_); have HK_ := Lib.hid hK_; clear hK_; go_wp2_with (first | (go_at_call 48; (with_reducible refine (HC.out _).mono ?_); rintro e wa ⟨rfl, hba⟩; have hac := bc hba; have haf := bf hba; have haz := hba.size; try simp only [World.size_alloc, World.size_drew] at haz) | (go_at_call 49; (with_reducible refine (HF.out _ (HBR.out.trans (Below.mono (w := wv) (by exact blw) HBR.out.size))).mono ?_); rintro e wb ⟨h, rfl, hown, hbb⟩; have hbc := bc hbb; have hbf := bf hbb; have hbz := hbb.size; (try simp only [World.size_alloc, World.size_drew] at hbz); have HOB := Lib.hid hown; clear hown)); refine HK_.out _ _ ?_; clear HK_)
          refine z_nil ?_
          clear hG_
          have hbb' : Below wv.heap.size wv wb := blw
          have HBB := Lib.hid hbb'
          have hwa : w.heap.size ≤ wa.heap.size := by omega
          clear hba hbb hbb' hac haf hbc hbf
          go_wp2_with fail
          go_roundw
          case rel =>
            have o1 := owns_below HOR.out HBB.out (Nat.le_refl _)
            have k1 := (o1.stored (j * 4) (.int .i64 (ty : Nat))).1
            have k2 := (k1.stored (j * 4 + 1) (.bool ex)).1
            have k3 := (k2.stored (j * 4 + 2) (.int .i64 df)).1
            have k5 := (k3.stored (j * 4 + 3) (.slice (some ⟨h, 0, none⟩) mn mn)).1
            have KE := (((keptE_store o1 (j * 4) (.int .i64 (ty : Nat))).trans (keptE_store k1 (j * 4 + 1) (.bool ex))).trans (keptE_store k2 (j * 4 + 2) (.int .i64 df))).trans (keptE_store k3 (j * 4 + 3) (.slice (some ⟨h, 0, none⟩) mn mn))
            have hj1 := HJ.out
            obtain ⟨r, hr⟩ : ∃ r, N - j = r + 1 := ⟨N - j - 1, by omega⟩
            refine ⟨hs ++ [h], by simp; omega, by simp [← hj1], ?_, HSC.out _ h ((HFT.out.below HBB.out).keptE KE) (KE.owns (owns_mono HOB.out (by first | exact hwa | (simp; omega))) (by decide)), ?_, HKE.out.trans ((KeptE.below HBB.out).trans KE)⟩
            · refine owns_eq k5 ?_
              rw [hr, zeroF, set4_list _ _ _ _ _ _ _ _ _ _ (j * 4) (by rw [ftV_length, ← hj1]), HSN.out h, HCC.out h, List.append_assoc, List.length_append, ← hj1, show N - (j + [h].length) = r by simp; omega]
              rfl
            · exact bset (bset (bset (bset (HBR.out.trans (HBB.out.mono HBR.out.size)) hgOw _) hgOw _) hgOw _) hgOw _
          case measure => simp [intOf]; omega
        · obtain rfl : N = j := by omega
          go_wp2_with fail
          go_ret
          refine ⟨.inl ⟨gO, hs, HOK.out, by rw [HNN.out]; exact HJ.out.symm, by rw [HNN.out]; rfl, ?_, HFT.out⟩, HBR.out⟩
          rw [HNN.out]
          have := HOR.out
          rw [Nat.sub_self] at this
          exact owns_eq this (by simp [zeroF])
end Go.Proofs.Ytfnghinefbmlmaa
