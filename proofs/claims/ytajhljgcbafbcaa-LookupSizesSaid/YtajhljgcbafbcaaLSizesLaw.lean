
/- The walk of LookupSizes. Condition: as many pairs as the slice says; a number within 64 bits. -/
import Derived.Test.YtajhljgcbafbcaaLSixP
namespace Go.Proofs.Ytajhljgcbafbcaa
open Go.RowKit Go.Lib

def FarA (a b : Option Addr) : Prop := ∀ p q, a = some p → b = some q → p.block ≠ q.block
theorem owns_lt {w : World} {base e size n cap : Nat} {a : Option Addr} {xs : List Value} (h : w.ownsRow base e size (.slice a n cap) n xs) : ∀ p, a = some p → base ≤ p.block ∧ p.block < w.heap.size := by
  intro p hp
  exact h.lt p.block (by rw [hp]; rfl)
theorem owns_far {W V : World} {a2 a6 a4 : Option Addr} {base e size n cap : Nat} {xs : List Value} (h : W.ownsRow base e size (.slice a4 n cap) n xs) (hp : PutFar W a2 V a6) (hf : FarA a2 a4) : V.ownsRow base e size (.slice a4 n cap) n xs := by
  refine ⟨h.1, ?_⟩
  rcases h.2 with q | ⟨q, cap, cur, hv, hq, hh, r⟩
  · exact .inl q
  · refine .inr ⟨q, cap, cur, hv, hq, ?_, r⟩
    rw [hp.2.1 q (Array.getElem?_eq_some_iff.1 hh).1 (fun p hpa => by
      injection hv with e1 _ _
      exact hf p _ hpa e1)]
    exact hh
theorem far_put {W V : World} {a2 a6 a4 : Option Addr} (hp : PutFar W a2 V a6) (hf : FarA a2 a4) (h4 : ∀ q, a4 = some q → q.block < W.heap.size) : FarA a6 a4 := by
  intro p q h1 h2
  rcases hp.2.2 p h1 with ⟨r, hr, hr2⟩ | hge
  · rw [← hr2]; exact hf r q hr h2
  · have := h4 q h2; omega
theorem far_symm {a b : Option Addr} (h : FarA a b) : FarA b a := fun p q h1 h2 he => h q p h2 h1 he.symm
theorem Kept.ownsE {w w' : World} (h : Kept w w') {base e size n : Nat} {v : Value} {xs : List Value} (ho : w.ownsRow base e size v n xs) (hne : e ≠ 5) : w'.ownsRow base e size v n xs := by
  refine ⟨ho.1, ?_⟩
  rcases ho.2 with g | ⟨g, cap, cur, hv, hg, hh, r⟩
  · exact .inl g
  · exact .inr ⟨g, cap, cur, hv, hg, by rw [h.2 g _ _ _ hh hne]; exact hh, r⟩
def SzRel (w : World) (R : List (Nat × Nat)) (aR : Option Addr) (cR : Nat) (two four i : Value) (wr : World) : Prop :=
  ∃ (k : Nat) (a2 a4 : Option Addr) (c2 c4 : Nat), k ≤ R.length ∧ i = .int .i64 (k : Nat) ∧ two = .slice a2 (12 + k * 4) c2 ∧ four = .slice a4 (12 + k * 6) c4 ∧
    wr.ownsRow w.heap.size 5 1 two (12 + k * 4) (bytesV (headB 6 4 R.length ++ (R.take k).flatMap (row6 2))) ∧ wr.ownsRow w.heap.size 5 1 four (12 + k * 6) (bytesV (headB 6 6 R.length ++ (R.take k).flatMap (row6 4))) ∧
    FarA a2 a4 ∧ wr.ownsRow w.heap.size 43 2 (.slice aR R.length cR) R.length (pairsV R) ∧ Below w.heap.size w wr
set_option maxRecDepth 100000 in
set_option maxHeartbeats 3200000 in
theorem lookupSizes_walk (a : Option Addr) (n c : Nat) (zs : List (Nat × Nat)) (id : Int) (w : World) (h : Has w a (pairsV zs)) (hl : zs.length = n) (hn : n ≤ c) (hc : c ≤ maxLen) (hz : ∀ z ∈ zs, z.1 ≤ 65535 ∧ z.2 ≤ 65535) (hid : -9223372036854775808 ≤ id ∧ id ≤ 9223372036854775807) :
    Calls Try.prog 6 #[.slice a n c, .int .i64 id] w fun e w' => e = .returned (.bool true) ∧ Below w.heap.size w w' := by
  have hAC := allocC
  have hAF := allocF
  by_cases hbig : 30 < n
  · clear h hl
    unfold maxLen at hc
    go_enter Try.func6, Try.ntmps6
    go_wp2_with (first | (go_at_call 15; refine (speaks6_any _).mono ?_; rintro e w1 ⟨rfl, hb1⟩; have h1c := bc hb1; have h1f := bf hb1; have h1z := hb1.size; try simp only [World.size_alloc, World.size_drew] at h1z))
    go_ret
    exact ⟨rfl, (by repeat (first | exact brefl _ | assumption | refine balloc ?_ _ | refine bdrew ?_ _ | refine bdrew1 ?_ | refine bthen ?_ (by assumption) | refine Below.trans ?_ (by assumption) | (refine bset ?_ (by first | (simp; done) | (simp; omega)) _)))⟩
  have HRI := Lib.hid (fun W hW => rising_any a n c zs W (h.below hW) hl hn hc (by omega) hz)
  have HID := Lib.hid hid
  obtain ⟨hid1, hid2⟩ := hid
  have d1 : decide (30 < (n : Int)) = false := by simp; omega
  clear h hl hz
  go_enter Try.func6, Try.ntmps6
  go_wp2_with fail
  refine (speaks6_any _).mono ?_
  rintro e w1 ⟨rfl, hb1⟩
  have HB1 := Lib.hid hb1
  clear hb1
  go_wp2_with fail
  refine (HRI.out _ HB1.out).mono ?_
  rintro e w2 ⟨R, aR, cR, rfl, hoR, q1, q2, hR, hRl, hb2⟩
  have HOR := Lib.hid (owns_mono hoR HB1.out.size)
  have HR := Lib.hid hR
  have HB2 := Lib.hid (bthen HB1.out hb2)
  clear hoR hR hb2 HRI
  obtain ⟨L, hL⟩ : ∃ L, L = R.length := ⟨_, rfl⟩
  have HL := Lib.hid hL
  rw [← hL] at HOR q1 hRl ⊢
  clear hL
  go_wp2_with fail
  refine (head_any 6 4 L 6 4 (L : Int) rfl rfl rfl (by omega) (by omega) hRl w2).mono ?_
  rintro e w3 ⟨a2, c2, rfl, ho2, _, _, _, hb3⟩
  have HO2 := Lib.hid ho2
  have HB3 := Lib.hid hb3
  clear ho2 hb3
  go_wp2_with fail
  refine (head_any 6 6 L 6 6 (L : Int) rfl rfl rfl (by omega) (by omega) hRl w3).mono ?_
  rintro e w4 ⟨a4, c4, rfl, ho4, _, _, _, hb4⟩
  have HI := Lib.hid (show SzRel w R aR cR (.slice a2 12 c2) (.slice a4 12 c4) (.int .i64 0) w4 from by
    refine ⟨0, a2, a4, c2, c4, Nat.zero_le _, rfl, rfl, rfl, ?_, ?_, fun p q h1 h2 => ?_, ?_, bthen (bthen HB2.out HB3.out) hb4⟩
    · rw [← HL.out]
      have := owns_mono (owns_below HO2.out hb4 (Nat.le_refl _)) HB2.out.size
      simpa using this
    · rw [← HL.out]
      have := owns_mono ho4 (Nat.le_trans HB2.out.size HB3.out.size)
      simpa using this
    · have i1 := (owns_lt HO2.out p h1).2
      have i2 := (owns_lt ho4 q h2).1
      omega
    · rw [← HL.out]
      exact owns_below (owns_below HOR.out HB3.out (Nat.le_refl _)) hb4 (Nat.le_refl _))
  clear ho4 hb4 HO2 HB3 HOR HB1
  go_wp2_with fail
  go_loopw [5, 6, 32] (SzRel w R aR cR) (fun _ _ i _ => L - (intOf i).toNat)
  case atStart => exact HI.out
  case round =>
    obtain ⟨k, b2, b4, e2, e4, hk, rfl, rfl, rfl, h2, h4, hfar, hR2, hbr⟩ := hrel
    rw [← HL.out] at hk h2 h4 hR2
    have H2 := Lib.hid h2
    have H4 := Lib.hid h4
    have HFA := Lib.hid hfar
    have HR2 := Lib.hid hR2
    have HBR := Lib.hid hbr
    clear h2 h4 hfar hR2 hbr HI
    by_cases hlt : k < L
    · obtain ⟨z, hz⟩ : ∃ z, R[k]? = some z := ⟨_, List.getElem?_eq_getElem (by rw [← HL.out]; exact hlt)⟩
      obtain ⟨g0, g1⟩ := pairsV_get R k z hz
      have hz1 := HR.out.2 z (List.mem_of_getElem? hz)
      obtain ⟨gR, haR⟩ : ∃ gR, aR = some ⟨gR, 0, none⟩ := by
        rcases HR2.out.2 with ⟨hv, hn0⟩ | ⟨gR, cap, cur, hv, _⟩
        · omega
        · injection hv with ea _ _
          exact ⟨gR, ea⟩
      have HAR := Lib.hid haR
      have hr2 := HR2.out
      rw [haR] at hr2 ⊢
      have k0 := (hr2.cellAt (k * 2) (by omega)).trans g0
      have k1 := (hr2.cellAt (k * 2 + 1) (by omega)).trans g1
      have hgl := cell_lt k0
      simp only at hgl
      have HT := Lib.hid (show ∀ S, (R.take (k + 1)).flatMap (row6 S) = (R.take k).flatMap (row6 S) ++ row6 S z from fun S => by rw [List.take_add_one, hz]; simp)
      have HLT := Lib.hid hlt
      clear g0 g1 haR hr2 hz
      obtain ⟨z1, z2⟩ := z
      simp only at hz1 k0 k1
      obtain ⟨hz1, hz2⟩ := hz1
      go_wp2_with fail
      obtain ⟨wv, hwv⟩ : ∃ wv, wv = wr.alloc (Obj.cells #[.int .u16 (z1 : Nat), .int .u16 (z2 : Nat)] 43) := ⟨_, rfl⟩
      have hbv : Below wr.heap.size wr wv := by rw [hwv]; exact balloc (brefl _) _
      have hP : wv.heap[wr.heap.size]? = some (.cells #[.int .u16 (z1 : Nat), .int .u16 (z2 : Nat)] 43 (0, 0)) := by rw [hwv, heap_push, if_pos rfl]
      have H2V := Lib.hid (owns_below H2.out hbv (Nat.le_refl _))
      have H4V := Lib.hid (owns_below H4.out hbv (Nat.le_refl _))
      have HRV := Lib.hid (owns_below HR2.out hbv (Nat.le_refl _))
      have HBV := Lib.hid (HBR.out.trans (hbv.mono HBR.out.size))
      rw [← hwv]
      clear hwv hbv k0 k1
      generalize wr.heap.size = gp at *
      generalize hn2 : 12 + k * 4 = m2 at *
      generalize hn4 : 12 + k * 6 = m4 at *
      have HM2 := Lib.hid hn2
      have HM4 := Lib.hid hn4
      have hm2 : m2 ≤ 1000000 := by omega
      have hm4 : m4 ≤ 1000000 := by omega
      clear hn2 hn4
      have H2W := Lib.hid (show w.heap.size ≤ wv.drew.heap.size from HBV.out.size)
      have H2Q := Lib.hid (fun (x : Option Addr) (m e : Nat) (ys : List UInt8) (W : World) (ho : W.ownsRow w.heap.size 5 1 (.slice x m e) m (bytesV ys)) (hb : w.heap.size ≤ W.heap.size) (hm : m ≤ 1000010) => put_z w.heap.size x m e z2 2 (z2 : Int) 2 rfl rfl ys W ho hb (by omega) (by omega) (by omega))
      have H2P := Lib.hid (fun W (hW : Below wv.heap.size wv W) => put_z w.heap.size b2 m2 e2 z1 2 (z1 : Int) 2 rfl rfl _ W (owns_below H2V.out hW (Nat.le_refl _)) (Nat.le_trans HBV.out.size hW.size) (by omega) (by omega) (by omega))
      refine wp_region_tree (.step 0 (.step 1 (.step 2 (.step 3 (.step 5 (.step 6 (.step 7 (.step 4 (.step 8 (.step 9 .nil)))))))))) (by kernel_rfl) (by kernel_rfl) (by kernel_rfl) (by kernel_rfl) (by intro _ _ d_ _ _ h_; cases d_ <;> first | exact h_ | (dsimp +zetaDelta only at h_ ⊢; exact h_)) (fun w' => ∃ p : KeptW wv, w' = p.val) (kept_start _) ?_
      have hK0_ := fun (p : KeptW wv) (o : Nat) => p.is.cell hP (by decide) o
      (refine tree_quiet (by simp only [List.getElem?_toArray, List.getElem?_cons_succ, List.getElem?_cons_zero]; rfl) (by rfl) (by rfl) (fun K_ hK_ => ?_); go_big_quiet_op; refine hK_ _ ?_; clear hK_ K_)
      (refine tree_quiet (by simp only [List.getElem?_toArray, List.getElem?_cons_succ, List.getElem?_cons_zero]; rfl) (by rfl) (by rfl) (fun K_ hK_ => ?_); go_big_quiet_op; refine hK_ _ ?_; clear hK_ K_)
      (refine tree_quiet (by simp only [List.getElem?_toArray, List.getElem?_cons_succ, List.getElem?_cons_zero]; rfl) (by rfl) (by rfl) (fun K_ hK_ => ?_); go_big_quiet_op; refine hK_ _ ?_; clear hK_ K_)
      (refine tree_quiet (by simp only [List.getElem?_toArray, List.getElem?_cons_succ, List.getElem?_cons_zero]; rfl) (by rfl) (by rfl) (fun K_ hK_ => ?_); go_big_quiet_op; refine hK_ _ ?_; clear hK_ K_)
      (refine tree_quiet (by simp only [List.getElem?_toArray, List.getElem?_cons_succ, List.getElem?_cons_zero]; rfl) (by rfl) (by rfl) (fun K_ hK_ => ?_); go_big_quiet_op; refine hK_ _ ?_; clear hK_ K_)
      (refine tree_quiet (by simp only [List.getElem?_toArray, List.getElem?_cons_succ, List.getElem?_cons_zero]; rfl) (by rfl) (by rfl) (fun K_ hK_ => ?_); go_big_quiet_op; refine hK_ _ ?_; clear hK_ K_)
      (refine tree_quiet (by simp only [List.getElem?_toArray, List.getElem?_cons_succ, List.getElem?_cons_zero]; rfl) (by rfl) (by rfl) (fun K_ hK_ => ?_); go_big_quiet_op; refine hK_ _ ?_; clear hK_ K_)
      (refine tree_run (by simp only [List.getElem?_toArray, List.getElem?_cons_succ, List.getElem?_cons_zero]; rfl) (by rfl) (by rfl) (fun K_ hK_ => ?_); have HK_ := Lib.hid hK_; clear hK_; go_wp2_with (first | (go_at_call 23; (with_reducible refine (H2P.out _ (bdrew1 (brefl wv))).mono ?_); rintro e wa2 ⟨b52, e52, rfl, ho52, _, _, _, hb52, hk52, hf52⟩; have HO52 := Lib.hid ho52; have HB52 := Lib.hid hb52; have HF52 := Lib.hid hf52; clear ho52 hb52 hf52) | (go_at_call 23; (with_reducible refine (H2Q.out b52 (m2 + 2) e52 _ wa2 HO52.out (Nat.le_trans H2W.out HB52.out.size) (by omega)).mono ?_); rintro e wb2 ⟨b62, e62, rfl, ho62, _, _, _, hb62, hk62, hf62⟩; have HO62 := Lib.hid ho62; have HB62 := Lib.hid hb62; have HF62 := Lib.hid hf62; clear ho62 hb62 hf62)); refine HK_.out _ _ (kept_of (by repeat (first | exact Kept.refl _ | assumption | refine Kept.trans ?_ (Kept.below (bdrew1 (brefl _))) | refine Kept.trans ?_ (Kept.below (balloc (brefl _) _)) | refine Kept.trans ?_ (by assumption)))) ?_; clear HK_)
      (refine tree_run (by simp only [List.getElem?_toArray, List.getElem?_cons_succ, List.getElem?_cons_zero]; rfl) (by rfl) (by rfl) (fun K_ hK_ => ?_); have HK_ := Lib.hid hK_; clear hK_; go_wp2_with (first | (go_at_call 23; (with_reducible refine (H2P.out _ (bdrew1 (brefl wv))).mono ?_); rintro e wa2 ⟨b52, e52, rfl, ho52, _, _, _, hb52, hk52, hf52⟩; have HO52 := Lib.hid ho52; have HB52 := Lib.hid hb52; have HF52 := Lib.hid hf52; clear ho52 hb52 hf52) | (go_at_call 23; (with_reducible refine (H2Q.out b52 (m2 + 2) e52 _ wa2 HO52.out (Nat.le_trans H2W.out HB52.out.size) (by omega)).mono ?_); rintro e wb2 ⟨b62, e62, rfl, ho62, _, _, _, hb62, hk62, hf62⟩; have HO62 := Lib.hid ho62; have HB62 := Lib.hid hb62; have HF62 := Lib.hid hf62; clear ho62 hb62 hf62)); refine HK_.out _ _ (kept_of (by repeat (first | exact Kept.refl _ | assumption | refine Kept.trans ?_ (Kept.below (bdrew1 (brefl _))) | refine Kept.trans ?_ (Kept.below (balloc (brefl _) _)) | refine Kept.trans ?_ (by assumption)))) ?_; clear HK_)
      (refine tree_quiet (by simp only [List.getElem?_toArray, List.getElem?_cons_succ, List.getElem?_cons_zero]; rfl) (by rfl) (by rfl) (fun K_ hK_ => ?_); go_big_quiet_op; refine hK_ _ ?_; clear hK_ K_)
      refine tree_nil ?_
      clear hK0_
      have HKX := Lib.hid ((Kept.below (bdrew1 (brefl wv))).trans (hk52.trans hk62))
      have HFX := Lib.hid ((PutFar.below b2 (bdrew1 (brefl wv))).trans (HF52.out.trans HF62.out))
      have HBW := Lib.hid (HBV.out.trans (((Below.refl _ wv).drew.trans HB52.out).trans HB62.out))
      have H4W := Lib.hid (owns_far H4V.out HFX.out HFA.out)
      have HF4 := Lib.hid (far_put HFX.out HFA.out (fun q hq => (owns_lt H4V.out q hq).2))
      have HRW := Lib.hid (HKX.out.ownsE HRV.out (by decide))
      have hP2 := (HKX.out.2 _ _ _ _ hP (by decide)).trans hP
      clear hk52 hk62 HF52 HF62 HB52 HB62 HO52 hP
      have H4WW := HBW.out.size
      have H4WX := Lib.hid (show w.heap.size ≤ wb2.drew.heap.size from H4WW)
      have H4Q := Lib.hid (fun (x : Option Addr) (m e : Nat) (ys : List UInt8) (W : World) (ho : W.ownsRow w.heap.size 5 1 (.slice x m e) m (bytesV ys)) (hb : w.heap.size ≤ W.heap.size) (hm : m ≤ 1000010) => put_z w.heap.size x m e z2 4 (z2 : Int) 4 rfl rfl ys W ho hb (by omega) (by omega) (by omega))
      have H4P := Lib.hid (fun W (hW : Below wb2.heap.size wb2 W) => put_z w.heap.size b4 m4 e4 z1 2 (z1 : Int) 2 rfl rfl _ W (owns_below H4W.out hW (Nat.le_refl _)) (Nat.le_trans HBW.out.size hW.size) (by omega) (by omega) (by omega))
      clear H4WW
      go_wp2_with fail
      refine wp_region_tree (.step 0 (.step 1 (.step 2 (.step 3 (.step 5 (.step 6 (.step 7 (.step 4 (.step 8 (.step 9 .nil)))))))))) (by kernel_rfl) (by kernel_rfl) (by kernel_rfl) (by kernel_rfl) (by intro _ _ d_ _ _ h_; cases d_ <;> first | exact h_ | (dsimp +zetaDelta only at h_ ⊢; exact h_)) (fun w' => ∃ p : KeptW wb2, w' = p.val) (kept_start _) ?_
      have hK0_ := fun (p : KeptW wb2) (o : Nat) => p.is.cell hP2 (by decide) o
      (refine tree_quiet (by simp only [List.getElem?_toArray, List.getElem?_cons_succ, List.getElem?_cons_zero]; rfl) (by rfl) (by rfl) (fun K_ hK_ => ?_); go_big_quiet_op; refine hK_ _ ?_; clear hK_ K_)
      (refine tree_quiet (by simp only [List.getElem?_toArray, List.getElem?_cons_succ, List.getElem?_cons_zero]; rfl) (by rfl) (by rfl) (fun K_ hK_ => ?_); go_big_quiet_op; refine hK_ _ ?_; clear hK_ K_)
      (refine tree_quiet (by simp only [List.getElem?_toArray, List.getElem?_cons_succ, List.getElem?_cons_zero]; rfl) (by rfl) (by rfl) (fun K_ hK_ => ?_); go_big_quiet_op; refine hK_ _ ?_; clear hK_ K_)
      (refine tree_quiet (by simp only [List.getElem?_toArray, List.getElem?_cons_succ, List.getElem?_cons_zero]; rfl) (by rfl) (by rfl) (fun K_ hK_ => ?_); go_big_quiet_op; refine hK_ _ ?_; clear hK_ K_)
      (refine tree_quiet (by simp only [List.getElem?_toArray, List.getElem?_cons_succ, List.getElem?_cons_zero]; rfl) (by rfl) (by rfl) (fun K_ hK_ => ?_); go_big_quiet_op; refine hK_ _ ?_; clear hK_ K_)
      (refine tree_quiet (by simp only [List.getElem?_toArray, List.getElem?_cons_succ, List.getElem?_cons_zero]; rfl) (by rfl) (by rfl) (fun K_ hK_ => ?_); go_big_quiet_op; refine hK_ _ ?_; clear hK_ K_)
      (refine tree_quiet (by simp only [List.getElem?_toArray, List.getElem?_cons_succ, List.getElem?_cons_zero]; rfl) (by rfl) (by rfl) (fun K_ hK_ => ?_); go_big_quiet_op; refine hK_ _ ?_; clear hK_ K_)
      (refine tree_run (by simp only [List.getElem?_toArray, List.getElem?_cons_succ, List.getElem?_cons_zero]; rfl) (by rfl) (by rfl) (fun K_ hK_ => ?_); have HK_ := Lib.hid hK_; clear hK_; go_wp2_with (first | (go_at_call 23; (with_reducible refine (H4P.out _ (bdrew1 (brefl wb2))).mono ?_); rintro e wa4 ⟨b54, e54, rfl, ho54, _, _, _, hb54, hk54, hf54⟩; have HO54 := Lib.hid ho54; have HB54 := Lib.hid hb54; have HF54 := Lib.hid hf54; clear ho54 hb54 hf54) | (go_at_call 23; (with_reducible refine (H4Q.out b54 (m4 + 2) e54 _ wa4 HO54.out (Nat.le_trans H4WX.out HB54.out.size) (by omega)).mono ?_); rintro e wb4 ⟨b64, e64, rfl, ho64, _, _, _, hb64, hk64, hf64⟩; have HO64 := Lib.hid ho64; have HB64 := Lib.hid hb64; have HF64 := Lib.hid hf64; clear ho64 hb64 hf64)); refine HK_.out _ _ (kept_of (by repeat (first | exact Kept.refl _ | assumption | refine Kept.trans ?_ (Kept.below (bdrew1 (brefl _))) | refine Kept.trans ?_ (Kept.below (balloc (brefl _) _)) | refine Kept.trans ?_ (by assumption)))) ?_; clear HK_)
      (refine tree_run (by simp only [List.getElem?_toArray, List.getElem?_cons_succ, List.getElem?_cons_zero]; rfl) (by rfl) (by rfl) (fun K_ hK_ => ?_); have HK_ := Lib.hid hK_; clear hK_; go_wp2_with (first | (go_at_call 23; (with_reducible refine (H4P.out _ (bdrew1 (brefl wb2))).mono ?_); rintro e wa4 ⟨b54, e54, rfl, ho54, _, _, _, hb54, hk54, hf54⟩; have HO54 := Lib.hid ho54; have HB54 := Lib.hid hb54; have HF54 := Lib.hid hf54; clear ho54 hb54 hf54) | (go_at_call 23; (with_reducible refine (H4Q.out b54 (m4 + 2) e54 _ wa4 HO54.out (Nat.le_trans H4WX.out HB54.out.size) (by omega)).mono ?_); rintro e wb4 ⟨b64, e64, rfl, ho64, _, _, _, hb64, hk64, hf64⟩; have HO64 := Lib.hid ho64; have HB64 := Lib.hid hb64; have HF64 := Lib.hid hf64; clear ho64 hb64 hf64)); refine HK_.out _ _ (kept_of (by repeat (first | exact Kept.refl _ | assumption | refine Kept.trans ?_ (Kept.below (bdrew1 (brefl _))) | refine Kept.trans ?_ (Kept.below (balloc (brefl _) _)) | refine Kept.trans ?_ (by assumption)))) ?_; clear HK_)
      (refine tree_quiet (by simp only [List.getElem?_toArray, List.getElem?_cons_succ, List.getElem?_cons_zero]; rfl) (by rfl) (by rfl) (fun K_ hK_ => ?_); go_big_quiet_op; refine hK_ _ ?_; clear hK_ K_)
      refine tree_nil ?_
      clear hK0_
      have HKY := Lib.hid ((Kept.below (bdrew1 (brefl wb2))).trans (hk54.trans hk64))
      have HFY := Lib.hid ((PutFar.below b4 (bdrew1 (brefl wb2))).trans (HF54.out.trans HF64.out))
      have HBY := Lib.hid (HBW.out.trans (((Below.refl _ wb2).drew.trans HB54.out).trans HB64.out))
      have H2Y := Lib.hid (owns_far HO62.out HFY.out (far_symm HF4.out))
      have HFZ := Lib.hid (far_symm (far_put HFY.out (far_symm HF4.out) (fun q hq => (owns_lt HO62.out q hq).2)))
      have HRY := Lib.hid (HKY.out.ownsE HRW.out (by decide))
      go_wp2_with fail
      go_roundw
      case rel =>
        refine ⟨k + 1, b62, b64, e62, e64, by rw [← HL.out]; exact HLT.out, by go_num, by rw [← HM2.out]; congr 1; omega, by rw [← HM4.out]; congr 1; omega, ?_, ?_, HFZ.out, by rw [← HL.out, ← HAR.out]; exact HRY.out, HBY.out⟩
        · have := H2Y.out
          rw [← HL.out, HT.out, row6]
          rw [show 12 + (k + 1) * 4 = m2 + 2 + 2 by rw [← HM2.out]; omega]
          simpa [List.append_assoc] using this
        · have := HO64.out
          rw [← HL.out, HT.out, row6]
          rw [show 12 + (k + 1) * 6 = m4 + 2 + 4 by rw [← HM4.out]; omega]
          simpa [List.append_assoc] using this
      case measure => simp [intOf]; have := HLT.out; omega
    · have hkL : k = L := by omega
      have hRl' : R.length ≤ 65535 := by rw [← HL.out]; exact hRl
      have e2' : headB 6 4 L ++ (R.take k).flatMap (row6 2) = six 2 R := by rw [hkL, HL.out, List.take_length]; rfl
      have e4' : headB 6 6 L ++ (R.take k).flatMap (row6 4) = six 4 R := by rw [hkL, HL.out, List.take_length]; rfl
      have l2 : 12 + k * 4 = (six 2 R).length := by rw [six_length, hkL, HL.out]
      have l4 : 12 + k * 6 = (six 4 R).length := by rw [six_length, hkL, HL.out]
      have h2 := H2.out
      have h4 := H4.out
      rw [e2', l2] at h2
      rw [e4', l4] at h4
      rw [l2, l4]
      obtain ⟨_, _, hv2, m21, m22, _⟩ := owns_slice h2
      cases hv2
      obtain ⟨_, _, hv4, m41, m42, _⟩ := owns_slice h4
      cases hv4
      have HH2 := Lib.hid (has_of_owns h2)
      have HH4 := Lib.hid (has_of_owns h4)
      have hok2 := six_ok 2 (.inl rfl) R HR.out hRl' 100
      have hok4 := six_ok 4 (.inr rfl) R HR.out hRl' 100
      have hfit := hok2.fit (by decide) (.inl rfl)
      have ht2 := six_tab 2 (.inl rfl) R HR.out hRl'
      have ht4 := six_tab 4 (.inr rfl) R HR.out hRl'
      have HD2 := Lib.hid (fun W hW => lread_some b2 _ e2 (six 2 R) 100 2 100 2 rfl rfl _ W (HH2.out.below hW) rfl m21 m22 (by decide) (by decide) (.inl rfl) hok2)
      have HD4 := Lib.hid (fun W hW => lread_some b4 _ e4 (six 4 R) 100 4 100 4 rfl rfl _ W (HH4.out.below hW) rfl m41 m42 (by decide) (by decide) (.inr rfl) hok4)
      rw [ht2] at hfit HD2
      rw [ht4] at HD4
      have HF := Lib.hid hfit
      clear h2 h4 hok2 hok4 hfit ht2 ht4 e2' e4' l2 l4 hkL hRl' hk
      generalize (tabP R).1 = ps at *
      generalize (tabP R).2 = ns at *
      generalize (six 2 R).length = n2 at *
      generalize (six 4 R).length = n4 at *
      generalize num (six 2 R) 0 2 = f2 at *
      generalize num (six 4 R) 0 2 = f4 at *
      go_wp2_with fail
      refine (HD2.out _ (brefl _)).mono ?_
      rintro e w5 ⟨g2, rfl, ht2, hb5⟩
      have HT2 := Lib.hid ht2
      have HB5 := Lib.hid hb5
      clear ht2 hb5
      go_wp2_with fail
      refine (HD4.out _ HB5.out).mono ?_
      rintro e w6 ⟨g4, rfl, ht4, hb6⟩
      have HT4 := Lib.hid ht4
      have HT2 := Lib.hid (HT2.out.below hb6)
      have HB6 := Lib.hid (HBR.out.trans ((bthen HB5.out hb6).mono HBR.out.size))
      clear ht4 hb6
      have HG2 := Lib.hid (fun (W : World) (hW : Below w6.heap.size w6 W) => get_fn _ g2 _ ps ns id W (HT2.out.below hW) HF.out HID.out)
      have HG4 := Lib.hid (fun (W : World) (hW : Below w6.heap.size w6 W) => get_fn _ g4 _ ps ns id W (HT4.out.below hW) HF.out HID.out)
      have HM2 := Lib.hid (fun (W : World) (hW : Below w6.heap.size w6 W) => most_any _ g2 _ ps ns W (HT2.out.below hW) HF.out)
      have HM4 := Lib.hid (fun (W : World) (hW : Below w6.heap.size w6 W) => most_any _ g4 _ ps ns W (HT4.out.below hW) HF.out)
      generalize ((getL ps ns id).1 : Int) = x at *
      generalize (getL ps ns id).2 = y at *
      generalize mostL (allL ns ps) = mm at *
      go_wp2_with fail
      refine (HG2.out _ (brefl _)).mono ?_
      rintro e w7 ⟨rfl, hb7⟩
      have HB7 := Lib.hid hb7
      clear hb7
      go_wp2_with fail
      refine (HG4.out _ HB7.out).mono ?_
      rintro e w8 ⟨rfl, hb8⟩
      have HB8 := Lib.hid (bthen HB7.out hb8)
      clear hb8
      cases y <;>
      · go_wp2_with fail
        refine (HM2.out _ HB8.out).mono ?_
        rintro e w9 ⟨rfl, hb9⟩
        have HB9 := Lib.hid (bthen HB8.out hb9)
        clear hb9
        go_wp2_with fail
        refine (HM4.out _ HB9.out).mono ?_
        rintro e w10 ⟨rfl, hb10⟩
        have HB10 := Lib.hid (bthen HB9.out hb10)
        clear hb10
        go_wp2_with fail
        go_ret
        exact ⟨rfl, HB6.out.trans (HB10.out.mono HB6.out.size)⟩
end Go.Proofs.Ytajhljgcbafbcaa
