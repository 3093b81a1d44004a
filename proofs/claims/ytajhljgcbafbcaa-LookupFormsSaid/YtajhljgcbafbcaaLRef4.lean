
/- The reference's parts of layer 6: segments whose glyphs have numbers of their own. Conditions: no more than 2000 bytes. -/
import Derived.Test.YtajhljgcbafbcaaLRef
namespace Go.Proofs.Ytajhljgcbafbcaa
open Go.RowKit Go.Lib

/-- The numbers that a part tells of are there, whatever its first and last are. -/
def fitZ (n : Nat) (r : RP) : Prop := fitK n 2 (r.at_ : Int) ((r.last : Int) - (r.first : Int) + 1) (r.size : Int)
def SgRel4 (W : World) (n : Nat) (rs : List RP) (ok out i : Value) (wr : World) : Prop :=
  ∃ (okb : Bool) (k : Nat) (a' : Option Addr) (c' : Nat), k ≤ rs.length ∧ i = .int .i64 (k : Nat) ∧ ok = .bool okb ∧ out = .slice a' k c' ∧ wr.ownsRow W.heap.size 87 5 out k (encRs (rs.take k)) ∧ k ≤ c' ∧ c' ≤ maxLen ∧
    ((okb = true → ∀ (i : Nat) (r : RP), (rs.take k)[i]? = some r → fitZ n r) ∧ (okb = false → ∃ (i : Nat) (r : RP), i < k ∧ rs[i]? = some r ∧ ¬ fitZ n r)) ∧ Below W.heap.size W wr
set_option maxRecDepth 100000 in
set_option maxHeartbeats 3200000 in
theorem segs_true (a : Option Addr) (n c : Nat) (bs : List UInt8) (S : Nat) (zs : Int) (hzs : zs = (S : Nat)) (hS : S = 2 ∨ S = 4) (w : World) (h : Has w a (bytesV bs)) (hl : bs.length = n) (hn : n ≤ c) (hc : c ≤ maxLen) (h20 : n ≤ 2000) :
    Calls Try.prog 71 #[.slice a n c, .int .i64 zs, .bool true] w (PartsRes (fun rs okb => (okb = true → skOk bs 2 6 ∧ rs = rows4 bs S (skM bs 2 2) ∧ ∀ r ∈ rs, fitZ n r) ∧ (okb = false → ¬ skOk bs 2 6 ∨ ∃ r ∈ rows4 bs S (skM bs 2 2), ¬ fitZ n r)) w) := by
  have hAC := allocC
  have hAF := allocF
  subst hzs
  have HR := Lib.hid (sref_z a n c bs 6 2 6 2 rfl rfl w h hl hn hc h20 (by omega) (by omega) (by decide) (by omega))
  have HH := Lib.hid h
  have HL := Lib.hid hl
  clear h hl
  go_enter Try.func71, Try.ntmps71
  go_wp2_with fail
  refine HR.out.mono ?_
  rintro e w2 ⟨(⟨a2, c2, hok, rfl, hrow, q1, q2⟩ | ⟨hno, rfl⟩), hb2⟩
  case inr =>
    have HB2 := Lib.hid hb2
    have HNO := Lib.hid hno
    clear hb2 hno HR
    go_wp2_with fail
    go_loopw [11, 12, 13] (fun ok out i wr => ok = .bool false ∧ (∃ x y, out = .slice x 0 y ∧ y ≤ maxLen) ∧ i = .int .i64 0 ∧ Below w2.heap.size w2 wr) (fun _ _ _ _ => 0)
    case atStart => exact ⟨rfl, ⟨_, _, rfl, Nat.zero_le _⟩, rfl, (by repeat (first | exact brefl _ | assumption | refine balloc ?_ _ | refine bdrew ?_ _ | refine bdrew1 ?_ | refine bthen ?_ (by assumption) | refine Below.trans ?_ (by assumption) | (refine bset ?_ (by first | (simp; done) | (simp; omega)) _)))⟩
    case round =>
      obtain ⟨rfl, ⟨x, y, rfl, hy⟩, rfl, hbr⟩ := hrel
      have HBR := Lib.hid (HB2.out.trans (hbr.mono HB2.out.size))
      clear hbr
      go_wp2_with fail
      go_ret2
      exact ⟨⟨[], false, _, _, rfl, fun j u hu => (by simp [encRs] at hu), Nat.zero_le _, hy, Nat.zero_le _, fun hx => (by cases hx), fun _ => .inl HNO.out⟩, HBR.out⟩
  have HOK := Lib.hid hok
  have HB2 := Lib.hid hb2
  have HROW := Lib.hid hrow
  have hMN : skM bs 2 2 ≤ skN bs 2 := by unfold skM; split <;> omega
  have hM7 : skM bs 2 2 ≤ 65535 := Nat.le_trans hMN (num2_lt _ _)
  have hfit := hok.rows
  have hsz := hok.size
  rw [HL.out] at hfit
  have HRS := Lib.hid (show ∀ j, j < skM bs 2 2 → (rows4 bs S (skM bs 2 2))[j]? = some ⟨num bs (12 + j * skS bs 2 + 2) 2, num bs (12 + j * skS bs 2) 2, num bs (12 + j * skS bs 2 + 4) 2, S, true⟩ from fun j hj => by simp [rows4, List.getElem?_map, List.getElem?_range hj])
  have HLEN := Lib.hid (show (rows4 bs S (skM bs 2 2)).length = skM bs 2 2 from by simp [rows4])
  clear hok hb2 hrow HR
  generalize hrs : rows4 bs S (skM bs 2 2) = rs at *
  have HRE := Lib.hid hrs
  clear hrs
  generalize hMM : skM bs 2 2 = M at *
  have HMM := Lib.hid hMM
  clear hMM
  generalize skS bs 2 = q at *
  generalize skN bs 2 = N at *
  have HFIT := Lib.hid (show ∀ j, j < M → 12 + j * q + q ≤ n from fun j hj => by
    have : j * q + q ≤ N * q := by rw [← Nat.succ_mul]; exact Nat.mul_le_mul_right _ (by omega)
    omega)
  clear hfit hMN
  go_wp2_with fail
  go_loopw [11, 12, 13] (SgRel4 w2 n rs) (fun _ _ i _ => M - (intOf i).toNat)
  case atStart => exact ⟨true, 0, _, _, Nat.zero_le _, rfl, rfl, rfl, World.ownsRow_lit w2 #[] 0 (Nat.le_refl _) (by decide) rfl, Nat.le_refl _, Nat.zero_le _, ⟨fun _ i r hi => (by simp at hi), fun hx => (by cases hx)⟩, (by repeat (first | exact brefl _ | assumption | refine balloc ?_ _ | refine bdrew ?_ _ | refine bdrew1 ?_ | refine bthen ?_ (by assumption) | refine Below.trans ?_ (by assumption) | (refine bset ?_ (by first | (simp; done) | (simp; omega)) _)))⟩
  case round =>
    obtain ⟨okb, k, a3, c3, hk, rfl, rfl, rfl, hown, o1, o2, hokb, hbr⟩ := hrel
    rw [HLEN.out] at hk
    have HOW := Lib.hid hown
    have HBR := Lib.hid hbr
    have HBX := Lib.hid (HB2.out.trans (hbr.mono HB2.out.size))
    have HOKB := Lib.hid hokb
    clear hown hbr hokb
    by_cases hlt : k < M
    · cases okb with
      | false =>
        go_wp2_with fail
        go_ret2
        obtain ⟨j, r, hj, hr, hx⟩ := HOKB.out.2 (by simp)
        have hle : (rs.take k).length = k := by rw [List.length_take, HLEN.out]; omega
        exact ⟨⟨rs.take k, false, a3, c3, by rw [hle]; rfl, has_of_owns HOW.out, by rw [hle]; exact o1, o2, by rw [hle]; omega, fun hx => (by cases hx), fun _ => .inr ⟨r, by rw [HMM.out, HRE.out]; exact List.mem_of_getElem? hr, hx⟩⟩, HBX.out⟩
      | true =>
      have hp := HFIT.out k hlt
      have HRK := Lib.hid (HRS.out k hlt)
      have HLT := Lib.hid hlt
      have hkp : (intsV (placesV 2 q M))[k]? = some (.int .i64 ((12 + k * q : Nat) : Int)) := by simp [intsV, placesV, List.getElem?_map, List.getElem?_range hlt]
      obtain ⟨ar, har, hcr⟩ := (HROW.out.below HBR.out) k _ hkp
      have hcw : ∀ pp : Wld wr [], pp.val.cell? (ar.add k) = some (.int .i64 ((12 + k * q : Nat) : Int)) := fun pp => by
        obtain ⟨x, hx, hc⟩ := has_wld (HROW.out.below HBR.out) pp k _ hkp
        rw [har] at hx
        cases hx
        exact hc
      clear hkp
      have HU2 := Lib.hid (fun W hw => u2_z a n c (12 + k * q + 2) (((12 + k * q : Nat) : Int) + 2) (by omega) bs W hw HL.out (by omega) (Nat.le_trans hn hc))
      have HU0 := Lib.hid (fun W hw => u2_z a n c (12 + k * q) (((12 + k * q : Nat) : Int)) rfl bs W hw HL.out (by omega) (Nat.le_trans hn hc))
      have HU4 := Lib.hid (fun W hw => u2_z a n c (12 + k * q + 4) (((12 + k * q : Nat) : Int) + 4) (by omega) bs W hw HL.out (by omega) (Nat.le_trans hn hc))
      have hf4l := num2_lt bs (12 + k * q + 4)
      have hf1l := num2_lt bs (12 + k * q + 2)
      have hf2l := num2_lt bs (12 + k * q)
      have HHR := Lib.hid (HH.out.below HBX.out)
      generalize hf1 : num bs (12 + k * q + 2) 2 = f1 at *
      generalize hf2 : num bs (12 + k * q) 2 = f2 at *
      generalize hf4 : num bs (12 + k * q + 4) 2 = f4 at *
      generalize hpp : 12 + k * q = p at *
      have HAR := Lib.hid har
      subst har
      clear hf1 hf2 hf4 hpp
      go_wp2_with fail
      apply cutP (R := ∀ (g_ : Nat) (x_ : Nat → Value) (W_ : World), (fun gp V => Below wr.heap.size wr V ∧ wr.heap.size ≤ gp ∧ gp < V.heap.size ∧ V.heap[gp]? = some (.cells #[.int .i64 (f1 : Nat), .int .i64 (f2 : Nat), .int .i64 ((p : Int) + 4), .int .i64 (S : Nat), .int .i64 0] 87 (0, 0))) g_ W_ → _)
      · intro hfin_
        refine wp_region_tree (.step 0 (.step 1 (.step 2 (.step 3 (.step 4 (.step 5 (.step 7 (.step 8 (.step 9 (.step 10 (.step 11 (.step 13 (.step 14 (.step 15 (.step 16 (.step 17 (.step 18 (.two 6 (.two 12 (.step 19 (.step 20 (.step 21 .nil))) 20 (.step 12 (.step 19 (.step 21 .nil)))) 20 (.step 6 (.step 12 (.step 19 (.step 21 .nil)))))))))))))))))))))) (by kernel_rfl) (by kernel_rfl) (by kernel_rfl) (by kernel_rfl) (by intro _ _ d_ _ _ h_; cases d_ <;> first | exact h_ | (dsimp +zetaDelta only at h_ ⊢; exact h_)) (fun w' => ∃ p : Wld wr [], w' = p.val) (wld_start _ _) ?_
        have hG_ := @wldC wr
        (refine tree_quiet (by simp only [List.getElem?_toArray, List.getElem?_cons_succ, List.getElem?_cons_zero]; rfl) (by rfl) (by rfl) (fun K_ hK_ => ?_); go_big_quiet_op; refine hK_ _ ?_; clear hK_ K_)
        (refine tree_quiet (by simp only [List.getElem?_toArray, List.getElem?_cons_succ, List.getElem?_cons_zero]; rfl) (by rfl) (by rfl) (fun K_ hK_ => ?_); go_big_quiet_op; refine hK_ _ ?_; clear hK_ K_)
        (refine tree_quiet (by simp only [List.getElem?_toArray, List.getElem?_cons_succ, List.getElem?_cons_zero]; rfl) (by rfl) (by rfl) (fun K_ hK_ => ?_); go_big_quiet_op; refine hK_ _ ?_; clear hK_ K_)
        (refine tree_quiet (by simp only [List.getElem?_toArray, List.getElem?_cons_succ, List.getElem?_cons_zero]; rfl) (by rfl) (by rfl) (fun K_ hK_ => ?_); go_big_quiet_op; refine hK_ _ ?_; clear hK_ K_)
        (refine tree_quiet (by simp only [List.getElem?_toArray, List.getElem?_cons_succ, List.getElem?_cons_zero]; rfl) (by rfl) (by rfl) (fun K_ hK_ => ?_); go_big_quiet_op; refine hK_ _ ?_; clear hK_ K_)
        (refine tree_quiet (by simp only [List.getElem?_toArray, List.getElem?_cons_succ, List.getElem?_cons_zero]; rfl) (by rfl) (by rfl) (fun K_ hK_ => ?_); go_big_quiet_op; refine hK_ _ ?_; clear hK_ K_)
        (refine tree_quiet (by simp only [List.getElem?_toArray, List.getElem?_cons_succ, List.getElem?_cons_zero]; rfl) (by rfl) (by rfl) (fun K_ hK_ => ?_); go_big_quiet_op; refine hK_ _ ?_; clear hK_ K_)
        (refine tree_quiet (by simp only [List.getElem?_toArray, List.getElem?_cons_succ, List.getElem?_cons_zero]; rfl) (by rfl) (by rfl) (fun K_ hK_ => ?_); go_big_quiet_op; refine hK_ _ ?_; clear hK_ K_)
        (refine tree_quiet (by simp only [List.getElem?_toArray, List.getElem?_cons_succ, List.getElem?_cons_zero]; rfl) (by rfl) (by rfl) (fun K_ hK_ => ?_); go_big_quiet_op; refine hK_ _ ?_; clear hK_ K_)
        (refine tree_quiet (by simp only [List.getElem?_toArray, List.getElem?_cons_succ, List.getElem?_cons_zero]; rfl) (by rfl) (by rfl) (fun K_ hK_ => ?_); go_big_quiet_op; refine hK_ _ ?_; clear hK_ K_)
        (refine tree_quiet (by simp only [List.getElem?_toArray, List.getElem?_cons_succ, List.getElem?_cons_zero]; rfl) (by rfl) (by rfl) (fun K_ hK_ => ?_); go_big_quiet_op; refine hK_ _ ?_; clear hK_ K_)
        (refine tree_quiet (by simp only [List.getElem?_toArray, List.getElem?_cons_succ, List.getElem?_cons_zero]; rfl) (by rfl) (by rfl) (fun K_ hK_ => ?_); go_big_quiet_op; refine hK_ _ ?_; clear hK_ K_)
        (refine tree_quiet (by simp only [List.getElem?_toArray, List.getElem?_cons_succ, List.getElem?_cons_zero]; rfl) (by rfl) (by rfl) (fun K_ hK_ => ?_); go_big_quiet_op; refine hK_ _ ?_; clear hK_ K_)
        (refine tree_quiet (by simp only [List.getElem?_toArray, List.getElem?_cons_succ, List.getElem?_cons_zero]; rfl) (by rfl) (by rfl) (fun K_ hK_ => ?_); go_big_quiet_op; refine hK_ _ ?_; clear hK_ K_)
        (refine tree_quiet (by simp only [List.getElem?_toArray, List.getElem?_cons_succ, List.getElem?_cons_zero]; rfl) (by rfl) (by rfl) (fun K_ hK_ => ?_); go_big_quiet_op; refine hK_ _ ?_; clear hK_ K_)
        (refine tree_quiet (by simp only [List.getElem?_toArray, List.getElem?_cons_succ, List.getElem?_cons_zero]; rfl) (by rfl) (by rfl) (fun K_ hK_ => ?_); go_big_quiet_op; refine hK_ _ ?_; clear hK_ K_)
        (refine tree_quiet (by simp only [List.getElem?_toArray, List.getElem?_cons_succ, List.getElem?_cons_zero]; rfl) (by rfl) (by rfl) (fun K_ hK_ => ?_); go_big_quiet_op; refine hK_ _ ?_; clear hK_ K_)
        refine tree_two (by simp only [List.getElem?_toArray, List.getElem?_cons_succ, List.getElem?_cons_zero]; rfl) (by simp only [List.getElem?_toArray, List.getElem?_cons_succ, List.getElem?_cons_zero]; rfl) (by rfl) (by rfl) (fun K_ hK_ => ?_) (fun K_ hK_ => ?_)
        · have HK_ := Lib.hid hK_; clear hK_; go_wp2_with (first | (go_at_call 62; (with_reducible refine (HU2.out _ (HHR.out.below (by exact (by repeat (first | exact brefl _ | assumption | refine balloc ?_ _ | refine bdrew ?_ _ | refine bdrew1 ?_ | refine bthen ?_ (by assumption) | refine Below.trans ?_ (by assumption) | (refine bset ?_ (by first | (simp; done) | (simp; omega)) _)))))).mono ?_); rintro e w_ ⟨rfl, rfl⟩) | (go_at_call 62; (with_reducible refine (HU0.out _ (HHR.out.below (by exact (by repeat (first | exact brefl _ | assumption | refine balloc ?_ _ | refine bdrew ?_ _ | refine bdrew1 ?_ | refine bthen ?_ (by assumption) | refine Below.trans ?_ (by assumption) | (refine bset ?_ (by first | (simp; done) | (simp; omega)) _)))))).mono ?_); rintro e w_ ⟨rfl, rfl⟩)); refine HK_.out _ _ (wld_of (by repeat (first | exact same_below (brefl _) | exact same_realloc (by simp) | exact same_below (bdrew1 (brefl _)) | assumption | refine same_drew ?_ | refine same_then ?_ (by assumption) | refine same_alloc ?_ _ | (refine same_set ?_ (by first | (left; simp; done) | (right; simp; done) | (right; simp; omega)) _)))) ?_; clear HK_
          refine tree_two (by simp only [List.getElem?_toArray, List.getElem?_cons_succ, List.getElem?_cons_zero]; rfl) (by simp only [List.getElem?_toArray, List.getElem?_cons_succ, List.getElem?_cons_zero]; rfl) (by rfl) (by rfl) (fun K_ hK_ => ?_) (fun K_ hK_ => ?_)
          · have HK_ := Lib.hid hK_; clear hK_; go_wp2_with (first | (go_at_call 62; (with_reducible refine (HU2.out _ (HHR.out.below (by exact (by repeat (first | exact brefl _ | assumption | refine balloc ?_ _ | refine bdrew ?_ _ | refine bdrew1 ?_ | refine bthen ?_ (by assumption) | refine Below.trans ?_ (by assumption) | (refine bset ?_ (by first | (simp; done) | (simp; omega)) _)))))).mono ?_); rintro e w_ ⟨rfl, rfl⟩) | (go_at_call 62; (with_reducible refine (HU0.out _ (HHR.out.below (by exact (by repeat (first | exact brefl _ | assumption | refine balloc ?_ _ | refine bdrew ?_ _ | refine bdrew1 ?_ | refine bthen ?_ (by assumption) | refine Below.trans ?_ (by assumption) | (refine bset ?_ (by first | (simp; done) | (simp; omega)) _)))))).mono ?_); rintro e w_ ⟨rfl, rfl⟩)); refine HK_.out _ _ (wld_of (by repeat (first | exact same_below (brefl _) | exact same_realloc (by simp) | exact same_below (bdrew1 (brefl _)) | assumption | refine same_drew ?_ | refine same_then ?_ (by assumption) | refine same_alloc ?_ _ | (refine same_set ?_ (by first | (left; simp; done) | (right; simp; done) | (right; simp; omega)) _)))) ?_; clear HK_
            (refine tree_quiet (by simp only [List.getElem?_toArray, List.getElem?_cons_succ, List.getElem?_cons_zero]; rfl) (by rfl) (by rfl) (fun K_ hK_ => ?_); go_big_quiet_op; refine hK_ _ ?_; clear hK_ K_)
            (refine tree_run (by simp only [List.getElem?_toArray, List.getElem?_cons_succ, List.getElem?_cons_zero]; rfl) (by rfl) (by rfl) (fun K_ hK_ => ?_); have HK_ := Lib.hid hK_; clear hK_; go_wp2_with (first | (go_at_call 62; (with_reducible refine (HU2.out _ (HHR.out.below (by exact (by repeat (first | exact brefl _ | assumption | refine balloc ?_ _ | refine bdrew ?_ _ | refine bdrew1 ?_ | refine bthen ?_ (by assumption) | refine Below.trans ?_ (by assumption) | (refine bset ?_ (by first | (simp; done) | (simp; omega)) _)))))).mono ?_); rintro e w_ ⟨rfl, rfl⟩) | (go_at_call 62; (with_reducible refine (HU0.out _ (HHR.out.below (by exact (by repeat (first | exact brefl _ | assumption | refine balloc ?_ _ | refine bdrew ?_ _ | refine bdrew1 ?_ | refine bthen ?_ (by assumption) | refine Below.trans ?_ (by assumption) | (refine bset ?_ (by first | (simp; done) | (simp; omega)) _)))))).mono ?_); rintro e w_ ⟨rfl, rfl⟩)); refine HK_.out _ _ (wld_of (by repeat (first | exact same_below (brefl _) | exact same_realloc (by simp) | exact same_below (bdrew1 (brefl _)) | assumption | refine same_drew ?_ | refine same_then ?_ (by assumption) | refine same_alloc ?_ _ | (refine same_set ?_ (by first | (left; simp; done) | (right; simp; done) | (right; simp; omega)) _)))) ?_; clear HK_)
            (refine tree_run (by simp only [List.getElem?_toArray, List.getElem?_cons_succ, List.getElem?_cons_zero]; rfl) (by rfl) (by rfl) (fun K_ hK_ => ?_); have HK_ := Lib.hid hK_; clear hK_; go_wp2_with (first | (go_at_call 62; (with_reducible refine (HU2.out _ (HHR.out.below (by exact (by repeat (first | exact brefl _ | assumption | refine balloc ?_ _ | refine bdrew ?_ _ | refine bdrew1 ?_ | refine bthen ?_ (by assumption) | refine Below.trans ?_ (by assumption) | (refine bset ?_ (by first | (simp; done) | (simp; omega)) _)))))).mono ?_); rintro e w_ ⟨rfl, rfl⟩) | (go_at_call 62; (with_reducible refine (HU0.out _ (HHR.out.below (by exact (by repeat (first | exact brefl _ | assumption | refine balloc ?_ _ | refine bdrew ?_ _ | refine bdrew1 ?_ | refine bthen ?_ (by assumption) | refine Below.trans ?_ (by assumption) | (refine bset ?_ (by first | (simp; done) | (simp; omega)) _)))))).mono ?_); rintro e w_ ⟨rfl, rfl⟩)); refine HK_.out _ _ (wld_of (by repeat (first | exact same_below (brefl _) | exact same_realloc (by simp) | exact same_below (bdrew1 (brefl _)) | assumption | refine same_drew ?_ | refine same_then ?_ (by assumption) | refine same_alloc ?_ _ | (refine same_set ?_ (by first | (left; simp; done) | (right; simp; done) | (right; simp; omega)) _)))) ?_; clear HK_)
            refine tree_nil ?_
            refine leaf_any 14 [] (fun gp V => Below wr.heap.size wr V ∧ wr.heap.size ≤ gp ∧ gp < V.heap.size ∧ V.heap[gp]? = some (.cells #[.int .i64 (f1 : Nat), .int .i64 (f2 : Nat), .int .i64 ((p : Int) + 4), .int .i64 (S : Nat), .int .i64 0] 87 (0, 0))) _ (by rfl) (by first | (simp only [blank, List.setIfInBounds_toArray, List.set_cons_succ, List.set_cons_zero]; rfl) | simp only [blank, List.setIfInBounds_toArray, List.set_cons_succ, List.set_cons_zero]) (hfin_ ()) ?_
            exact ⟨(by repeat (first | exact brefl _ | assumption | refine balloc ?_ _ | refine bdrew ?_ _ | refine bdrew1 ?_ | refine bthen ?_ (by assumption) | refine Below.trans ?_ (by assumption) | (refine bset ?_ (by first | (simp; done) | (simp; omega)) _))), Nat.le_refl _, (by simp), (by show (wr.alloc _).heap[wr.heap.size]? = _; rw [heap_push, if_pos rfl])⟩
          · have HK_ := Lib.hid hK_; clear hK_; go_wp2_with (first | (go_at_call 62; (with_reducible refine (HU2.out _ (HHR.out.below (by exact (by repeat (first | exact brefl _ | assumption | refine balloc ?_ _ | refine bdrew ?_ _ | refine bdrew1 ?_ | refine bthen ?_ (by assumption) | refine Below.trans ?_ (by assumption) | (refine bset ?_ (by first | (simp; done) | (simp; omega)) _)))))).mono ?_); rintro e w_ ⟨rfl, rfl⟩) | (go_at_call 62; (with_reducible refine (HU0.out _ (HHR.out.below (by exact (by repeat (first | exact brefl _ | assumption | refine balloc ?_ _ | refine bdrew ?_ _ | refine bdrew1 ?_ | refine bthen ?_ (by assumption) | refine Below.trans ?_ (by assumption) | (refine bset ?_ (by first | (simp; done) | (simp; omega)) _)))))).mono ?_); rintro e w_ ⟨rfl, rfl⟩)); refine HK_.out _ _ (wld_of (by repeat (first | exact same_below (brefl _) | exact same_realloc (by simp) | exact same_below (bdrew1 (brefl _)) | assumption | refine same_drew ?_ | refine same_then ?_ (by assumption) | refine same_alloc ?_ _ | (refine same_set ?_ (by first | (left; simp; done) | (right; simp; done) | (right; simp; omega)) _)))) ?_; clear HK_
            (refine tree_run (by simp only [List.getElem?_toArray, List.getElem?_cons_succ, List.getElem?_cons_zero]; rfl) (by rfl) (by rfl) (fun K_ hK_ => ?_); have HK_ := Lib.hid hK_; clear hK_; go_wp2_with (first | (go_at_call 62; (with_reducible refine (HU2.out _ (HHR.out.below (by exact (by repeat (first | exact brefl _ | assumption | refine balloc ?_ _ | refine bdrew ?_ _ | refine bdrew1 ?_ | refine bthen ?_ (by assumption) | refine Below.trans ?_ (by assumption) | (refine bset ?_ (by first | (simp; done) | (simp; omega)) _)))))).mono ?_); rintro e w_ ⟨rfl, rfl⟩) | (go_at_call 62; (with_reducible refine (HU0.out _ (HHR.out.below (by exact (by repeat (first | exact brefl _ | assumption | refine balloc ?_ _ | refine bdrew ?_ _ | refine bdrew1 ?_ | refine bthen ?_ (by assumption) | refine Below.trans ?_ (by assumption) | (refine bset ?_ (by first | (simp; done) | (simp; omega)) _)))))).mono ?_); rintro e w_ ⟨rfl, rfl⟩)); refine HK_.out _ _ (wld_of (by repeat (first | exact same_below (brefl _) | exact same_realloc (by simp) | exact same_below (bdrew1 (brefl _)) | assumption | refine same_drew ?_ | refine same_then ?_ (by assumption) | refine same_alloc ?_ _ | (refine same_set ?_ (by first | (left; simp; done) | (right; simp; done) | (right; simp; omega)) _)))) ?_; clear HK_)
            (refine tree_quiet (by simp only [List.getElem?_toArray, List.getElem?_cons_succ, List.getElem?_cons_zero]; rfl) (by rfl) (by rfl) (fun K_ hK_ => ?_); go_big_quiet_op; refine hK_ _ ?_; clear hK_ K_)
            (refine tree_run (by simp only [List.getElem?_toArray, List.getElem?_cons_succ, List.getElem?_cons_zero]; rfl) (by rfl) (by rfl) (fun K_ hK_ => ?_); have HK_ := Lib.hid hK_; clear hK_; go_wp2_with (first | (go_at_call 62; (with_reducible refine (HU2.out _ (HHR.out.below (by exact (by repeat (first | exact brefl _ | assumption | refine balloc ?_ _ | refine bdrew ?_ _ | refine bdrew1 ?_ | refine bthen ?_ (by assumption) | refine Below.trans ?_ (by assumption) | (refine bset ?_ (by first | (simp; done) | (simp; omega)) _)))))).mono ?_); rintro e w_ ⟨rfl, rfl⟩) | (go_at_call 62; (with_reducible refine (HU0.out _ (HHR.out.below (by exact (by repeat (first | exact brefl _ | assumption | refine balloc ?_ _ | refine bdrew ?_ _ | refine bdrew1 ?_ | refine bthen ?_ (by assumption) | refine Below.trans ?_ (by assumption) | (refine bset ?_ (by first | (simp; done) | (simp; omega)) _)))))).mono ?_); rintro e w_ ⟨rfl, rfl⟩)); refine HK_.out _ _ (wld_of (by repeat (first | exact same_below (brefl _) | exact same_realloc (by simp) | exact same_below (bdrew1 (brefl _)) | assumption | refine same_drew ?_ | refine same_then ?_ (by assumption) | refine same_alloc ?_ _ | (refine same_set ?_ (by first | (left; simp; done) | (right; simp; done) | (right; simp; omega)) _)))) ?_; clear HK_)
            refine tree_nil ?_
            refine leaf_any 14 [] (fun gp V => Below wr.heap.size wr V ∧ wr.heap.size ≤ gp ∧ gp < V.heap.size ∧ V.heap[gp]? = some (.cells #[.int .i64 (f1 : Nat), .int .i64 (f2 : Nat), .int .i64 ((p : Int) + 4), .int .i64 (S : Nat), .int .i64 0] 87 (0, 0))) _ (by rfl) (by first | (simp only [blank, List.setIfInBounds_toArray, List.set_cons_succ, List.set_cons_zero]; rfl) | simp only [blank, List.setIfInBounds_toArray, List.set_cons_succ, List.set_cons_zero]) (hfin_ ()) ?_
            exact ⟨(by repeat (first | exact brefl _ | assumption | refine balloc ?_ _ | refine bdrew ?_ _ | refine bdrew1 ?_ | refine bthen ?_ (by assumption) | refine Below.trans ?_ (by assumption) | (refine bset ?_ (by first | (simp; done) | (simp; omega)) _))), Nat.le_refl _, (by simp), (by show (wr.alloc _).heap[wr.heap.size]? = _; rw [heap_push, if_pos rfl])⟩
        · have HK_ := Lib.hid hK_; clear hK_; go_wp2_with (first | (go_at_call 62; (with_reducible refine (HU2.out _ (HHR.out.below (by exact (by repeat (first | exact brefl _ | assumption | refine balloc ?_ _ | refine bdrew ?_ _ | refine bdrew1 ?_ | refine bthen ?_ (by assumption) | refine Below.trans ?_ (by assumption) | (refine bset ?_ (by first | (simp; done) | (simp; omega)) _)))))).mono ?_); rintro e w_ ⟨rfl, rfl⟩) | (go_at_call 62; (with_reducible refine (HU0.out _ (HHR.out.below (by exact (by repeat (first | exact brefl _ | assumption | refine balloc ?_ _ | refine bdrew ?_ _ | refine bdrew1 ?_ | refine bthen ?_ (by assumption) | refine Below.trans ?_ (by assumption) | (refine bset ?_ (by first | (simp; done) | (simp; omega)) _)))))).mono ?_); rintro e w_ ⟨rfl, rfl⟩)); refine HK_.out _ _ (wld_of (by repeat (first | exact same_below (brefl _) | exact same_realloc (by simp) | exact same_below (bdrew1 (brefl _)) | assumption | refine same_drew ?_ | refine same_then ?_ (by assumption) | refine same_alloc ?_ _ | (refine same_set ?_ (by first | (left; simp; done) | (right; simp; done) | (right; simp; omega)) _)))) ?_; clear HK_
          (refine tree_run (by simp only [List.getElem?_toArray, List.getElem?_cons_succ, List.getElem?_cons_zero]; rfl) (by rfl) (by rfl) (fun K_ hK_ => ?_); have HK_ := Lib.hid hK_; clear hK_; go_wp2_with (first | (go_at_call 62; (with_reducible refine (HU2.out _ (HHR.out.below (by exact (by repeat (first | exact brefl _ | assumption | refine balloc ?_ _ | refine bdrew ?_ _ | refine bdrew1 ?_ | refine bthen ?_ (by assumption) | refine Below.trans ?_ (by assumption) | (refine bset ?_ (by first | (simp; done) | (simp; omega)) _)))))).mono ?_); rintro e w_ ⟨rfl, rfl⟩) | (go_at_call 62; (with_reducible refine (HU0.out _ (HHR.out.below (by exact (by repeat (first | exact brefl _ | assumption | refine balloc ?_ _ | refine bdrew ?_ _ | refine bdrew1 ?_ | refine bthen ?_ (by assumption) | refine Below.trans ?_ (by assumption) | (refine bset ?_ (by first | (simp; done) | (simp; omega)) _)))))).mono ?_); rintro e w_ ⟨rfl, rfl⟩)); refine HK_.out _ _ (wld_of (by repeat (first | exact same_below (brefl _) | exact same_realloc (by simp) | exact same_below (bdrew1 (brefl _)) | assumption | refine same_drew ?_ | refine same_then ?_ (by assumption) | refine same_alloc ?_ _ | (refine same_set ?_ (by first | (left; simp; done) | (right; simp; done) | (right; simp; omega)) _)))) ?_; clear HK_)
          (refine tree_run (by simp only [List.getElem?_toArray, List.getElem?_cons_succ, List.getElem?_cons_zero]; rfl) (by rfl) (by rfl) (fun K_ hK_ => ?_); have HK_ := Lib.hid hK_; clear hK_; go_wp2_with (first | (go_at_call 62; (with_reducible refine (HU2.out _ (HHR.out.below (by exact (by repeat (first | exact brefl _ | assumption | refine balloc ?_ _ | refine bdrew ?_ _ | refine bdrew1 ?_ | refine bthen ?_ (by assumption) | refine Below.trans ?_ (by assumption) | (refine bset ?_ (by first | (simp; done) | (simp; omega)) _)))))).mono ?_); rintro e w_ ⟨rfl, rfl⟩) | (go_at_call 62; (with_reducible refine (HU0.out _ (HHR.out.below (by exact (by repeat (first | exact brefl _ | assumption | refine balloc ?_ _ | refine bdrew ?_ _ | refine bdrew1 ?_ | refine bthen ?_ (by assumption) | refine Below.trans ?_ (by assumption) | (refine bset ?_ (by first | (simp; done) | (simp; omega)) _)))))).mono ?_); rintro e w_ ⟨rfl, rfl⟩)); refine HK_.out _ _ (wld_of (by repeat (first | exact same_below (brefl _) | exact same_realloc (by simp) | exact same_below (bdrew1 (brefl _)) | assumption | refine same_drew ?_ | refine same_then ?_ (by assumption) | refine same_alloc ?_ _ | (refine same_set ?_ (by first | (left; simp; done) | (right; simp; done) | (right; simp; omega)) _)))) ?_; clear HK_)
          (refine tree_quiet (by simp only [List.getElem?_toArray, List.getElem?_cons_succ, List.getElem?_cons_zero]; rfl) (by rfl) (by rfl) (fun K_ hK_ => ?_); go_big_quiet_op; refine hK_ _ ?_; clear hK_ K_)
          (refine tree_run (by simp only [List.getElem?_toArray, List.getElem?_cons_succ, List.getElem?_cons_zero]; rfl) (by rfl) (by rfl) (fun K_ hK_ => ?_); have HK_ := Lib.hid hK_; clear hK_; go_wp2_with (first | (go_at_call 62; (with_reducible refine (HU2.out _ (HHR.out.below (by exact (by repeat (first | exact brefl _ | assumption | refine balloc ?_ _ | refine bdrew ?_ _ | refine bdrew1 ?_ | refine bthen ?_ (by assumption) | refine Below.trans ?_ (by assumption) | (refine bset ?_ (by first | (simp; done) | (simp; omega)) _)))))).mono ?_); rintro e w_ ⟨rfl, rfl⟩) | (go_at_call 62; (with_reducible refine (HU0.out _ (HHR.out.below (by exact (by repeat (first | exact brefl _ | assumption | refine balloc ?_ _ | refine bdrew ?_ _ | refine bdrew1 ?_ | refine bthen ?_ (by assumption) | refine Below.trans ?_ (by assumption) | (refine bset ?_ (by first | (simp; done) | (simp; omega)) _)))))).mono ?_); rintro e w_ ⟨rfl, rfl⟩)); refine HK_.out _ _ (wld_of (by repeat (first | exact same_below (brefl _) | exact same_realloc (by simp) | exact same_below (bdrew1 (brefl _)) | assumption | refine same_drew ?_ | refine same_then ?_ (by assumption) | refine same_alloc ?_ _ | (refine same_set ?_ (by first | (left; simp; done) | (right; simp; done) | (right; simp; omega)) _)))) ?_; clear HK_)
          refine tree_nil ?_
          refine leaf_any 14 [] (fun gp V => Below wr.heap.size wr V ∧ wr.heap.size ≤ gp ∧ gp < V.heap.size ∧ V.heap[gp]? = some (.cells #[.int .i64 (f1 : Nat), .int .i64 (f2 : Nat), .int .i64 ((p : Int) + 4), .int .i64 (S : Nat), .int .i64 0] 87 (0, 0))) _ (by rfl) (by first | (simp only [blank, List.setIfInBounds_toArray, List.set_cons_succ, List.set_cons_zero]; rfl) | simp only [blank, List.setIfInBounds_toArray, List.set_cons_succ, List.set_cons_zero]) (hfin_ ()) ?_
          exact ⟨(by repeat (first | exact brefl _ | assumption | refine balloc ?_ _ | refine bdrew ?_ _ | refine bdrew1 ?_ | refine bthen ?_ (by assumption) | refine Below.trans ?_ (by assumption) | (refine bset ?_ (by first | (simp; done) | (simp; omega)) _))), Nat.le_refl _, (by simp), (by show (wr.alloc _).heap[wr.heap.size]? = _; rw [heap_push, if_pos rfl])⟩
      intro gp x V ⟨hV, _, hgp2, hgp⟩
      simp only [fill, List.setIfInBounds_toArray, List.set_cons_succ, List.set_cons_zero]
      have p0 := cell_of_heap hgp 0
      have p1 := cell_of_heap hgp 1
      have p2 := cell_of_heap hgp 2
      have p3 := cell_of_heap hgp 3
      have p4 := cell_of_heap hgp 4
      have pf := fun o => froz_of_heap hgp o
      simp only [List.getElem?_toArray, List.getElem?_cons_succ, List.getElem?_cons_zero] at p0 p1 p2 p3 p4
      have HVV := Lib.hid hV
      have HGP := Lib.hid hgp
      have hzV := hV.size
      have hz2 : w2.heap.size ≤ wr.heap.size := HBR.out.size
      have HHV := Lib.hid (HHR.out.below hV)
      have hcV := (hV.cell (p := ar.add k) (cell_lt hcr)).trans hcr
      clear hV hgp hcw hcr
      go_wp2_with fail
      refine (HU4.out V HHV.out).mono ?_
      rintro e w_ ⟨rfl, rfl⟩
      rename World => V
      have HX := Lib.hid (bset (p := ⟨gp, 4, none⟩) (bset (p := ⟨gp, 2, none⟩) HVV.out (by assumption) (.int .i64 (f4 : Nat))) (by assumption) (.int .i64 (S : Nat)))
      have hx4 := set_heap_at (o := 4) (.int .i64 (S : Nat)) (set_heap_at (o := 2) (.int .i64 (f4 : Nat)) HGP.out)
      simp only [List.setIfInBounds_toArray, List.set_cons_succ, List.set_cons_zero] at hx4
      obtain ⟨okb, hokb⟩ : ∃ okb : Bool, okb = true ↔ fitK n 2 (f4 : Int) ((f2 : Int) - (f1 : Int) + 1) (S : Int) := by
        by_cases hft : fitK n 2 (f4 : Int) ((f2 : Int) - (f1 : Int) + 1) (S : Int)
        · exact ⟨true, by simp [hft]⟩
        · exact ⟨false, by simp [hft]⟩
      have HRR := Lib.hid (fun W => rref_any n (f4 : Int) ((f2 : Int) - (f1 : Int) + 1) (S : Int) okb hokb W (Nat.le_trans hn hc) (by omega) (by omega) (by omega))
      have HOKN := Lib.hid hokb
      clear hokb
      go_wp2_with fail
      obtain ⟨X, hXE⟩ : ∃ X, X = (V.setCell ⟨gp, 2, none⟩ (.int .i64 (f4 : Nat))).setCell ⟨gp, 4, none⟩ (.int .i64 (S : Nat)) := ⟨_, rfl⟩
      rw [← hXE] at HX hx4 ⊢
      clear hXE p0 p1 p2 p3 p4 pf hcV
      refine (HRR.out X).mono ?_
      rintro e w_ ⟨rfl, rfl⟩
      rename World => X
      have x0 := cell_of_heap hx4 0
      have x1 := cell_of_heap hx4 1
      have x2 := cell_of_heap hx4 2
      have x3 := cell_of_heap hx4 3
      have x4 := cell_of_heap hx4 4
      simp only [List.getElem?_toArray, List.getElem?_cons_succ, List.getElem?_cons_zero] at x0 x1 x2 x3 x4
      have hzX := HX.out.size
      have hgX := cell_lt x0
      simp only at hgX
      clear hx4
      go_wp2_with (first | (at_builtin; refine wpAppL rfl _ _ 28 rfl w2.heap.size 87 (.agg #[.int .i64 0, .int .i64 0, .int .i64 0, .int .i64 0, .int .i64 0]) 5 40 Try.underlying28 rp_info rfl (by decide) _ k (encRs (rs.take k)) rfl (owns_below HOW.out (balloc HX.out _) (Nat.le_refl _)) ⟨X.heap.size, 0, none⟩ 1 1 [.int .i64 (f1 : Nat), .int .i64 (f2 : Nat), .int .i64 (f4 : Nat), .int .i64 (S : Nat), .int .i64 (S : Nat)] rfl rfl (has_alloc _ _ _) (fun u hu => by simp at hu; rcases hu with rfl | rfl | rfl | rfl | rfl <;> rfl) (by unfold maxLen; omega) (by omega) (by simp; omega) ?_; intro a4 c4 w4 hown4 t41 t42 t43 hb4 hg4; have HO4 := Lib.hid hown4; have HB4 := Lib.hid hb4; have hz4 := hg4.size; clear hown4 hb4 hg4 t43; (try dsimp only [Act.put]); (try simp only [List.setIfInBounds_toArray, List.set_cons_succ, List.set_cons_zero])))
      have HT4 := Lib.hid (show encRs (rs.take k) ++ [.int .i64 (f1 : Nat), .int .i64 (f2 : Nat), .int .i64 (f4 : Nat), .int .i64 (S : Nat), .int .i64 (S : Nat)] = encRs (rs.take (k + 1)) from by rw [List.take_add_one, HRK.out]; show _ = encRs (_ ++ [_]); rw [← encRs_snoc]; simp [encR])
      have HB5 := Lib.hid (HBR.out.trans ((HX.out.mono hz2).trans (((Below.refl w2.heap.size X).alloc (by omega) _).trans HB4.out)))
      have HNX := Lib.hid (show (okb = true → ∀ (i : Nat) (r : RP), (rs.take (k + 1))[i]? = some r → fitZ n r) ∧ (okb = false → ∃ (i : Nat) (r : RP), i < k + 1 ∧ rs[i]? = some r ∧ ¬ fitZ n r) from by
        refine ⟨fun hx i r hi => ?_, fun hx => ⟨k, _, Nat.lt_succ_self k, HRK.out, fun hf => ?_⟩⟩
        · rw [List.take_add_one, HRK.out] at hi
          rcases Nat.lt_or_ge i (rs.take k).length with hl | hl
          · rw [List.getElem?_append_left hl] at hi
            exact HOKB.out.1 (by simp) i r hi
          · rw [List.getElem?_append_right hl] at hi
            have : i - (rs.take k).length = 0 := by
              rcases Nat.eq_zero_or_pos (i - (rs.take k).length) with h0 | h0
              · exact h0
              · rw [List.getElem?_eq_none (by show 1 ≤ _; omega)] at hi
                cases hi
            rw [this] at hi
            simp at hi
            subst hi
            exact HOKN.out.1 hx
        · have := HOKN.out.2 hf
          rw [hx] at this
          cases this)
      go_roundw
      case rel => exact ⟨okb, k + 1, a4, c4, by rw [HLEN.out]; exact HLT.out, by go_num, rfl, rfl, by rw [← HT4.out]; exact HO4.out, t41, t42, HNX.out, HB5.out⟩
      case measure => simp [intOf]; have := HLT.out; omega
    · obtain rfl : k = M := by omega
      go_wp2_with fail
      go_ret2
      have ht := HOW.out
      rw [List.take_of_length_le (by rw [HLEN.out]; exact Nat.le_refl _)] at ht
      exact ⟨⟨rs, okb, a3, c3, by rw [HLEN.out]; rfl, has_of_owns ht, by rw [HLEN.out]; exact o1, o2, by rw [HLEN.out]; exact hM7, fun hx => ⟨HOK.out, by rw [HMM.out]; exact HRE.out.symm, fun r hr => by obtain ⟨j, hj, rfl⟩ := List.getElem_of_mem hr; exact HOKB.out.1 hx j _ (by rw [List.take_of_length_le (by rw [HLEN.out]; exact Nat.le_refl _)]; exact List.getElem?_eq_getElem hj)⟩, fun hx => by obtain ⟨j, r, hj, hr, hx⟩ := HOKB.out.2 hx; exact .inr ⟨r, by rw [HMM.out, HRE.out]; exact List.mem_of_getElem? hr, hx⟩⟩, HBX.out⟩
end Go.Proofs.Ytajhljgcbafbcaa
