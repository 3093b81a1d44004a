/- Joined from: LTake2 LTake10. -/
import Derived.Test.YtaladlaffglkeaaJ01
import Derived.Test.YtaladlaffglkeaaJ06
section

/- lookup.Take of the forms 2 and 6. Conditions: as many bytes as the slice says; numbers of two or four bytes. -/
namespace Go.Proofs.Ytaladlaffglkeaa
open Go.RowKit Go.Lib

theorem stake_z (a : Option Addr) (n c : Nat) (bs : List UInt8) (k : Int) (need keys : Nat) (y z : Int) (hy : y = (need : Nat)) (hz : z = (keys : Nat)) (w : World) (h : Has w a (bytesV bs)) (hl : bs.length = n) (hn : n ≤ c) (hc : c ≤ maxLen) (hk : -9223372036854775808 ≤ k ∧ k ≤ 9223372036854775807)
    (h2 : 2 ≤ need) (hn63 : need ≤ 9223372036854775807) (h1 : 1 ≤ keys) (hkn : 2 * keys ≤ need) :
    Calls Try.prog 137 #[.agg #[.slice a n c], .int .i64 k, .int .i64 y, .int .i64 z] w (STakeIs bs a c k need keys w) := by
  subst hy; subst hz; exact stake_any a n c bs k need keys w h hl hn hc hk h2 hn63 h1 hkn
theorem LKeep.owns {B g : Nat} {w w' : World} (h : LKeep B g w w') {base size n : Nat} {e' : TypeId} {v : Value} {xs : List Value} (ho : w.ownsRow base e' size v n xs) (h1 : e' ≠ 218) (h2 : e' ≠ 156) {cs : Array Value} {t : Nat} {fz : Nat × Nat} (hg : w.heap[g]? = some (.cells cs t fz)) (ht : t ≠ e') : w'.ownsRow base e' size v n xs := by
  have hne := own_neE ho hg ht
  refine ⟨ho.1, ?_⟩
  rcases ho.2 with q | ⟨q, cap, cur, hv, hq, hh, r⟩
  · exact .inl q
  · refine .inr ⟨q, cap, cur, hv, hq, ?_, r⟩
    rw [h.kept q _ _ _ hh h1 h2 (by rintro rfl; exact hne (by rw [hv]; rfl))]
    exact hh
theorem TabIs.at_ {B g fmt : Nat} {ps : List PartL} {ns : List Nat} {w : World} (h : TabIs B g fmt ps ns w) : ∃ cs, w.heap[g]? = some (.cells cs 216 (0, 0)) := by
  obtain ⟨_, _, _, _, h0, _⟩ := h.is
  exact ⟨_, h0⟩
theorem rowsV_at (a : Option Addr) (c k S M j : Nat) (h : j < M) : (rowsV a c k S M)[j]? = some (rowV a c (k + 10 + j * S) S) := by
  simp [rowsV, List.getElem?_map, List.getElem?_range h]
theorem bad_end {B g : Nat} {w V W w' : World} (h1 : Below B w V) (h2 : Below V.heap.size V W) (hB : B ≤ V.heap.size) (h3 : LKeep B g W w') : Below B w w' := (h1.trans (h2.mono hB)).trans h3.below
def TkRel (B g fmt : Nat) (bs : List UInt8) (rs : List RP) (W : World) (i : Value) (wr : World) : Prop :=
  ∃ k, k ≤ rs.length ∧ i = .int .i64 (k : Nat) ∧ okR bs (rs.take k) ∧ TabIs B g fmt (tabR bs (rs.take k)).1 (tabR bs (rs.take k)).2 wr ∧ LKeep B g W wr
theorem num_row (bs : List UInt8) (p S k s : Nat) (h : k + s ≤ S) : num (rowB bs p S) k s = num bs (p + k) s := by
  rw [rowB, num_takeS _ _ _ _ h, num_dropS]
set_option maxRecDepth 100000 in
set_option maxHeartbeats 3200000 in
theorem take2 (a : Option Addr) (n c : Nat) (bs : List UInt8) (glyphs size : Nat) (zg zs : Int) (hzg : zg = (glyphs : Nat)) (hzs : zs = (size : Nat)) (w : World) (hh : Has w a (bytesV bs)) (hbl : bs.length = n) (hnc : n ≤ c) (hc : c ≤ maxLen) (hg2 : glyphs ≤ 65535) (hS : size = 2 ∨ size = 4) (h0 : num bs 0 2 = 2) (h2 : 2 ≤ n) :
    Calls Try.prog 96 #[.agg #[.slice a n c], .int .i64 zg, .int .i64 zs] w (TakeIs bs glyphs size w) := by
  have hAC := allocC
  have hAF := allocF
  subst hzg hzs
  have hcm := hc
  unfold maxLen at hcm
  have HU := Lib.hid (fun W hw => u16_y a n c 0 0 2 rfl bs (by rw [h0]; rfl) W hw hbl h2 hnc hc)
  have HST := Lib.hid (fun W hw => stake_z a n c bs 2 (4 + size) 2 (4 + (size : Int)) 2 (by omega) rfl W hw hbl hnc hc (by omega) (by omega) (by omega) (by decide) (by omega))
  have HH := Lib.hid hh
  have HH0 := Lib.hid h0
  have HBL := Lib.hid hbl
  have HS := Lib.hid hS
  have HAB := Lib.hid (has_lt hh (by omega))
  clear hh
  go_enter Try.func96, Try.ntmps96
  go_wp2_with (first | (go_at_call 95; (with_reducible refine (HU.out _ (HH.out.below (by exact blw))).mono ?_); rintro e w1 ⟨rfl, hb1⟩; have h1c := bc hb1; have h1f := bf hb1; have h1z := hb1.size; try simp only [World.size_alloc, World.size_drew] at h1z))
  have hT := tab_new (B := w.heap.size) w1 2 (by omega) 2 rfl
  have hbW : Below w.heap.size w (w1.alloc (.cells #[.int .i64 2, .slice none 0 0, .slice none 0 0] 216)) := blw
  have hg : w.heap.size ≤ w1.heap.size := by omega
  refine (HST.out _ (HH.out.below hbW)).mono ?_
  rintro e w2 ⟨(⟨j2, gs, hj2, hok, rfl, hown⟩ | ⟨hno, rfl⟩), hb2⟩
  case inr =>
    refine ⟨rfl, .inr ⟨fun rs hrs => ?_, rfl⟩, bthen hbW hb2⟩
    cases hrs.rows with
    | two _ _ h1 => exact hno 2 rfl h1
    | _ => omega
  obtain rfl : j2 = 2 := by omega
  clear hj2
  have HT2 := Lib.hid (hT.below hb2)
  have HB2 := Lib.hid (bthen hbW hb2)
  have HO2 := Lib.hid hown
  have hz2 : w1.heap.size + 1 ≤ w2.heap.size := by have := hb2.size; simpa using this
  have hgs := (hown.lt gs rfl).2
  have HRW := Lib.hid (show LkRows bs glyphs size (rows2 bs size (skM bs 2 2)) from .two (by omega) h0 hok)
  have hsz := hok.size
  have hfit := hok.rows
  rw [HBL.out] at hfit
  have hMN : skM bs 2 2 ≤ skN bs 2 := by unfold skM; split <;> omega
  have hM7 : skM bs 2 2 ≤ 65535 := Nat.le_trans hMN (num2_lt _ _)
  have HROW := Lib.hid (show ∀ j, j < skM bs 2 2 → (rows2 bs size (skM bs 2 2))[j]? = some ⟨num bs (12 + j * skS bs 2 + 2) 2, num bs (12 + j * skS bs 2 + 0) 2, 12 + j * skS bs 2 + 4, size, false⟩ from fun j hj => by simp [rows2, List.getElem?_map, List.getElem?_range hj])
  have HLEN := Lib.hid (show (rows2 bs size (skM bs 2 2)).length = skM bs 2 2 from by simp [rows2])
  have HIN := Lib.hid (fun (rs : List RP) (k : Nat) (hk : k ≤ rs.length) (hrs : LkRows bs glyphs size rs) (h : okR bs (rs.take k)) => (show (tabR bs (rs.take k)).1.length ≤ 70000 ∧ (tabR bs (rs.take k)).2.length ≤ 70001 from by
    obtain ⟨l1, l2⟩ := hrs.each hg2 HS.out
    exact ⟨by rw [tabR_len, List.length_take]; omega, (invR bs (rs.take k) h (fun r hr => l2 r (List.mem_of_mem_take hr))).len⟩))
  clear hT hbW hb2 h1c h1f hb1 hown HU HST hok
  generalize rows2 bs size (skM bs 2 2) = rs at *
  generalize skM bs 2 2 = M at *
  generalize skS bs 2 = S at *
  generalize skN bs 2 = N at *
  have HFIT := Lib.hid (show ∀ j, j < M → 12 + j * S + S ≤ n from fun j hj => by
    have : j * S + S ≤ N * S := by rw [← Nat.succ_mul]; exact Nat.mul_le_mul_right _ (by omega)
    omega)
  obtain ⟨g, hgE⟩ : ∃ g, g = w1.heap.size := ⟨_, rfl⟩
  rw [← hgE] at HT2 hg ⊢
  have hgw2 : g < w2.heap.size := by omega
  clear hfit hMN hz2 hgE
  go_wp2_with fail
  go_loopw [40] (TkRel w.heap.size g 2 bs rs w2) (fun i _ => M - (Go.RowKit.intOf i).toNat)
  case atStart => exact ⟨0, Nat.zero_le _, rfl, fun i r hi => (by simp at hi), HT2.out, LKeep.refl _ _ _⟩
  case round =>
    obtain ⟨j, hjM, rfl, hokj, htj, hkj⟩ := hrel
    rw [HLEN.out] at hjM
    have HOKJ := Lib.hid hokj
    have HTJ := Lib.hid htj
    have HKJ := Lib.hid hkj
    obtain ⟨len1, len2⟩ := HIN.out rs j (by rw [HLEN.out]; exact hjM) HRW.out hokj
    have hgr : g < wr.heap.size := htj.base
    have hBr := HB2.out.trans hkj.below
    have HBR := Lib.hid hBr
    by_cases hlt : j < M
    · obtain ⟨cs, hcs⟩ := HT2.out.at_
      have hrow := hkj.owns HO2.out (by decide) (by decide) hcs (by decide)
      have hcell := (hrow.cellAt j (by omega)).trans (rowsV_at a c 2 S M j hlt)
      have hgsl := cell_lt hcell
      simp only at hgsl
      have hp := HFIT.out j hlt
      have HR := HROW.out j hlt
      have hhr := ((hasB HH.out hBr HAB.out).adv c (12 + j * S) (by rw [bytesV_length, HBL.out]; exact hnc)).take S
      rw [bytesV_drop, bytesV_take] at hhr
      have HROWB := Lib.hid (show Has wr (adv a c (12 + j * S)) (bytesV (rowB bs (12 + j * S) S)) from hhr)
      have hrl : (rowB bs (12 + j * S) S).length = S := by rw [rowB, List.length_take, List.length_drop, HBL.out]; omega
      have hu0 := fun W hw => u16_z (adv a c (12 + j * S)) S (c - (12 + j * S)) 0 0 rfl (rowB bs (12 + j * S) S) W hw hrl (by omega) (by omega) (by unfold maxLen; omega)
      have hu2 := fun W hw => u16_z (adv a c (12 + j * S)) S (c - (12 + j * S)) 2 2 rfl (rowB bs (12 + j * S) S) W hw hrl (by omega) (by omega) (by unfold maxLen; omega)
      have hnm := fun W hw => number_z (adv a c (12 + j * S)) S (c - (12 + j * S)) 4 size 4 (size : Int) rfl rfl (rowB bs (12 + j * S) S) W hw hrl (by omega) (by omega) (by omega) (by unfold maxLen; omega)
      rw [num_row bs (12 + j * S) S 0 2 (by omega)] at hu0
      rw [num_row bs (12 + j * S) S 2 2 (by omega)] at hu2
      rw [num_row bs (12 + j * S) S 4 size (by omega)] at hnm
      have HU0 := Lib.hid hu0
      have HU2 := Lib.hid hu2
      have HNM := Lib.hid hnm
      have HRR := Lib.hid HR
      have HLT := Lib.hid hlt
      have hv : Value.slice (adv a c (2 + 10 + j * S)) S (c - (2 + 10 + j * S)) = .slice (adv a c (12 + j * S)) S (c - (12 + j * S)) := rfl
      rw [rowV, hv] at hcell
      have hAK := fun (W : World) (ht : TabIs w.heap.size g 2 (tabR bs (rs.take j)).1 (tabR bs (rs.take j)).2 W) => alike_any w.heap.size g 2 (tabR bs (rs.take j)).1 (tabR bs (rs.take j)).2 (num bs (12 + j * S + 2) 2) (num bs (12 + j * S + 0) 2) (num bs (12 + j * S + 4) size) _ _ _ rfl rfl rfl W ht hg (by omega) (by omega)
      have HFR := Lib.hid (show fitR bs (tabR bs (rs.take j)).1 ⟨num bs (12 + j * S + 2) 2, num bs (12 + j * S + 0) 2, 12 + j * S + 4, size, false⟩ ↔ CanAdd (tabR bs (rs.take j)).1 (num bs (12 + j * S + 2) 2 : Nat) (num bs (12 + j * S + 0) 2 : Nat) from ⟨fun h => h.1, fun h => ⟨h, fun hx => by cases hx⟩⟩)
      have HTS := Lib.hid (tabR_take_succ (bs := bs) HR)
      have HAK := Lib.hid hAK
      clear hu0 hu2 hnm hAK HR hhr hrl hrow hcs hokj htj hkj hp hv hlt hBr
      generalize hf1 : num bs (12 + j * S + 2) 2 = f1 at *
      generalize hf2 : num bs (12 + j * S + 0) 2 = f2 at *
      generalize hf3 : num bs (12 + j * S + 4) size = f3 at *
      have HF3 := Lib.hid hf3
      generalize hpp : 12 + j * S = p at *
      go_wp2_with fail
      obtain ⟨V, hV⟩ : ∃ V, V = wr.alloc (Obj.cells #[.slice (adv a c p) S (c - p)] 93) := ⟨_, rfl⟩
      have c9 : V.cell? ⟨wr.heap.size, 0, none⟩ = some (.slice (adv a c p) S (c - p)) := by rw [hV]; simp [hAC]
      have hbV : Below wr.heap.size wr V := by rw [hV]; exact balloc (brefl _) _
      have HBV := Lib.hid hbV
      have hzV : V.heap.size = wr.heap.size + 1 := by rw [hV]; simp
      have HHV := Lib.hid (HROWB.out.below hbV)
      have HTV := Lib.hid (HTJ.out.below hbV)
      rw [← hV]
      clear hV hbV hcell
      by_cases hca : CanAdd (tabR bs (rs.take j)).1 (f1 : Nat) (f2 : Nat)
      · have HAL := Lib.hid (fun (W : World) (hW : Below V.heap.size V W) => (HAK.out W (HTV.out.below hW)).mono (R' := fun e w' => e = .returned (.tuple #[]) ∧ TabIs w.heap.size g 2 ((tabR bs (rs.take j)).1 ++ [⟨f1, f2, (tabR bs (rs.take j)).2.length, 0⟩]) ((tabR bs (rs.take j)).2 ++ [f3]) w' ∧ LKeep w.heap.size g W w') (by rintro e w' ⟨(⟨_, he, ht⟩ | ⟨hno, _⟩), hk⟩; exact ⟨he, ht, hk⟩; exact absurd hca hno))
        have HCA := Lib.hid hca
        clear hca
        refine wp_region_last (.step 0 (.step 1 (.step 3 (.step 5 (.step 6 (.step 2 (.step 4 (.step 7 (.step 8 .nil))))))))) 8 (by kernel_rfl) (by kernel_rfl) (by kernel_rfl) (by kernel_rfl) (by kernel_rfl) (by intro _ _ d_ _ _ h_; cases d_ <;> first | exact h_ | (dsimp +zetaDelta only at h_ ⊢; exact h_)) (fun w' => ∃ p : Wld V [], w' = p.val) (wld_start _ _) ?_
        have hG_ := @wldC V
        (refine z_quiet gtA (by rfl) (by rfl) (fun K_ hK_ => ?_); go_big_quiet_op; refine hK_ _ ?_; clear hK_ K_)
        (refine z_quiet gtA (by rfl) (by rfl) (fun K_ hK_ => ?_); go_big_quiet_op; refine hK_ _ ?_; clear hK_ K_)
        (refine z_quiet gtA (by rfl) (by rfl) (fun K_ hK_ => ?_); go_big_quiet_op; refine hK_ _ ?_; clear hK_ K_)
        (refine z_quiet gtA (by rfl) (by rfl) (fun K_ hK_ => ?_); go_big_quiet_op; refine hK_ _ ?_; clear hK_ K_)
        (refine z_quiet gtA (by rfl) (by rfl) (fun K_ hK_ => ?_); go_big_quiet_op; refine hK_ _ ?_; clear hK_ K_)
        (refine z_run gtA (by rfl) (by rfl) (fun K_ hK_ => ?_); have HK_ := Lib.hid hK_; clear hK_; go_wp2_with (first | (go_at_call 95; (with_reducible refine (HU2.out _ (HHV.out.below (by exact blw))).mono ?_); rintro e wa ⟨rfl, hba⟩; have hac := bc hba; have haf := bf hba; have haz := hba.size; try simp only [World.size_alloc, World.size_drew] at haz) | (go_at_call 95; (with_reducible refine (HU0.out _ (HHV.out.below (by exact blw))).mono ?_); rintro e wb ⟨rfl, hbb⟩; have hbc := bc hbb; have hbf := bf hbb; have hbz := hbb.size; try simp only [World.size_alloc, World.size_drew] at hbz) | (go_at_call 139; (with_reducible refine (HNM.out _ (HHV.out.below (by exact blw))).mono ?_); rintro e wd ⟨rfl, hbd⟩; have hdc := bc hbd; have hdf := bf hbd; have hdz := hbd.size; try simp only [World.size_alloc, World.size_drew] at hdz) | (go_at_call 138; (with_reducible refine (HAL.out _ (by exact blw)).mono ?_); rintro e w8 ⟨rfl, ht8, hk8⟩; have HT8 := Lib.hid ht8; have HK8 := Lib.hid ((LKeep.of (B := w.heap.size) (g := g) (show Below V.heap.size V _ from blw) (by omega)).trans hk8); clear ht8 hk8)); refine HK_.out _ _ (wld_ofA) ?_; clear HK_)
        (refine z_run gtA (by rfl) (by rfl) (fun K_ hK_ => ?_); have HK_ := Lib.hid hK_; clear hK_; go_wp2_with (first | (go_at_call 95; (with_reducible refine (HU2.out _ (HHV.out.below (by exact blw))).mono ?_); rintro e wa ⟨rfl, hba⟩; have hac := bc hba; have haf := bf hba; have haz := hba.size; try simp only [World.size_alloc, World.size_drew] at haz) | (go_at_call 95; (with_reducible refine (HU0.out _ (HHV.out.below (by exact blw))).mono ?_); rintro e wb ⟨rfl, hbb⟩; have hbc := bc hbb; have hbf := bf hbb; have hbz := hbb.size; try simp only [World.size_alloc, World.size_drew] at hbz) | (go_at_call 139; (with_reducible refine (HNM.out _ (HHV.out.below (by exact blw))).mono ?_); rintro e wd ⟨rfl, hbd⟩; have hdc := bc hbd; have hdf := bf hbd; have hdz := hbd.size; try simp only [World.size_alloc, World.size_drew] at hdz) | (go_at_call 138; (with_reducible refine (HAL.out _ (by exact blw)).mono ?_); rintro e w8 ⟨rfl, ht8, hk8⟩; have HT8 := Lib.hid ht8; have HK8 := Lib.hid ((LKeep.of (B := w.heap.size) (g := g) (show Below V.heap.size V _ from blw) (by omega)).trans hk8); clear ht8 hk8)); refine HK_.out _ _ (wld_ofA) ?_; clear HK_)
        (refine z_run gtA (by rfl) (by rfl) (fun K_ hK_ => ?_); have HK_ := Lib.hid hK_; clear hK_; go_wp2_with (first | (go_at_call 95; (with_reducible refine (HU2.out _ (HHV.out.below (by exact blw))).mono ?_); rintro e wa ⟨rfl, hba⟩; have hac := bc hba; have haf := bf hba; have haz := hba.size; try simp only [World.size_alloc, World.size_drew] at haz) | (go_at_call 95; (with_reducible refine (HU0.out _ (HHV.out.below (by exact blw))).mono ?_); rintro e wb ⟨rfl, hbb⟩; have hbc := bc hbb; have hbf := bf hbb; have hbz := hbb.size; try simp only [World.size_alloc, World.size_drew] at hbz) | (go_at_call 139; (with_reducible refine (HNM.out _ (HHV.out.below (by exact blw))).mono ?_); rintro e wd ⟨rfl, hbd⟩; have hdc := bc hbd; have hdf := bf hbd; have hdz := hbd.size; try simp only [World.size_alloc, World.size_drew] at hdz) | (go_at_call 138; (with_reducible refine (HAL.out _ (by exact blw)).mono ?_); rintro e w8 ⟨rfl, ht8, hk8⟩; have HT8 := Lib.hid ht8; have HK8 := Lib.hid ((LKeep.of (B := w.heap.size) (g := g) (show Below V.heap.size V _ from blw) (by omega)).trans hk8); clear ht8 hk8)); refine HK_.out _ _ (wld_ofA) ?_; clear HK_)
        (refine z_last gtA (by rfl) (by rfl) (by rfl) (fun K_ hK_ => ?_); have HK_ := Lib.hid hK_; clear hK_; go_wp2_with (first | (go_at_call 95; (with_reducible refine (HU2.out _ (HHV.out.below (by exact blw))).mono ?_); rintro e wa ⟨rfl, hba⟩; have hac := bc hba; have haf := bf hba; have haz := hba.size; try simp only [World.size_alloc, World.size_drew] at haz) | (go_at_call 95; (with_reducible refine (HU0.out _ (HHV.out.below (by exact blw))).mono ?_); rintro e wb ⟨rfl, hbb⟩; have hbc := bc hbb; have hbf := bf hbb; have hbz := hbb.size; try simp only [World.size_alloc, World.size_drew] at hbz) | (go_at_call 139; (with_reducible refine (HNM.out _ (HHV.out.below (by exact blw))).mono ?_); rintro e wd ⟨rfl, hbd⟩; have hdc := bc hbd; have hdf := bf hbd; have hdz := hbd.size; try simp only [World.size_alloc, World.size_drew] at hdz) | (go_at_call 138; (with_reducible refine (HAL.out _ (by exact blw)).mono ?_); rintro e w8 ⟨rfl, ht8, hk8⟩; have HT8 := Lib.hid ht8; have HK8 := Lib.hid ((LKeep.of (B := w.heap.size) (g := g) (show Below V.heap.size V _ from blw) (by omega)).trans hk8); clear ht8 hk8)); refine HK_.out _ _ ?_; clear HK_)
        refine z_nil ?_
        clear hG_
        have HT9 := Lib.hid (show TabIs w.heap.size g 2 (tabR bs (rs.take (j + 1))).1 (tabR bs (rs.take (j + 1))).2 w8 from by rw [HTS.out, stepR, numsR, HF3.out]; exact HT8.out)
        clear HT8
        have hjl : j < M := HLT.out
        have hwwr : w.heap.size ≤ wr.heap.size := HBR.out.size
        go_wp2_with fail
        go_roundw
        case rel => exact ⟨j + 1, by rw [HLEN.out]; exact HLT.out, by go_num, okR_take_succ HOKJ.out HRR.out (HFR.out.2 HCA.out), HT9.out, HKJ.out.trans ((LKeep.of HBV.out (by omega)).trans HK8.out)⟩
        case measure => simp [Go.RowKit.intOf]; have := HLT.out; omega
      · have HAL := Lib.hid (fun (W : World) (hW : Below V.heap.size V W) => (HAK.out W (HTV.out.below hW)).mono (R' := fun e w' => e = .panicked thrown ∧ LKeep w.heap.size g W w') (by rintro e w' ⟨(⟨hy, _⟩ | ⟨_, he⟩), hk⟩; exact absurd hy hca; exact ⟨he, hk⟩))
        have HNO := Lib.hid (show ∀ rs', ¬ LkOk bs glyphs size rs' from fun rs' hx => by
          obtain rfl := hx.rows.det HRW.out
          exact hca (HFR.out.1 (hx.ok j _ HRR.out)))
        have HBB := Lib.hid (HBR.out.trans (HBV.out.mono (by omega)))
        clear hca
        refine wp_region_tree (.step 0 (.step 1 (.step 3 (.step 5 (.step 6 (.step 2 (.step 4 (.step 7 (.step 8 .nil))))))))) (by kernel_rfl) (by kernel_rfl) (by kernel_rfl) (by kernel_rfl) (by intro _ _ d_ _ _ h_; cases d_ <;> first | exact h_ | (dsimp +zetaDelta only at h_ ⊢; exact h_)) (fun w' => ∃ p : BelW V.heap.size V, w' = p.val) (bel_start _ _) ?_
        have hG_ := @belC V.heap.size V
        (refine tree_quiet gtA (by rfl) (by rfl) (fun K_ hK_ => ?_); go_big_quiet_op; refine hK_ _ ?_; clear hK_ K_)
        (refine tree_quiet gtA (by rfl) (by rfl) (fun K_ hK_ => ?_); go_big_quiet_op; refine hK_ _ ?_; clear hK_ K_)
        (refine tree_quiet gtA (by rfl) (by rfl) (fun K_ hK_ => ?_); go_big_quiet_op; refine hK_ _ ?_; clear hK_ K_)
        (refine tree_quiet gtA (by rfl) (by rfl) (fun K_ hK_ => ?_); go_big_quiet_op; refine hK_ _ ?_; clear hK_ K_)
        (refine tree_quiet gtA (by rfl) (by rfl) (fun K_ hK_ => ?_); go_big_quiet_op; refine hK_ _ ?_; clear hK_ K_)
        (refine tree_run gtA (by rfl) (by rfl) (fun K_ hK_ => ?_); have HK_ := Lib.hid hK_; clear hK_; go_wp2_with (first | (go_at_call 95; (with_reducible refine (HU2.out _ (HHV.out.below (by repeat (first | exact Below.refl _ _ | assumption | refine bdrew1q ?_ | refine balloc ?_ _ | refine bthen ?_ (by assumption) | refine Below.trans ?_ (by assumption))))).mono ?_); rintro e wa ⟨rfl, hba⟩; have hac := bc hba; have haf := bf hba; have haz := hba.size; try simp only [World.size_alloc, World.size_drew] at haz) | (go_at_call 95; (with_reducible refine (HU0.out _ (HHV.out.below (by repeat (first | exact Below.refl _ _ | assumption | refine bdrew1q ?_ | refine balloc ?_ _ | refine bthen ?_ (by assumption) | refine Below.trans ?_ (by assumption))))).mono ?_); rintro e wb ⟨rfl, hbb⟩; have hbc := bc hbb; have hbf := bf hbb; have hbz := hbb.size; try simp only [World.size_alloc, World.size_drew] at hbz) | (go_at_call 139; (with_reducible refine (HNM.out _ (HHV.out.below (by repeat (first | exact Below.refl _ _ | assumption | refine bdrew1q ?_ | refine balloc ?_ _ | refine bthen ?_ (by assumption) | refine Below.trans ?_ (by assumption))))).mono ?_); rintro e wd ⟨rfl, hbd⟩; have hdc := bc hbd; have hdf := bf hbd; have hdz := hbd.size; try simp only [World.size_alloc, World.size_drew] at hdz) | (go_at_call 138; (with_reducible refine (HAL.out _ (by repeat (first | exact Below.refl _ _ | assumption | refine bdrew1q ?_ | refine balloc ?_ _ | refine bthen ?_ (by assumption) | refine Below.trans ?_ (by assumption)))).mono ?_); rintro e w8 ⟨rfl, hk8⟩)); refine HK_.out _ _ (bel_ofA) ?_; clear HK_)
        (refine tree_run gtA (by rfl) (by rfl) (fun K_ hK_ => ?_); have HK_ := Lib.hid hK_; clear hK_; go_wp2_with (first | (go_at_call 95; (with_reducible refine (HU2.out _ (HHV.out.below (by repeat (first | exact Below.refl _ _ | assumption | refine bdrew1q ?_ | refine balloc ?_ _ | refine bthen ?_ (by assumption) | refine Below.trans ?_ (by assumption))))).mono ?_); rintro e wa ⟨rfl, hba⟩; have hac := bc hba; have haf := bf hba; have haz := hba.size; try simp only [World.size_alloc, World.size_drew] at haz) | (go_at_call 95; (with_reducible refine (HU0.out _ (HHV.out.below (by repeat (first | exact Below.refl _ _ | assumption | refine bdrew1q ?_ | refine balloc ?_ _ | refine bthen ?_ (by assumption) | refine Below.trans ?_ (by assumption))))).mono ?_); rintro e wb ⟨rfl, hbb⟩; have hbc := bc hbb; have hbf := bf hbb; have hbz := hbb.size; try simp only [World.size_alloc, World.size_drew] at hbz) | (go_at_call 139; (with_reducible refine (HNM.out _ (HHV.out.below (by repeat (first | exact Below.refl _ _ | assumption | refine bdrew1q ?_ | refine balloc ?_ _ | refine bthen ?_ (by assumption) | refine Below.trans ?_ (by assumption))))).mono ?_); rintro e wd ⟨rfl, hbd⟩; have hdc := bc hbd; have hdf := bf hbd; have hdz := hbd.size; try simp only [World.size_alloc, World.size_drew] at hdz) | (go_at_call 138; (with_reducible refine (HAL.out _ (by repeat (first | exact Below.refl _ _ | assumption | refine bdrew1q ?_ | refine balloc ?_ _ | refine bthen ?_ (by assumption) | refine Below.trans ?_ (by assumption)))).mono ?_); rintro e w8 ⟨rfl, hk8⟩)); refine HK_.out _ _ (bel_ofA) ?_; clear HK_)
        (refine tree_run gtA (by rfl) (by rfl) (fun K_ hK_ => ?_); have HK_ := Lib.hid hK_; clear hK_; go_wp2_with (first | (go_at_call 95; (with_reducible refine (HU2.out _ (HHV.out.below (by repeat (first | exact Below.refl _ _ | assumption | refine bdrew1q ?_ | refine balloc ?_ _ | refine bthen ?_ (by assumption) | refine Below.trans ?_ (by assumption))))).mono ?_); rintro e wa ⟨rfl, hba⟩; have hac := bc hba; have haf := bf hba; have haz := hba.size; try simp only [World.size_alloc, World.size_drew] at haz) | (go_at_call 95; (with_reducible refine (HU0.out _ (HHV.out.below (by repeat (first | exact Below.refl _ _ | assumption | refine bdrew1q ?_ | refine balloc ?_ _ | refine bthen ?_ (by assumption) | refine Below.trans ?_ (by assumption))))).mono ?_); rintro e wb ⟨rfl, hbb⟩; have hbc := bc hbb; have hbf := bf hbb; have hbz := hbb.size; try simp only [World.size_alloc, World.size_drew] at hbz) | (go_at_call 139; (with_reducible refine (HNM.out _ (HHV.out.below (by repeat (first | exact Below.refl _ _ | assumption | refine bdrew1q ?_ | refine balloc ?_ _ | refine bthen ?_ (by assumption) | refine Below.trans ?_ (by assumption))))).mono ?_); rintro e wd ⟨rfl, hbd⟩; have hdc := bc hbd; have hdf := bf hbd; have hdz := hbd.size; try simp only [World.size_alloc, World.size_drew] at hdz) | (go_at_call 138; (with_reducible refine (HAL.out _ (by repeat (first | exact Below.refl _ _ | assumption | refine bdrew1q ?_ | refine balloc ?_ _ | refine bthen ?_ (by assumption) | refine Below.trans ?_ (by assumption)))).mono ?_); rintro e w8 ⟨rfl, hk8⟩)); refine HK_.out _ _ (bel_ofA) ?_; clear HK_)
        (refine tree_run gtA (by rfl) (by rfl) (fun K_ hK_ => ?_); have HK_ := Lib.hid hK_; clear hK_; go_wp2_with (first | (go_at_call 95; (with_reducible refine (HU2.out _ (HHV.out.below (by repeat (first | exact Below.refl _ _ | assumption | refine bdrew1q ?_ | refine balloc ?_ _ | refine bthen ?_ (by assumption) | refine Below.trans ?_ (by assumption))))).mono ?_); rintro e wa ⟨rfl, hba⟩; have hac := bc hba; have haf := bf hba; have haz := hba.size; try simp only [World.size_alloc, World.size_drew] at haz) | (go_at_call 95; (with_reducible refine (HU0.out _ (HHV.out.below (by repeat (first | exact Below.refl _ _ | assumption | refine bdrew1q ?_ | refine balloc ?_ _ | refine bthen ?_ (by assumption) | refine Below.trans ?_ (by assumption))))).mono ?_); rintro e wb ⟨rfl, hbb⟩; have hbc := bc hbb; have hbf := bf hbb; have hbz := hbb.size; try simp only [World.size_alloc, World.size_drew] at hbz) | (go_at_call 139; (with_reducible refine (HNM.out _ (HHV.out.below (by repeat (first | exact Below.refl _ _ | assumption | refine bdrew1q ?_ | refine balloc ?_ _ | refine bthen ?_ (by assumption) | refine Below.trans ?_ (by assumption))))).mono ?_); rintro e wd ⟨rfl, hbd⟩; have hdc := bc hbd; have hdf := bf hbd; have hdz := hbd.size; try simp only [World.size_alloc, World.size_drew] at hdz) | (go_at_call 138; (with_reducible refine (HAL.out _ (by repeat (first | exact Below.refl _ _ | assumption | refine bdrew1q ?_ | refine balloc ?_ _ | refine bthen ?_ (by assumption) | refine Below.trans ?_ (by assumption)))).mono ?_); rintro e w8 ⟨rfl, hk8⟩)); exact ⟨rfl, .inr ⟨HNO.out, rfl⟩, bad_end HBB.out (by repeat (first | exact Below.refl _ _ | assumption | refine bdrew1q ?_ | refine balloc ?_ _ | refine bthen ?_ (by assumption) | refine Below.trans ?_ (by assumption))) (by omega) hk8⟩)
    · obtain rfl : j = M := by omega
      clear hokj htj hkj hBr
      go_wp2_with fail
      go_ret
      have e := HLEN.out
      have hok := HOKJ.out
      have ht := HTJ.out
      rw [List.take_of_length_le (by omega)] at hok ht
      exact ⟨.inl ⟨rs, g, ⟨HRW.out, hok⟩, rfl, by rw [HH0.out]; exact ht⟩, HBR.out⟩
set_option maxRecDepth 100000 in
set_option maxHeartbeats 3200000 in
theorem take6 (a : Option Addr) (n c : Nat) (bs : List UInt8) (glyphs size : Nat) (zg zs : Int) (hzg : zg = (glyphs : Nat)) (hzs : zs = (size : Nat)) (w : World) (hh : Has w a (bytesV bs)) (hbl : bs.length = n) (hnc : n ≤ c) (hc : c ≤ maxLen) (hg2 : glyphs ≤ 65535) (hS : size = 2 ∨ size = 4) (h0 : num bs 0 2 = 6) (h2 : 2 ≤ n) :
    Calls Try.prog 96 #[.agg #[.slice a n c], .int .i64 zg, .int .i64 zs] w (TakeIs bs glyphs size w) := by
  have hAC := allocC
  have hAF := allocF
  subst hzg hzs
  have hcm := hc
  unfold maxLen at hcm
  have HU := Lib.hid (fun W hw => u16_y a n c 0 0 6 rfl bs (by rw [h0]; rfl) W hw hbl h2 hnc hc)
  have HST := Lib.hid (fun W hw => stake_z a n c bs 2 (2 + size) 1 (2 + (size : Int)) 1 (by omega) rfl W hw hbl hnc hc (by omega) (by omega) (by omega) (by decide) (by omega))
  have HH := Lib.hid hh
  have HH0 := Lib.hid h0
  have HBL := Lib.hid hbl
  have HS := Lib.hid hS
  have HAB := Lib.hid (has_lt hh (by omega))
  clear hh
  go_enter Try.func96, Try.ntmps96
  go_wp2_with (first | (go_at_call 95; (with_reducible refine (HU.out _ (HH.out.below (by exact blw))).mono ?_); rintro e w1 ⟨rfl, hb1⟩; have h1c := bc hb1; have h1f := bf hb1; have h1z := hb1.size; try simp only [World.size_alloc, World.size_drew] at h1z))
  have hT := tab_new (B := w.heap.size) w1 6 (by omega) 6 rfl
  have hbW : Below w.heap.size w (w1.alloc (.cells #[.int .i64 6, .slice none 0 0, .slice none 0 0] 216)) := blw
  have hg : w.heap.size ≤ w1.heap.size := by omega
  refine (HST.out _ (HH.out.below hbW)).mono ?_
  rintro e w2 ⟨(⟨j2, gs, hj2, hok, rfl, hown⟩ | ⟨hno, rfl⟩), hb2⟩
  case inr =>
    refine ⟨rfl, .inr ⟨fun rs hrs => ?_, rfl⟩, bthen hbW hb2⟩
    cases hrs.rows with
    | six _ _ h1 => exact hno 2 rfl h1
    | _ => omega
  obtain rfl : j2 = 2 := by omega
  clear hj2
  have HT2 := Lib.hid (hT.below hb2)
  have HB2 := Lib.hid (bthen hbW hb2)
  have HO2 := Lib.hid hown
  have hz2 : w1.heap.size + 1 ≤ w2.heap.size := by have := hb2.size; simpa using this
  have hgs := (hown.lt gs rfl).2
  have HRW := Lib.hid (show LkRows bs glyphs size (rows6 bs size (skM bs 2 1)) from .six (by omega) h0 hok)
  have hsz := hok.size
  have hfit := hok.rows
  rw [HBL.out] at hfit
  have hMN : skM bs 2 1 ≤ skN bs 2 := by unfold skM; split <;> omega
  have hM7 : skM bs 2 1 ≤ 65535 := Nat.le_trans hMN (num2_lt _ _)
  have HROW := Lib.hid (show ∀ j, j < skM bs 2 1 → (rows6 bs size (skM bs 2 1))[j]? = some ⟨num bs (12 + j * skS bs 2 + 0) 2, num bs (12 + j * skS bs 2 + 0) 2, 12 + j * skS bs 2 + 2, size, false⟩ from fun j hj => by simp [rows6, List.getElem?_map, List.getElem?_range hj])
  have HLEN := Lib.hid (show (rows6 bs size (skM bs 2 1)).length = skM bs 2 1 from by simp [rows6])
  have HIN := Lib.hid (fun (rs : List RP) (k : Nat) (hk : k ≤ rs.length) (hrs : LkRows bs glyphs size rs) (h : okR bs (rs.take k)) => (show (tabR bs (rs.take k)).1.length ≤ 70000 ∧ (tabR bs (rs.take k)).2.length ≤ 70001 from by
    obtain ⟨l1, l2⟩ := hrs.each hg2 HS.out
    exact ⟨by rw [tabR_len, List.length_take]; omega, (invR bs (rs.take k) h (fun r hr => l2 r (List.mem_of_mem_take hr))).len⟩))
  clear hT hbW hb2 h1c h1f hb1 hown HU HST hok
  generalize rows6 bs size (skM bs 2 1) = rs at *
  generalize skM bs 2 1 = M at *
  generalize skS bs 2 = S at *
  generalize skN bs 2 = N at *
  have HFIT := Lib.hid (show ∀ j, j < M → 12 + j * S + S ≤ n from fun j hj => by
    have : j * S + S ≤ N * S := by rw [← Nat.succ_mul]; exact Nat.mul_le_mul_right _ (by omega)
    omega)
  obtain ⟨g, hgE⟩ : ∃ g, g = w1.heap.size := ⟨_, rfl⟩
  rw [← hgE] at HT2 hg ⊢
  have hgw2 : g < w2.heap.size := by omega
  clear hfit hMN hz2 hgE
  go_wp2_with fail
  go_loopw [82] (TkRel w.heap.size g 6 bs rs w2) (fun i _ => M - (Go.RowKit.intOf i).toNat)
  case atStart => exact ⟨0, Nat.zero_le _, rfl, fun i r hi => (by simp at hi), HT2.out, LKeep.refl _ _ _⟩
  case round =>
    obtain ⟨j, hjM, rfl, hokj, htj, hkj⟩ := hrel
    rw [HLEN.out] at hjM
    have HOKJ := Lib.hid hokj
    have HTJ := Lib.hid htj
    have HKJ := Lib.hid hkj
    obtain ⟨len1, len2⟩ := HIN.out rs j (by rw [HLEN.out]; exact hjM) HRW.out hokj
    have hgr : g < wr.heap.size := htj.base
    have hBr := HB2.out.trans hkj.below
    have HBR := Lib.hid hBr
    by_cases hlt : j < M
    · obtain ⟨cs, hcs⟩ := HT2.out.at_
      have hrow := hkj.owns HO2.out (by decide) (by decide) hcs (by decide)
      have hcell := (hrow.cellAt j (by omega)).trans (rowsV_at a c 2 S M j hlt)
      have hgsl := cell_lt hcell
      simp only at hgsl
      have hp := HFIT.out j hlt
      have HR := HROW.out j hlt
      have hhr := ((hasB HH.out hBr HAB.out).adv c (12 + j * S) (by rw [bytesV_length, HBL.out]; exact hnc)).take S
      rw [bytesV_drop, bytesV_take] at hhr
      have HROWB := Lib.hid (show Has wr (adv a c (12 + j * S)) (bytesV (rowB bs (12 + j * S) S)) from hhr)
      have hrl : (rowB bs (12 + j * S) S).length = S := by rw [rowB, List.length_take, List.length_drop, HBL.out]; omega
      have hu0 := fun W hw => u16_z (adv a c (12 + j * S)) S (c - (12 + j * S)) 0 0 rfl (rowB bs (12 + j * S) S) W hw hrl (by omega) (by omega) (by unfold maxLen; omega)
      have hu2 := fun W hw => u16_z (adv a c (12 + j * S)) S (c - (12 + j * S)) 0 0 rfl (rowB bs (12 + j * S) S) W hw hrl (by omega) (by omega) (by unfold maxLen; omega)
      have hnm := fun W hw => number_z (adv a c (12 + j * S)) S (c - (12 + j * S)) 2 size 2 (size : Int) rfl rfl (rowB bs (12 + j * S) S) W hw hrl (by omega) (by omega) (by omega) (by unfold maxLen; omega)
      rw [num_row bs (12 + j * S) S 0 2 (by omega)] at hu0
      rw [num_row bs (12 + j * S) S 0 2 (by omega)] at hu2
      rw [num_row bs (12 + j * S) S 2 size (by omega)] at hnm
      have HU0 := Lib.hid hu0
      have HU2 := Lib.hid hu2
      have HNM := Lib.hid hnm
      have HRR := Lib.hid HR
      have HLT := Lib.hid hlt
      have hv : Value.slice (adv a c (2 + 10 + j * S)) S (c - (2 + 10 + j * S)) = .slice (adv a c (12 + j * S)) S (c - (12 + j * S)) := rfl
      rw [rowV, hv] at hcell
      have hAK := fun (W : World) (ht : TabIs w.heap.size g 6 (tabR bs (rs.take j)).1 (tabR bs (rs.take j)).2 W) => alike_any w.heap.size g 6 (tabR bs (rs.take j)).1 (tabR bs (rs.take j)).2 (num bs (12 + j * S + 0) 2) (num bs (12 + j * S + 0) 2) (num bs (12 + j * S + 2) size) _ _ _ rfl rfl rfl W ht hg (by omega) (by omega)
      have HFR := Lib.hid (show fitR bs (tabR bs (rs.take j)).1 ⟨num bs (12 + j * S + 0) 2, num bs (12 + j * S + 0) 2, 12 + j * S + 2, size, false⟩ ↔ CanAdd (tabR bs (rs.take j)).1 (num bs (12 + j * S + 0) 2 : Nat) (num bs (12 + j * S + 0) 2 : Nat) from ⟨fun h => h.1, fun h => ⟨h, fun hx => by cases hx⟩⟩)
      have HTS := Lib.hid (tabR_take_succ (bs := bs) HR)
      have HAK := Lib.hid hAK
      clear hu0 hu2 hnm hAK HR hhr hrl hrow hcs hokj htj hkj hp hv hlt hBr
      generalize hf1 : num bs (12 + j * S + 0) 2 = f1 at *
      skip
      generalize hf3 : num bs (12 + j * S + 2) size = f3 at *
      have HF3 := Lib.hid hf3
      generalize hpp : 12 + j * S = p at *
      go_wp2_with fail
      obtain ⟨V, hV⟩ : ∃ V, V = wr.alloc (Obj.cells #[.slice (adv a c p) S (c - p)] 93) := ⟨_, rfl⟩
      have c9 : V.cell? ⟨wr.heap.size, 0, none⟩ = some (.slice (adv a c p) S (c - p)) := by rw [hV]; simp [hAC]
      have hbV : Below wr.heap.size wr V := by rw [hV]; exact balloc (brefl _) _
      have HBV := Lib.hid hbV
      have hzV : V.heap.size = wr.heap.size + 1 := by rw [hV]; simp
      have HHV := Lib.hid (HROWB.out.below hbV)
      have HTV := Lib.hid (HTJ.out.below hbV)
      rw [← hV]
      clear hV hbV hcell
      by_cases hca : CanAdd (tabR bs (rs.take j)).1 (f1 : Nat) (f1 : Nat)
      · have HAL := Lib.hid (fun (W : World) (hW : Below V.heap.size V W) => (HAK.out W (HTV.out.below hW)).mono (R' := fun e w' => e = .returned (.tuple #[]) ∧ TabIs w.heap.size g 6 ((tabR bs (rs.take j)).1 ++ [⟨f1, f1, (tabR bs (rs.take j)).2.length, 0⟩]) ((tabR bs (rs.take j)).2 ++ [f3]) w' ∧ LKeep w.heap.size g W w') (by rintro e w' ⟨(⟨_, he, ht⟩ | ⟨hno, _⟩), hk⟩; exact ⟨he, ht, hk⟩; exact absurd hca hno))
        have HCA := Lib.hid hca
        clear hca
        refine wp_region_last (.step 0 (.step 1 (.step 3 (.step 5 (.step 6 (.step 2 (.step 4 (.step 7 (.step 8 .nil))))))))) 8 (by kernel_rfl) (by kernel_rfl) (by kernel_rfl) (by kernel_rfl) (by kernel_rfl) (by intro _ _ d_ _ _ h_; cases d_ <;> first | exact h_ | (dsimp +zetaDelta only at h_ ⊢; exact h_)) (fun w' => ∃ p : Wld V [], w' = p.val) (wld_start _ _) ?_
        have hG_ := @wldC V
        (refine z_quiet gtA (by rfl) (by rfl) (fun K_ hK_ => ?_); go_big_quiet_op; refine hK_ _ ?_; clear hK_ K_)
        (refine z_quiet gtA (by rfl) (by rfl) (fun K_ hK_ => ?_); go_big_quiet_op; refine hK_ _ ?_; clear hK_ K_)
        (refine z_quiet gtA (by rfl) (by rfl) (fun K_ hK_ => ?_); go_big_quiet_op; refine hK_ _ ?_; clear hK_ K_)
        (refine z_quiet gtA (by rfl) (by rfl) (fun K_ hK_ => ?_); go_big_quiet_op; refine hK_ _ ?_; clear hK_ K_)
        (refine z_quiet gtA (by rfl) (by rfl) (fun K_ hK_ => ?_); go_big_quiet_op; refine hK_ _ ?_; clear hK_ K_)
        (refine z_run gtA (by rfl) (by rfl) (fun K_ hK_ => ?_); have HK_ := Lib.hid hK_; clear hK_; go_wp2_with (first | (go_at_call 95; (with_reducible refine (HU2.out _ (HHV.out.below (by exact blw))).mono ?_); rintro e wa ⟨rfl, hba⟩; have hac := bc hba; have haf := bf hba; have haz := hba.size; try simp only [World.size_alloc, World.size_drew] at haz) | (go_at_call 95; (with_reducible refine (HU0.out _ (HHV.out.below (by exact blw))).mono ?_); rintro e wb ⟨rfl, hbb⟩; have hbc := bc hbb; have hbf := bf hbb; have hbz := hbb.size; try simp only [World.size_alloc, World.size_drew] at hbz) | (go_at_call 139; (with_reducible refine (HNM.out _ (HHV.out.below (by exact blw))).mono ?_); rintro e wd ⟨rfl, hbd⟩; have hdc := bc hbd; have hdf := bf hbd; have hdz := hbd.size; try simp only [World.size_alloc, World.size_drew] at hdz) | (go_at_call 138; (with_reducible refine (HAL.out _ (by exact blw)).mono ?_); rintro e w8 ⟨rfl, ht8, hk8⟩; have HT8 := Lib.hid ht8; have HK8 := Lib.hid ((LKeep.of (B := w.heap.size) (g := g) (show Below V.heap.size V _ from blw) (by omega)).trans hk8); clear ht8 hk8)); refine HK_.out _ _ (wld_ofA) ?_; clear HK_)
        (refine z_run gtA (by rfl) (by rfl) (fun K_ hK_ => ?_); have HK_ := Lib.hid hK_; clear hK_; go_wp2_with (first | (go_at_call 95; (with_reducible refine (HU2.out _ (HHV.out.below (by exact blw))).mono ?_); rintro e wa ⟨rfl, hba⟩; have hac := bc hba; have haf := bf hba; have haz := hba.size; try simp only [World.size_alloc, World.size_drew] at haz) | (go_at_call 95; (with_reducible refine (HU0.out _ (HHV.out.below (by exact blw))).mono ?_); rintro e wb ⟨rfl, hbb⟩; have hbc := bc hbb; have hbf := bf hbb; have hbz := hbb.size; try simp only [World.size_alloc, World.size_drew] at hbz) | (go_at_call 139; (with_reducible refine (HNM.out _ (HHV.out.below (by exact blw))).mono ?_); rintro e wd ⟨rfl, hbd⟩; have hdc := bc hbd; have hdf := bf hbd; have hdz := hbd.size; try simp only [World.size_alloc, World.size_drew] at hdz) | (go_at_call 138; (with_reducible refine (HAL.out _ (by exact blw)).mono ?_); rintro e w8 ⟨rfl, ht8, hk8⟩; have HT8 := Lib.hid ht8; have HK8 := Lib.hid ((LKeep.of (B := w.heap.size) (g := g) (show Below V.heap.size V _ from blw) (by omega)).trans hk8); clear ht8 hk8)); refine HK_.out _ _ (wld_ofA) ?_; clear HK_)
        (refine z_run gtA (by rfl) (by rfl) (fun K_ hK_ => ?_); have HK_ := Lib.hid hK_; clear hK_; go_wp2_with (first | (go_at_call 95; (with_reducible refine (HU2.out _ (HHV.out.below (by exact blw))).mono ?_); rintro e wa ⟨rfl, hba⟩; have hac := bc hba; have haf := bf hba; have haz := hba.size; try simp only [World.size_alloc, World.size_drew] at haz) | (go_at_call 95; (with_reducible refine (HU0.out _ (HHV.out.below (by exact blw))).mono ?_); rintro e wb ⟨rfl, hbb⟩; have hbc := bc hbb; have hbf := bf hbb; have hbz := hbb.size; try simp only [World.size_alloc, World.size_drew] at hbz) | (go_at_call 139; (with_reducible refine (HNM.out _ (HHV.out.below (by exact blw))).mono ?_); rintro e wd ⟨rfl, hbd⟩; have hdc := bc hbd; have hdf := bf hbd; have hdz := hbd.size; try simp only [World.size_alloc, World.size_drew] at hdz) | (go_at_call 138; (with_reducible refine (HAL.out _ (by exact blw)).mono ?_); rintro e w8 ⟨rfl, ht8, hk8⟩; have HT8 := Lib.hid ht8; have HK8 := Lib.hid ((LKeep.of (B := w.heap.size) (g := g) (show Below V.heap.size V _ from blw) (by omega)).trans hk8); clear ht8 hk8)); refine HK_.out _ _ (wld_ofA) ?_; clear HK_)
        (refine z_last gtA (by rfl) (by rfl) (by rfl) (fun K_ hK_ => ?_); have HK_ := Lib.hid hK_; clear hK_; go_wp2_with (first | (go_at_call 95; (with_reducible refine (HU2.out _ (HHV.out.below (by exact blw))).mono ?_); rintro e wa ⟨rfl, hba⟩; have hac := bc hba; have haf := bf hba; have haz := hba.size; try simp only [World.size_alloc, World.size_drew] at haz) | (go_at_call 95; (with_reducible refine (HU0.out _ (HHV.out.below (by exact blw))).mono ?_); rintro e wb ⟨rfl, hbb⟩; have hbc := bc hbb; have hbf := bf hbb; have hbz := hbb.size; try simp only [World.size_alloc, World.size_drew] at hbz) | (go_at_call 139; (with_reducible refine (HNM.out _ (HHV.out.below (by exact blw))).mono ?_); rintro e wd ⟨rfl, hbd⟩; have hdc := bc hbd; have hdf := bf hbd; have hdz := hbd.size; try simp only [World.size_alloc, World.size_drew] at hdz) | (go_at_call 138; (with_reducible refine (HAL.out _ (by exact blw)).mono ?_); rintro e w8 ⟨rfl, ht8, hk8⟩; have HT8 := Lib.hid ht8; have HK8 := Lib.hid ((LKeep.of (B := w.heap.size) (g := g) (show Below V.heap.size V _ from blw) (by omega)).trans hk8); clear ht8 hk8)); refine HK_.out _ _ ?_; clear HK_)
        refine z_nil ?_
        clear hG_
        have HT9 := Lib.hid (show TabIs w.heap.size g 6 (tabR bs (rs.take (j + 1))).1 (tabR bs (rs.take (j + 1))).2 w8 from by rw [HTS.out, stepR, numsR, HF3.out]; exact HT8.out)
        clear HT8
        have hjl : j < M := HLT.out
        have hwwr : w.heap.size ≤ wr.heap.size := HBR.out.size
        go_wp2_with fail
        go_roundw
        case rel => exact ⟨j + 1, by rw [HLEN.out]; exact HLT.out, by go_num, okR_take_succ HOKJ.out HRR.out (HFR.out.2 HCA.out), HT9.out, HKJ.out.trans ((LKeep.of HBV.out (by omega)).trans HK8.out)⟩
        case measure => simp [Go.RowKit.intOf]; have := HLT.out; omega
      · have HAL := Lib.hid (fun (W : World) (hW : Below V.heap.size V W) => (HAK.out W (HTV.out.below hW)).mono (R' := fun e w' => e = .panicked thrown ∧ LKeep w.heap.size g W w') (by rintro e w' ⟨(⟨hy, _⟩ | ⟨_, he⟩), hk⟩; exact absurd hy hca; exact ⟨he, hk⟩))
        have HNO := Lib.hid (show ∀ rs', ¬ LkOk bs glyphs size rs' from fun rs' hx => by
          obtain rfl := hx.rows.det HRW.out
          exact hca (HFR.out.1 (hx.ok j _ HRR.out)))
        have HBB := Lib.hid (HBR.out.trans (HBV.out.mono (by omega)))
        clear hca
        refine wp_region_tree (.step 0 (.step 1 (.step 3 (.step 5 (.step 6 (.step 2 (.step 4 (.step 7 (.step 8 .nil))))))))) (by kernel_rfl) (by kernel_rfl) (by kernel_rfl) (by kernel_rfl) (by intro _ _ d_ _ _ h_; cases d_ <;> first | exact h_ | (dsimp +zetaDelta only at h_ ⊢; exact h_)) (fun w' => ∃ p : BelW V.heap.size V, w' = p.val) (bel_start _ _) ?_
        have hG_ := @belC V.heap.size V
        (refine tree_quiet gtA (by rfl) (by rfl) (fun K_ hK_ => ?_); go_big_quiet_op; refine hK_ _ ?_; clear hK_ K_)
        (refine tree_quiet gtA (by rfl) (by rfl) (fun K_ hK_ => ?_); go_big_quiet_op; refine hK_ _ ?_; clear hK_ K_)
        (refine tree_quiet gtA (by rfl) (by rfl) (fun K_ hK_ => ?_); go_big_quiet_op; refine hK_ _ ?_; clear hK_ K_)
        (refine tree_quiet gtA (by rfl) (by rfl) (fun K_ hK_ => ?_); go_big_quiet_op; refine hK_ _ ?_; clear hK_ K_)
        (refine tree_quiet gtA (by rfl) (by rfl) (fun K_ hK_ => ?_); go_big_quiet_op; refine hK_ _ ?_; clear hK_ K_)
        (refine tree_run gtA (by rfl) (by rfl) (fun K_ hK_ => ?_); have HK_ := Lib.hid hK_; clear hK_; go_wp2_with (first | (go_at_call 95; (with_reducible refine (HU2.out _ (HHV.out.below (by repeat (first | exact Below.refl _ _ | assumption | refine bdrew1q ?_ | refine balloc ?_ _ | refine bthen ?_ (by assumption) | refine Below.trans ?_ (by assumption))))).mono ?_); rintro e wa ⟨rfl, hba⟩; have hac := bc hba; have haf := bf hba; have haz := hba.size; try simp only [World.size_alloc, World.size_drew] at haz) | (go_at_call 95; (with_reducible refine (HU0.out _ (HHV.out.below (by repeat (first | exact Below.refl _ _ | assumption | refine bdrew1q ?_ | refine balloc ?_ _ | refine bthen ?_ (by assumption) | refine Below.trans ?_ (by assumption))))).mono ?_); rintro e wb ⟨rfl, hbb⟩; have hbc := bc hbb; have hbf := bf hbb; have hbz := hbb.size; try simp only [World.size_alloc, World.size_drew] at hbz) | (go_at_call 139; (with_reducible refine (HNM.out _ (HHV.out.below (by repeat (first | exact Below.refl _ _ | assumption | refine bdrew1q ?_ | refine balloc ?_ _ | refine bthen ?_ (by assumption) | refine Below.trans ?_ (by assumption))))).mono ?_); rintro e wd ⟨rfl, hbd⟩; have hdc := bc hbd; have hdf := bf hbd; have hdz := hbd.size; try simp only [World.size_alloc, World.size_drew] at hdz) | (go_at_call 138; (with_reducible refine (HAL.out _ (by repeat (first | exact Below.refl _ _ | assumption | refine bdrew1q ?_ | refine balloc ?_ _ | refine bthen ?_ (by assumption) | refine Below.trans ?_ (by assumption)))).mono ?_); rintro e w8 ⟨rfl, hk8⟩)); refine HK_.out _ _ (bel_ofA) ?_; clear HK_)
        (refine tree_run gtA (by rfl) (by rfl) (fun K_ hK_ => ?_); have HK_ := Lib.hid hK_; clear hK_; go_wp2_with (first | (go_at_call 95; (with_reducible refine (HU2.out _ (HHV.out.below (by repeat (first | exact Below.refl _ _ | assumption | refine bdrew1q ?_ | refine balloc ?_ _ | refine bthen ?_ (by assumption) | refine Below.trans ?_ (by assumption))))).mono ?_); rintro e wa ⟨rfl, hba⟩; have hac := bc hba; have haf := bf hba; have haz := hba.size; try simp only [World.size_alloc, World.size_drew] at haz) | (go_at_call 95; (with_reducible refine (HU0.out _ (HHV.out.below (by repeat (first | exact Below.refl _ _ | assumption | refine bdrew1q ?_ | refine balloc ?_ _ | refine bthen ?_ (by assumption) | refine Below.trans ?_ (by assumption))))).mono ?_); rintro e wb ⟨rfl, hbb⟩; have hbc := bc hbb; have hbf := bf hbb; have hbz := hbb.size; try simp only [World.size_alloc, World.size_drew] at hbz) | (go_at_call 139; (with_reducible refine (HNM.out _ (HHV.out.below (by repeat (first | exact Below.refl _ _ | assumption | refine bdrew1q ?_ | refine balloc ?_ _ | refine bthen ?_ (by assumption) | refine Below.trans ?_ (by assumption))))).mono ?_); rintro e wd ⟨rfl, hbd⟩; have hdc := bc hbd; have hdf := bf hbd; have hdz := hbd.size; try simp only [World.size_alloc, World.size_drew] at hdz) | (go_at_call 138; (with_reducible refine (HAL.out _ (by repeat (first | exact Below.refl _ _ | assumption | refine bdrew1q ?_ | refine balloc ?_ _ | refine bthen ?_ (by assumption) | refine Below.trans ?_ (by assumption)))).mono ?_); rintro e w8 ⟨rfl, hk8⟩)); refine HK_.out _ _ (bel_ofA) ?_; clear HK_)
        (refine tree_run gtA (by rfl) (by rfl) (fun K_ hK_ => ?_); have HK_ := Lib.hid hK_; clear hK_; go_wp2_with (first | (go_at_call 95; (with_reducible refine (HU2.out _ (HHV.out.below (by repeat (first | exact Below.refl _ _ | assumption | refine bdrew1q ?_ | refine balloc ?_ _ | refine bthen ?_ (by assumption) | refine Below.trans ?_ (by assumption))))).mono ?_); rintro e wa ⟨rfl, hba⟩; have hac := bc hba; have haf := bf hba; have haz := hba.size; try simp only [World.size_alloc, World.size_drew] at haz) | (go_at_call 95; (with_reducible refine (HU0.out _ (HHV.out.below (by repeat (first | exact Below.refl _ _ | assumption | refine bdrew1q ?_ | refine balloc ?_ _ | refine bthen ?_ (by assumption) | refine Below.trans ?_ (by assumption))))).mono ?_); rintro e wb ⟨rfl, hbb⟩; have hbc := bc hbb; have hbf := bf hbb; have hbz := hbb.size; try simp only [World.size_alloc, World.size_drew] at hbz) | (go_at_call 139; (with_reducible refine (HNM.out _ (HHV.out.below (by repeat (first | exact Below.refl _ _ | assumption | refine bdrew1q ?_ | refine balloc ?_ _ | refine bthen ?_ (by assumption) | refine Below.trans ?_ (by assumption))))).mono ?_); rintro e wd ⟨rfl, hbd⟩; have hdc := bc hbd; have hdf := bf hbd; have hdz := hbd.size; try simp only [World.size_alloc, World.size_drew] at hdz) | (go_at_call 138; (with_reducible refine (HAL.out _ (by repeat (first | exact Below.refl _ _ | assumption | refine bdrew1q ?_ | refine balloc ?_ _ | refine bthen ?_ (by assumption) | refine Below.trans ?_ (by assumption)))).mono ?_); rintro e w8 ⟨rfl, hk8⟩)); refine HK_.out _ _ (bel_ofA) ?_; clear HK_)
        (refine tree_run gtA (by rfl) (by rfl) (fun K_ hK_ => ?_); have HK_ := Lib.hid hK_; clear hK_; go_wp2_with (first | (go_at_call 95; (with_reducible refine (HU2.out _ (HHV.out.below (by repeat (first | exact Below.refl _ _ | assumption | refine bdrew1q ?_ | refine balloc ?_ _ | refine bthen ?_ (by assumption) | refine Below.trans ?_ (by assumption))))).mono ?_); rintro e wa ⟨rfl, hba⟩; have hac := bc hba; have haf := bf hba; have haz := hba.size; try simp only [World.size_alloc, World.size_drew] at haz) | (go_at_call 95; (with_reducible refine (HU0.out _ (HHV.out.below (by repeat (first | exact Below.refl _ _ | assumption | refine bdrew1q ?_ | refine balloc ?_ _ | refine bthen ?_ (by assumption) | refine Below.trans ?_ (by assumption))))).mono ?_); rintro e wb ⟨rfl, hbb⟩; have hbc := bc hbb; have hbf := bf hbb; have hbz := hbb.size; try simp only [World.size_alloc, World.size_drew] at hbz) | (go_at_call 139; (with_reducible refine (HNM.out _ (HHV.out.below (by repeat (first | exact Below.refl _ _ | assumption | refine bdrew1q ?_ | refine balloc ?_ _ | refine bthen ?_ (by assumption) | refine Below.trans ?_ (by assumption))))).mono ?_); rintro e wd ⟨rfl, hbd⟩; have hdc := bc hbd; have hdf := bf hbd; have hdz := hbd.size; try simp only [World.size_alloc, World.size_drew] at hdz) | (go_at_call 138; (with_reducible refine (HAL.out _ (by repeat (first | exact Below.refl _ _ | assumption | refine bdrew1q ?_ | refine balloc ?_ _ | refine bthen ?_ (by assumption) | refine Below.trans ?_ (by assumption)))).mono ?_); rintro e w8 ⟨rfl, hk8⟩)); exact ⟨rfl, .inr ⟨HNO.out, rfl⟩, bad_end HBB.out (by repeat (first | exact Below.refl _ _ | assumption | refine bdrew1q ?_ | refine balloc ?_ _ | refine bthen ?_ (by assumption) | refine Below.trans ?_ (by assumption))) (by omega) hk8⟩)
    · obtain rfl : j = M := by omega
      clear hokj htj hkj hBr
      go_wp2_with fail
      go_ret
      have e := HLEN.out
      have hok := HOKJ.out
      have ht := HTJ.out
      rw [List.take_of_length_le (by omega)] at hok ht
      exact ⟨.inl ⟨rs, g, ⟨HRW.out, hok⟩, rfl, by rw [HH0.out]; exact ht⟩, HBR.out⟩
end Go.Proofs.Ytaladlaffglkeaa
end
section

/- lookup.Take of the forms 0 and 10, of one that has too few bytes, and of others. Conditions: as many bytes as the slice says; a font's glyphs, numbers of two or four bytes. -/
namespace Go.Proofs.Ytaladlaffglkeaa
open Go.RowKit Go.Lib

theorem fail_t0 (w : World) : Calls Try.prog 122 #[] w fun e w' => e = .panicked thrown ∧ w = w' := (fail_any w).mono fun _ _ h => ⟨h.1, h.2.symm⟩
set_option maxRecDepth 100000 in
set_option maxHeartbeats 3200000 in
theorem takeShort (a : Option Addr) (n c : Nat) (bs : List UInt8) (glyphs size : Nat) (zg zs : Int) (w : World) (hbl : bs.length = n) (hnc : n ≤ c) (hc : c ≤ maxLen) (h2 : ¬ 2 ≤ n) :
    Calls Try.prog 96 #[.agg #[.slice a n c], .int .i64 zg, .int .i64 zs] w (TakeIs bs glyphs size w) := by
  have hAC := allocC
  have hAF := allocF
  have HU := Lib.hid (fun W => u16_bad a n c 0 W (by omega) hnc hc)
  have HNO := Lib.hid (show ∀ rs, ¬ LkOk bs glyphs size rs from fun rs hx => by cases hx.rows <;> omega)
  go_enter Try.func96, Try.ntmps96
  go_wp2_with (first | (go_at_call 95; (with_reducible refine (HU.out _).mono ?_); rintro e w1 ⟨rfl, hb1⟩; have h1c := bc hb1; have h1f := bf hb1; have h1z := hb1.size; try simp only [World.size_alloc, World.size_drew] at h1z))
  have hb : Below w.heap.size w w1 := blw
  exact ⟨rfl, .inr ⟨HNO.out, rfl⟩, hb⟩
set_option maxRecDepth 100000 in
set_option maxHeartbeats 3200000 in
theorem takeX (a : Option Addr) (n c : Nat) (bs : List UInt8) (glyphs size : Nat) (zg zs : Int) (w : World) (hh : Has w a (bytesV bs)) (hbl : bs.length = n) (hnc : n ≤ c) (hc : c ≤ maxLen) (h2 : 2 ≤ n)
    (h0 : num bs 0 2 ≠ 0 ∧ num bs 0 2 ≠ 2 ∧ num bs 0 2 ≠ 4 ∧ num bs 0 2 ≠ 6 ∧ num bs 0 2 ≠ 8 ∧ num bs 0 2 ≠ 10) :
    Calls Try.prog 96 #[.agg #[.slice a n c], .int .i64 zg, .int .i64 zs] w (TakeIs bs glyphs size w) := by
  have hAC := allocC
  have hAF := allocF
  have HNO := Lib.hid (show ∀ rs, ¬ LkOk bs glyphs size rs from fun rs hx => by cases hx.rows <;> omega)
  obtain ⟨y, hy⟩ : ∃ y : Int, ((num bs 0 2 : Nat) : Int) = y := ⟨_, rfl⟩
  have HU := Lib.hid (fun W hw => u16_y a n c 0 0 y rfl bs hy W hw hbl h2 hnc hc)
  have e0 : (y == 0) = false := by rw [beq_eq_false_iff_ne]; omega
  have e2 : (y == 2) = false := by rw [beq_eq_false_iff_ne]; omega
  have e4 : (y == 4) = false := by rw [beq_eq_false_iff_ne]; omega
  have e6 : (y == 6) = false := by rw [beq_eq_false_iff_ne]; omega
  have e8 : (y == 8) = false := by rw [beq_eq_false_iff_ne]; omega
  have e10 : (y == 10) = false := by rw [beq_eq_false_iff_ne]; omega
  have HH := Lib.hid hh
  clear hh hy h0
  go_enter Try.func96, Try.ntmps96
  go_wp2_with (first | (go_at_call 95; (with_reducible refine (HU.out _ (HH.out.below (by exact blw))).mono ?_); rintro e w1 ⟨rfl, hb1⟩; have h1c := bc hb1; have h1f := bf hb1; have h1z := hb1.size; try simp only [World.size_alloc, World.size_drew] at h1z) | (go_at_call 122; refine (fail_t0 _).mono ?_; rintro e w_ ⟨rfl, rfl⟩))
  exact ⟨rfl, .inr ⟨HNO.out, rfl⟩, blw⟩
set_option maxRecDepth 100000 in
set_option maxHeartbeats 3200000 in
theorem take0 (a : Option Addr) (n c : Nat) (bs : List UInt8) (glyphs size : Nat) (zg zs : Int) (hzg : zg = (glyphs : Nat)) (hzs : zs = (size : Nat)) (w : World) (hh : Has w a (bytesV bs)) (hbl : bs.length = n) (hnc : n ≤ c) (hc : c ≤ maxLen) (hS : size = 2 ∨ size = 4) (hg1 : 1 ≤ glyphs) (hg2 : glyphs ≤ 65535) (h0 : num bs 0 2 = 0) (h2 : 2 ≤ n) :
    Calls Try.prog 96 #[.agg #[.slice a n c], .int .i64 zg, .int .i64 zs] w (TakeIs bs glyphs size w) := by
  have hAC := allocC
  have hAF := allocF
  subst hzg hzs
  have hcm := hc
  unfold maxLen at hcm
  have HU := Lib.hid (fun W hw => u16_y a n c 0 0 0 rfl bs (by rw [h0]; rfl) W hw hbl h2 hnc hc)
  have HRE := Lib.hid (fun W => rest_z a n c 2 2 rfl W h2 hnc hc)
  have HH := Lib.hid hh
  have HH0 := Lib.hid h0
  have HTA := Lib.hid (fun (W : World) (g : Nat) (ht : TabIs w.heap.size g 0 [] [] W) (hb : Below w.heap.size w W) (hg : w.heap.size ≤ g) => apart_any w.heap.size g 0 [] [] 0 (glyphs - 1) size 0 ((glyphs : Int) - 1) (size : Int) rfl (by omega) rfl (adv a c 2) (n - 2) (c - 2) (bs.drop 2) W ht hg (by simp) (by simp) (by omega) (by omega) (by have := ((hh.below hb).adv c 2 (by rw [bytesV_length, hbl]; exact hnc)); rw [bytesV_drop] at this; exact this) (by rw [List.length_drop, hbl]) (by omega) (by unfold maxLen; omega) (advB (has_lt hh (by omega))))
  have HAO := Lib.hid (show ApOk [] 0 (glyphs - 1) size (n - 2) ↔ okR bs [⟨0, glyphs - 1, 2, size, true⟩] from by
    have := ok_rowsT bs 0 glyphs 2 size (by omega)
    unfold rowsT at this
    rw [if_neg (by omega), Nat.zero_add] at this
    rw [this, hbl]
    unfold ApOk
    rw [canAdd_nil, show glyphs - 1 - 0 + 1 = glyphs by omega]
    exact ⟨fun hx => hx.2, fun hx => ⟨by omega, hx⟩⟩)
  clear hh
  go_enter Try.func96, Try.ntmps96
  go_wp2_with (first | (go_at_call 95; (with_reducible refine (HU.out _ (HH.out.below (by exact blw))).mono ?_); rintro e w1 ⟨rfl, hb1⟩; have h1c := bc hb1; have h1f := bf hb1; have h1z := hb1.size; try simp only [World.size_alloc, World.size_drew] at h1z))
  have hT := tab_new (B := w.heap.size) w1 0 (by omega) 0 rfl
  have hbW : Below w.heap.size w (w1.alloc (.cells #[.int .i64 0, .slice none 0 0, .slice none 0 0] 216)) := blw
  have hg : w.heap.size ≤ w1.heap.size := by omega
  refine (HRE.out _).mono ?_
  rintro e w2 ⟨rfl, hb2⟩
  have HT2 := Lib.hid (HTA.out _ _ (hT.below hb2) (bthen hbW hb2) hg)
  have HB2 := Lib.hid (bthen hbW hb2)
  clear hT hbW hb2 h1c h1f hb1
  generalize w1.heap.size = g at *
  go_wp2_with fail
  refine HT2.out.mono ?_
  rintro e w3 ⟨(⟨hok, rfl, ht3⟩ | ⟨hno, rfl⟩), hk3⟩
  · have HOK := Lib.hid (show LkOk bs glyphs size [⟨0, glyphs - 1, 2, size, true⟩] from ⟨.all (by omega) h0, HAO.out.1 hok⟩)
    have HT3 := Lib.hid ht3
    have HB3 := Lib.hid (HB2.out.trans hk3.below)
    clear hk3 ht3
    go_wp2_with fail
    go_ret
    exact ⟨.inl ⟨_, g, HOK.out, rfl, by rw [HH0.out]; exact HT3.out⟩, HB3.out⟩
  · refine ⟨rfl, .inr ⟨fun rs hrs => ?_, rfl⟩, HB2.out.trans hk3.below⟩
    obtain ⟨hr, hk⟩ := hrs
    cases hr with
    | all k1 _ => exact hno (HAO.out.2 hk)
    | _ => omega
set_option maxRecDepth 100000 in
set_option maxHeartbeats 3200000 in
theorem take10 (a : Option Addr) (n c : Nat) (bs : List UInt8) (glyphs size : Nat) (zg zs : Int) (hzg : zg = (glyphs : Nat)) (hzs : zs = (size : Nat)) (w : World) (hh : Has w a (bytesV bs)) (hbl : bs.length = n) (hnc : n ≤ c) (hc : c ≤ maxLen) (h0 : num bs 0 2 = 10) (h2 : 2 ≤ n) :
    Calls Try.prog 96 #[.agg #[.slice a n c], .int .i64 zg, .int .i64 zs] w (TakeIs bs glyphs size w) := by
  have hAC := allocC
  have hAF := allocF
  subst hzg hzs
  have hcm := hc
  unfold maxLen at hcm
  have HU := Lib.hid (fun W hw => u16_y a n c 0 0 10 rfl bs (by rw [h0]; rfl) W hw hbl h2 hnc hc)
  have HH := Lib.hid hh
  have HH0 := Lib.hid h0
  by_cases h4 : 4 ≤ n
  case neg =>
    have HU2 := Lib.hid (fun W => u16_bad a n c 2 W (by omega) hnc hc)
    have HNO := Lib.hid (show ∀ rs, ¬ LkOk bs glyphs size rs from fun rs hx => by cases hx.rows <;> omega)
    clear hh
    go_enter Try.func96, Try.ntmps96
    go_wp2_with (first | (go_at_call 95; (with_reducible refine (HU.out _ (HH.out.below (by exact blw))).mono ?_); rintro e w1 ⟨rfl, hb1⟩; have h1c := bc hb1; have h1f := bf hb1; have h1z := hb1.size; try simp only [World.size_alloc, World.size_drew] at h1z) | (go_at_call 95; (with_reducible refine (HU2.out _).mono ?_); rintro e w2 ⟨rfl, hb2⟩; have h2c := bc hb2; have h2f := bf hb2; have h2z := hb2.size; try simp only [World.size_alloc, World.size_drew] at h2z))
    exact ⟨rfl, .inr ⟨HNO.out, rfl⟩, blw⟩
  have HRE := Lib.hid (fun W => rest_z a n c 4 4 rfl W h4 hnc hc)
  by_cases hu : num bs 2 2 = 1 ∨ num bs 2 2 = 2 ∨ num bs 2 2 = 4
  case neg =>
    obtain ⟨y, hy⟩ : ∃ y : Int, ((num bs 2 2 : Nat) : Int) = y := ⟨_, rfl⟩
    have HU2 := Lib.hid (fun W hw => u16_y a n c 2 2 y rfl bs hy W hw hbl (by omega) hnc hc)
    have e1 : (y == 1) = false := by rw [beq_eq_false_iff_ne]; omega
    have e2 : (y == 2) = false := by rw [beq_eq_false_iff_ne]; omega
    have e4 : (y == 4) = false := by rw [beq_eq_false_iff_ne]; omega
    have HNO := Lib.hid (show ∀ rs, ¬ LkOk bs glyphs size rs from fun rs hx => by cases hx.rows <;> omega)
    clear hh hy hu
    go_enter Try.func96, Try.ntmps96
    go_wp2_with (first | (go_at_call 95; (with_reducible refine (HU.out _ (HH.out.below (by exact blw))).mono ?_); rintro e w1 ⟨rfl, hb1⟩; have h1c := bc hb1; have h1f := bf hb1; have h1z := hb1.size; try simp only [World.size_alloc, World.size_drew] at h1z) | (go_at_call 95; (with_reducible refine (HU2.out _ (HH.out.below (by exact blw))).mono ?_); rintro e w2 ⟨rfl, hb2⟩; have h2c := bc hb2; have h2f := bf hb2; have h2z := hb2.size; try simp only [World.size_alloc, World.size_drew] at h2z) | (go_at_call 94; refine (need_f _ (by first | rfl | (simp; omega)) _).mono ?_; rintro e w_ ⟨rfl, rfl⟩))
    exact ⟨rfl, .inr ⟨HNO.out, rfl⟩, blw⟩
  obtain hu | hu | hu := hu
  · have HU2 := Lib.hid (fun W hw => u16_y a n c 2 2 1 rfl bs (by rw [hu]; rfl) W hw hbl (by omega) hnc hc)
    have HTA := Lib.hid (fun (W : World) (g : Nat) (ht : TabIs w.heap.size g 10 [] [] W) (hb : Below w.heap.size w W) (hg : w.heap.size ≤ g) => trim_any w.heap.size g 10 1 1 rfl (adv a c 4) (n - 4) (c - 4) (bs.drop 4) W ht hg (by omega) (by have := ((hh.below hb).adv c 4 (by rw [bytesV_length, hbl]; exact hnc)); rw [bytesV_drop] at this; exact this) (by rw [List.length_drop, hbl]) (by omega) (by unfold maxLen; omega) (advB (has_lt hh (by omega))))
    have HU9 := Lib.hid hu
    clear hh hu
    go_enter Try.func96, Try.ntmps96
    go_wp2_with (first | (go_at_call 95; (with_reducible refine (HU.out _ (HH.out.below (by exact blw))).mono ?_); rintro e w1 ⟨rfl, hb1⟩; have h1c := bc hb1; have h1f := bf hb1; have h1z := hb1.size; try simp only [World.size_alloc, World.size_drew] at h1z))
    have hT := tab_new (B := w.heap.size) w1 10 (by omega) 10 rfl
    have hbW : Below w.heap.size w (w1.alloc (.cells #[.int .i64 10, .slice none 0 0, .slice none 0 0] 216)) := blw
    have hg : w.heap.size ≤ w1.heap.size := by omega
    refine (HU2.out _ (HH.out.below hbW)).mono ?_
    rintro e w2 ⟨rfl, hb2⟩
    have HT2 := Lib.hid (hT.below hb2)
    have HB2 := Lib.hid (bthen hbW hb2)
    have c3 : w2.cell? ⟨w.heap.size, 0, none⟩ = some (.slice a n c) := (hb2.cell (p := ⟨w.heap.size, 0, none⟩) (by show w.heap.size < _; simp; omega)).trans (by rw [hAC, if_neg (by omega), h1c, if_pos (by simp)]; simp [hAC])
    have hl3 : w.heap.size < w2.heap.size := by have := hb2.size; simp only [World.size_alloc] at this; omega
    clear hT hbW hb2 h1c h1f hb1
    generalize w1.heap.size = g at *
    go_wp2_with (first | (go_at_call 94; refine (need_t _ (by first | rfl | (simp; omega)) _).mono ?_; rintro e w_ ⟨rfl, rfl⟩) | (go_at_call 87; (with_reducible refine (HRE.out _).mono ?_); rintro e w4 ⟨rfl, hb4⟩; have h4c := bc hb4; have h4f := bf hb4; have h4z := hb4.size; try simp only [World.size_alloc, World.size_drew] at h4z))
    have HT4 := Lib.hid (HTA.out _ _ (HT2.out.below hb4) (bthen HB2.out hb4) hg)
    have HB4 := Lib.hid (bthen HB2.out hb4)
    refine HT4.out.mono ?_
    rintro e w5 ⟨(⟨hok, rfl, ht3⟩ | ⟨hno, rfl⟩), hk3⟩
    · rw [trim_at bs 4 1 (by omega)] at hok
      obtain ⟨k1, k2, k3⟩ := hok
      have HOK := Lib.hid (show LkOk bs glyphs size (rowsT (num bs 4 2) (num bs 6 2) 8 (num bs 2 2)) from ⟨.ten k1 h0 (by rw [HU9.out]; decide) k2, by rw [HU9.out]; exact k3⟩)
      rw [num_drop, num_drop, List.drop_drop] at ht3
      have HT3 := Lib.hid ht3
      have HB3 := Lib.hid (HB4.out.trans hk3.below)
      clear hk3 ht3
      go_wp2_with fail
      go_ret
      obtain ⟨e1, e2⟩ := tab_rowsT bs (num bs 4 2) (num bs 6 2) 8 (num bs 2 2)
      exact ⟨.inl ⟨_, g, HOK.out, rfl, by rw [e1, e2, HH0.out, HU9.out]; exact HT3.out⟩, HB3.out⟩
    · rw [trim_at bs 4 1 (by omega)] at hno
      refine ⟨rfl, .inr ⟨fun rs hrs => ?_, rfl⟩, HB4.out.trans hk3.below⟩
      obtain ⟨hr, hk⟩ := hrs
      cases hr with
      | ten k1 _ _ k2 => rw [HU9.out] at hk; exact hno ⟨k1, k2, hk⟩
      | _ => omega
  · have HU2 := Lib.hid (fun W hw => u16_y a n c 2 2 2 rfl bs (by rw [hu]; rfl) W hw hbl (by omega) hnc hc)
    have HTA := Lib.hid (fun (W : World) (g : Nat) (ht : TabIs w.heap.size g 10 [] [] W) (hb : Below w.heap.size w W) (hg : w.heap.size ≤ g) => trim_any w.heap.size g 10 2 2 rfl (adv a c 4) (n - 4) (c - 4) (bs.drop 4) W ht hg (by omega) (by have := ((hh.below hb).adv c 4 (by rw [bytesV_length, hbl]; exact hnc)); rw [bytesV_drop] at this; exact this) (by rw [List.length_drop, hbl]) (by omega) (by unfold maxLen; omega) (advB (has_lt hh (by omega))))
    have HU9 := Lib.hid hu
    clear hh hu
    go_enter Try.func96, Try.ntmps96
    go_wp2_with (first | (go_at_call 95; (with_reducible refine (HU.out _ (HH.out.below (by exact blw))).mono ?_); rintro e w1 ⟨rfl, hb1⟩; have h1c := bc hb1; have h1f := bf hb1; have h1z := hb1.size; try simp only [World.size_alloc, World.size_drew] at h1z))
    have hT := tab_new (B := w.heap.size) w1 10 (by omega) 10 rfl
    have hbW : Below w.heap.size w (w1.alloc (.cells #[.int .i64 10, .slice none 0 0, .slice none 0 0] 216)) := blw
    have hg : w.heap.size ≤ w1.heap.size := by omega
    refine (HU2.out _ (HH.out.below hbW)).mono ?_
    rintro e w2 ⟨rfl, hb2⟩
    have HT2 := Lib.hid (hT.below hb2)
    have HB2 := Lib.hid (bthen hbW hb2)
    have c3 : w2.cell? ⟨w.heap.size, 0, none⟩ = some (.slice a n c) := (hb2.cell (p := ⟨w.heap.size, 0, none⟩) (by show w.heap.size < _; simp; omega)).trans (by rw [hAC, if_neg (by omega), h1c, if_pos (by simp)]; simp [hAC])
    have hl3 : w.heap.size < w2.heap.size := by have := hb2.size; simp only [World.size_alloc] at this; omega
    clear hT hbW hb2 h1c h1f hb1
    generalize w1.heap.size = g at *
    go_wp2_with (first | (go_at_call 94; refine (need_t _ (by first | rfl | (simp; omega)) _).mono ?_; rintro e w_ ⟨rfl, rfl⟩) | (go_at_call 87; (with_reducible refine (HRE.out _).mono ?_); rintro e w4 ⟨rfl, hb4⟩; have h4c := bc hb4; have h4f := bf hb4; have h4z := hb4.size; try simp only [World.size_alloc, World.size_drew] at h4z))
    have HT4 := Lib.hid (HTA.out _ _ (HT2.out.below hb4) (bthen HB2.out hb4) hg)
    have HB4 := Lib.hid (bthen HB2.out hb4)
    refine HT4.out.mono ?_
    rintro e w5 ⟨(⟨hok, rfl, ht3⟩ | ⟨hno, rfl⟩), hk3⟩
    · rw [trim_at bs 4 2 (by omega)] at hok
      obtain ⟨k1, k2, k3⟩ := hok
      have HOK := Lib.hid (show LkOk bs glyphs size (rowsT (num bs 4 2) (num bs 6 2) 8 (num bs 2 2)) from ⟨.ten k1 h0 (by rw [HU9.out]; decide) k2, by rw [HU9.out]; exact k3⟩)
      rw [num_drop, num_drop, List.drop_drop] at ht3
      have HT3 := Lib.hid ht3
      have HB3 := Lib.hid (HB4.out.trans hk3.below)
      clear hk3 ht3
      go_wp2_with fail
      go_ret
      obtain ⟨e1, e2⟩ := tab_rowsT bs (num bs 4 2) (num bs 6 2) 8 (num bs 2 2)
      exact ⟨.inl ⟨_, g, HOK.out, rfl, by rw [e1, e2, HH0.out, HU9.out]; exact HT3.out⟩, HB3.out⟩
    · rw [trim_at bs 4 2 (by omega)] at hno
      refine ⟨rfl, .inr ⟨fun rs hrs => ?_, rfl⟩, HB4.out.trans hk3.below⟩
      obtain ⟨hr, hk⟩ := hrs
      cases hr with
      | ten k1 _ _ k2 => rw [HU9.out] at hk; exact hno ⟨k1, k2, hk⟩
      | _ => omega
  · have HU2 := Lib.hid (fun W hw => u16_y a n c 2 2 4 rfl bs (by rw [hu]; rfl) W hw hbl (by omega) hnc hc)
    have HTA := Lib.hid (fun (W : World) (g : Nat) (ht : TabIs w.heap.size g 10 [] [] W) (hb : Below w.heap.size w W) (hg : w.heap.size ≤ g) => trim_any w.heap.size g 10 4 4 rfl (adv a c 4) (n - 4) (c - 4) (bs.drop 4) W ht hg (by omega) (by have := ((hh.below hb).adv c 4 (by rw [bytesV_length, hbl]; exact hnc)); rw [bytesV_drop] at this; exact this) (by rw [List.length_drop, hbl]) (by omega) (by unfold maxLen; omega) (advB (has_lt hh (by omega))))
    have HU9 := Lib.hid hu
    clear hh hu
    go_enter Try.func96, Try.ntmps96
    go_wp2_with (first | (go_at_call 95; (with_reducible refine (HU.out _ (HH.out.below (by exact blw))).mono ?_); rintro e w1 ⟨rfl, hb1⟩; have h1c := bc hb1; have h1f := bf hb1; have h1z := hb1.size; try simp only [World.size_alloc, World.size_drew] at h1z))
    have hT := tab_new (B := w.heap.size) w1 10 (by omega) 10 rfl
    have hbW : Below w.heap.size w (w1.alloc (.cells #[.int .i64 10, .slice none 0 0, .slice none 0 0] 216)) := blw
    have hg : w.heap.size ≤ w1.heap.size := by omega
    refine (HU2.out _ (HH.out.below hbW)).mono ?_
    rintro e w2 ⟨rfl, hb2⟩
    have HT2 := Lib.hid (hT.below hb2)
    have HB2 := Lib.hid (bthen hbW hb2)
    have c3 : w2.cell? ⟨w.heap.size, 0, none⟩ = some (.slice a n c) := (hb2.cell (p := ⟨w.heap.size, 0, none⟩) (by show w.heap.size < _; simp; omega)).trans (by rw [hAC, if_neg (by omega), h1c, if_pos (by simp)]; simp [hAC])
    have hl3 : w.heap.size < w2.heap.size := by have := hb2.size; simp only [World.size_alloc] at this; omega
    clear hT hbW hb2 h1c h1f hb1
    generalize w1.heap.size = g at *
    go_wp2_with (first | (go_at_call 94; refine (need_t _ (by first | rfl | (simp; omega)) _).mono ?_; rintro e w_ ⟨rfl, rfl⟩) | (go_at_call 87; (with_reducible refine (HRE.out _).mono ?_); rintro e w4 ⟨rfl, hb4⟩; have h4c := bc hb4; have h4f := bf hb4; have h4z := hb4.size; try simp only [World.size_alloc, World.size_drew] at h4z))
    have HT4 := Lib.hid (HTA.out _ _ (HT2.out.below hb4) (bthen HB2.out hb4) hg)
    have HB4 := Lib.hid (bthen HB2.out hb4)
    refine HT4.out.mono ?_
    rintro e w5 ⟨(⟨hok, rfl, ht3⟩ | ⟨hno, rfl⟩), hk3⟩
    · rw [trim_at bs 4 4 (by omega)] at hok
      obtain ⟨k1, k2, k3⟩ := hok
      have HOK := Lib.hid (show LkOk bs glyphs size (rowsT (num bs 4 2) (num bs 6 2) 8 (num bs 2 2)) from ⟨.ten k1 h0 (by rw [HU9.out]; decide) k2, by rw [HU9.out]; exact k3⟩)
      rw [num_drop, num_drop, List.drop_drop] at ht3
      have HT3 := Lib.hid ht3
      have HB3 := Lib.hid (HB4.out.trans hk3.below)
      clear hk3 ht3
      go_wp2_with fail
      go_ret
      obtain ⟨e1, e2⟩ := tab_rowsT bs (num bs 4 2) (num bs 6 2) 8 (num bs 2 2)
      exact ⟨.inl ⟨_, g, HOK.out, rfl, by rw [e1, e2, HH0.out, HU9.out]; exact HT3.out⟩, HB3.out⟩
    · rw [trim_at bs 4 4 (by omega)] at hno
      refine ⟨rfl, .inr ⟨fun rs hrs => ?_, rfl⟩, HB4.out.trans hk3.below⟩
      obtain ⟨hr, hk⟩ := hrs
      cases hr with
      | ten k1 _ _ k2 => rw [HU9.out] at hk; exact hno ⟨k1, k2, hk⟩
      | _ => omega
end Go.Proofs.Ytaladlaffglkeaa
end
