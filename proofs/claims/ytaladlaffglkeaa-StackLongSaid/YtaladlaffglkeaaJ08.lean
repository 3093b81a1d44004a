/- Joined from: LTake4 LRead LAll LMost LSpeak SRead SSpeak SPlaceLaw SRef LRefS. -/
import Derived.Test.YtaladlaffglkeaaJ07
import Derived.Test.YtaladlaffglkeaaJ01
import Derived.RangeFuncNested
import Derived.RangeFuncBound
import Derived.RangeFuncCalls
import Derived.RangeFuncLeaves
import Derived.Shelf.Abstract
import Derived.WalkKit
import Derived.OwnWalkIn
import Derived.TacticsInMore
import Derived.LoopNIn
import Derived.LoopIn
import Derived.Test.YtaladlaffglkeaaJ03
import Derived.Test.YtaladlaffglkeaaJ04
section

/- lookup.Take of the form 4, and the whole contract of lookup.Take. Conditions: as many bytes as the slice says; a font's glyphs, numbers of two or four bytes. -/
namespace Go.Proofs.Ytaladlaffglkeaa
open Go.RowKit Go.Lib

set_option maxRecDepth 100000 in
set_option maxHeartbeats 3200000 in
theorem take4 (a : Option Addr) (n c : Nat) (bs : List UInt8) (glyphs size : Nat) (zg zs : Int) (hzg : zg = (glyphs : Nat)) (hzs : zs = (size : Nat)) (w : World) (hh : Has w a (bytesV bs)) (hbl : bs.length = n) (hnc : n ≤ c) (hc : c ≤ maxLen) (hg2 : glyphs ≤ 65535) (hS : size = 2 ∨ size = 4) (h0 : num bs 0 2 = 4) (h2 : 2 ≤ n) :
    Calls Try.prog 96 #[.agg #[.slice a n c], .int .i64 zg, .int .i64 zs] w (TakeIs bs glyphs size w) := by
  have hAC := allocC
  have hAF := allocF
  subst hzg hzs
  have hcm := hc
  unfold maxLen at hcm
  have HU := Lib.hid (fun W hw => u16_y a n c 0 0 4 rfl bs (by rw [h0]; rfl) W hw hbl h2 hnc hc)
  have HST := Lib.hid (fun W hw => stake_z a n c bs 2 6 2 6 2 rfl rfl W hw hbl hnc hc (by omega) (by omega) (by omega) (by decide) (by omega))
  have HH := Lib.hid hh
  have HH0 := Lib.hid h0
  have HBL := Lib.hid hbl
  have HS := Lib.hid hS
  have HAB := Lib.hid (has_lt hh (by omega))
  clear hh
  go_enter Try.func96, Try.ntmps96
  go_wp2_with (first | (go_at_call 95; (with_reducible refine (HU.out _ (HH.out.below (by exact blw))).mono ?_); rintro e w1 ⟨rfl, hb1⟩; have h1c := bc hb1; have h1f := bf hb1; have h1z := hb1.size; try simp only [World.size_alloc, World.size_drew] at h1z))
  have hT := tab_new (B := w.heap.size) w1 4 (by omega) 4 rfl
  have hbW : Below w.heap.size w (w1.alloc (.cells #[.int .i64 4, .slice none 0 0, .slice none 0 0] 216)) := blw
  have hg : w.heap.size ≤ w1.heap.size := by omega
  have hgn : w.heap.size ≠ w1.heap.size := by omega
  have e3 : (w1.alloc (.cells #[.int .i64 4, .slice none 0 0, .slice none 0 0] 216)).heap[w.heap.size]? = some (.cells #[.slice a n c] 93 (0, 0)) := by rw [heap_push, if_neg (by omega)]; exact (hb1.block _ (by simp)).trans (heap_new w _ _)
  refine (HST.out _ (HH.out.below hbW)).mono ?_
  rintro e w2 ⟨(⟨j2, gs, hj2, hok, rfl, hown⟩ | ⟨hno, rfl⟩), hb2⟩
  case inr =>
    refine ⟨rfl, .inr ⟨fun rs hrs => ?_, rfl⟩, bthen hbW hb2⟩
    cases hrs.rows with
    | four _ _ h1 => exact hno 2 rfl h1
    | _ => omega
  obtain rfl : j2 = 2 := by omega
  clear hj2
  have HT2 := Lib.hid (hT.below hb2)
  have HB2 := Lib.hid (bthen hbW hb2)
  have HC3 := Lib.hid ((hb2.block _ (by simp; omega)).trans e3)
  have HO2 := Lib.hid hown
  have hz2 : w1.heap.size + 1 ≤ w2.heap.size := by have := hb2.size; simpa using this
  have hgs := (hown.lt gs rfl).2
  have HRW := Lib.hid (show LkRows bs glyphs size (rows4 bs size (skM bs 2 2)) from .four (by omega) h0 hok)
  have hsz := hok.size
  have hfit := hok.rows
  rw [HBL.out] at hfit
  have hMN : skM bs 2 2 ≤ skN bs 2 := by unfold skM; split <;> omega
  have hM7 : skM bs 2 2 ≤ 65535 := Nat.le_trans hMN (num2_lt _ _)
  have HROW := Lib.hid (show ∀ j, j < skM bs 2 2 → (rows4 bs size (skM bs 2 2))[j]? = some ⟨num bs (12 + j * skS bs 2 + 2) 2, num bs (12 + j * skS bs 2 + 0) 2, num bs (12 + j * skS bs 2 + 4) 2, size, true⟩ from fun j hj => by simp [rows4, List.getElem?_map, List.getElem?_range hj])
  have HLEN := Lib.hid (show (rows4 bs size (skM bs 2 2)).length = skM bs 2 2 from by simp [rows4])
  have HIN := Lib.hid (fun (rs : List RP) (k : Nat) (hk : k ≤ rs.length) (hrs : LkRows bs glyphs size rs) (h : okR bs (rs.take k)) => (show (tabR bs (rs.take k)).1.length ≤ 70000 ∧ (tabR bs (rs.take k)).2.length ≤ 70001 from by
    obtain ⟨l1, l2⟩ := hrs.each hg2 HS.out
    exact ⟨by rw [tabR_len, List.length_take]; omega, (invR bs (rs.take k) h (fun r hr => l2 r (List.mem_of_mem_take hr))).len⟩))
  clear hT hbW hb2 e3 h1c h1f hb1 hown HU HST hok
  generalize rows4 bs size (skM bs 2 2) = rs at *
  generalize skM bs 2 2 = M at *
  generalize skS bs 2 = S at *
  generalize skN bs 2 = N at *
  have HFIT := Lib.hid (show ∀ j, j < M → 12 + j * S + S ≤ n from fun j hj => by
    have : j * S + S ≤ N * S := by rw [← Nat.succ_mul]; exact Nat.mul_le_mul_right _ (by omega)
    omega)
  obtain ⟨g, hgE⟩ : ∃ g, g = w1.heap.size := ⟨_, rfl⟩
  rw [← hgE] at HT2 hg hgn ⊢
  have hgw2 : g < w2.heap.size := by omega
  clear hfit hMN hz2 hgE
  go_wp2_with fail
  go_loopw [59] (TkRel w.heap.size g 4 bs rs w2) (fun i _ => M - (Go.RowKit.intOf i).toNat)
  case atStart => exact ⟨0, Nat.zero_le _, rfl, fun i r hi => (by simp at hi), HT2.out, LKeep.refl _ _ _⟩
  case round =>
    obtain ⟨j, hjM, rfl, hokj, htj, hkj⟩ := hrel
    rw [HLEN.out] at hjM
    have HOKJ := Lib.hid hokj
    have HTJ := Lib.hid htj
    have HKJ := Lib.hid hkj
    obtain ⟨len1, len2⟩ := HIN.out rs j (by rw [HLEN.out]; exact hjM) HRW.out hokj
    have hgr : g < wr.heap.size := htj.base
    have hBr := HB2.out.trans hkj.below
    have HBR := Lib.hid hBr
    by_cases hlt : j < M
    · obtain ⟨cs, hcs⟩ := HT2.out.at_
      have hrow := hkj.owns HO2.out (by decide) (by decide) hcs (by decide)
      have hcell := (hrow.cellAt j (by omega)).trans (rowsV_at a c 2 S M j hlt)
      have hgsl := cell_lt hcell
      simp only at hgsl
      have hp := HFIT.out j hlt
      have HR := HROW.out j hlt
      have hhr := ((hasB HH.out hBr HAB.out).adv c (12 + j * S) (by rw [bytesV_length, HBL.out]; exact hnc)).take S
      rw [bytesV_drop, bytesV_take] at hhr
      have h3r := (hkj.kept w.heap.size _ _ _ HC3.out (by decide) (by decide) hgn).trans HC3.out
      have HROWB := Lib.hid (show Has wr (adv a c (12 + j * S)) (bytesV (rowB bs (12 + j * S) S)) from hhr)
      have hrl : (rowB bs (12 + j * S) S).length = S := by rw [rowB, List.length_take, List.length_drop, HBL.out]; omega
      have hu0 := fun W hw => u16_z (adv a c (12 + j * S)) S (c - (12 + j * S)) 0 0 rfl (rowB bs (12 + j * S) S) W hw hrl (by omega) (by omega) (by unfold maxLen; omega)
      have hu2 := fun W hw => u16_z (adv a c (12 + j * S)) S (c - (12 + j * S)) 2 2 rfl (rowB bs (12 + j * S) S) W hw hrl (by omega) (by omega) (by unfold maxLen; omega)
      have hu4 := fun W hw => u16_z (adv a c (12 + j * S)) S (c - (12 + j * S)) 4 4 rfl (rowB bs (12 + j * S) S) W hw hrl (by omega) (by omega) (by unfold maxLen; omega)
      rw [num_row bs (12 + j * S) S 0 2 (by omega)] at hu0
      rw [num_row bs (12 + j * S) S 2 2 (by omega)] at hu2
      rw [num_row bs (12 + j * S) S 4 2 (by omega)] at hu4
      have HU0 := Lib.hid hu0
      have HU2 := Lib.hid hu2
      have HU4 := Lib.hid hu4
      have HRR := Lib.hid HR
      have HLT := Lib.hid hlt
      have hv : Value.slice (adv a c (2 + 10 + j * S)) S (c - (2 + 10 + j * S)) = .slice (adv a c (12 + j * S)) S (c - (12 + j * S)) := rfl
      rw [rowV, hv] at hcell
      have hl2 := num2_lt bs (12 + j * S + 0)
      have hAK := fun (W : World) (ht : TabIs w.heap.size g 4 (tabR bs (rs.take j)).1 (tabR bs (rs.take j)).2 W) (hb : Below w.heap.size w W) (ho : num bs (12 + j * S + 4) 2 ≤ n) => apart_any w.heap.size g 4 (tabR bs (rs.take j)).1 (tabR bs (rs.take j)).2 (num bs (12 + j * S + 2) 2) (num bs (12 + j * S + 0) 2) size _ _ (size : Int) rfl rfl rfl (adv a c (num bs (12 + j * S + 4) 2)) (n - num bs (12 + j * S + 4) 2) (c - num bs (12 + j * S + 4) 2) (bs.drop (num bs (12 + j * S + 4) 2)) W ht hg (by omega) (by omega) (by omega) (by have := HS.out; omega) (by have := ((HH.out.below hb).adv c (num bs (12 + j * S + 4) 2) (by rw [bytesV_length, HBL.out]; exact hnc)); rw [bytesV_drop] at this; exact this) (by rw [List.length_drop, HBL.out]) (by omega) (by unfold maxLen; omega) (advB HAB.out)
      have HFR := Lib.hid (show fitR bs (tabR bs (rs.take j)).1 ⟨num bs (12 + j * S + 2) 2, num bs (12 + j * S + 0) 2, num bs (12 + j * S + 4) 2, size, true⟩ ↔ num bs (12 + j * S + 4) 2 ≤ n ∧ ApOk (tabR bs (rs.take j)).1 (num bs (12 + j * S + 2) 2) (num bs (12 + j * S + 0) 2) size (n - num bs (12 + j * S + 4) 2) from by
        constructor
        · intro h
          have h2 := h.2 rfl
          simp only at h2
          rw [HBL.out] at h2
          exact ⟨by omega, h.1, by omega⟩
        · rintro ⟨h1, h2, h3⟩
          exact ⟨h2, fun _ => by simp only; rw [HBL.out]; omega⟩)
      have HTS := Lib.hid (tabR_take_succ (bs := bs) HR)
      have HAK := Lib.hid hAK
      clear hu0 hu2 hu4 hAK HR hhr hrl hrow hcs hokj htj hkj hp hv hlt hBr
      generalize hf1 : num bs (12 + j * S + 2) 2 = f1 at *
      generalize hf2 : num bs (12 + j * S + 0) 2 = f2 at *
      generalize hf3 : num bs (12 + j * S + 4) 2 = f3 at *
      generalize hpp : 12 + j * S = p at *
      go_wp2_with fail
      obtain ⟨V, hV⟩ : ∃ V, V = wr.alloc (Obj.cells #[.slice (adv a c p) S (c - p)] 93) := ⟨_, rfl⟩
      have c9 : V.cell? ⟨wr.heap.size, 0, none⟩ = some (.slice (adv a c p) S (c - p)) := by rw [hV]; simp [hAC]
      have hbV : Below wr.heap.size wr V := by rw [hV]; exact balloc (brefl _) _
      have HBV := Lib.hid hbV
      have hzV : V.heap.size = wr.heap.size + 1 := by rw [hV]; simp
      have HHV := Lib.hid (HROWB.out.below hbV)
      have HTV := Lib.hid (HTJ.out.below hbV)
      rw [← hV]
      clear hV hbV hcell
      have c3 := cell_of_heap ((HBV.out.block w.heap.size (by have := (Array.getElem?_eq_some_iff.1 h3r).1; exact this)).trans h3r) 0
      simp only [List.getElem?_toArray, List.getElem?_cons_zero] at c3
      have hl3 := cell_lt c3
      simp only at hl3
      have HBB := Lib.hid (HBR.out.trans (HBV.out.mono (by have := HBR.out.size; omega)))
      clear h3r
      by_cases hoff : f3 ≤ n
      case neg =>
        have hca : ¬ (f3 ≤ n ∧ ApOk (tabR bs (rs.take j)).1 f1 f2 size (n - f3)) := fun hx => hoff hx.1
        have HNO := Lib.hid (show ∀ rs', ¬ LkOk bs glyphs size rs' from fun rs' hx => by
          obtain rfl := hx.rows.det HRW.out
          exact hca (HFR.out.1 (hx.ok j _ HRR.out)))
        have HRE := Lib.hid (fun W => rest_bad a n c (f3 : Int) W (by omega))
        clear hca
        refine wp_region_tree (.step 0 (.step 1 (.step 3 (.step 5 (.step 6 (.step 9 (.step 2 (.step 4 (.step 7 (.step 8 (.step 10 .nil))))))))))) (by kernel_rfl) (by kernel_rfl) (by kernel_rfl) (by kernel_rfl) (by intro _ _ d_ _ _ h_; cases d_ <;> first | exact h_ | (dsimp +zetaDelta only at h_ ⊢; exact h_)) (fun w' => ∃ p : BelW V.heap.size V, w' = p.val) (bel_start _ _) ?_
        have hG_ := @belC V.heap.size V
        (refine tree_quiet gtA (by rfl) (by rfl) (fun K_ hK_ => ?_); go_big_quiet_op; refine hK_ _ ?_; clear hK_ K_)
        (refine tree_quiet gtA (by rfl) (by rfl) (fun K_ hK_ => ?_); go_big_quiet_op; refine hK_ _ ?_; clear hK_ K_)
        (refine tree_quiet gtA (by rfl) (by rfl) (fun K_ hK_ => ?_); go_big_quiet_op; refine hK_ _ ?_; clear hK_ K_)
        (refine tree_quiet gtA (by rfl) (by rfl) (fun K_ hK_ => ?_); go_big_quiet_op; refine hK_ _ ?_; clear hK_ K_)
        (refine tree_quiet gtA (by rfl) (by rfl) (fun K_ hK_ => ?_); go_big_quiet_op; refine hK_ _ ?_; clear hK_ K_)
        (refine tree_quiet gtA (by rfl) (by rfl) (fun K_ hK_ => ?_); go_big_quiet_op; refine hK_ _ ?_; clear hK_ K_)
        (refine tree_run gtA (by rfl) (by rfl) (fun K_ hK_ => ?_); have HK_ := Lib.hid hK_; clear hK_; go_wp2_with (first | (go_at_call 95; (with_reducible refine (HU2.out _ (HHV.out.below (by repeat (first | exact Below.refl _ _ | assumption | refine bdrew1q ?_ | refine balloc ?_ _ | refine bthen ?_ (by assumption) | refine Below.trans ?_ (by assumption))))).mono ?_); rintro e wa ⟨rfl, hba⟩; have hac := bc hba; have haf := bf hba; have haz := hba.size; try simp only [World.size_alloc, World.size_drew] at haz) | (go_at_call 95; (with_reducible refine (HU0.out _ (HHV.out.below (by repeat (first | exact Below.refl _ _ | assumption | refine bdrew1q ?_ | refine balloc ?_ _ | refine bthen ?_ (by assumption) | refine Below.trans ?_ (by assumption))))).mono ?_); rintro e wb ⟨rfl, hbb⟩; have hbc := bc hbb; have hbf := bf hbb; have hbz := hbb.size; try simp only [World.size_alloc, World.size_drew] at hbz) | (go_at_call 95; (with_reducible refine (HU4.out _ (HHV.out.below (by repeat (first | exact Below.refl _ _ | assumption | refine bdrew1q ?_ | refine balloc ?_ _ | refine bthen ?_ (by assumption) | refine Below.trans ?_ (by assumption))))).mono ?_); rintro e wd ⟨rfl, hbd⟩; have hdc := bc hbd; have hdf := bf hbd; have hdz := hbd.size; try simp only [World.size_alloc, World.size_drew] at hdz) | (go_at_call 87; (with_reducible refine (HRE.out _).mono ?_); rintro e wq ⟨rfl, hbq⟩; have hqc := bc hbq; have hqf := bf hbq; have hqz := hbq.size; try simp only [World.size_alloc, World.size_drew] at hqz)); refine HK_.out _ _ (bel_ofA) ?_; clear HK_)
        (refine tree_run gtA (by rfl) (by rfl) (fun K_ hK_ => ?_); have HK_ := Lib.hid hK_; clear hK_; go_wp2_with (first | (go_at_call 95; (with_reducible refine (HU2.out _ (HHV.out.below (by repeat (first | exact Below.refl _ _ | assumption | refine bdrew1q ?_ | refine balloc ?_ _ | refine bthen ?_ (by assumption) | refine Below.trans ?_ (by assumption))))).mono ?_); rintro e wa ⟨rfl, hba⟩; have hac := bc hba; have haf := bf hba; have haz := hba.size; try simp only [World.size_alloc, World.size_drew] at haz) | (go_at_call 95; (with_reducible refine (HU0.out _ (HHV.out.below (by repeat (first | exact Below.refl _ _ | assumption | refine bdrew1q ?_ | refine balloc ?_ _ | refine bthen ?_ (by assumption) | refine Below.trans ?_ (by assumption))))).mono ?_); rintro e wb ⟨rfl, hbb⟩; have hbc := bc hbb; have hbf := bf hbb; have hbz := hbb.size; try simp only [World.size_alloc, World.size_drew] at hbz) | (go_at_call 95; (with_reducible refine (HU4.out _ (HHV.out.below (by repeat (first | exact Below.refl _ _ | assumption | refine bdrew1q ?_ | refine balloc ?_ _ | refine bthen ?_ (by assumption) | refine Below.trans ?_ (by assumption))))).mono ?_); rintro e wd ⟨rfl, hbd⟩; have hdc := bc hbd; have hdf := bf hbd; have hdz := hbd.size; try simp only [World.size_alloc, World.size_drew] at hdz) | (go_at_call 87; (with_reducible refine (HRE.out _).mono ?_); rintro e wq ⟨rfl, hbq⟩; have hqc := bc hbq; have hqf := bf hbq; have hqz := hbq.size; try simp only [World.size_alloc, World.size_drew] at hqz)); refine HK_.out _ _ (bel_ofA) ?_; clear HK_)
        (refine tree_run gtA (by rfl) (by rfl) (fun K_ hK_ => ?_); have HK_ := Lib.hid hK_; clear hK_; go_wp2_with (first | (go_at_call 95; (with_reducible refine (HU2.out _ (HHV.out.below (by repeat (first | exact Below.refl _ _ | assumption | refine bdrew1q ?_ | refine balloc ?_ _ | refine bthen ?_ (by assumption) | refine Below.trans ?_ (by assumption))))).mono ?_); rintro e wa ⟨rfl, hba⟩; have hac := bc hba; have haf := bf hba; have haz := hba.size; try simp only [World.size_alloc, World.size_drew] at haz) | (go_at_call 95; (with_reducible refine (HU0.out _ (HHV.out.below (by repeat (first | exact Below.refl _ _ | assumption | refine bdrew1q ?_ | refine balloc ?_ _ | refine bthen ?_ (by assumption) | refine Below.trans ?_ (by assumption))))).mono ?_); rintro e wb ⟨rfl, hbb⟩; have hbc := bc hbb; have hbf := bf hbb; have hbz := hbb.size; try simp only [World.size_alloc, World.size_drew] at hbz) | (go_at_call 95; (with_reducible refine (HU4.out _ (HHV.out.below (by repeat (first | exact Below.refl _ _ | assumption | refine bdrew1q ?_ | refine balloc ?_ _ | refine bthen ?_ (by assumption) | refine Below.trans ?_ (by assumption))))).mono ?_); rintro e wd ⟨rfl, hbd⟩; have hdc := bc hbd; have hdf := bf hbd; have hdz := hbd.size; try simp only [World.size_alloc, World.size_drew] at hdz) | (go_at_call 87; (with_reducible refine (HRE.out _).mono ?_); rintro e wq ⟨rfl, hbq⟩; have hqc := bc hbq; have hqf := bf hbq; have hqz := hbq.size; try simp only [World.size_alloc, World.size_drew] at hqz)); refine HK_.out _ _ (bel_ofA) ?_; clear HK_)
        (refine tree_run gtA (by rfl) (by rfl) (fun K_ hK_ => ?_); have HK_ := Lib.hid hK_; clear hK_; go_wp2_with (first | (go_at_call 95; (with_reducible refine (HU2.out _ (HHV.out.below (by repeat (first | exact Below.refl _ _ | assumption | refine bdrew1q ?_ | refine balloc ?_ _ | refine bthen ?_ (by assumption) | refine Below.trans ?_ (by assumption))))).mono ?_); rintro e wa ⟨rfl, hba⟩; have hac := bc hba; have haf := bf hba; have haz := hba.size; try simp only [World.size_alloc, World.size_drew] at haz) | (go_at_call 95; (with_reducible refine (HU0.out _ (HHV.out.below (by repeat (first | exact Below.refl _ _ | assumption | refine bdrew1q ?_ | refine balloc ?_ _ | refine bthen ?_ (by assumption) | refine Below.trans ?_ (by assumption))))).mono ?_); rintro e wb ⟨rfl, hbb⟩; have hbc := bc hbb; have hbf := bf hbb; have hbz := hbb.size; try simp only [World.size_alloc, World.size_drew] at hbz) | (go_at_call 95; (with_reducible refine (HU4.out _ (HHV.out.below (by repeat (first | exact Below.refl _ _ | assumption | refine bdrew1q ?_ | refine balloc ?_ _ | refine bthen ?_ (by assumption) | refine Below.trans ?_ (by assumption))))).mono ?_); rintro e wd ⟨rfl, hbd⟩; have hdc := bc hbd; have hdf := bf hbd; have hdz := hbd.size; try simp only [World.size_alloc, World.size_drew] at hdz) | (go_at_call 87; (with_reducible refine (HRE.out _).mono ?_); rintro e wq ⟨rfl, hbq⟩; have hqc := bc hbq; have hqf := bf hbq; have hqz := hbq.size; try simp only [World.size_alloc, World.size_drew] at hqz)); exact ⟨rfl, .inr ⟨HNO.out, rfl⟩, HBB.out.trans (Below.mono (show Below V.heap.size V _ from (by repeat (first | exact Below.refl _ _ | assumption | refine bdrew1q ?_ | refine balloc ?_ _ | refine bthen ?_ (by assumption) | refine Below.trans ?_ (by assumption)))) (by have := HBR.out.size; omega))⟩)
      have HRE := Lib.hid (fun W => rest_z a n c f3 (f3 : Int) rfl W hoff hnc hc)
      by_cases hca : ApOk (tabR bs (rs.take j)).1 f1 f2 size (n - f3)
      · have HAL := Lib.hid (fun (W : World) (hW : Below V.heap.size V W) => (HAK.out W (HTV.out.below hW) (HBB.out.trans (hW.mono HBB.out.size)) hoff).mono (R' := fun e w' => e = .returned (.tuple #[]) ∧ TabIs w.heap.size g 4 ((tabR bs (rs.take j)).1 ++ [⟨f1, f2, (tabR bs (rs.take j)).2.length, 1⟩]) ((tabR bs (rs.take j)).2 ++ numsA (bs.drop f3) size (f2 - f1 + 1)) w' ∧ LKeep w.heap.size g W w') (by rintro e w' ⟨(⟨_, he, ht⟩ | ⟨hno, _⟩), hk⟩; exact ⟨he, ht, hk⟩; exact absurd hca hno))
        have HCA := Lib.hid (show f3 ≤ n ∧ ApOk (tabR bs (rs.take j)).1 f1 f2 size (n - f3) from ⟨hoff, hca⟩)
        have hVV : w.heap.size ≤ V.heap.size := by have := HBR.out.size; omega
        clear hca
        refine wp_region_last (.step 0 (.step 1 (.step 3 (.step 5 (.step 6 (.step 9 (.step 2 (.step 4 (.step 7 (.step 8 (.step 10 .nil))))))))))) 10 (by kernel_rfl) (by kernel_rfl) (by kernel_rfl) (by kernel_rfl) (by kernel_rfl) (by intro _ _ d_ _ _ h_; cases d_ <;> first | exact h_ | (dsimp +zetaDelta only at h_ ⊢; exact h_)) (fun w' => ∃ p : Wld V [], w' = p.val) (wld_start _ _) ?_
        have hG_ := @wldC V
        (refine z_quiet gtA (by rfl) (by rfl) (fun K_ hK_ => ?_); go_big_quiet_op; refine hK_ _ ?_; clear hK_ K_)
        (refine z_quiet gtA (by rfl) (by rfl) (fun K_ hK_ => ?_); go_big_quiet_op; refine hK_ _ ?_; clear hK_ K_)
        (refine z_quiet gtA (by rfl) (by rfl) (fun K_ hK_ => ?_); go_big_quiet_op; refine hK_ _ ?_; clear hK_ K_)
        (refine z_quiet gtA (by rfl) (by rfl) (fun K_ hK_ => ?_); go_big_quiet_op; refine hK_ _ ?_; clear hK_ K_)
        (refine z_quiet gtA (by rfl) (by rfl) (fun K_ hK_ => ?_); go_big_quiet_op; refine hK_ _ ?_; clear hK_ K_)
        (refine z_quiet gtA (by rfl) (by rfl) (fun K_ hK_ => ?_); go_big_quiet_op; refine hK_ _ ?_; clear hK_ K_)
        (refine z_run gtA (by rfl) (by rfl) (fun K_ hK_ => ?_); have HK_ := Lib.hid hK_; clear hK_; go_wp2_with (first | (go_at_call 95; (with_reducible refine (HU2.out _ (HHV.out.below (by exact blw))).mono ?_); rintro e wa ⟨rfl, hba⟩; have hac := bc hba; have haf := bf hba; have haz := hba.size; try simp only [World.size_alloc, World.size_drew] at haz) | (go_at_call 95; (with_reducible refine (HU0.out _ (HHV.out.below (by exact blw))).mono ?_); rintro e wb ⟨rfl, hbb⟩; have hbc := bc hbb; have hbf := bf hbb; have hbz := hbb.size; try simp only [World.size_alloc, World.size_drew] at hbz) | (go_at_call 95; (with_reducible refine (HU4.out _ (HHV.out.below (by exact blw))).mono ?_); rintro e wd ⟨rfl, hbd⟩; have hdc := bc hbd; have hdf := bf hbd; have hdz := hbd.size; try simp only [World.size_alloc, World.size_drew] at hdz) | (go_at_call 87; (with_reducible refine (HRE.out _).mono ?_); rintro e wq ⟨rfl, hbq⟩; have hqc := bc hbq; have hqf := bf hbq; have hqz := hbq.size; try simp only [World.size_alloc, World.size_drew] at hqz) | (go_at_call 136; (with_reducible refine (HAL.out _ (by exact blw)).mono ?_); rintro e w8 ⟨rfl, ht8, hk8⟩; have HT8 := Lib.hid ht8; have HK8 := Lib.hid ((LKeep.of (B := w.heap.size) (g := g) (show Below V.heap.size V _ from blw) hVV).trans hk8); clear ht8 hk8)); refine HK_.out _ _ (wld_ofA) ?_; clear HK_)
        (refine z_run gtA (by rfl) (by rfl) (fun K_ hK_ => ?_); have HK_ := Lib.hid hK_; clear hK_; go_wp2_with (first | (go_at_call 95; (with_reducible refine (HU2.out _ (HHV.out.below (by exact blw))).mono ?_); rintro e wa ⟨rfl, hba⟩; have hac := bc hba; have haf := bf hba; have haz := hba.size; try simp only [World.size_alloc, World.size_drew] at haz) | (go_at_call 95; (with_reducible refine (HU0.out _ (HHV.out.below (by exact blw))).mono ?_); rintro e wb ⟨rfl, hbb⟩; have hbc := bc hbb; have hbf := bf hbb; have hbz := hbb.size; try simp only [World.size_alloc, World.size_drew] at hbz) | (go_at_call 95; (with_reducible refine (HU4.out _ (HHV.out.below (by exact blw))).mono ?_); rintro e wd ⟨rfl, hbd⟩; have hdc := bc hbd; have hdf := bf hbd; have hdz := hbd.size; try simp only [World.size_alloc, World.size_drew] at hdz) | (go_at_call 87; (with_reducible refine (HRE.out _).mono ?_); rintro e wq ⟨rfl, hbq⟩; have hqc := bc hbq; have hqf := bf hbq; have hqz := hbq.size; try simp only [World.size_alloc, World.size_drew] at hqz) | (go_at_call 136; (with_reducible refine (HAL.out _ (by exact blw)).mono ?_); rintro e w8 ⟨rfl, ht8, hk8⟩; have HT8 := Lib.hid ht8; have HK8 := Lib.hid ((LKeep.of (B := w.heap.size) (g := g) (show Below V.heap.size V _ from blw) hVV).trans hk8); clear ht8 hk8)); refine HK_.out _ _ (wld_ofA) ?_; clear HK_)
        (refine z_run gtA (by rfl) (by rfl) (fun K_ hK_ => ?_); have HK_ := Lib.hid hK_; clear hK_; go_wp2_with (first | (go_at_call 95; (with_reducible refine (HU2.out _ (HHV.out.below (by exact blw))).mono ?_); rintro e wa ⟨rfl, hba⟩; have hac := bc hba; have haf := bf hba; have haz := hba.size; try simp only [World.size_alloc, World.size_drew] at haz) | (go_at_call 95; (with_reducible refine (HU0.out _ (HHV.out.below (by exact blw))).mono ?_); rintro e wb ⟨rfl, hbb⟩; have hbc := bc hbb; have hbf := bf hbb; have hbz := hbb.size; try simp only [World.size_alloc, World.size_drew] at hbz) | (go_at_call 95; (with_reducible refine (HU4.out _ (HHV.out.below (by exact blw))).mono ?_); rintro e wd ⟨rfl, hbd⟩; have hdc := bc hbd; have hdf := bf hbd; have hdz := hbd.size; try simp only [World.size_alloc, World.size_drew] at hdz) | (go_at_call 87; (with_reducible refine (HRE.out _).mono ?_); rintro e wq ⟨rfl, hbq⟩; have hqc := bc hbq; have hqf := bf hbq; have hqz := hbq.size; try simp only [World.size_alloc, World.size_drew] at hqz) | (go_at_call 136; (with_reducible refine (HAL.out _ (by exact blw)).mono ?_); rintro e w8 ⟨rfl, ht8, hk8⟩; have HT8 := Lib.hid ht8; have HK8 := Lib.hid ((LKeep.of (B := w.heap.size) (g := g) (show Below V.heap.size V _ from blw) hVV).trans hk8); clear ht8 hk8)); refine HK_.out _ _ (wld_ofA) ?_; clear HK_)
        (refine z_run gtA (by rfl) (by rfl) (fun K_ hK_ => ?_); have HK_ := Lib.hid hK_; clear hK_; go_wp2_with (first | (go_at_call 95; (with_reducible refine (HU2.out _ (HHV.out.below (by exact blw))).mono ?_); rintro e wa ⟨rfl, hba⟩; have hac := bc hba; have haf := bf hba; have haz := hba.size; try simp only [World.size_alloc, World.size_drew] at haz) | (go_at_call 95; (with_reducible refine (HU0.out _ (HHV.out.below (by exact blw))).mono ?_); rintro e wb ⟨rfl, hbb⟩; have hbc := bc hbb; have hbf := bf hbb; have hbz := hbb.size; try simp only [World.size_alloc, World.size_drew] at hbz) | (go_at_call 95; (with_reducible refine (HU4.out _ (HHV.out.below (by exact blw))).mono ?_); rintro e wd ⟨rfl, hbd⟩; have hdc := bc hbd; have hdf := bf hbd; have hdz := hbd.size; try simp only [World.size_alloc, World.size_drew] at hdz) | (go_at_call 87; (with_reducible refine (HRE.out _).mono ?_); rintro e wq ⟨rfl, hbq⟩; have hqc := bc hbq; have hqf := bf hbq; have hqz := hbq.size; try simp only [World.size_alloc, World.size_drew] at hqz) | (go_at_call 136; (with_reducible refine (HAL.out _ (by exact blw)).mono ?_); rintro e w8 ⟨rfl, ht8, hk8⟩; have HT8 := Lib.hid ht8; have HK8 := Lib.hid ((LKeep.of (B := w.heap.size) (g := g) (show Below V.heap.size V _ from blw) hVV).trans hk8); clear ht8 hk8)); refine HK_.out _ _ (wld_ofA) ?_; clear HK_)
        (refine z_last gtA (by rfl) (by rfl) (by rfl) (fun K_ hK_ => ?_); have HK_ := Lib.hid hK_; clear hK_; go_wp2_with (first | (go_at_call 95; (with_reducible refine (HU2.out _ (HHV.out.below (by exact blw))).mono ?_); rintro e wa ⟨rfl, hba⟩; have hac := bc hba; have haf := bf hba; have haz := hba.size; try simp only [World.size_alloc, World.size_drew] at haz) | (go_at_call 95; (with_reducible refine (HU0.out _ (HHV.out.below (by exact blw))).mono ?_); rintro e wb ⟨rfl, hbb⟩; have hbc := bc hbb; have hbf := bf hbb; have hbz := hbb.size; try simp only [World.size_alloc, World.size_drew] at hbz) | (go_at_call 95; (with_reducible refine (HU4.out _ (HHV.out.below (by exact blw))).mono ?_); rintro e wd ⟨rfl, hbd⟩; have hdc := bc hbd; have hdf := bf hbd; have hdz := hbd.size; try simp only [World.size_alloc, World.size_drew] at hdz) | (go_at_call 87; (with_reducible refine (HRE.out _).mono ?_); rintro e wq ⟨rfl, hbq⟩; have hqc := bc hbq; have hqf := bf hbq; have hqz := hbq.size; try simp only [World.size_alloc, World.size_drew] at hqz) | (go_at_call 136; (with_reducible refine (HAL.out _ (by exact blw)).mono ?_); rintro e w8 ⟨rfl, ht8, hk8⟩; have HT8 := Lib.hid ht8; have HK8 := Lib.hid ((LKeep.of (B := w.heap.size) (g := g) (show Below V.heap.size V _ from blw) hVV).trans hk8); clear ht8 hk8)); refine HK_.out _ _ ?_; clear HK_)
        refine z_nil ?_
        clear hG_
        have HT9 := Lib.hid (show TabIs w.heap.size g 4 (tabR bs (rs.take (j + 1))).1 (tabR bs (rs.take (j + 1))).2 w8 from by rw [HTS.out, stepR, numsR]; exact HT8.out)
        clear HT8
        have hjl : j < M := HLT.out
        have hwwr : w.heap.size ≤ wr.heap.size := HBR.out.size
        go_wp2_with fail
        go_roundw
        case rel => exact ⟨j + 1, by rw [HLEN.out]; exact HLT.out, by go_num, okR_take_succ HOKJ.out HRR.out (HFR.out.2 HCA.out), HT9.out, HKJ.out.trans ((LKeep.of HBV.out (by omega)).trans HK8.out)⟩
        case measure => simp [Go.RowKit.intOf]; have := HLT.out; omega
      · have HAL := Lib.hid (fun (W : World) (hW : Below V.heap.size V W) => (HAK.out W (HTV.out.below hW) (HBB.out.trans (hW.mono HBB.out.size)) hoff).mono (R' := fun e w' => e = .panicked thrown ∧ LKeep w.heap.size g W w') (by rintro e w' ⟨(⟨hy, _⟩ | ⟨_, he⟩), hk⟩; exact absurd hy hca; exact ⟨he, hk⟩))
        have HNO := Lib.hid (show ∀ rs', ¬ LkOk bs glyphs size rs' from fun rs' hx => by
          obtain rfl := hx.rows.det HRW.out
          exact hca (HFR.out.1 (hx.ok j _ HRR.out)).2)
        have hVV : w.heap.size ≤ V.heap.size := by have := HBR.out.size; omega
        clear hca
        refine wp_region_tree (.step 0 (.step 1 (.step 3 (.step 5 (.step 6 (.step 9 (.step 2 (.step 4 (.step 7 (.step 8 (.step 10 .nil))))))))))) (by kernel_rfl) (by kernel_rfl) (by kernel_rfl) (by kernel_rfl) (by intro _ _ d_ _ _ h_; cases d_ <;> first | exact h_ | (dsimp +zetaDelta only at h_ ⊢; exact h_)) (fun w' => ∃ p : BelW V.heap.size V, w' = p.val) (bel_start _ _) ?_
        have hG_ := @belC V.heap.size V
        (refine tree_quiet gtA (by rfl) (by rfl) (fun K_ hK_ => ?_); go_big_quiet_op; refine hK_ _ ?_; clear hK_ K_)
        (refine tree_quiet gtA (by rfl) (by rfl) (fun K_ hK_ => ?_); go_big_quiet_op; refine hK_ _ ?_; clear hK_ K_)
        (refine tree_quiet gtA (by rfl) (by rfl) (fun K_ hK_ => ?_); go_big_quiet_op; refine hK_ _ ?_; clear hK_ K_)
        (refine tree_quiet gtA (by rfl) (by rfl) (fun K_ hK_ => ?_); go_big_quiet_op; refine hK_ _ ?_; clear hK_ K_)
        (refine tree_quiet gtA (by rfl) (by rfl) (fun K_ hK_ => ?_); go_big_quiet_op; refine hK_ _ ?_; clear hK_ K_)
        (refine tree_quiet gtA (by rfl) (by rfl) (fun K_ hK_ => ?_); go_big_quiet_op; refine hK_ _ ?_; clear hK_ K_)
        (refine tree_run gtA (by rfl) (by rfl) (fun K_ hK_ => ?_); have HK_ := Lib.hid hK_; clear hK_; go_wp2_with (first | (go_at_call 95; (with_reducible refine (HU2.out _ (HHV.out.below (by repeat (first | exact Below.refl _ _ | assumption | refine bdrew1q ?_ | refine balloc ?_ _ | refine bthen ?_ (by assumption) | refine Below.trans ?_ (by assumption))))).mono ?_); rintro e wa ⟨rfl, hba⟩; have hac := bc hba; have haf := bf hba; have haz := hba.size; try simp only [World.size_alloc, World.size_drew] at haz) | (go_at_call 95; (with_reducible refine (HU0.out _ (HHV.out.below (by repeat (first | exact Below.refl _ _ | assumption | refine bdrew1q ?_ | refine balloc ?_ _ | refine bthen ?_ (by assumption) | refine Below.trans ?_ (by assumption))))).mono ?_); rintro e wb ⟨rfl, hbb⟩; have hbc := bc hbb; have hbf := bf hbb; have hbz := hbb.size; try simp only [World.size_alloc, World.size_drew] at hbz) | (go_at_call 95; (with_reducible refine (HU4.out _ (HHV.out.below (by repeat (first | exact Below.refl _ _ | assumption | refine bdrew1q ?_ | refine balloc ?_ _ | refine bthen ?_ (by assumption) | refine Below.trans ?_ (by assumption))))).mono ?_); rintro e wd ⟨rfl, hbd⟩; have hdc := bc hbd; have hdf := bf hbd; have hdz := hbd.size; try simp only [World.size_alloc, World.size_drew] at hdz) | (go_at_call 87; (with_reducible refine (HRE.out _).mono ?_); rintro e wq ⟨rfl, hbq⟩; have hqc := bc hbq; have hqf := bf hbq; have hqz := hbq.size; try simp only [World.size_alloc, World.size_drew] at hqz) | (go_at_call 136; (with_reducible refine (HAL.out _ (by repeat (first | exact Below.refl _ _ | assumption | refine bdrew1q ?_ | refine balloc ?_ _ | refine bthen ?_ (by assumption) | refine Below.trans ?_ (by assumption)))).mono ?_); rintro e w8 ⟨rfl, hk8⟩)); refine HK_.out _ _ (bel_ofA) ?_; clear HK_)
        (refine tree_run gtA (by rfl) (by rfl) (fun K_ hK_ => ?_); have HK_ := Lib.hid hK_; clear hK_; go_wp2_with (first | (go_at_call 95; (with_reducible refine (HU2.out _ (HHV.out.below (by repeat (first | exact Below.refl _ _ | assumption | refine bdrew1q ?_ | refine balloc ?_ _ | refine bthen ?_ (by assumption) | refine Below.trans ?_ (by assumption))))).mono ?_); rintro e wa ⟨rfl, hba⟩; have hac := bc hba; have haf := bf hba; have haz := hba.size; try simp only [World.size_alloc, World.size_drew] at haz) | (go_at_call 95; (with_reducible refine (HU0.out _ (HHV.out.below (by repeat (first | exact Below.refl _ _ | assumption | refine bdrew1q ?_ | refine balloc ?_ _ | refine bthen ?_ (by assumption) | refine Below.trans ?_ (by assumption))))).mono ?_); rintro e wb ⟨rfl, hbb⟩; have hbc := bc hbb; have hbf := bf hbb; have hbz := hbb.size; try simp only [World.size_alloc, World.size_drew] at hbz) | (go_at_call 95; (with_reducible refine (HU4.out _ (HHV.out.below (by repeat (first | exact Below.refl _ _ | assumption | refine bdrew1q ?_ | refine balloc ?_ _ | refine bthen ?_ (by assumption) | refine Below.trans ?_ (by assumption))))).mono ?_); rintro e wd ⟨rfl, hbd⟩; have hdc := bc hbd; have hdf := bf hbd; have hdz := hbd.size; try simp only [World.size_alloc, World.size_drew] at hdz) | (go_at_call 87; (with_reducible refine (HRE.out _).mono ?_); rintro e wq ⟨rfl, hbq⟩; have hqc := bc hbq; have hqf := bf hbq; have hqz := hbq.size; try simp only [World.size_alloc, World.size_drew] at hqz) | (go_at_call 136; (with_reducible refine (HAL.out _ (by repeat (first | exact Below.refl _ _ | assumption | refine bdrew1q ?_ | refine balloc ?_ _ | refine bthen ?_ (by assumption) | refine Below.trans ?_ (by assumption)))).mono ?_); rintro e w8 ⟨rfl, hk8⟩)); refine HK_.out _ _ (bel_ofA) ?_; clear HK_)
        (refine tree_run gtA (by rfl) (by rfl) (fun K_ hK_ => ?_); have HK_ := Lib.hid hK_; clear hK_; go_wp2_with (first | (go_at_call 95; (with_reducible refine (HU2.out _ (HHV.out.below (by repeat (first | exact Below.refl _ _ | assumption | refine bdrew1q ?_ | refine balloc ?_ _ | refine bthen ?_ (by assumption) | refine Below.trans ?_ (by assumption))))).mono ?_); rintro e wa ⟨rfl, hba⟩; have hac := bc hba; have haf := bf hba; have haz := hba.size; try simp only [World.size_alloc, World.size_drew] at haz) | (go_at_call 95; (with_reducible refine (HU0.out _ (HHV.out.below (by repeat (first | exact Below.refl _ _ | assumption | refine bdrew1q ?_ | refine balloc ?_ _ | refine bthen ?_ (by assumption) | refine Below.trans ?_ (by assumption))))).mono ?_); rintro e wb ⟨rfl, hbb⟩; have hbc := bc hbb; have hbf := bf hbb; have hbz := hbb.size; try simp only [World.size_alloc, World.size_drew] at hbz) | (go_at_call 95; (with_reducible refine (HU4.out _ (HHV.out.below (by repeat (first | exact Below.refl _ _ | assumption | refine bdrew1q ?_ | refine balloc ?_ _ | refine bthen ?_ (by assumption) | refine Below.trans ?_ (by assumption))))).mono ?_); rintro e wd ⟨rfl, hbd⟩; have hdc := bc hbd; have hdf := bf hbd; have hdz := hbd.size; try simp only [World.size_alloc, World.size_drew] at hdz) | (go_at_call 87; (with_reducible refine (HRE.out _).mono ?_); rintro e wq ⟨rfl, hbq⟩; have hqc := bc hbq; have hqf := bf hbq; have hqz := hbq.size; try simp only [World.size_alloc, World.size_drew] at hqz) | (go_at_call 136; (with_reducible refine (HAL.out _ (by repeat (first | exact Below.refl _ _ | assumption | refine bdrew1q ?_ | refine balloc ?_ _ | refine bthen ?_ (by assumption) | refine Below.trans ?_ (by assumption)))).mono ?_); rintro e w8 ⟨rfl, hk8⟩)); refine HK_.out _ _ (bel_ofA) ?_; clear HK_)
        (refine tree_run gtA (by rfl) (by rfl) (fun K_ hK_ => ?_); have HK_ := Lib.hid hK_; clear hK_; go_wp2_with (first | (go_at_call 95; (with_reducible refine (HU2.out _ (HHV.out.below (by repeat (first | exact Below.refl _ _ | assumption | refine bdrew1q ?_ | refine balloc ?_ _ | refine bthen ?_ (by assumption) | refine Below.trans ?_ (by assumption))))).mono ?_); rintro e wa ⟨rfl, hba⟩; have hac := bc hba; have haf := bf hba; have haz := hba.size; try simp only [World.size_alloc, World.size_drew] at haz) | (go_at_call 95; (with_reducible refine (HU0.out _ (HHV.out.below (by repeat (first | exact Below.refl _ _ | assumption | refine bdrew1q ?_ | refine balloc ?_ _ | refine bthen ?_ (by assumption) | refine Below.trans ?_ (by assumption))))).mono ?_); rintro e wb ⟨rfl, hbb⟩; have hbc := bc hbb; have hbf := bf hbb; have hbz := hbb.size; try simp only [World.size_alloc, World.size_drew] at hbz) | (go_at_call 95; (with_reducible refine (HU4.out _ (HHV.out.below (by repeat (first | exact Below.refl _ _ | assumption | refine bdrew1q ?_ | refine balloc ?_ _ | refine bthen ?_ (by assumption) | refine Below.trans ?_ (by assumption))))).mono ?_); rintro e wd ⟨rfl, hbd⟩; have hdc := bc hbd; have hdf := bf hbd; have hdz := hbd.size; try simp only [World.size_alloc, World.size_drew] at hdz) | (go_at_call 87; (with_reducible refine (HRE.out _).mono ?_); rintro e wq ⟨rfl, hbq⟩; have hqc := bc hbq; have hqf := bf hbq; have hqz := hbq.size; try simp only [World.size_alloc, World.size_drew] at hqz) | (go_at_call 136; (with_reducible refine (HAL.out _ (by repeat (first | exact Below.refl _ _ | assumption | refine bdrew1q ?_ | refine balloc ?_ _ | refine bthen ?_ (by assumption) | refine Below.trans ?_ (by assumption)))).mono ?_); rintro e w8 ⟨rfl, hk8⟩)); refine HK_.out _ _ (bel_ofA) ?_; clear HK_)
        (refine tree_run gtA (by rfl) (by rfl) (fun K_ hK_ => ?_); have HK_ := Lib.hid hK_; clear hK_; go_wp2_with (first | (go_at_call 95; (with_reducible refine (HU2.out _ (HHV.out.below (by repeat (first | exact Below.refl _ _ | assumption | refine bdrew1q ?_ | refine balloc ?_ _ | refine bthen ?_ (by assumption) | refine Below.trans ?_ (by assumption))))).mono ?_); rintro e wa ⟨rfl, hba⟩; have hac := bc hba; have haf := bf hba; have haz := hba.size; try simp only [World.size_alloc, World.size_drew] at haz) | (go_at_call 95; (with_reducible refine (HU0.out _ (HHV.out.below (by repeat (first | exact Below.refl _ _ | assumption | refine bdrew1q ?_ | refine balloc ?_ _ | refine bthen ?_ (by assumption) | refine Below.trans ?_ (by assumption))))).mono ?_); rintro e wb ⟨rfl, hbb⟩; have hbc := bc hbb; have hbf := bf hbb; have hbz := hbb.size; try simp only [World.size_alloc, World.size_drew] at hbz) | (go_at_call 95; (with_reducible refine (HU4.out _ (HHV.out.below (by repeat (first | exact Below.refl _ _ | assumption | refine bdrew1q ?_ | refine balloc ?_ _ | refine bthen ?_ (by assumption) | refine Below.trans ?_ (by assumption))))).mono ?_); rintro e wd ⟨rfl, hbd⟩; have hdc := bc hbd; have hdf := bf hbd; have hdz := hbd.size; try simp only [World.size_alloc, World.size_drew] at hdz) | (go_at_call 87; (with_reducible refine (HRE.out _).mono ?_); rintro e wq ⟨rfl, hbq⟩; have hqc := bc hbq; have hqf := bf hbq; have hqz := hbq.size; try simp only [World.size_alloc, World.size_drew] at hqz) | (go_at_call 136; (with_reducible refine (HAL.out _ (by repeat (first | exact Below.refl _ _ | assumption | refine bdrew1q ?_ | refine balloc ?_ _ | refine bthen ?_ (by assumption) | refine Below.trans ?_ (by assumption)))).mono ?_); rintro e w8 ⟨rfl, hk8⟩)); exact ⟨rfl, .inr ⟨HNO.out, rfl⟩, bad_end HBB.out (by repeat (first | exact Below.refl _ _ | assumption | refine bdrew1q ?_ | refine balloc ?_ _ | refine bthen ?_ (by assumption) | refine Below.trans ?_ (by assumption))) hVV hk8⟩)
    · obtain rfl : j = M := by omega
      clear hokj htj hkj hBr
      go_wp2_with fail
      go_ret
      have e := HLEN.out
      have hok := HOKJ.out
      have ht := HTJ.out
      rw [List.take_of_length_le (by omega)] at hok ht
      exact ⟨.inl ⟨rs, g, ⟨HRW.out, hok⟩, rfl, by rw [HH0.out]; exact ht⟩, HBR.out⟩
theorem take_lk (a : Option Addr) (n c : Nat) (bs : List UInt8) (glyphs size : Nat) (zg zs : Int) (hzg : zg = (glyphs : Nat)) (hzs : zs = (size : Nat)) (w : World) (hh : Has w a (bytesV bs)) (hbl : bs.length = n) (hnc : n ≤ c) (hc : c ≤ maxLen) (hg1 : 1 ≤ glyphs) (hg2 : glyphs ≤ 65535) (hS : size = 2 ∨ size = 4) :
    Calls Try.prog 96 #[.agg #[.slice a n c], .int .i64 zg, .int .i64 zs] w (TakeIs bs glyphs size w) := by
  by_cases h2 : 2 ≤ n
  case neg => exact takeShort a n c bs glyphs size zg zs w hbl hnc hc h2
  by_cases e0 : num bs 0 2 = 0
  · exact take0 a n c bs glyphs size zg zs hzg hzs w hh hbl hnc hc hS hg1 hg2 e0 h2
  by_cases e2 : num bs 0 2 = 2
  · exact take2 a n c bs glyphs size zg zs hzg hzs w hh hbl hnc hc hg2 hS e2 h2
  by_cases e4 : num bs 0 2 = 4
  · exact take4 a n c bs glyphs size zg zs hzg hzs w hh hbl hnc hc hg2 hS e4 h2
  by_cases e6 : num bs 0 2 = 6
  · exact take6 a n c bs glyphs size zg zs hzg hzs w hh hbl hnc hc hg2 hS e6 h2
  by_cases e8 : num bs 0 2 = 8
  · exact take8 a n c bs glyphs size zg zs hzg hzs w hh hbl hnc hc hS e8 h2
  by_cases e10 : num bs 0 2 = 10
  · exact take10 a n c bs glyphs size zg zs hzg hzs w hh hbl hnc hc e10 h2
  exact takeX a n c bs glyphs size zg zs w hh hbl hnc hc h2 ⟨e0, e2, e4, e6, e8, e10⟩
end Go.Proofs.Ytaladlaffglkeaa
end
section

/- The contract of lookup.Read. Conditions: as many bytes as the slice says; all numbers within 64 bits. -/
namespace Go.Proofs.Ytaladlaffglkeaa
open Go.RowKit Go.Lib

theorem TabIs.setOther {B g fmt g3 o : Nat} {ps : List PartL} {ns : List Nat} {w : World} (h : TabIs B g fmt ps ns w) {cs : Array Value} {t : Nat} {fz : Nat × Nat} (hw : w.heap[g3]? = some (.cells cs t fz)) (h1 : t ≠ 218) (h2 : t ≠ 156) (h3 : t ≠ 216) (v : Value) : TabIs B g fmt ps ns (w.setCell ⟨g3, o, none⟩ v) := by
  obtain ⟨ap, cp, an, cn, e0, e1, e2⟩ := h.is
  have hne : g ≠ g3 := by
    rintro rfl
    rw [e0] at hw
    injection hw with hw
    injection hw with _ hw _
    exact h3 hw.symm
  exact ⟨ap, cp, an, cn, (set_heap_other v hne).trans e0, set_owns v e1 (own_neE e1 hw h1), set_owns v e2 (own_neE e2 hw h2)⟩
theorem take_ok (a : Option Addr) (n c : Nat) (bs : List UInt8) (glyphs size : Nat) (rs : List RP) (w : World) (hh : Has w a (bytesV bs)) (hbl : bs.length = n) (hnc : n ≤ c) (hc : c ≤ maxLen) (hg1 : 1 ≤ glyphs) (hg2 : glyphs ≤ 65535) (hS : size = 2 ∨ size = 4) (hok : LkOk bs glyphs size rs) :
    Calls Try.prog 96 #[.agg #[.slice a n c], .int .i64 (glyphs : Nat), .int .i64 (size : Nat)] w fun e w' => ∃ g, e = .returned (.pointer (some ⟨g, 0, none⟩)) ∧ TabIs w.heap.size g (num bs 0 2) (tabR bs rs).1 (tabR bs rs).2 w' ∧ Below w.heap.size w w' := by
  refine (take_lk a n c bs glyphs size _ _ rfl rfl w hh hbl hnc hc hg1 hg2 hS).mono ?_
  rintro e w' ⟨(⟨rs', g, hr, he, ht⟩ | ⟨hno, _⟩), hb⟩
  · obtain rfl := hr.det hok
    exact ⟨g, he, ht, hb⟩
  · exact absurd hok (hno rs)
theorem take_bad (a : Option Addr) (n c : Nat) (bs : List UInt8) (glyphs size : Nat) (w : World) (hh : Has w a (bytesV bs)) (hbl : bs.length = n) (hnc : n ≤ c) (hc : c ≤ maxLen) (hg1 : 1 ≤ glyphs) (hg2 : glyphs ≤ 65535) (hS : size = 2 ∨ size = 4) (hno : ∀ rs, ¬ LkOk bs glyphs size rs) :
    Calls Try.prog 96 #[.agg #[.slice a n c], .int .i64 (glyphs : Nat), .int .i64 (size : Nat)] w fun e w' => e = .panicked thrown ∧ Below w.heap.size w w' := by
  refine (take_lk a n c bs glyphs size _ _ rfl rfl w hh hbl hnc hc hg1 hg2 hS).mono ?_
  rintro e w' ⟨(⟨rs', g, hr, _, _⟩ | ⟨_, he⟩), hb⟩
  · exact absurd hr (hno rs')
  · exact ⟨he, hb⟩
end Go.Proofs.Ytaladlaffglkeaa
end
section

/- (*Table).All: the contract of its iterator. Conditions: a table in memory, its parts rising, its numbers there; a body of the loop that keeps what it holds. -/
namespace Go.Proofs.Ytaladlaffglkeaa
open Go.RowKit Go.Lib Go.Shelf
attribute [local go_sem] Oper.semAt_some

/-- All cells but some are as they were, and all below B. -/
structure KeepC (B : Nat) (own : Nat → Nat → Prop) (w w' : World) : Prop where
  below : Below B w w'
  size : w.heap.size ≤ w'.heap.size
  kept : ∀ (k : Nat) (cs : Array Value) (t : Nat) (fz : Nat × Nat), w.heap[k]? = some (.cells cs t fz) → ¬ own k t → w'.heap[k]? = w.heap[k]?
theorem KeepC.refl (B : Nat) (own : Nat → Nat → Prop) (w : World) : KeepC B own w w := ⟨Below.refl _ _, Nat.le_refl _, fun _ _ _ _ _ _ => rfl⟩
theorem KeepC.trans {B : Nat} {own : Nat → Nat → Prop} {a b c : World} (h : KeepC B own a b) (k : KeepC B own b c) : KeepC B own a c :=
  ⟨h.below.trans k.below, Nat.le_trans h.size k.size, fun x cs t fz hx ho => (k.kept x cs t fz ((h.kept x cs t fz hx ho).trans hx) ho).trans (h.kept x cs t fz hx ho)⟩
theorem KeepC.of {B : Nat} {own : Nat → Nat → Prop} {w w' : World} (h : Below w.heap.size w w') (hB : B ≤ w.heap.size) : KeepC B own w w' :=
  ⟨h.mono hB, h.size, fun k _ _ _ hk _ => h.block k (Array.getElem?_eq_some_iff.1 hk).1⟩
theorem KeepC.owns {B : Nat} {own : Nat → Nat → Prop} {w w' : World} (h : KeepC B own w w') {base size n : Nat} {e' : TypeId} {v : Value} {xs : List Value} (ho : w.ownsRow base e' size v n xs) (h1 : ∀ k, ¬ own k e') : w'.ownsRow base e' size v n xs := by
  refine ⟨ho.1, ?_⟩
  rcases ho.2 with q | ⟨q, cap, cur, hv, hq, hh, r⟩
  · exact .inl q
  · exact .inr ⟨q, cap, cur, hv, hq, by rw [h.kept q _ _ _ hh (h1 q)]; exact hh, r⟩
theorem TabIs.keepC {B B0 g fmt : Nat} {own : Nat → Nat → Prop} {ps : List PartL} {ns : List Nat} {w w' : World} (h : TabIs B g fmt ps ns w) (hk : KeepC B0 own w w') (h1 : ∀ k, ¬ own k 218) (h2 : ∀ k, ¬ own k 156) (h3 : ¬ own g 216) : TabIs B g fmt ps ns w' := by
  obtain ⟨ap, cp, an, cn, e0, e1, e2⟩ := h.is
  exact ⟨ap, cp, an, cn, (hk.kept g _ _ _ e0 h3).trans e0, hk.owns e1 h1, hk.owns e2 h2⟩
end Go.Proofs.Ytaladlaffglkeaa
end
section

/- (*Table).Most. Conditions: a table in memory, its parts rising, its numbers there. -/
namespace Go.Proofs.Ytaladlaffglkeaa
open Go.RowKit Go.Lib Go.Shelf
attribute [local go_sem] Oper.semAt_some

theorem KeepC.set {B : Nat} {own : Nat → Nat → Prop} {w w' : World} (h : KeepC B own w w') {b o : Nat} (hB : B ≤ b) {cs : Array Value} {t : Nat} {fz : Nat × Nat} (hb : w'.heap[b]? = some (.cells cs t fz)) (ho : own b t) (v : Value) : KeepC B own w (w'.setCell ⟨b, o, none⟩ v) := by
  refine ⟨h.below.setCell (p := ⟨b, o, none⟩) hB v, by simpa using h.size, fun k cs' t' fz' hk hn => ?_⟩
  have := (h.kept k cs' t' fz' hk hn).trans hk
  refine (set_heap_other v ?_).trans (h.kept k cs' t' fz' hk hn)
  rintro rfl
  rw [hb] at this
  cases this
  exact hn ho
end Go.Proofs.Ytaladlaffglkeaa
end
section

/- What a table answers, as a function; lookup.Read where a lookup is told of, and where none is; the call speaks. Conditions: as the lemmas say. -/
namespace Go.Proofs.Ytaladlaffglkeaa
open Go.RowKit Go.Lib

def inP (id : Int) (p : PartL) : Bool := decide ((p.first : Int) ≤ id) && decide (id ≤ (p.last : Int))
/-- A glyph's number, and whether it has one. -/
def getL (ps : List PartL) (ns : List Nat) (id : Int) : Nat × Bool := match ps.find? (inP id) with
  | some p => (ns.getD (p.at_ + p.step * (id - p.first).toNat) 0, true)
  | none => (0, false)
theorem getL_in {ps : List PartL} {ns : List Nat} {id : Int} {p : PartL} (hr : Rising ps) (hp : p ∈ ps) (h1 : (p.first : Int) ≤ id) (h2 : id ≤ (p.last : Int)) : getL ps ns id = (ns.getD (p.at_ + p.step * (id - p.first).toNat) 0, true) := by
  have hin : inP id p = true := by simp [inP, h1, h2]
  have : ps.find? (inP id) = some p := by
    obtain ⟨q, hq⟩ : ∃ q, ps.find? (inP id) = some q := by
      cases hf : ps.find? (inP id) with
      | none => have := List.find?_eq_none.1 hf p hp; rw [hin] at this; simp at this
      | some q => exact ⟨q, rfl⟩
    rw [hq]
    have hqm := List.mem_of_find?_eq_some hq
    have hqi := List.find?_some hq
    simp only [inP, Bool.and_eq_true, decide_eq_true_eq] at hqi
    obtain ⟨i, hi, rfl⟩ := List.getElem_of_mem hqm
    obtain ⟨j, hj, rfl⟩ := List.getElem_of_mem hp
    rcases Nat.lt_trichotomy i j with hc | hc | hc
    · have := List.pairwise_iff_getElem.1 hr.1 i j hi hj hc
      omega
    · subst hc; rfl
    · have := List.pairwise_iff_getElem.1 hr.1 j i hj hi hc
      omega
  unfold getL
  rw [this]
theorem getL_out {ps : List PartL} {ns : List Nat} {id : Int} (h : ∀ p ∈ ps, ¬ ((p.first : Int) ≤ id ∧ id ≤ (p.last : Int))) : getL ps ns id = (0, false) := by
  have : ps.find? (inP id) = none := List.find?_eq_none.2 fun p hp => by simpa [inP] using h p hp
  unfold getL
  rw [this]
theorem get_fn (B g fmt : Nat) (ps : List PartL) (ns : List Nat) (id : Int) (w : World) (h : TabIs B g fmt ps ns w) (hf : FitL ps ns) (hid : -9223372036854775808 ≤ id ∧ id ≤ 9223372036854775807) :
    Calls Try.prog 76 #[.pointer (some ⟨g, 0, none⟩), .int .i64 id] w fun e w' => e = .returned (.tuple #[.int .i64 ((getL ps ns id).1 : Nat), .bool (getL ps ns id).2]) ∧ Below w.heap.size w w' := by
  refine (get_any B g fmt ps ns id w h hf hid).mono ?_
  rintro e w' ⟨(⟨p, hp, h1, h2, he⟩ | ⟨hno, he⟩), hb⟩
  · rw [getL_in hf.rising hp h1 h2]; exact ⟨he, hb⟩
  · rw [getL_out hno]; exact ⟨he, hb⟩
end Go.Proofs.Ytaladlaffglkeaa
end
section

/- The contract of seek.Read. Conditions: as many bytes as the slice says; all numbers within 64 bits. -/
namespace Go.Proofs.Ytaladlaffglkeaa
open Go.RowKit

end Go.Proofs.Ytaladlaffglkeaa
end
section

/- swashlaw05.speaks returns true. No condition. -/
namespace Go.Proofs.Ytaladlaffglkeaa
open Go.RowKit

end Go.Proofs.Ytaladlaffglkeaa
end
section

/- The walk of SeekPlace. Condition: as many steps as the slice says. -/
namespace Go.Proofs.Ytaladlaffglkeaa
open Go.RowKit

end Go.Proofs.Ytaladlaffglkeaa
end
section

/- The contract of the reference's rows of layer 5. Conditions: no more than 4000 bytes; need at least 2, keys at least 1, and need at least twice keys. -/
namespace Go.Proofs.Ytaladlaffglkeaa
open Go.RowKit

end Go.Proofs.Ytaladlaffglkeaa
end
section

/- The reference's parts of layer 6: segments. Conditions: no more than 4000 bytes. The reference's parts of layer 6: segments whose glyphs have numbers of their own. Conditions: no more than 4000 bytes. The reference's parts of layer 6: those of a row of numbers. Conditions: no more than 4000 bytes. The reference's parts of layer 6, whatever the form. Conditions: no more than 4000 bytes; a font's glyphs, numbers of two or four bytes. The reference's parts of layer 6 of the forms 6 and 10, all forms, and the reference's Read. Conditions: no more than 4000 bytes; a font's glyphs, numbers of two or four bytes. The reference's Read of layer 6. Conditions: no more than 4000 bytes; a font's glyphs, numbers of two or four bytes. -/
namespace Go.Proofs.Ytaladlaffglkeaa
open Go.RowKit Go.Lib

end Go.Proofs.Ytaladlaffglkeaa
end
