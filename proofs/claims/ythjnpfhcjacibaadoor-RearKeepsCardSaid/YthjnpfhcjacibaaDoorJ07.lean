/- Joined from: LTake4 LRead LAll RAct LMost RDo. -/
import Derived.Test.YthjnpfhcjacibaaDoorJ06
import Derived.Test.YthjnpfhcjacibaaDoorJ04
import Derived.RangeFuncNested
import Derived.RangeFuncBound
import Derived.RangeFuncCalls
import Derived.RangeFuncLeaves
import Derived.Shelf.Abstract
import Derived.WalkKit
import Derived.OwnWalkIn
import Derived.TacticsInMore
import Derived.LoopNIn
import Derived.LoopIn
import Derived.Test.YthjnpfhcjacibaaDoorJ02
import Derived.Test.YthjnpfhcjacibaaDoorJ03
section

/- lookup.Take of the form 4, and the whole contract of lookup.Take. Conditions: as many bytes as the slice says; a font's glyphs, numbers of two or four bytes. -/
namespace Go.Proofs.YthjnpfhcjacibaaDoor
open Go.RowKit Go.Lib

set_option maxRecDepth 100000 in
set_option maxHeartbeats 3200000 in
theorem take4 (a : Option Addr) (n c : Nat) (bs : List UInt8) (glyphs size : Nat) (zg zs : Int) (hzg : zg = (glyphs : Nat)) (hzs : zs = (size : Nat)) (w : World) (hh : Has w a (bytesV bs)) (hbl : bs.length = n) (hnc : n ≤ c) (hc : c ≤ maxLen) (hg2 : glyphs ≤ 65535) (hS : size = 2 ∨ size = 4) (h0 : num bs 0 2 = 4) (h2 : 2 ≤ n) :
    Calls Tryd.prog 47 #[.agg #[.slice a n c], .int .i64 zg, .int .i64 zs] w (TakeIs bs glyphs size w) := by
  have hAC := allocC
  have hAF := allocF
  subst hzg hzs
  have hcm := hc
  unfold maxLen at hcm
  have HU := Lib.hid (fun W hw => u16_y a n c 0 0 4 rfl bs (by rw [h0]; rfl) W hw hbl h2 hnc hc)
  have HST := Lib.hid (fun W hw => stake_z a n c bs 2 6 2 6 2 rfl rfl W hw hbl hnc hc (by omega) (by omega) (by omega) (by decide) (by omega))
  have HH := Lib.hid hh
  have HH0 := Lib.hid h0
  have HBL := Lib.hid hbl
  have HS := Lib.hid hS
  have HAB := Lib.hid (has_lt hh (by omega))
  clear hh
  go_enter Tryd.func47, Tryd.ntmps47
  go_wp2_with (first | (go_at_call 58; (with_reducible refine (HU.out _ (HH.out.below (by exact blw))).mono ?_); rintro e w1 ⟨rfl, hb1⟩; have h1c := bc hb1; have h1f := bf hb1; have h1z := hb1.size; try simp only [World.size_alloc, World.size_drew] at h1z))
  have hT := tab_new (B := w.heap.size) w1 4 (by omega) 4 rfl
  have hbW : Below w.heap.size w (w1.alloc (.cells #[.int .i64 4, .slice none 0 0, .slice none 0 0] 126)) := blw
  have hg : w.heap.size ≤ w1.heap.size := by omega
  have hgn : w.heap.size ≠ w1.heap.size := by omega
  have e3 : (w1.alloc (.cells #[.int .i64 4, .slice none 0 0, .slice none 0 0] 126)).heap[w.heap.size]? = some (.cells #[.slice a n c] 58 (0, 0)) := by rw [heap_push, if_neg (by omega)]; exact (hb1.block _ (by simp)).trans (heap_new w _ _)
  refine (HST.out _ (HH.out.below hbW)).mono ?_
  rintro e w2 ⟨(⟨j2, gs, hj2, hok, rfl, hown⟩ | ⟨hno, rfl⟩), hb2⟩
  case inr =>
    refine ⟨rfl, .inr ⟨fun rs hrs => ?_, rfl⟩, bthen hbW hb2⟩
    cases hrs.rows with
    | four _ _ h1 => exact hno 2 rfl h1
    | _ => omega
  obtain rfl : j2 = 2 := by omega
  clear hj2
  have HT2 := Lib.hid (hT.below hb2)
  have HB2 := Lib.hid (bthen hbW hb2)
  have HC3 := Lib.hid ((hb2.block _ (by simp; omega)).trans e3)
  have HO2 := Lib.hid hown
  have hz2 : w1.heap.size + 1 ≤ w2.heap.size := by have := hb2.size; simpa using this
  have hgs := (hown.lt gs rfl).2
  have HRW := Lib.hid (show LkRows bs glyphs size (rows4 bs size (skM bs 2 2)) from .four (by omega) h0 hok)
  have hsz := hok.size
  have hfit := hok.rows
  rw [HBL.out] at hfit
  have hMN : skM bs 2 2 ≤ skN bs 2 := by unfold skM; split <;> omega
  have hM7 : skM bs 2 2 ≤ 65535 := Nat.le_trans hMN (num2_lt _ _)
  have HROW := Lib.hid (show ∀ j, j < skM bs 2 2 → (rows4 bs size (skM bs 2 2))[j]? = some ⟨num bs (12 + j * skS bs 2 + 2) 2, num bs (12 + j * skS bs 2 + 0) 2, num bs (12 + j * skS bs 2 + 4) 2, size, true⟩ from fun j hj => by simp [rows4, List.getElem?_map, List.getElem?_range hj])
  have HLEN := Lib.hid (show (rows4 bs size (skM bs 2 2)).length = skM bs 2 2 from by simp [rows4])
  have HIN := Lib.hid (fun (rs : List RP) (k : Nat) (hk : k ≤ rs.length) (hrs : LkRows bs glyphs size rs) (h : okR bs (rs.take k)) => (show (tabR bs (rs.take k)).1.length ≤ 70000 ∧ (tabR bs (rs.take k)).2.length ≤ 70001 from by
    obtain ⟨l1, l2⟩ := hrs.each hg2 HS.out
    exact ⟨by rw [tabR_len, List.length_take]; omega, (invR bs (rs.take k) h (fun r hr => l2 r (List.mem_of_mem_take hr))).len⟩))
  clear hT hbW hb2 e3 h1c h1f hb1 hown HU HST hok
  generalize rows4 bs size (skM bs 2 2) = rs at *
  generalize skM bs 2 2 = M at *
  generalize skS bs 2 = S at *
  generalize skN bs 2 = N at *
  have HFIT := Lib.hid (show ∀ j, j < M → 12 + j * S + S ≤ n from fun j hj => by
    have : j * S + S ≤ N * S := by rw [← Nat.succ_mul]; exact Nat.mul_le_mul_right _ (by omega)
    omega)
  obtain ⟨g, hgE⟩ : ∃ g, g = w1.heap.size := ⟨_, rfl⟩
  rw [← hgE] at HT2 hg hgn ⊢
  have hgw2 : g < w2.heap.size := by omega
  clear hfit hMN hz2 hgE
  go_wp2_with fail
  go_loopw [59] (TkRel w.heap.size g 4 bs rs w2) (fun i _ => M - (Go.RowKit.intOf i).toNat)
  case atStart => exact ⟨0, Nat.zero_le _, rfl, fun i r hi => (by simp at hi), HT2.out, LKeep.refl _ _ _⟩
  case round =>
    obtain ⟨j, hjM, rfl, hokj, htj, hkj⟩ := hrel
    rw [HLEN.out] at hjM
    have HOKJ := Lib.hid hokj
    have HTJ := Lib.hid htj
    have HKJ := Lib.hid hkj
    obtain ⟨len1, len2⟩ := HIN.out rs j (by rw [HLEN.out]; exact hjM) HRW.out hokj
    have hgr : g < wr.heap.size := htj.base
    have hBr := HB2.out.trans hkj.below
    have HBR := Lib.hid hBr
    by_cases hlt : j < M
    · obtain ⟨cs, hcs⟩ := HT2.out.at_
      have hrow := hkj.owns HO2.out (by decide) (by decide) hcs (by decide)
      have hcell := (hrow.cellAt j (by omega)).trans (rowsV_at a c 2 S M j hlt)
      have hgsl := cell_lt hcell
      simp only at hgsl
      have hp := HFIT.out j hlt
      have HR := HROW.out j hlt
      have hhr := ((hasB HH.out hBr HAB.out).adv c (12 + j * S) (by rw [bytesV_length, HBL.out]; exact hnc)).take S
      rw [bytesV_drop, bytesV_take] at hhr
      have h3r := (hkj.kept w.heap.size _ _ _ HC3.out (by decide) (by decide) hgn).trans HC3.out
      have HROWB := Lib.hid (show Has wr (adv a c (12 + j * S)) (bytesV (rowB bs (12 + j * S) S)) from hhr)
      have hrl : (rowB bs (12 + j * S) S).length = S := by rw [rowB, List.length_take, List.length_drop, HBL.out]; omega
      have hu0 := fun W hw => u16_z (adv a c (12 + j * S)) S (c - (12 + j * S)) 0 0 rfl (rowB bs (12 + j * S) S) W hw hrl (by omega) (by omega) (by unfold maxLen; omega)
      have hu2 := fun W hw => u16_z (adv a c (12 + j * S)) S (c - (12 + j * S)) 2 2 rfl (rowB bs (12 + j * S) S) W hw hrl (by omega) (by omega) (by unfold maxLen; omega)
      have hu4 := fun W hw => u16_z (adv a c (12 + j * S)) S (c - (12 + j * S)) 4 4 rfl (rowB bs (12 + j * S) S) W hw hrl (by omega) (by omega) (by unfold maxLen; omega)
      rw [num_row bs (12 + j * S) S 0 2 (by omega)] at hu0
      rw [num_row bs (12 + j * S) S 2 2 (by omega)] at hu2
      rw [num_row bs (12 + j * S) S 4 2 (by omega)] at hu4
      have HU0 := Lib.hid hu0
      have HU2 := Lib.hid hu2
      have HU4 := Lib.hid hu4
      have HRR := Lib.hid HR
      have HLT := Lib.hid hlt
      have hv : Value.slice (adv a c (2 + 10 + j * S)) S (c - (2 + 10 + j * S)) = .slice (adv a c (12 + j * S)) S (c - (12 + j * S)) := rfl
      rw [rowV, hv] at hcell
      have hl2 := num2_lt bs (12 + j * S + 0)
      have hAK := fun (W : World) (ht : TabIs w.heap.size g 4 (tabR bs (rs.take j)).1 (tabR bs (rs.take j)).2 W) (hb : Below w.heap.size w W) (ho : num bs (12 + j * S + 4) 2 ≤ n) => apart_any w.heap.size g 4 (tabR bs (rs.take j)).1 (tabR bs (rs.take j)).2 (num bs (12 + j * S + 2) 2) (num bs (12 + j * S + 0) 2) size _ _ (size : Int) rfl rfl rfl (adv a c (num bs (12 + j * S + 4) 2)) (n - num bs (12 + j * S + 4) 2) (c - num bs (12 + j * S + 4) 2) (bs.drop (num bs (12 + j * S + 4) 2)) W ht hg (by omega) (by omega) (by omega) (by have := HS.out; omega) (by have := ((HH.out.below hb).adv c (num bs (12 + j * S + 4) 2) (by rw [bytesV_length, HBL.out]; exact hnc)); rw [bytesV_drop] at this; exact this) (by rw [List.length_drop, HBL.out]) (by omega) (by unfold maxLen; omega) (advB HAB.out)
      have HFR := Lib.hid (show fitR bs (tabR bs (rs.take j)).1 ⟨num bs (12 + j * S + 2) 2, num bs (12 + j * S + 0) 2, num bs (12 + j * S + 4) 2, size, true⟩ ↔ num bs (12 + j * S + 4) 2 ≤ n ∧ ApOk (tabR bs (rs.take j)).1 (num bs (12 + j * S + 2) 2) (num bs (12 + j * S + 0) 2) size (n - num bs (12 + j * S + 4) 2) from by
        constructor
        · intro h
          have h2 := h.2 rfl
          simp only at h2
          rw [HBL.out] at h2
          exact ⟨by omega, h.1, by omega⟩
        · rintro ⟨h1, h2, h3⟩
          exact ⟨h2, fun _ => by simp only; rw [HBL.out]; omega⟩)
      have HTS := Lib.hid (tabR_take_succ (bs := bs) HR)
      have HAK := Lib.hid hAK
      clear hu0 hu2 hu4 hAK HR hhr hrl hrow hcs hokj htj hkj hp hv hlt hBr
      generalize hf1 : num bs (12 + j * S + 2) 2 = f1 at *
      generalize hf2 : num bs (12 + j * S + 0) 2 = f2 at *
      generalize hf3 : num bs (12 + j * S + 4) 2 = f3 at *
      generalize hpp : 12 + j * S = p at *
      go_wp2_with fail
      obtain ⟨V, hV⟩ : ∃ V, V = wr.alloc (Obj.cells #[.slice (adv a c p) S (c - p)] 58) := ⟨_, rfl⟩
      have c9 : V.cell? ⟨wr.heap.size, 0, none⟩ = some (.slice (adv a c p) S (c - p)) := by rw [hV]; simp [hAC]
      have hbV : Below wr.heap.size wr V := by rw [hV]; exact balloc (brefl _) _
      have HBV := Lib.hid hbV
      have hzV : V.heap.size = wr.heap.size + 1 := by rw [hV]; simp
      have HHV := Lib.hid (HROWB.out.below hbV)
      have HTV := Lib.hid (HTJ.out.below hbV)
      rw [← hV]
      clear hV hbV hcell
      have c3 := cell_of_heap ((HBV.out.block w.heap.size (by have := (Array.getElem?_eq_some_iff.1 h3r).1; exact this)).trans h3r) 0
      simp only [List.getElem?_toArray, List.getElem?_cons_zero] at c3
      have hl3 := cell_lt c3
      simp only at hl3
      have HBB := Lib.hid (HBR.out.trans (HBV.out.mono (by have := HBR.out.size; omega)))
      clear h3r
      by_cases hoff : f3 ≤ n
      case neg =>
        have hca : ¬ (f3 ≤ n ∧ ApOk (tabR bs (rs.take j)).1 f1 f2 size (n - f3)) := fun hx => hoff hx.1
        have HNO := Lib.hid (show ∀ rs', ¬ LkOk bs glyphs size rs' from fun rs' hx => by
          obtain rfl := hx.rows.det HRW.out
          exact hca (HFR.out.1 (hx.ok j _ HRR.out)))
        have HRE := Lib.hid (fun W => rest_bad a n c (f3 : Int) W (by omega))
        clear hca
        refine wp_region_tree (.step 0 (.step 1 (.step 3 (.step 5 (.step 6 (.step 9 (.step 2 (.step 4 (.step 7 (.step 8 (.step 10 .nil))))))))))) (by kernel_rfl) (by kernel_rfl) (by kernel_rfl) (by kernel_rfl) (by intro _ _ d_ _ _ h_; cases d_ <;> first | exact h_ | (dsimp +zetaDelta only at h_ ⊢; exact h_)) (fun w' => ∃ p : BelW V.heap.size V, w' = p.val) (bel_start _ _) ?_
        have hG_ := @belC V.heap.size V
        (refine tree_quiet (by simp only [List.getElem?_toArray, List.getElem?_cons_succ, List.getElem?_cons_zero]; rfl) (by rfl) (by rfl) (fun K_ hK_ => ?_); go_big_quiet_op; refine hK_ _ ?_; clear hK_ K_)
        (refine tree_quiet (by simp only [List.getElem?_toArray, List.getElem?_cons_succ, List.getElem?_cons_zero]; rfl) (by rfl) (by rfl) (fun K_ hK_ => ?_); go_big_quiet_op; refine hK_ _ ?_; clear hK_ K_)
        (refine tree_quiet (by simp only [List.getElem?_toArray, List.getElem?_cons_succ, List.getElem?_cons_zero]; rfl) (by rfl) (by rfl) (fun K_ hK_ => ?_); go_big_quiet_op; refine hK_ _ ?_; clear hK_ K_)
        (refine tree_quiet (by simp only [List.getElem?_toArray, List.getElem?_cons_succ, List.getElem?_cons_zero]; rfl) (by rfl) (by rfl) (fun K_ hK_ => ?_); go_big_quiet_op; refine hK_ _ ?_; clear hK_ K_)
        (refine tree_quiet (by simp only [List.getElem?_toArray, List.getElem?_cons_succ, List.getElem?_cons_zero]; rfl) (by rfl) (by rfl) (fun K_ hK_ => ?_); go_big_quiet_op; refine hK_ _ ?_; clear hK_ K_)
        (refine tree_quiet (by simp only [List.getElem?_toArray, List.getElem?_cons_succ, List.getElem?_cons_zero]; rfl) (by rfl) (by rfl) (fun K_ hK_ => ?_); go_big_quiet_op; refine hK_ _ ?_; clear hK_ K_)
        (refine tree_run (by simp only [List.getElem?_toArray, List.getElem?_cons_succ, List.getElem?_cons_zero]; rfl) (by rfl) (by rfl) (fun K_ hK_ => ?_); have HK_ := Lib.hid hK_; clear hK_; go_wp2_with (first | (go_at_call 58; (with_reducible refine (HU2.out _ (HHV.out.below (by repeat (first | exact Below.refl _ _ | assumption | refine bdrew1q ?_ | refine balloc ?_ _ | refine bthen ?_ (by assumption) | refine Below.trans ?_ (by assumption))))).mono ?_); rintro e wa ⟨rfl, hba⟩; have hac := bc hba; have haf := bf hba; have haz := hba.size; try simp only [World.size_alloc, World.size_drew] at haz) | (go_at_call 58; (with_reducible refine (HU0.out _ (HHV.out.below (by repeat (first | exact Below.refl _ _ | assumption | refine bdrew1q ?_ | refine balloc ?_ _ | refine bthen ?_ (by assumption) | refine Below.trans ?_ (by assumption))))).mono ?_); rintro e wb ⟨rfl, hbb⟩; have hbc := bc hbb; have hbf := bf hbb; have hbz := hbb.size; try simp only [World.size_alloc, World.size_drew] at hbz) | (go_at_call 58; (with_reducible refine (HU4.out _ (HHV.out.below (by repeat (first | exact Below.refl _ _ | assumption | refine bdrew1q ?_ | refine balloc ?_ _ | refine bthen ?_ (by assumption) | refine Below.trans ?_ (by assumption))))).mono ?_); rintro e wd ⟨rfl, hbd⟩; have hdc := bc hbd; have hdf := bf hbd; have hdz := hbd.size; try simp only [World.size_alloc, World.size_drew] at hdz) | (go_at_call 48; (with_reducible refine (HRE.out _).mono ?_); rintro e wq ⟨rfl, hbq⟩; have hqc := bc hbq; have hqf := bf hbq; have hqz := hbq.size; try simp only [World.size_alloc, World.size_drew] at hqz)); refine HK_.out _ _ (bel_ofA) ?_; clear HK_)
        (refine tree_run (by simp only [List.getElem?_toArray, List.getElem?_cons_succ, List.getElem?_cons_zero]; rfl) (by rfl) (by rfl) (fun K_ hK_ => ?_); have HK_ := Lib.hid hK_; clear hK_; go_wp2_with (first | (go_at_call 58; (with_reducible refine (HU2.out _ (HHV.out.below (by repeat (first | exact Below.refl _ _ | assumption | refine bdrew1q ?_ | refine balloc ?_ _ | refine bthen ?_ (by assumption) | refine Below.trans ?_ (by assumption))))).mono ?_); rintro e wa ⟨rfl, hba⟩; have hac := bc hba; have haf := bf hba; have haz := hba.size; try simp only [World.size_alloc, World.size_drew] at haz) | (go_at_call 58; (with_reducible refine (HU0.out _ (HHV.out.below (by repeat (first | exact Below.refl _ _ | assumption | refine bdrew1q ?_ | refine balloc ?_ _ | refine bthen ?_ (by assumption) | refine Below.trans ?_ (by assumption))))).mono ?_); rintro e wb ⟨rfl, hbb⟩; have hbc := bc hbb; have hbf := bf hbb; have hbz := hbb.size; try simp only [World.size_alloc, World.size_drew] at hbz) | (go_at_call 58; (with_reducible refine (HU4.out _ (HHV.out.below (by repeat (first | exact Below.refl _ _ | assumption | refine bdrew1q ?_ | refine balloc ?_ _ | refine bthen ?_ (by assumption) | refine Below.trans ?_ (by assumption))))).mono ?_); rintro e wd ⟨rfl, hbd⟩; have hdc := bc hbd; have hdf := bf hbd; have hdz := hbd.size; try simp only [World.size_alloc, World.size_drew] at hdz) | (go_at_call 48; (with_reducible refine (HRE.out _).mono ?_); rintro e wq ⟨rfl, hbq⟩; have hqc := bc hbq; have hqf := bf hbq; have hqz := hbq.size; try simp only [World.size_alloc, World.size_drew] at hqz)); refine HK_.out _ _ (bel_ofA) ?_; clear HK_)
        (refine tree_run (by simp only [List.getElem?_toArray, List.getElem?_cons_succ, List.getElem?_cons_zero]; rfl) (by rfl) (by rfl) (fun K_ hK_ => ?_); have HK_ := Lib.hid hK_; clear hK_; go_wp2_with (first | (go_at_call 58; (with_reducible refine (HU2.out _ (HHV.out.below (by repeat (first | exact Below.refl _ _ | assumption | refine bdrew1q ?_ | refine balloc ?_ _ | refine bthen ?_ (by assumption) | refine Below.trans ?_ (by assumption))))).mono ?_); rintro e wa ⟨rfl, hba⟩; have hac := bc hba; have haf := bf hba; have haz := hba.size; try simp only [World.size_alloc, World.size_drew] at haz) | (go_at_call 58; (with_reducible refine (HU0.out _ (HHV.out.below (by repeat (first | exact Below.refl _ _ | assumption | refine bdrew1q ?_ | refine balloc ?_ _ | refine bthen ?_ (by assumption) | refine Below.trans ?_ (by assumption))))).mono ?_); rintro e wb ⟨rfl, hbb⟩; have hbc := bc hbb; have hbf := bf hbb; have hbz := hbb.size; try simp only [World.size_alloc, World.size_drew] at hbz) | (go_at_call 58; (with_reducible refine (HU4.out _ (HHV.out.below (by repeat (first | exact Below.refl _ _ | assumption | refine bdrew1q ?_ | refine balloc ?_ _ | refine bthen ?_ (by assumption) | refine Below.trans ?_ (by assumption))))).mono ?_); rintro e wd ⟨rfl, hbd⟩; have hdc := bc hbd; have hdf := bf hbd; have hdz := hbd.size; try simp only [World.size_alloc, World.size_drew] at hdz) | (go_at_call 48; (with_reducible refine (HRE.out _).mono ?_); rintro e wq ⟨rfl, hbq⟩; have hqc := bc hbq; have hqf := bf hbq; have hqz := hbq.size; try simp only [World.size_alloc, World.size_drew] at hqz)); refine HK_.out _ _ (bel_ofA) ?_; clear HK_)
        (refine tree_run (by simp only [List.getElem?_toArray, List.getElem?_cons_succ, List.getElem?_cons_zero]; rfl) (by rfl) (by rfl) (fun K_ hK_ => ?_); have HK_ := Lib.hid hK_; clear hK_; go_wp2_with (first | (go_at_call 58; (with_reducible refine (HU2.out _ (HHV.out.below (by repeat (first | exact Below.refl _ _ | assumption | refine bdrew1q ?_ | refine balloc ?_ _ | refine bthen ?_ (by assumption) | refine Below.trans ?_ (by assumption))))).mono ?_); rintro e wa ⟨rfl, hba⟩; have hac := bc hba; have haf := bf hba; have haz := hba.size; try simp only [World.size_alloc, World.size_drew] at haz) | (go_at_call 58; (with_reducible refine (HU0.out _ (HHV.out.below (by repeat (first | exact Below.refl _ _ | assumption | refine bdrew1q ?_ | refine balloc ?_ _ | refine bthen ?_ (by assumption) | refine Below.trans ?_ (by assumption))))).mono ?_); rintro e wb ⟨rfl, hbb⟩; have hbc := bc hbb; have hbf := bf hbb; have hbz := hbb.size; try simp only [World.size_alloc, World.size_drew] at hbz) | (go_at_call 58; (with_reducible refine (HU4.out _ (HHV.out.below (by repeat (first | exact Below.refl _ _ | assumption | refine bdrew1q ?_ | refine balloc ?_ _ | refine bthen ?_ (by assumption) | refine Below.trans ?_ (by assumption))))).mono ?_); rintro e wd ⟨rfl, hbd⟩; have hdc := bc hbd; have hdf := bf hbd; have hdz := hbd.size; try simp only [World.size_alloc, World.size_drew] at hdz) | (go_at_call 48; (with_reducible refine (HRE.out _).mono ?_); rintro e wq ⟨rfl, hbq⟩; have hqc := bc hbq; have hqf := bf hbq; have hqz := hbq.size; try simp only [World.size_alloc, World.size_drew] at hqz)); exact ⟨rfl, .inr ⟨HNO.out, rfl⟩, HBB.out.trans (Below.mono (show Below V.heap.size V _ from (by repeat (first | exact Below.refl _ _ | assumption | refine bdrew1q ?_ | refine balloc ?_ _ | refine bthen ?_ (by assumption) | refine Below.trans ?_ (by assumption)))) (by have := HBR.out.size; omega))⟩)
      have HRE := Lib.hid (fun W => rest_z a n c f3 (f3 : Int) rfl W hoff hnc hc)
      by_cases hca : ApOk (tabR bs (rs.take j)).1 f1 f2 size (n - f3)
      · have HAL := Lib.hid (fun (W : World) (hW : Below V.heap.size V W) => (HAK.out W (HTV.out.below hW) (HBB.out.trans (hW.mono HBB.out.size)) hoff).mono (R' := fun e w' => e = .returned (.tuple #[]) ∧ TabIs w.heap.size g 4 ((tabR bs (rs.take j)).1 ++ [⟨f1, f2, (tabR bs (rs.take j)).2.length, 1⟩]) ((tabR bs (rs.take j)).2 ++ numsA (bs.drop f3) size (f2 - f1 + 1)) w' ∧ LKeep w.heap.size g W w') (by rintro e w' ⟨(⟨_, he, ht⟩ | ⟨hno, _⟩), hk⟩; exact ⟨he, ht, hk⟩; exact absurd hca hno))
        have HCA := Lib.hid (show f3 ≤ n ∧ ApOk (tabR bs (rs.take j)).1 f1 f2 size (n - f3) from ⟨hoff, hca⟩)
        have hVV : w.heap.size ≤ V.heap.size := by have := HBR.out.size; omega
        clear hca
        refine wp_region_last (.step 0 (.step 1 (.step 3 (.step 5 (.step 6 (.step 9 (.step 2 (.step 4 (.step 7 (.step 8 (.step 10 .nil))))))))))) 10 (by kernel_rfl) (by kernel_rfl) (by kernel_rfl) (by kernel_rfl) (by kernel_rfl) (by intro _ _ d_ _ _ h_; cases d_ <;> first | exact h_ | (dsimp +zetaDelta only at h_ ⊢; exact h_)) (fun w' => ∃ p : Wld V [], w' = p.val) (wld_start _ _) ?_
        have hG_ := @wldC V
        (refine z_quiet (by simp only [List.getElem?_toArray, List.getElem?_cons_succ, List.getElem?_cons_zero]; rfl) (by rfl) (by rfl) (fun K_ hK_ => ?_); go_big_quiet_op; refine hK_ _ ?_; clear hK_ K_)
        (refine z_quiet (by simp only [List.getElem?_toArray, List.getElem?_cons_succ, List.getElem?_cons_zero]; rfl) (by rfl) (by rfl) (fun K_ hK_ => ?_); go_big_quiet_op; refine hK_ _ ?_; clear hK_ K_)
        (refine z_quiet (by simp only [List.getElem?_toArray, List.getElem?_cons_succ, List.getElem?_cons_zero]; rfl) (by rfl) (by rfl) (fun K_ hK_ => ?_); go_big_quiet_op; refine hK_ _ ?_; clear hK_ K_)
        (refine z_quiet (by simp only [List.getElem?_toArray, List.getElem?_cons_succ, List.getElem?_cons_zero]; rfl) (by rfl) (by rfl) (fun K_ hK_ => ?_); go_big_quiet_op; refine hK_ _ ?_; clear hK_ K_)
        (refine z_quiet (by simp only [List.getElem?_toArray, List.getElem?_cons_succ, List.getElem?_cons_zero]; rfl) (by rfl) (by rfl) (fun K_ hK_ => ?_); go_big_quiet_op; refine hK_ _ ?_; clear hK_ K_)
        (refine z_quiet (by simp only [List.getElem?_toArray, List.getElem?_cons_succ, List.getElem?_cons_zero]; rfl) (by rfl) (by rfl) (fun K_ hK_ => ?_); go_big_quiet_op; refine hK_ _ ?_; clear hK_ K_)
        (refine z_run (by simp only [List.getElem?_toArray, List.getElem?_cons_succ, List.getElem?_cons_zero]; rfl) (by rfl) (by rfl) (fun K_ hK_ => ?_); have HK_ := Lib.hid hK_; clear hK_; go_wp2_with (first | (go_at_call 58; (with_reducible refine (HU2.out _ (HHV.out.below (by exact blw))).mono ?_); rintro e wa ⟨rfl, hba⟩; have hac := bc hba; have haf := bf hba; have haz := hba.size; try simp only [World.size_alloc, World.size_drew] at haz) | (go_at_call 58; (with_reducible refine (HU0.out _ (HHV.out.below (by exact blw))).mono ?_); rintro e wb ⟨rfl, hbb⟩; have hbc := bc hbb; have hbf := bf hbb; have hbz := hbb.size; try simp only [World.size_alloc, World.size_drew] at hbz) | (go_at_call 58; (with_reducible refine (HU4.out _ (HHV.out.below (by exact blw))).mono ?_); rintro e wd ⟨rfl, hbd⟩; have hdc := bc hbd; have hdf := bf hbd; have hdz := hbd.size; try simp only [World.size_alloc, World.size_drew] at hdz) | (go_at_call 48; (with_reducible refine (HRE.out _).mono ?_); rintro e wq ⟨rfl, hbq⟩; have hqc := bc hbq; have hqf := bf hbq; have hqz := hbq.size; try simp only [World.size_alloc, World.size_drew] at hqz) | (go_at_call 59; (with_reducible refine (HAL.out _ (by exact blw)).mono ?_); rintro e w8 ⟨rfl, ht8, hk8⟩; have HT8 := Lib.hid ht8; have HK8 := Lib.hid ((LKeep.of (B := w.heap.size) (g := g) (show Below V.heap.size V _ from blw) hVV).trans hk8); clear ht8 hk8)); refine HK_.out _ _ (wld_ofA) ?_; clear HK_)
        (refine z_run (by simp only [List.getElem?_toArray, List.getElem?_cons_succ, List.getElem?_cons_zero]; rfl) (by rfl) (by rfl) (fun K_ hK_ => ?_); have HK_ := Lib.hid hK_; clear hK_; go_wp2_with (first | (go_at_call 58; (with_reducible refine (HU2.out _ (HHV.out.below (by exact blw))).mono ?_); rintro e wa ⟨rfl, hba⟩; have hac := bc hba; have haf := bf hba; have haz := hba.size; try simp only [World.size_alloc, World.size_drew] at haz) | (go_at_call 58; (with_reducible refine (HU0.out _ (HHV.out.below (by exact blw))).mono ?_); rintro e wb ⟨rfl, hbb⟩; have hbc := bc hbb; have hbf := bf hbb; have hbz := hbb.size; try simp only [World.size_alloc, World.size_drew] at hbz) | (go_at_call 58; (with_reducible refine (HU4.out _ (HHV.out.below (by exact blw))).mono ?_); rintro e wd ⟨rfl, hbd⟩; have hdc := bc hbd; have hdf := bf hbd; have hdz := hbd.size; try simp only [World.size_alloc, World.size_drew] at hdz) | (go_at_call 48; (with_reducible refine (HRE.out _).mono ?_); rintro e wq ⟨rfl, hbq⟩; have hqc := bc hbq; have hqf := bf hbq; have hqz := hbq.size; try simp only [World.size_alloc, World.size_drew] at hqz) | (go_at_call 59; (with_reducible refine (HAL.out _ (by exact blw)).mono ?_); rintro e w8 ⟨rfl, ht8, hk8⟩; have HT8 := Lib.hid ht8; have HK8 := Lib.hid ((LKeep.of (B := w.heap.size) (g := g) (show Below V.heap.size V _ from blw) hVV).trans hk8); clear ht8 hk8)); refine HK_.out _ _ (wld_ofA) ?_; clear HK_)
        (refine z_run (by simp only [List.getElem?_toArray, List.getElem?_cons_succ, List.getElem?_cons_zero]; rfl) (by rfl) (by rfl) (fun K_ hK_ => ?_); have HK_ := Lib.hid hK_; clear hK_; go_wp2_with (first | (go_at_call 58; (with_reducible refine (HU2.out _ (HHV.out.below (by exact blw))).mono ?_); rintro e wa ⟨rfl, hba⟩; have hac := bc hba; have haf := bf hba; have haz := hba.size; try simp only [World.size_alloc, World.size_drew] at haz) | (go_at_call 58; (with_reducible refine (HU0.out _ (HHV.out.below (by exact blw))).mono ?_); rintro e wb ⟨rfl, hbb⟩; have hbc := bc hbb; have hbf := bf hbb; have hbz := hbb.size; try simp only [World.size_alloc, World.size_drew] at hbz) | (go_at_call 58; (with_reducible refine (HU4.out _ (HHV.out.below (by exact blw))).mono ?_); rintro e wd ⟨rfl, hbd⟩; have hdc := bc hbd; have hdf := bf hbd; have hdz := hbd.size; try simp only [World.size_alloc, World.size_drew] at hdz) | (go_at_call 48; (with_reducible refine (HRE.out _).mono ?_); rintro e wq ⟨rfl, hbq⟩; have hqc := bc hbq; have hqf := bf hbq; have hqz := hbq.size; try simp only [World.size_alloc, World.size_drew] at hqz) | (go_at_call 59; (with_reducible refine (HAL.out _ (by exact blw)).mono ?_); rintro e w8 ⟨rfl, ht8, hk8⟩; have HT8 := Lib.hid ht8; have HK8 := Lib.hid ((LKeep.of (B := w.heap.size) (g := g) (show Below V.heap.size V _ from blw) hVV).trans hk8); clear ht8 hk8)); refine HK_.out _ _ (wld_ofA) ?_; clear HK_)
        (refine z_run (by simp only [List.getElem?_toArray, List.getElem?_cons_succ, List.getElem?_cons_zero]; rfl) (by rfl) (by rfl) (fun K_ hK_ => ?_); have HK_ := Lib.hid hK_; clear hK_; go_wp2_with (first | (go_at_call 58; (with_reducible refine (HU2.out _ (HHV.out.below (by exact blw))).mono ?_); rintro e wa ⟨rfl, hba⟩; have hac := bc hba; have haf := bf hba; have haz := hba.size; try simp only [World.size_alloc, World.size_drew] at haz) | (go_at_call 58; (with_reducible refine (HU0.out _ (HHV.out.below (by exact blw))).mono ?_); rintro e wb ⟨rfl, hbb⟩; have hbc := bc hbb; have hbf := bf hbb; have hbz := hbb.size; try simp only [World.size_alloc, World.size_drew] at hbz) | (go_at_call 58; (with_reducible refine (HU4.out _ (HHV.out.below (by exact blw))).mono ?_); rintro e wd ⟨rfl, hbd⟩; have hdc := bc hbd; have hdf := bf hbd; have hdz := hbd.size; try simp only [World.size_alloc, World.size_drew] at hdz) | (go_at_call 48; (with_reducible refine (HRE.out _).mono ?_); rintro e wq ⟨rfl, hbq⟩; have hqc := bc hbq; have hqf := bf hbq; have hqz := hbq.size; try simp only [World.size_alloc, World.size_drew] at hqz) | (go_at_call 59; (with_reducible refine (HAL.out _ (by exact blw)).mono ?_); rintro e w8 ⟨rfl, ht8, hk8⟩; have HT8 := Lib.hid ht8; have HK8 := Lib.hid ((LKeep.of (B := w.heap.size) (g := g) (show Below V.heap.size V _ from blw) hVV).trans hk8); clear ht8 hk8)); refine HK_.out _ _ (wld_ofA) ?_; clear HK_)
        (refine z_last (by simp only [List.getElem?_toArray, List.getElem?_cons_succ, List.getElem?_cons_zero]; rfl) (by rfl) (by rfl) (by rfl) (fun K_ hK_ => ?_); have HK_ := Lib.hid hK_; clear hK_; go_wp2_with (first | (go_at_call 58; (with_reducible refine (HU2.out _ (HHV.out.below (by exact blw))).mono ?_); rintro e wa ⟨rfl, hba⟩; have hac := bc hba; have haf := bf hba; have haz := hba.size; try simp only [World.size_alloc, World.size_drew] at haz) | (go_at_call 58; (with_reducible refine (HU0.out _ (HHV.out.below (by exact blw))).mono ?_); rintro e wb ⟨rfl, hbb⟩; have hbc := bc hbb; have hbf := bf hbb; have hbz := hbb.size; try simp only [World.size_alloc, World.size_drew] at hbz) | (go_at_call 58; (with_reducible refine (HU4.out _ (HHV.out.below (by exact blw))).mono ?_); rintro e wd ⟨rfl, hbd⟩; have hdc := bc hbd; have hdf := bf hbd; have hdz := hbd.size; try simp only [World.size_alloc, World.size_drew] at hdz) | (go_at_call 48; (with_reducible refine (HRE.out _).mono ?_); rintro e wq ⟨rfl, hbq⟩; have hqc := bc hbq; have hqf := bf hbq; have hqz := hbq.size; try simp only [World.size_alloc, World.size_drew] at hqz) | (go_at_call 59; (with_reducible refine (HAL.out _ (by exact blw)).mono ?_); rintro e w8 ⟨rfl, ht8, hk8⟩; have HT8 := Lib.hid ht8; have HK8 := Lib.hid ((LKeep.of (B := w.heap.size) (g := g) (show Below V.heap.size V _ from blw) hVV).trans hk8); clear ht8 hk8)); refine HK_.out _ _ ?_; clear HK_)
        refine z_nil ?_
        clear hG_
        have HT9 := Lib.hid (show TabIs w.heap.size g 4 (tabR bs (rs.take (j + 1))).1 (tabR bs (rs.take (j + 1))).2 w8 from by rw [HTS.out, stepR, numsR]; exact HT8.out)
        clear HT8
        have hjl : j < M := HLT.out
        have hwwr : w.heap.size ≤ wr.heap.size := HBR.out.size
        go_wp2_with fail
        go_roundw
        case rel => exact ⟨j + 1, by rw [HLEN.out]; exact HLT.out, by go_num, okR_take_succ HOKJ.out HRR.out (HFR.out.2 HCA.out), HT9.out, HKJ.out.trans ((LKeep.of HBV.out (by omega)).trans HK8.out)⟩
        case measure => simp [Go.RowKit.intOf]; have := HLT.out; omega
      · have HAL := Lib.hid (fun (W : World) (hW : Below V.heap.size V W) => (HAK.out W (HTV.out.below hW) (HBB.out.trans (hW.mono HBB.out.size)) hoff).mono (R' := fun e w' => e = .panicked thrown ∧ LKeep w.heap.size g W w') (by rintro e w' ⟨(⟨hy, _⟩ | ⟨_, he⟩), hk⟩; exact absurd hy hca; exact ⟨he, hk⟩))
        have HNO := Lib.hid (show ∀ rs', ¬ LkOk bs glyphs size rs' from fun rs' hx => by
          obtain rfl := hx.rows.det HRW.out
          exact hca (HFR.out.1 (hx.ok j _ HRR.out)).2)
        have hVV : w.heap.size ≤ V.heap.size := by have := HBR.out.size; omega
        clear hca
        refine wp_region_tree (.step 0 (.step 1 (.step 3 (.step 5 (.step 6 (.step 9 (.step 2 (.step 4 (.step 7 (.step 8 (.step 10 .nil))))))))))) (by kernel_rfl) (by kernel_rfl) (by kernel_rfl) (by kernel_rfl) (by intro _ _ d_ _ _ h_; cases d_ <;> first | exact h_ | (dsimp +zetaDelta only at h_ ⊢; exact h_)) (fun w' => ∃ p : BelW V.heap.size V, w' = p.val) (bel_start _ _) ?_
        have hG_ := @belC V.heap.size V
        (refine tree_quiet (by simp only [List.getElem?_toArray, List.getElem?_cons_succ, List.getElem?_cons_zero]; rfl) (by rfl) (by rfl) (fun K_ hK_ => ?_); go_big_quiet_op; refine hK_ _ ?_; clear hK_ K_)
        (refine tree_quiet (by simp only [List.getElem?_toArray, List.getElem?_cons_succ, List.getElem?_cons_zero]; rfl) (by rfl) (by rfl) (fun K_ hK_ => ?_); go_big_quiet_op; refine hK_ _ ?_; clear hK_ K_)
        (refine tree_quiet (by simp only [List.getElem?_toArray, List.getElem?_cons_succ, List.getElem?_cons_zero]; rfl) (by rfl) (by rfl) (fun K_ hK_ => ?_); go_big_quiet_op; refine hK_ _ ?_; clear hK_ K_)
        (refine tree_quiet (by simp only [List.getElem?_toArray, List.getElem?_cons_succ, List.getElem?_cons_zero]; rfl) (by rfl) (by rfl) (fun K_ hK_ => ?_); go_big_quiet_op; refine hK_ _ ?_; clear hK_ K_)
        (refine tree_quiet (by simp only [List.getElem?_toArray, List.getElem?_cons_succ, List.getElem?_cons_zero]; rfl) (by rfl) (by rfl) (fun K_ hK_ => ?_); go_big_quiet_op; refine hK_ _ ?_; clear hK_ K_)
        (refine tree_quiet (by simp only [List.getElem?_toArray, List.getElem?_cons_succ, List.getElem?_cons_zero]; rfl) (by rfl) (by rfl) (fun K_ hK_ => ?_); go_big_quiet_op; refine hK_ _ ?_; clear hK_ K_)
        (refine tree_run (by simp only [List.getElem?_toArray, List.getElem?_cons_succ, List.getElem?_cons_zero]; rfl) (by rfl) (by rfl) (fun K_ hK_ => ?_); have HK_ := Lib.hid hK_; clear hK_; go_wp2_with (first | (go_at_call 58; (with_reducible refine (HU2.out _ (HHV.out.below (by repeat (first | exact Below.refl _ _ | assumption | refine bdrew1q ?_ | refine balloc ?_ _ | refine bthen ?_ (by assumption) | refine Below.trans ?_ (by assumption))))).mono ?_); rintro e wa ⟨rfl, hba⟩; have hac := bc hba; have haf := bf hba; have haz := hba.size; try simp only [World.size_alloc, World.size_drew] at haz) | (go_at_call 58; (with_reducible refine (HU0.out _ (HHV.out.below (by repeat (first | exact Below.refl _ _ | assumption | refine bdrew1q ?_ | refine balloc ?_ _ | refine bthen ?_ (by assumption) | refine Below.trans ?_ (by assumption))))).mono ?_); rintro e wb ⟨rfl, hbb⟩; have hbc := bc hbb; have hbf := bf hbb; have hbz := hbb.size; try simp only [World.size_alloc, World.size_drew] at hbz) | (go_at_call 58; (with_reducible refine (HU4.out _ (HHV.out.below (by repeat (first | exact Below.refl _ _ | assumption | refine bdrew1q ?_ | refine balloc ?_ _ | refine bthen ?_ (by assumption) | refine Below.trans ?_ (by assumption))))).mono ?_); rintro e wd ⟨rfl, hbd⟩; have hdc := bc hbd; have hdf := bf hbd; have hdz := hbd.size; try simp only [World.size_alloc, World.size_drew] at hdz) | (go_at_call 48; (with_reducible refine (HRE.out _).mono ?_); rintro e wq ⟨rfl, hbq⟩; have hqc := bc hbq; have hqf := bf hbq; have hqz := hbq.size; try simp only [World.size_alloc, World.size_drew] at hqz) | (go_at_call 59; (with_reducible refine (HAL.out _ (by repeat (first | exact Below.refl _ _ | assumption | refine bdrew1q ?_ | refine balloc ?_ _ | refine bthen ?_ (by assumption) | refine Below.trans ?_ (by assumption)))).mono ?_); rintro e w8 ⟨rfl, hk8⟩)); refine HK_.out _ _ (bel_ofA) ?_; clear HK_)
        (refine tree_run (by simp only [List.getElem?_toArray, List.getElem?_cons_succ, List.getElem?_cons_zero]; rfl) (by rfl) (by rfl) (fun K_ hK_ => ?_); have HK_ := Lib.hid hK_; clear hK_; go_wp2_with (first | (go_at_call 58; (with_reducible refine (HU2.out _ (HHV.out.below (by repeat (first | exact Below.refl _ _ | assumption | refine bdrew1q ?_ | refine balloc ?_ _ | refine bthen ?_ (by assumption) | refine Below.trans ?_ (by assumption))))).mono ?_); rintro e wa ⟨rfl, hba⟩; have hac := bc hba; have haf := bf hba; have haz := hba.size; try simp only [World.size_alloc, World.size_drew] at haz) | (go_at_call 58; (with_reducible refine (HU0.out _ (HHV.out.below (by repeat (first | exact Below.refl _ _ | assumption | refine bdrew1q ?_ | refine balloc ?_ _ | refine bthen ?_ (by assumption) | refine Below.trans ?_ (by assumption))))).mono ?_); rintro e wb ⟨rfl, hbb⟩; have hbc := bc hbb; have hbf := bf hbb; have hbz := hbb.size; try simp only [World.size_alloc, World.size_drew] at hbz) | (go_at_call 58; (with_reducible refine (HU4.out _ (HHV.out.below (by repeat (first | exact Below.refl _ _ | assumption | refine bdrew1q ?_ | refine balloc ?_ _ | refine bthen ?_ (by assumption) | refine Below.trans ?_ (by assumption))))).mono ?_); rintro e wd ⟨rfl, hbd⟩; have hdc := bc hbd; have hdf := bf hbd; have hdz := hbd.size; try simp only [World.size_alloc, World.size_drew] at hdz) | (go_at_call 48; (with_reducible refine (HRE.out _).mono ?_); rintro e wq ⟨rfl, hbq⟩; have hqc := bc hbq; have hqf := bf hbq; have hqz := hbq.size; try simp only [World.size_alloc, World.size_drew] at hqz) | (go_at_call 59; (with_reducible refine (HAL.out _ (by repeat (first | exact Below.refl _ _ | assumption | refine bdrew1q ?_ | refine balloc ?_ _ | refine bthen ?_ (by assumption) | refine Below.trans ?_ (by assumption)))).mono ?_); rintro e w8 ⟨rfl, hk8⟩)); refine HK_.out _ _ (bel_ofA) ?_; clear HK_)
        (refine tree_run (by simp only [List.getElem?_toArray, List.getElem?_cons_succ, List.getElem?_cons_zero]; rfl) (by rfl) (by rfl) (fun K_ hK_ => ?_); have HK_ := Lib.hid hK_; clear hK_; go_wp2_with (first | (go_at_call 58; (with_reducible refine (HU2.out _ (HHV.out.below (by repeat (first | exact Below.refl _ _ | assumption | refine bdrew1q ?_ | refine balloc ?_ _ | refine bthen ?_ (by assumption) | refine Below.trans ?_ (by assumption))))).mono ?_); rintro e wa ⟨rfl, hba⟩; have hac := bc hba; have haf := bf hba; have haz := hba.size; try simp only [World.size_alloc, World.size_drew] at haz) | (go_at_call 58; (with_reducible refine (HU0.out _ (HHV.out.below (by repeat (first | exact Below.refl _ _ | assumption | refine bdrew1q ?_ | refine balloc ?_ _ | refine bthen ?_ (by assumption) | refine Below.trans ?_ (by assumption))))).mono ?_); rintro e wb ⟨rfl, hbb⟩; have hbc := bc hbb; have hbf := bf hbb; have hbz := hbb.size; try simp only [World.size_alloc, World.size_drew] at hbz) | (go_at_call 58; (with_reducible refine (HU4.out _ (HHV.out.below (by repeat (first | exact Below.refl _ _ | assumption | refine bdrew1q ?_ | refine balloc ?_ _ | refine bthen ?_ (by assumption) | refine Below.trans ?_ (by assumption))))).mono ?_); rintro e wd ⟨rfl, hbd⟩; have hdc := bc hbd; have hdf := bf hbd; have hdz := hbd.size; try simp only [World.size_alloc, World.size_drew] at hdz) | (go_at_call 48; (with_reducible refine (HRE.out _).mono ?_); rintro e wq ⟨rfl, hbq⟩; have hqc := bc hbq; have hqf := bf hbq; have hqz := hbq.size; try simp only [World.size_alloc, World.size_drew] at hqz) | (go_at_call 59; (with_reducible refine (HAL.out _ (by repeat (first | exact Below.refl _ _ | assumption | refine bdrew1q ?_ | refine balloc ?_ _ | refine bthen ?_ (by assumption) | refine Below.trans ?_ (by assumption)))).mono ?_); rintro e w8 ⟨rfl, hk8⟩)); refine HK_.out _ _ (bel_ofA) ?_; clear HK_)
        (refine tree_run (by simp only [List.getElem?_toArray, List.getElem?_cons_succ, List.getElem?_cons_zero]; rfl) (by rfl) (by rfl) (fun K_ hK_ => ?_); have HK_ := Lib.hid hK_; clear hK_; go_wp2_with (first | (go_at_call 58; (with_reducible refine (HU2.out _ (HHV.out.below (by repeat (first | exact Below.refl _ _ | assumption | refine bdrew1q ?_ | refine balloc ?_ _ | refine bthen ?_ (by assumption) | refine Below.trans ?_ (by assumption))))).mono ?_); rintro e wa ⟨rfl, hba⟩; have hac := bc hba; have haf := bf hba; have haz := hba.size; try simp only [World.size_alloc, World.size_drew] at haz) | (go_at_call 58; (with_reducible refine (HU0.out _ (HHV.out.below (by repeat (first | exact Below.refl _ _ | assumption | refine bdrew1q ?_ | refine balloc ?_ _ | refine bthen ?_ (by assumption) | refine Below.trans ?_ (by assumption))))).mono ?_); rintro e wb ⟨rfl, hbb⟩; have hbc := bc hbb; have hbf := bf hbb; have hbz := hbb.size; try simp only [World.size_alloc, World.size_drew] at hbz) | (go_at_call 58; (with_reducible refine (HU4.out _ (HHV.out.below (by repeat (first | exact Below.refl _ _ | assumption | refine bdrew1q ?_ | refine balloc ?_ _ | refine bthen ?_ (by assumption) | refine Below.trans ?_ (by assumption))))).mono ?_); rintro e wd ⟨rfl, hbd⟩; have hdc := bc hbd; have hdf := bf hbd; have hdz := hbd.size; try simp only [World.size_alloc, World.size_drew] at hdz) | (go_at_call 48; (with_reducible refine (HRE.out _).mono ?_); rintro e wq ⟨rfl, hbq⟩; have hqc := bc hbq; have hqf := bf hbq; have hqz := hbq.size; try simp only [World.size_alloc, World.size_drew] at hqz) | (go_at_call 59; (with_reducible refine (HAL.out _ (by repeat (first | exact Below.refl _ _ | assumption | refine bdrew1q ?_ | refine balloc ?_ _ | refine bthen ?_ (by assumption) | refine Below.trans ?_ (by assumption)))).mono ?_); rintro e w8 ⟨rfl, hk8⟩)); refine HK_.out _ _ (bel_ofA) ?_; clear HK_)
        (refine tree_run (by simp only [List.getElem?_toArray, List.getElem?_cons_succ, List.getElem?_cons_zero]; rfl) (by rfl) (by rfl) (fun K_ hK_ => ?_); have HK_ := Lib.hid hK_; clear hK_; go_wp2_with (first | (go_at_call 58; (with_reducible refine (HU2.out _ (HHV.out.below (by repeat (first | exact Below.refl _ _ | assumption | refine bdrew1q ?_ | refine balloc ?_ _ | refine bthen ?_ (by assumption) | refine Below.trans ?_ (by assumption))))).mono ?_); rintro e wa ⟨rfl, hba⟩; have hac := bc hba; have haf := bf hba; have haz := hba.size; try simp only [World.size_alloc, World.size_drew] at haz) | (go_at_call 58; (with_reducible refine (HU0.out _ (HHV.out.below (by repeat (first | exact Below.refl _ _ | assumption | refine bdrew1q ?_ | refine balloc ?_ _ | refine bthen ?_ (by assumption) | refine Below.trans ?_ (by assumption))))).mono ?_); rintro e wb ⟨rfl, hbb⟩; have hbc := bc hbb; have hbf := bf hbb; have hbz := hbb.size; try simp only [World.size_alloc, World.size_drew] at hbz) | (go_at_call 58; (with_reducible refine (HU4.out _ (HHV.out.below (by repeat (first | exact Below.refl _ _ | assumption | refine bdrew1q ?_ | refine balloc ?_ _ | refine bthen ?_ (by assumption) | refine Below.trans ?_ (by assumption))))).mono ?_); rintro e wd ⟨rfl, hbd⟩; have hdc := bc hbd; have hdf := bf hbd; have hdz := hbd.size; try simp only [World.size_alloc, World.size_drew] at hdz) | (go_at_call 48; (with_reducible refine (HRE.out _).mono ?_); rintro e wq ⟨rfl, hbq⟩; have hqc := bc hbq; have hqf := bf hbq; have hqz := hbq.size; try simp only [World.size_alloc, World.size_drew] at hqz) | (go_at_call 59; (with_reducible refine (HAL.out _ (by repeat (first | exact Below.refl _ _ | assumption | refine bdrew1q ?_ | refine balloc ?_ _ | refine bthen ?_ (by assumption) | refine Below.trans ?_ (by assumption)))).mono ?_); rintro e w8 ⟨rfl, hk8⟩)); exact ⟨rfl, .inr ⟨HNO.out, rfl⟩, bad_end HBB.out (by repeat (first | exact Below.refl _ _ | assumption | refine bdrew1q ?_ | refine balloc ?_ _ | refine bthen ?_ (by assumption) | refine Below.trans ?_ (by assumption))) hVV hk8⟩)
    · obtain rfl : j = M := by omega
      clear hokj htj hkj hBr
      go_wp2_with fail
      go_ret
      have e := HLEN.out
      have hok := HOKJ.out
      have ht := HTJ.out
      rw [List.take_of_length_le (by omega)] at hok ht
      exact ⟨.inl ⟨rs, g, ⟨HRW.out, hok⟩, rfl, by rw [HH0.out]; exact ht⟩, HBR.out⟩
theorem take_lk (a : Option Addr) (n c : Nat) (bs : List UInt8) (glyphs size : Nat) (zg zs : Int) (hzg : zg = (glyphs : Nat)) (hzs : zs = (size : Nat)) (w : World) (hh : Has w a (bytesV bs)) (hbl : bs.length = n) (hnc : n ≤ c) (hc : c ≤ maxLen) (hg1 : 1 ≤ glyphs) (hg2 : glyphs ≤ 65535) (hS : size = 2 ∨ size = 4) :
    Calls Tryd.prog 47 #[.agg #[.slice a n c], .int .i64 zg, .int .i64 zs] w (TakeIs bs glyphs size w) := by
  by_cases h2 : 2 ≤ n
  case neg => exact takeShort a n c bs glyphs size zg zs w hbl hnc hc h2
  by_cases e0 : num bs 0 2 = 0
  · exact take0 a n c bs glyphs size zg zs hzg hzs w hh hbl hnc hc hS hg1 hg2 e0 h2
  by_cases e2 : num bs 0 2 = 2
  · exact take2 a n c bs glyphs size zg zs hzg hzs w hh hbl hnc hc hg2 hS e2 h2
  by_cases e4 : num bs 0 2 = 4
  · exact take4 a n c bs glyphs size zg zs hzg hzs w hh hbl hnc hc hg2 hS e4 h2
  by_cases e6 : num bs 0 2 = 6
  · exact take6 a n c bs glyphs size zg zs hzg hzs w hh hbl hnc hc hg2 hS e6 h2
  by_cases e8 : num bs 0 2 = 8
  · exact take8 a n c bs glyphs size zg zs hzg hzs w hh hbl hnc hc hS e8 h2
  by_cases e10 : num bs 0 2 = 10
  · exact take10 a n c bs glyphs size zg zs hzg hzs w hh hbl hnc hc e10 h2
  exact takeX a n c bs glyphs size zg zs w hh hbl hnc hc h2 ⟨e0, e2, e4, e6, e8, e10⟩
end Go.Proofs.YthjnpfhcjacibaaDoor
end
section

/- The contract of lookup.Read. Conditions: as many bytes as the slice says; all numbers within 64 bits. -/
namespace Go.Proofs.YthjnpfhcjacibaaDoor
open Go.RowKit Go.Lib

theorem TabIs.setOther {B g fmt g3 o : Nat} {ps : List PartL} {ns : List Nat} {w : World} (h : TabIs B g fmt ps ns w) {cs : Array Value} {t : Nat} {fz : Nat × Nat} (hw : w.heap[g3]? = some (.cells cs t fz)) (h1 : t ≠ 146) (h2 : t ≠ 131) (h3 : t ≠ 126) (v : Value) : TabIs B g fmt ps ns (w.setCell ⟨g3, o, none⟩ v) := by
  obtain ⟨ap, cp, an, cn, e0, e1, e2⟩ := h.is
  have hne : g ≠ g3 := by
    rintro rfl
    rw [e0] at hw
    injection hw with hw
    injection hw with _ hw _
    exact h3 hw.symm
  exact ⟨ap, cp, an, cn, (set_heap_other v hne).trans e0, set_owns v e1 (own_neE e1 hw h1), set_owns v e2 (own_neE e2 hw h2)⟩
def LRead1R (B : Nat) (w : World) (g3 : Nat) (bs : List UInt8) (glyphs size : Nat) (ok : Bool) (w' : World) : Prop :=
  (ok = true ∧ ∃ rs g, LkOk bs glyphs size rs ∧ w'.heap[g3]? = some (.cells #[.pointer (some ⟨g, 0, none⟩)] 107 (0, 0)) ∧ TabIs w.heap.size g (num bs 0 2) (tabR bs rs).1 (tabR bs rs).2 w' ∧ Below B w w' ∧ w.heap.size ≤ w'.heap.size ∧ ∀ k, k < w.heap.size → k ≠ g3 → w'.heap[k]? = w.heap[k]?) ∨
  (ok = false ∧ (∀ rs, ¬ LkOk bs glyphs size rs) ∧ Below w.heap.size w w')
theorem take_ok (a : Option Addr) (n c : Nat) (bs : List UInt8) (glyphs size : Nat) (rs : List RP) (w : World) (hh : Has w a (bytesV bs)) (hbl : bs.length = n) (hnc : n ≤ c) (hc : c ≤ maxLen) (hg1 : 1 ≤ glyphs) (hg2 : glyphs ≤ 65535) (hS : size = 2 ∨ size = 4) (hok : LkOk bs glyphs size rs) :
    Calls Tryd.prog 47 #[.agg #[.slice a n c], .int .i64 (glyphs : Nat), .int .i64 (size : Nat)] w fun e w' => ∃ g, e = .returned (.pointer (some ⟨g, 0, none⟩)) ∧ TabIs w.heap.size g (num bs 0 2) (tabR bs rs).1 (tabR bs rs).2 w' ∧ Below w.heap.size w w' := by
  refine (take_lk a n c bs glyphs size _ _ rfl rfl w hh hbl hnc hc hg1 hg2 hS).mono ?_
  rintro e w' ⟨(⟨rs', g, hr, he, ht⟩ | ⟨hno, _⟩), hb⟩
  · obtain rfl := hr.det hok
    exact ⟨g, he, ht, hb⟩
  · exact absurd hok (hno rs)
theorem take_bad (a : Option Addr) (n c : Nat) (bs : List UInt8) (glyphs size : Nat) (w : World) (hh : Has w a (bytesV bs)) (hbl : bs.length = n) (hnc : n ≤ c) (hc : c ≤ maxLen) (hg1 : 1 ≤ glyphs) (hg2 : glyphs ≤ 65535) (hS : size = 2 ∨ size = 4) (hno : ∀ rs, ¬ LkOk bs glyphs size rs) :
    Calls Tryd.prog 47 #[.agg #[.slice a n c], .int .i64 (glyphs : Nat), .int .i64 (size : Nat)] w fun e w' => e = .panicked thrown ∧ Below w.heap.size w w' := by
  refine (take_lk a n c bs glyphs size _ _ rfl rfl w hh hbl hnc hc hg1 hg2 hS).mono ?_
  rintro e w' ⟨(⟨rs', g, hr, _, _⟩ | ⟨_, he⟩), hb⟩
  · exact absurd hr (hno rs')
  · exact ⟨he, hb⟩
theorem TabIs.ge {B g fmt : Nat} {ps : List PartL} {ns : List Nat} {w w' : World} {x : Value} {t : Nat} (h : TabIs B g fmt ps ns w') {g3 : Nat} (h3 : w'.heap[g3]? = some (.cells #[x] t (0, 0))) (ht : t ≠ 126) : g ≠ g3 := by
  rintro rfl
  obtain ⟨_, _, _, _, e0, _⟩ := h.is
  rw [e0] at h3
  injection h3 with h3
  injection h3 with _ h3 _
  exact ht h3.symm
def badLk (zg zs : Int) : Prop := zg < 1 ∨ 65535 < zg ∨ (zs ≠ 2 ∧ zs ≠ 4)
def LReadIs (bs : List UInt8) (zg zs : Int) (w : World) (e : Ending) (w' : World) : Prop :=
  ((badLk zg zs ∧ e = .returned (.tuple #[.pointer none, .int .i64 1])) ∨
   (¬ badLk zg zs ∧ (∀ rs, ¬ LkOk bs zg.toNat zs.toNat rs) ∧ e = .returned (.tuple #[.pointer none, .int .i64 2])) ∨
   (¬ badLk zg zs ∧ ∃ rs g, LkOk bs zg.toNat zs.toNat rs ∧ e = .returned (.tuple #[.pointer (some ⟨g, 0, none⟩), .int .i64 0]) ∧ TabIs w.heap.size g (num bs 0 2) (tabR bs rs).1 (tabR bs rs).2 w')) ∧ Below w.heap.size w w'
end Go.Proofs.YthjnpfhcjacibaaDoor
end
section

/- (*Table).All: the contract of its iterator. Conditions: a table in memory, its parts rising, its numbers there; a body of the loop that keeps what it holds. -/
namespace Go.Proofs.YthjnpfhcjacibaaDoor
open Go.RowKit Go.Lib Go.Shelf
attribute [local go_sem] Oper.semAt_some

/-- All cells but some are as they were, and all below B. -/
structure KeepC (B : Nat) (own : Nat → Nat → Prop) (w w' : World) : Prop where
  below : Below B w w'
  size : w.heap.size ≤ w'.heap.size
  kept : ∀ (k : Nat) (cs : Array Value) (t : Nat) (fz : Nat × Nat), w.heap[k]? = some (.cells cs t fz) → ¬ own k t → w'.heap[k]? = w.heap[k]?
theorem KeepC.refl (B : Nat) (own : Nat → Nat → Prop) (w : World) : KeepC B own w w := ⟨Below.refl _ _, Nat.le_refl _, fun _ _ _ _ _ _ => rfl⟩
theorem KeepC.trans {B : Nat} {own : Nat → Nat → Prop} {a b c : World} (h : KeepC B own a b) (k : KeepC B own b c) : KeepC B own a c :=
  ⟨h.below.trans k.below, Nat.le_trans h.size k.size, fun x cs t fz hx ho => (k.kept x cs t fz ((h.kept x cs t fz hx ho).trans hx) ho).trans (h.kept x cs t fz hx ho)⟩
theorem KeepC.of {B : Nat} {own : Nat → Nat → Prop} {w w' : World} (h : Below w.heap.size w w') (hB : B ≤ w.heap.size) : KeepC B own w w' :=
  ⟨h.mono hB, h.size, fun k _ _ _ hk _ => h.block k (Array.getElem?_eq_some_iff.1 hk).1⟩
theorem KeepC.put {B : Nat} {own : Nat → Nat → Prop} {w : World} (hn : B ≤ w.heap.size) (W : World) (l : Nat) (o o' : Obj) (hl : w.heap.size ≤ l) (h : W.heap[l]? = some o) (hc : o.isCells = false) (hw : o.isWalk = false) : KeepC B own W (W.putObj l o') := by
  refine ⟨belowK_b hn W l o o' hl h hc hw, (grownBy_putObj' W l o').size, fun k cs t fz hk _ => ?_⟩
  refine (grownBy_putObj' W l o').block k (Array.getElem?_eq_some_iff.1 hk).1 ?_
  rintro e
  cases e
  rw [h] at hk
  cases hk
  cases hc
theorem KeepC.owns {B : Nat} {own : Nat → Nat → Prop} {w w' : World} (h : KeepC B own w w') {base size n : Nat} {e' : TypeId} {v : Value} {xs : List Value} (ho : w.ownsRow base e' size v n xs) (h1 : ∀ k, ¬ own k e') : w'.ownsRow base e' size v n xs := by
  refine ⟨ho.1, ?_⟩
  rcases ho.2 with q | ⟨q, cap, cur, hv, hq, hh, r⟩
  · exact .inl q
  · exact .inr ⟨q, cap, cur, hv, hq, by rw [h.kept q _ _ _ hh (h1 q)]; exact hh, r⟩
theorem TabIs.keepC {B B0 g fmt : Nat} {own : Nat → Nat → Prop} {ps : List PartL} {ns : List Nat} {w w' : World} (h : TabIs B g fmt ps ns w) (hk : KeepC B0 own w w') (h1 : ∀ k, ¬ own k 146) (h2 : ∀ k, ¬ own k 131) (h3 : ¬ own g 126) : TabIs B g fmt ps ns w' := by
  obtain ⟨ap, cp, an, cn, e0, e1, e2⟩ := h.is
  exact ⟨ap, cp, an, cn, (hk.kept g _ _ _ e0 h3).trans e0, hk.owns e1 h1, hk.owns e2 h2⟩
/-- A part's glyphs and their numbers, in order. -/
def glyphsP (ns : List Nat) (p : PartL) (d : Nat) : List (Int × Int) := (List.range d).map fun (d : Nat) => ((p.first : Int) + (d : Int), ((ns.getD (p.at_ + p.step * d) 0 : Nat) : Int))
def allL (ns : List Nat) (ps : List PartL) : List (Int × Int) := ps.flatMap fun p => glyphsP ns p (p.last + 1 - p.first)
theorem glyphsP_succ (ns : List Nat) (p : PartL) (d : Nat) : glyphsP ns p (d + 1) = glyphsP ns p d ++ [((p.first : Int) + (d : Int), ((ns.getD (p.at_ + p.step * d) 0 : Nat) : Int))] := by simp [glyphsP, List.range_succ]
theorem allL_succ (ns : List Nat) (ps : List PartL) (k : Nat) (p : PartL) (h : ps[k]? = some p) : allL ns (ps.take (k + 1)) = allL ns (ps.take k) ++ glyphsP ns p (p.last + 1 - p.first) := by
  rw [List.take_add_one, h]; simp [allL]
theorem glyphsP_prefix (ns : List Nat) (p : PartL) {d e : Nat} (h : d ≤ e) : glyphsP ns p d <+: glyphsP ns p e := by
  obtain ⟨m, rfl⟩ : ∃ m, e = d + m := ⟨e - d, by omega⟩
  exact ⟨(List.range' d m).map fun (d : Nat) => ((p.first : Int) + (d : Int), ((ns.getD (p.at_ + p.step * d) 0 : Nat) : Int)), by rw [glyphsP, glyphsP, ← List.map_append, List.range_eq_range', List.range_eq_range', ← List.range'_append_1, Nat.zero_add]⟩
theorem allL_prefix (ns : List Nat) (ps : List PartL) (k : Nat) (p : PartL) (h : ps[k]? = some p) {d : Nat} (hd : d ≤ p.last + 1 - p.first) : allL ns (ps.take k) ++ glyphsP ns p d <+: allL ns ps := by
  have h1 : allL ns (ps.take (k + 1)) <+: allL ns ps := ⟨allL ns (ps.drop (k + 1)), by unfold allL; rw [← List.flatMap_append, List.take_append_drop]⟩
  rw [allL_succ ns ps k p h] at h1
  exact ((List.prefix_append_right_inj _).2 (glyphsP_prefix ns p hd)).trans h1
theorem allL_lt (ns : List Nat) (ps : List PartL) (k : Nat) (p : PartL) (h : ps[k]? = some p) {d : Nat} (hd : d < p.last + 1 - p.first) : (allL ns (ps.take k) ++ glyphsP ns p d).length < (allL ns ps).length := by
  have := (allL_prefix ns ps k p h (show d + 1 ≤ _ from hd)).length_le
  rw [glyphsP_succ] at this
  simp only [List.length_append, List.length_cons, List.length_nil] at this ⊢
  omega
abbrev encG (x : Int × Int) : Array Value := #[.int .i64 x.1, .int .i64 x.2]

theorem abides_below {B : Nat} {J : List (Int × Int) → World → Prop} (h : AbidesFrom B J) {s : List (Int × Int)} {w w' : World} (hj : J s w) (hb : Below w.heap.size w w') : J s w' :=
  h s w w' none hj ⟨hb.os, hb.tape, hb.output, hb.size, fun k hk _ => hb.block k hk⟩ (fun r e => by cases e)
end Go.Proofs.YthjnpfhcjacibaaDoor
end
section

/- What an entry of a subtable that changes the order does at a place: the function within rear's Run, and drive's Plain of it. Conditions: the table of verbs lies in memory; a line, and the two numbers of its row; sizes. -/
namespace Go.Proofs.YthjnpfhcjacibaaDoor
open Go.RowKit Go.Lib

/-- The glyphs, and the row's two places. -/
abbrev RX := List (Int × Int) × Nat × Nat
def firstR (x : RX) (z F : Nat) : Nat := if F / 32768 % 2 = 1 then min z x.1.length else x.2.1
def lastR (x : RX) (z F : Nat) : Nat := if F / 8192 % 2 = 1 then min (z + 1) x.1.length else x.2.2
def lineR (l : List (Int × Int)) (f t v : Nat) : List (Int × Int) := if okV (v : Nat) ((t : Int) - (f : Int)) then ordG l (f : Nat) (ordV v (t - f)) else l
def actR (x : RX) (z F : Nat) : RX := (lineR x.1 (firstR x z F) (lastR x z F) (F % 16), firstR x z F, lastR x z F)
theorem lineR_length (l : List (Int × Int)) (f t v : Nat) : (lineR l f t v).length = l.length := by
  unfold lineR
  split
  · exact ordG_length _ _ _
  · rfl
theorem ownBlock_map (a : Option Addr) (n c : Nat) : (Value.slice a n c).ownBlock = a.map (·.block) := by cases a <;> rfl
def ownR (_ t : Nat) : Prop := t = 42 ∨ t = 3
/-- What the function within Run sees. -/
structure RIn (B gl g3 g5 g6 : Nat) (x : RX) (w : World) : Prop where
  line : ∃ a c, GIs B gl a c x.1 w
  at3 : w.heap[g3]? = some (.cells #[.pointer (some ⟨gl, 0, none⟩)] 35 (0, 0))
  at5 : w.heap[g5]? = some (.cells #[.int .i64 (x.2.1 : Nat)] 3 (0, 0))
  at6 : w.heap[g6]? = some (.cells #[.int .i64 (x.2.2 : Nat)] 3 (0, 0))
  ne : g5 ≠ g6
  few : x.1.length ≤ 1000000
  fst : x.2.1 ≤ x.1.length
  lst : x.2.2 ≤ x.1.length
theorem RIn.below {B gl g3 g5 g6 : Nat} {x : RX} {w w' : World} (h : RIn B gl g3 g5 g6 x w) (hb : Below w.heap.size w w') : RIn B gl g3 g5 g6 x w' :=
  ⟨by obtain ⟨a, c, hg⟩ := h.line; exact ⟨a, c, hg.below hb⟩, (hb.block _ (Array.getElem?_eq_some_iff.1 h.at3).1).trans h.at3, (hb.block _ (Array.getElem?_eq_some_iff.1 h.at5).1).trans h.at5, (hb.block _ (Array.getElem?_eq_some_iff.1 h.at6).1).trans h.at6, h.ne, h.few, h.fst, h.lst⟩
theorem firstR_le {B gl g3 g5 g6 : Nat} {x : RX} {w : World} (h : RIn B gl g3 g5 g6 x w) (z F : Nat) : firstR x z F ≤ x.1.length := by
  unfold firstR
  have := h.fst
  split <;> omega
theorem lastR_le {B gl g3 g5 g6 : Nat} {x : RX} {w : World} (h : RIn B gl g3 g5 g6 x w) (z F : Nat) : lastR x z F ≤ x.1.length := by
  unfold lastR
  have := h.lst
  split <;> omega
/-- A number is stored into one of both places. -/
theorem RIn.set5 {B gl g3 g5 g6 : Nat} {x : RX} {w : World} (h : RIn B gl g3 g5 g6 x w) (k : Nat) (hk : k ≤ x.1.length) : RIn B gl g3 g5 g6 (x.1, k, x.2.2) (w.setCell ⟨g5, 0, none⟩ (.int .i64 (k : Nat))) := by
  have n3 : g3 ≠ g5 := by
    rintro rfl
    have := h.at3.symm.trans h.at5
    injection this with this
    injection this with _ h2 _
    exact absurd h2 (by decide)
  obtain ⟨a, c, hg⟩ := h.line
  have nl : g5 ≠ gl := by
    rintro rfl
    have := h.at5.symm.trans hg.hd
    injection this with this
    injection this with _ h2 _
    exact absurd h2 (by decide)
  have hr := own_neE hg.row h.at5 (by decide)
  exact ⟨⟨a, c, hg.other nl (by rw [← ownBlock_map a x.1.length c]; exact hr) _⟩, (set_heap_other _ n3).trans h.at3, set_heap_at _ h.at5, (set_heap_other _ (Ne.symm h.ne)).trans h.at6, h.ne, h.few, hk, h.lst⟩
theorem RIn.set6 {B gl g3 g5 g6 : Nat} {x : RX} {w : World} (h : RIn B gl g3 g5 g6 x w) (k : Nat) (hk : k ≤ x.1.length) : RIn B gl g3 g5 g6 (x.1, x.2.1, k) (w.setCell ⟨g6, 0, none⟩ (.int .i64 (k : Nat))) := by
  have n3 : g3 ≠ g6 := by
    rintro rfl
    have := h.at3.symm.trans h.at6
    injection this with this
    injection this with _ h2 _
    exact absurd h2 (by decide)
  obtain ⟨a, c, hg⟩ := h.line
  have nl : g6 ≠ gl := by
    rintro rfl
    have := h.at6.symm.trans hg.hd
    injection this with this
    injection this with _ h2 _
    exact absurd h2 (by decide)
  have hr := own_neE hg.row h.at6 (by decide)
  exact ⟨⟨a, c, hg.other nl (by rw [← ownBlock_map a x.1.length c]; exact hr) _⟩, (set_heap_other _ n3).trans h.at3, (set_heap_other _ h.ne).trans h.at5, set_heap_at _ h.at6, h.ne, h.few, h.fst, hk⟩
end Go.Proofs.YthjnpfhcjacibaaDoor
end
section

/- (*Table).Most. Conditions: a table in memory, its parts rising, its numbers there. -/
namespace Go.Proofs.YthjnpfhcjacibaaDoor
open Go.RowKit Go.Lib Go.Shelf
attribute [local go_sem] Oper.semAt_some

theorem heap_kept {A C : World} {row : Option Nat} {k : Nat} {cs : Array Value} {t : Nat} {fz : Nat × Nat} (h : A.heap[k]? = some (.cells cs t fz)) (hg : A.grownBy C row) (hr : ∀ r, row = some r → ∃ o : Obj, A.heap[r]? = some o ∧ o.isCells = false) : C.heap[k]? = some (.cells cs t fz) := by
  refine (hg.block k (Array.getElem?_eq_some_iff.1 h).1 ?_).trans h
  rintro e
  obtain ⟨o, ho, hc⟩ := hr k e.symm
  rw [h] at ho
  cases ho
  cases hc
theorem KeepC.set {B : Nat} {own : Nat → Nat → Prop} {w w' : World} (h : KeepC B own w w') {b o : Nat} (hB : B ≤ b) {cs : Array Value} {t : Nat} {fz : Nat × Nat} (hb : w'.heap[b]? = some (.cells cs t fz)) (ho : own b t) (v : Value) : KeepC B own w (w'.setCell ⟨b, o, none⟩ v) := by
  refine ⟨h.below.setCell (p := ⟨b, o, none⟩) hB v, by simpa using h.size, fun k cs' t' fz' hk hn => ?_⟩
  have := (h.kept k cs' t' fz' hk hn).trans hk
  refine (set_heap_other v ?_).trans (h.kept k cs' t' fz' hk hn)
  rintro rfl
  rw [hb] at this
  cases this
  exact hn ho
def mostL (l : List (Int × Int)) : Int := l.foldl (fun m x => max m x.2) (-1)
theorem mostL_snoc (l : List (Int × Int)) (x : Int × Int) : mostL (l ++ [x]) = max (mostL l) x.2 := by simp [mostL]
end Go.Proofs.YthjnpfhcjacibaaDoor
end
section

/- What rear's Run does by an entry at a place: the function within it. Conditions: as RAct's. -/
namespace Go.Proofs.YthjnpfhcjacibaaDoor
open Go.RowKit Go.Lib

theorem GStep.keepR {B gl : Nat} {a a' : Option Addr} {c : Nat} {l : List (Int × Int)} {w w' : World} (h : GStep B gl a a' w w') (hg : GIs B gl a c l w) : (∀ k cs t fz, w.heap[k]? = some (.cells cs t fz) → t ≠ 72 → ¬ ownR k t → w'.heap[k]? = w.heap[k]?) := by
  intro k cs t fz hk hl ho
  refine h.keep k (Array.getElem?_eq_some_iff.1 hk).1 ?_ ?_
  · rintro rfl
    rw [hg.hd] at hk
    injection hk with hk
    injection hk with _ h2 _
    exact hl h2.symm
  · rw [← ownBlock_map a l.length c]; exact own_neE hg.row hk (fun e => ho (.inl e))
/-- What RIn is behind a change of the line. -/
theorem RIn.step {B gl g3 g5 g6 : Nat} {l l' : List (Int × Int)} {f t : Nat} {a : Option Addr} {c : Nat} {w w' : World} (h : RIn B gl g3 g5 g6 (l, f, t) w) (hg : GIs B gl a c l w) (hl : l'.length = l.length) (h' : GIs B gl a c l' w') (hs : GStep B gl a a w w') : RIn B gl g3 g5 g6 (l', f, t) w' := by
  have n3 : g3 ≠ gl := by
    rintro rfl
    have := h.at3.symm.trans hg.hd
    injection this with this
    injection this with _ h2 _
    exact absurd h2 (by decide)
  have n5 : g5 ≠ gl := by
    rintro rfl
    have := h.at5.symm.trans hg.hd
    injection this with this
    injection this with _ h2 _
    exact absurd h2 (by decide)
  have n6 : g6 ≠ gl := by
    rintro rfl
    have := h.at6.symm.trans hg.hd
    injection this with this
    injection this with _ h2 _
    exact absurd h2 (by decide)
  have r : ∀ k cs t fz, w.heap[k]? = some (.cells cs t fz) → t ≠ 42 → some k ≠ a.map (·.block) := fun k cs t fz hk ht => by rw [← ownBlock_map a l.length c]; exact own_neE hg.row hk ht
  refine ⟨⟨a, c, h'⟩, (hs.keep g3 (Array.getElem?_eq_some_iff.1 h.at3).1 n3 (r _ _ _ _ h.at3 (by decide))).trans h.at3, (hs.keep g5 (Array.getElem?_eq_some_iff.1 h.at5).1 n5 (r _ _ _ _ h.at5 (by decide))).trans h.at5, (hs.keep g6 (Array.getElem?_eq_some_iff.1 h.at6).1 n6 (r _ _ _ _ h.at6 (by decide))).trans h.at6, h.ne, ?_, ?_, ?_⟩
  · have := h.few; show l'.length ≤ _; rw [hl]; exact this
  · have := h.fst; show f ≤ l'.length; rw [hl]; exact this
  · have := h.lst; show t ≤ l'.length; rw [hl]; exact this
theorem VerbsIn.keepB {B : Nat} {w w' : World} (h : VerbsIn w) (hb : Below B w w') (hG : 0 < B) : VerbsIn w' :=
  ⟨fun k hk => (hb.cell (p := ⟨0, k * 2, none⟩) hG).trans (h.was k hk), fun k hk => (hb.cell (p := ⟨0, k * 2 + 1, none⟩) hG).trans (h.is k hk)⟩
theorem RIn.put5 {B gl g3 g5 g6 : Nat} {x : RX} {w W : World} (h : RIn B gl g3 g5 g6 x W) (hk : KeepC B ownR w W) (hB5 : B ≤ g5) (k : Nat) (hkl : k ≤ x.1.length) : RIn B gl g3 g5 g6 (x.1, k, x.2.2) (W.setCell ⟨g5, 0, none⟩ (.int .i64 (k : Nat))) ∧ KeepC B ownR w (W.setCell ⟨g5, 0, none⟩ (.int .i64 (k : Nat))) :=
  ⟨h.set5 k hkl, hk.set hB5 h.at5 (.inr rfl) _⟩
theorem RIn.put6 {B gl g3 g5 g6 : Nat} {x : RX} {w W : World} (h : RIn B gl g3 g5 g6 x W) (hk : KeepC B ownR w W) (hB6 : B ≤ g6) (k : Nat) (hkl : k ≤ x.1.length) : RIn B gl g3 g5 g6 (x.1, x.2.1, k) (W.setCell ⟨g6, 0, none⟩ (.int .i64 (k : Nat))) ∧ KeepC B ownR w (W.setCell ⟨g6, 0, none⟩ (.int .i64 (k : Nat))) :=
  ⟨h.set6 k hkl, hk.set hB6 h.at6 (.inr rfl) _⟩
theorem RIn.len {B gl g3 g5 g6 : Nat} {x : RX} {W : World} (h : RIn B gl g3 g5 g6 x W) (n : Nat) (hn : n = x.1.length) : Calls Tryd.prog 22 #[.pointer (some ⟨gl, 0, none⟩)] W fun e w' => e = .returned (.int .i64 (n : Nat)) ∧ W = w' := by
  obtain ⟨a, c, hg⟩ := h.line
  subst hn
  exact glen_any B gl a c x.1 W hg
/-- The row in the verb's order. -/
theorem RIn.ord {B gl g3 g5 g6 : Nat} {l : List (Int × Int)} {f t : Nat} {W : World} (h : RIn B gl g3 g5 g6 (l, f, t) W) (hB : B ≤ W.heap.size) (hBl : B ≤ gl) {Bo : Nat} {o : List Int} {a : Option Addr} {m c : Nat} (hI : IRow Bo o (.slice a m c) W) (hm : o.length = m) (hm6 : m ≤ 1000000) :
    Calls Tryd.prog 28 #[.pointer (some ⟨gl, 0, none⟩), .int .i64 (f : Nat), .slice a m c] W fun e w' => ∃ b, e = .returned (.bool b) ∧ RIn B gl g3 g5 g6 (ordG l (f : Nat) o, f, t) w' ∧ KeepC B ownR W w' := by
  obtain ⟨a1, c1, hg⟩ := h.line
  have hfew : l.length ≤ 1000000 := h.few
  have hf : f ≤ l.length := h.fst
  have hb : ∀ p, a = some p → 0 < m → ∃ cs fz, W.heap[p.block]? = some (.cells cs 3 fz) := by
    intro p hp h0
    subst hp
    obtain ⟨a2, c2, e, ho⟩ := hI
    injection e with e1 e2 e3
    subst e1
    rcases ho.2 with ⟨hv, _⟩ | ⟨g, cap, cur, hv, _, hh, _⟩
    · cases hv
    · injection hv with e4 _ _
      injection e4 with e4
      subst e4
      exact ⟨_, _, hh⟩
  refine (gord_any B gl a1 c1 l (f : Nat) a m c o W hg hI.has (fun p hp h0 e => ?_) (fun p q hp hq h0 e => ?_) hm hBl hB hfew hm6 (by omega) (by omega)).mono ?_
  · obtain ⟨cs, fz, hh⟩ := hb p hp h0
    rw [e, hg.hd] at hh
    injection hh with hh
    injection hh with _ h2 _
    exact absurd h2 (by decide)
  · obtain ⟨cs, fz, hh⟩ := hb p hp h0
    exact own_neE hg.row hh (by decide) (by rw [ownBlock_map, hq, e]; rfl)
  · rintro e w' ⟨rfl, h1, h2⟩
    refine ⟨_, rfl, h.step hg (ordG_length _ _ _) h1 h2, h2.below, h2.below.size, fun k cs t' fz hk ho => ?_⟩
    · by_cases e : t' = 72
      · by_cases e2 : k = gl
        · subst e2
          rw [h1.hd, hg.hd, ordG_length]
        · subst e
          exact h2.keep k (Array.getElem?_eq_some_iff.1 hk).1 e2 (by rw [← ownBlock_map a1 l.length c1]; exact own_neE hg.row hk (by decide))
      · exact h2.keepR hg k cs t' fz hk e ho
/-- The last part: the row stands in the verb's order. -/
def OrdOut (B gl g3 g5 g6 : Nat) (x : RX) (v : Nat) (w : World) (e : Ending) (w' : World) : Prop :=
  e = .returned (.tuple #[]) ∧ RIn B gl g3 g5 g6 (lineR x.1 x.2.1 x.2.2 v, x.2.1, x.2.2) w' ∧ KeepC B ownR w w'
theorem iRow_apart {B : Nat} {l : List Int} {v : Value} {w : World} (h : IRow B l v w) {k : Nat} {cs : Array Value} {t : Nat} {fz : Nat × Nat} (hk : w.heap[k]? = some (.cells cs t fz)) (ht : t ≠ 3) : some k ≠ v.ownBlock := by
  obtain ⟨a, c, rfl, h2⟩ := h
  exact own_neE h2 hk ht
set_option maxRecDepth 100000 in
set_option maxHeartbeats 3200000 in
theorem rdo_any (B gl g3 g5 g6 : Nat) (x : RX) (z F : Nat) (e0 e2 e3 : Int) (w : World) (h : RIn B gl g3 g5 g6 x w) (hV : VerbsIn w) (hB : B ≤ w.heap.size) (hBl : B ≤ gl) (hB5 : B ≤ g5) (hB6 : B ≤ g6) (hG : 0 < B) (hz : z ≤ 1000000000) (hF : F ≤ 65535) :
    Calls Tryd.prog 27 #[.int .i64 (z : Nat), .agg #[.int .i64 e0, .int .i64 (F : Nat), .int .i64 e2, .int .i64 e3], .pointer (some ⟨g3, 0, none⟩), .pointer (some ⟨g5, 0, none⟩), .pointer (some ⟨g6, 0, none⟩)] w fun e w' => e = .returned (.tuple #[]) ∧ RIn B gl g3 g5 g6 (actR x z F) w' ∧ KeepC B ownR w w' := by
  have hAC := allocC
  have hAF := allocF
  obtain ⟨l, f, t⟩ := x
  have hfew : l.length ≤ 1000000 := h.few
  have HI := Lib.hid h
  have HKW := Lib.hid (KeepC.refl B ownR w)
  have hw3 := (Array.getElem?_eq_some_iff.1 h.at3).1
  have hw5 := (Array.getElem?_eq_some_iff.1 h.at5).1
  have hw6 := (Array.getElem?_eq_some_iff.1 h.at6).1
  have hb15 := low_four F hF
  obtain ⟨v, hv⟩ : ∃ v, v = F % 16 := ⟨_, rfl⟩
  have hv16 : v < 16 := by omega
  rw [← hv] at hb15
  have HV16 := Lib.hid hv
  obtain ⟨n, hn⟩ : ∃ n, n = l.length := ⟨_, rfl⟩
  have HN := Lib.hid hn
  rw [← hn] at hfew
  have n56 : ¬ g5 = g6 := h.ne
  have n65 : ¬ g6 = g5 := fun e => h.ne e.symm
  have n35 : ¬ g3 = g5 := by
    rintro rfl
    have := h.at3.symm.trans h.at5
    injection this with this
    injection this with _ h2 _
    exact absurd h2 (by decide)
  have n36 : ¬ g3 = g6 := by
    rintro rfl
    have := h.at3.symm.trans h.at6
    injection this with this
    injection this with _ h2 _
    exact absurd h2 (by decide)
  have HO := Lib.hid (fun W (hW : VerbsIn W) (y : Int) (h1 : y ≤ 1000000) (h2 : -9223372036854775808 ≤ y) => vorder_any (v : Nat) y W hW h1 h2)
  have hVB := Lib.hid (fun W (hk : KeepC B ownR w W) => hV.keepB hk.below hG)
  have q3 := cell_of_heap h.at3 0
  have q5 := cell_of_heap h.at5 0
  have q6 := cell_of_heap h.at6 0
  have r5 := froz_of_heap h.at5 0
  have r6 := froz_of_heap h.at6 0
  simp only [List.getElem?_toArray, List.getElem?_cons_zero] at q3 q5 q6
  have hfn : f ≤ n := by rw [hn]; exact h.fst
  have htn : t ≤ n := by rw [hn]; exact h.lst
  obtain ⟨f1, hf1⟩ : ∃ f1, f1 = min z n := ⟨_, rfl⟩
  obtain ⟨t1, ht1⟩ : ∃ t1, t1 = min (z + 1) n := ⟨_, rfl⟩
  have m1 : min (z : Int) (n : Int) = (f1 : Int) := by omega
  have m2 : min ((z : Int) + 1) (n : Int) = (t1 : Int) := by omega
  have hf1n : f1 ≤ n := by omega
  have ht1n : t1 ≤ n := by omega
  have m3 : min z n = f1 := hf1.symm
  have m4 : min (z + 1) n = t1 := ht1.symm
  have HF1 := Lib.hid hf1
  have HT1 := Lib.hid ht1
  clear hf1 ht1
  clear h hV hn hv
  by_cases hA : F / 2 ^ 15 % 2 = 1
  · have hbt15 : bits .and .i64 (F : Int) 32768 = 32768 := flag_yes F 15 hF (by decide) 32768 rfl hA
    by_cases hC : F / 2 ^ 13 % 2 = 1
    · have hbt13 : bits .and .i64 (F : Int) 8192 = 8192 := flag_yes F 13 hF (by decide) 8192 rfl hC
      have P0 := And.intro HI.out HKW.out
      have P1 := P0.1.put5 P0.2 hB5 f1 (by show f1 ≤ l.length; have := HN.out; omega)
      have P2 := P1.1.put6 P1.2 hB6 t1 (by show t1 ≤ l.length; have := HN.out; omega)
      have HL1 := Lib.hid (fun (o : Array Value) => (P0.1.below (balloc (brefl _) (.cells o 44))).len n HN.out)
      have HL2 := Lib.hid (fun (o : Array Value) => (P1.1.below (balloc (brefl _) (.cells o 44))).len n HN.out)
      have HQ := Lib.hid (fun (o : Array Value) => And.intro (P2.1.below (balloc (brefl _) (.cells o 44))) (P2.2.trans (KeepC.of (own := ownR) (balloc (brefl _) (.cells o 44)) (Nat.le_trans hB P2.2.size))))
      clear P0 P1 P2 HI HKW
      go_enter Tryd.func27, Tryd.ntmps27
      go_wp2_with (first | (go_at_call 22; (with_reducible refine (HL1.out _).mono ?_); rintro e w_ ⟨rfl, rfl⟩) | (go_at_call 22; (with_reducible refine (HL2.out _).mono ?_); rintro e w_ ⟨rfl, rfl⟩))
      with_reducible refine (HO.out _ (hVB.out _ (HQ.out _).2) ((t1 : Int) - (f1 : Int)) (by omega) (by omega)).mono ?_
      have e1 : firstR (l, f, t) z F = f1 := by unfold firstR; rw [if_pos hA, ← HN.out]; exact HF1.out.symm
      have e2 : lastR (l, f, t) z F = t1 := by unfold lastR; rw [if_pos hC, ← HN.out]; exact HT1.out.symm
      have HE := Lib.hid (show actR (l, f, t) z F = (lineR l f1 t1 v, f1, t1) from by unfold actR; rw [e1, e2, ← HV16.out])
      clear e1 e2
      rintro e w2 (⟨hok, ov, rfl, hIo, hb2⟩ | ⟨hno, rfl, hb2⟩)
      · have hq := HQ.out #[.int .i64 e0, .int .i64 (F : Nat), .int .i64 e2, .int .i64 e3]
        have hR := hq.1.below hb2
        have hk2 := hq.2.trans (KeepC.of hb2 (Nat.le_trans hB hq.2.size))
        obtain ⟨vn, nn, hvn, hnn, g1, g2, g3'⟩ := okV_pre hok
        rw [Int.toNat_natCast, show ((t1 : Int) - (f1 : Int)).toNat = t1 - f1 by omega] at hIo
        have hol : (ordV v (t1 - f1)).length = t1 - f1 := ordV_length _ _ (by omega) (by omega) (by rw [show v = vn by omega]; omega)
        obtain ⟨ao, co, rfl, _⟩ := hIo.slice
        rw [hol] at hIo
        have q3b := cell_of_heap hR.at3 0
        have q5b := cell_of_heap hR.at5 0
        simp only [List.getElem?_toArray, List.getElem?_cons_zero] at q3b q5b
        have HORD := Lib.hid (hR.ord (Nat.le_trans hB hk2.size) hBl hIo hol (by omega))
        have HK2 := Lib.hid hk2
        have HOKV := Lib.hid hok
        rw [hol]
        clear hq hR hk2 hIo hol hok hb2 hvn hnn g1 g2 g3' HQ HO hVB HL1 HL2
        go_wp2_with (go_at_call 28; (with_reducible refine HORD.out.mono ?_); rintro e w3 ⟨b, rfl, hR3, hk3⟩)
        go_end0
        rw [HE.out, lineR, if_pos HOKV.out]
        exact ⟨rfl, hR3, HK2.out.trans hk3⟩
      · go_wp2_with fail
        go_end0
        have hq := HQ.out #[.int .i64 e0, .int .i64 (F : Nat), .int .i64 e2, .int .i64 e3]
        rw [HE.out, lineR, if_neg hno]
        exact ⟨rfl, hq.1.below hb2, hq.2.trans (KeepC.of hb2 (Nat.le_trans hB hq.2.size))⟩
    · have hbt13 : bits .and .i64 (F : Int) 8192 = 0 := flag_no F 13 hF (by decide) 8192 rfl hC
      have P0 := And.intro HI.out HKW.out
      have P1 := P0.1.put5 P0.2 hB5 f1 (by show f1 ≤ l.length; have := HN.out; omega)
      have HL1 := Lib.hid (fun (o : Array Value) => (P0.1.below (balloc (brefl _) (.cells o 44))).len n HN.out)
      have HL2 := Lib.hid (fun (o : Array Value) => (P1.1.below (balloc (brefl _) (.cells o 44))).len n HN.out)
      have HQ := Lib.hid (fun (o : Array Value) => And.intro (P1.1.below (balloc (brefl _) (.cells o 44))) (P1.2.trans (KeepC.of (own := ownR) (balloc (brefl _) (.cells o 44)) (Nat.le_trans hB P1.2.size))))
      clear P0 P1 HI HKW
      go_enter Tryd.func27, Tryd.ntmps27
      go_wp2_with (first | (go_at_call 22; (with_reducible refine (HL1.out _).mono ?_); rintro e w_ ⟨rfl, rfl⟩) | (go_at_call 22; (with_reducible refine (HL2.out _).mono ?_); rintro e w_ ⟨rfl, rfl⟩))
      with_reducible refine (HO.out _ (hVB.out _ (HQ.out _).2) ((t : Int) - (f1 : Int)) (by omega) (by omega)).mono ?_
      have e1 : firstR (l, f, t) z F = f1 := by unfold firstR; rw [if_pos hA, ← HN.out]; exact HF1.out.symm
      have e2 : lastR (l, f, t) z F = t := by unfold lastR; rw [if_neg hC]
      have HE := Lib.hid (show actR (l, f, t) z F = (lineR l f1 t v, f1, t) from by unfold actR; rw [e1, e2, ← HV16.out])
      clear e1 e2
      rintro e w2 (⟨hok, ov, rfl, hIo, hb2⟩ | ⟨hno, rfl, hb2⟩)
      · have hq := HQ.out #[.int .i64 e0, .int .i64 (F : Nat), .int .i64 e2, .int .i64 e3]
        have hR := hq.1.below hb2
        have hk2 := hq.2.trans (KeepC.of hb2 (Nat.le_trans hB hq.2.size))
        obtain ⟨vn, nn, hvn, hnn, g1, g2, g3'⟩ := okV_pre hok
        rw [Int.toNat_natCast, show ((t : Int) - (f1 : Int)).toNat = t - f1 by omega] at hIo
        have hol : (ordV v (t - f1)).length = t - f1 := ordV_length _ _ (by omega) (by omega) (by rw [show v = vn by omega]; omega)
        obtain ⟨ao, co, rfl, _⟩ := hIo.slice
        rw [hol] at hIo
        have q3b := cell_of_heap hR.at3 0
        have q5b := cell_of_heap hR.at5 0
        simp only [List.getElem?_toArray, List.getElem?_cons_zero] at q3b q5b
        have HORD := Lib.hid (hR.ord (Nat.le_trans hB hk2.size) hBl hIo hol (by omega))
        have HK2 := Lib.hid hk2
        have HOKV := Lib.hid hok
        rw [hol]
        clear hq hR hk2 hIo hol hok hb2 hvn hnn g1 g2 g3' HQ HO hVB HL1 HL2
        go_wp2_with (go_at_call 28; (with_reducible refine HORD.out.mono ?_); rintro e w3 ⟨b, rfl, hR3, hk3⟩)
        go_end0
        rw [HE.out, lineR, if_pos HOKV.out]
        exact ⟨rfl, hR3, HK2.out.trans hk3⟩
      · go_wp2_with fail
        go_end0
        have hq := HQ.out #[.int .i64 e0, .int .i64 (F : Nat), .int .i64 e2, .int .i64 e3]
        rw [HE.out, lineR, if_neg hno]
        exact ⟨rfl, hq.1.below hb2, hq.2.trans (KeepC.of hb2 (Nat.le_trans hB hq.2.size))⟩
  · have hbt15 : bits .and .i64 (F : Int) 32768 = 0 := flag_no F 15 hF (by decide) 32768 rfl hA
    by_cases hC : F / 2 ^ 13 % 2 = 1
    · have hbt13 : bits .and .i64 (F : Int) 8192 = 8192 := flag_yes F 13 hF (by decide) 8192 rfl hC
      have P0 := And.intro HI.out HKW.out
      have P2 := P0.1.put6 P0.2 hB6 t1 (by show t1 ≤ l.length; have := HN.out; omega)
      have HL1 := Lib.hid (fun (o : Array Value) => (P0.1.below (balloc (brefl _) (.cells o 44))).len n HN.out)
      have HL2 := Lib.hid (fun (o : Array Value) => (P0.1.below (balloc (brefl _) (.cells o 44))).len n HN.out)
      have HQ := Lib.hid (fun (o : Array Value) => And.intro (P2.1.below (balloc (brefl _) (.cells o 44))) (P2.2.trans (KeepC.of (own := ownR) (balloc (brefl _) (.cells o 44)) (Nat.le_trans hB P2.2.size))))
      clear P0 P2 HI HKW
      go_enter Tryd.func27, Tryd.ntmps27
      go_wp2_with (first | (go_at_call 22; (with_reducible refine (HL1.out _).mono ?_); rintro e w_ ⟨rfl, rfl⟩) | (go_at_call 22; (with_reducible refine (HL2.out _).mono ?_); rintro e w_ ⟨rfl, rfl⟩))
      with_reducible refine (HO.out _ (hVB.out _ (HQ.out _).2) ((t1 : Int) - (f : Int)) (by omega) (by omega)).mono ?_
      have e1 : firstR (l, f, t) z F = f := by unfold firstR; rw [if_neg hA]
      have e2 : lastR (l, f, t) z F = t1 := by unfold lastR; rw [if_pos hC, ← HN.out]; exact HT1.out.symm
      have HE := Lib.hid (show actR (l, f, t) z F = (lineR l f t1 v, f, t1) from by unfold actR; rw [e1, e2, ← HV16.out])
      clear e1 e2
      rintro e w2 (⟨hok, ov, rfl, hIo, hb2⟩ | ⟨hno, rfl, hb2⟩)
      · have hq := HQ.out #[.int .i64 e0, .int .i64 (F : Nat), .int .i64 e2, .int .i64 e3]
        have hR := hq.1.below hb2
        have hk2 := hq.2.trans (KeepC.of hb2 (Nat.le_trans hB hq.2.size))
        obtain ⟨vn, nn, hvn, hnn, g1, g2, g3'⟩ := okV_pre hok
        rw [Int.toNat_natCast, show ((t1 : Int) - (f : Int)).toNat = t1 - f by omega] at hIo
        have hol : (ordV v (t1 - f)).length = t1 - f := ordV_length _ _ (by omega) (by omega) (by rw [show v = vn by omega]; omega)
        obtain ⟨ao, co, rfl, _⟩ := hIo.slice
        rw [hol] at hIo
        have q3b := cell_of_heap hR.at3 0
        have q5b := cell_of_heap hR.at5 0
        simp only [List.getElem?_toArray, List.getElem?_cons_zero] at q3b q5b
        have HORD := Lib.hid (hR.ord (Nat.le_trans hB hk2.size) hBl hIo hol (by omega))
        have HK2 := Lib.hid hk2
        have HOKV := Lib.hid hok
        rw [hol]
        clear hq hR hk2 hIo hol hok hb2 hvn hnn g1 g2 g3' HQ HO hVB HL1 HL2
        go_wp2_with (go_at_call 28; (with_reducible refine HORD.out.mono ?_); rintro e w3 ⟨b, rfl, hR3, hk3⟩)
        go_end0
        rw [HE.out, lineR, if_pos HOKV.out]
        exact ⟨rfl, hR3, HK2.out.trans hk3⟩
      · go_wp2_with fail
        go_end0
        have hq := HQ.out #[.int .i64 e0, .int .i64 (F : Nat), .int .i64 e2, .int .i64 e3]
        rw [HE.out, lineR, if_neg hno]
        exact ⟨rfl, hq.1.below hb2, hq.2.trans (KeepC.of hb2 (Nat.le_trans hB hq.2.size))⟩
    · have hbt13 : bits .and .i64 (F : Int) 8192 = 0 := flag_no F 13 hF (by decide) 8192 rfl hC
      have P0 := And.intro HI.out HKW.out
      have HL1 := Lib.hid (fun (o : Array Value) => (P0.1.below (balloc (brefl _) (.cells o 44))).len n HN.out)
      have HL2 := Lib.hid (fun (o : Array Value) => (P0.1.below (balloc (brefl _) (.cells o 44))).len n HN.out)
      have HQ := Lib.hid (fun (o : Array Value) => And.intro (P0.1.below (balloc (brefl _) (.cells o 44))) (P0.2.trans (KeepC.of (own := ownR) (balloc (brefl _) (.cells o 44)) (Nat.le_trans hB P0.2.size))))
      clear P0 HI HKW
      go_enter Tryd.func27, Tryd.ntmps27
      go_wp2_with (first | (go_at_call 22; (with_reducible refine (HL1.out _).mono ?_); rintro e w_ ⟨rfl, rfl⟩) | (go_at_call 22; (with_reducible refine (HL2.out _).mono ?_); rintro e w_ ⟨rfl, rfl⟩))
      with_reducible refine (HO.out _ (hVB.out _ (HQ.out _).2) ((t : Int) - (f : Int)) (by omega) (by omega)).mono ?_
      have e1 : firstR (l, f, t) z F = f := by unfold firstR; rw [if_neg hA]
      have e2 : lastR (l, f, t) z F = t := by unfold lastR; rw [if_neg hC]
      have HE := Lib.hid (show actR (l, f, t) z F = (lineR l f t v, f, t) from by unfold actR; rw [e1, e2, ← HV16.out])
      clear e1 e2
      rintro e w2 (⟨hok, ov, rfl, hIo, hb2⟩ | ⟨hno, rfl, hb2⟩)
      · have hq := HQ.out #[.int .i64 e0, .int .i64 (F : Nat), .int .i64 e2, .int .i64 e3]
        have hR := hq.1.below hb2
        have hk2 := hq.2.trans (KeepC.of hb2 (Nat.le_trans hB hq.2.size))
        obtain ⟨vn, nn, hvn, hnn, g1, g2, g3'⟩ := okV_pre hok
        rw [Int.toNat_natCast, show ((t : Int) - (f : Int)).toNat = t - f by omega] at hIo
        have hol : (ordV v (t - f)).length = t - f := ordV_length _ _ (by omega) (by omega) (by rw [show v = vn by omega]; omega)
        obtain ⟨ao, co, rfl, _⟩ := hIo.slice
        rw [hol] at hIo
        have q3b := cell_of_heap hR.at3 0
        have q5b := cell_of_heap hR.at5 0
        simp only [List.getElem?_toArray, List.getElem?_cons_zero] at q3b q5b
        have HORD := Lib.hid (hR.ord (Nat.le_trans hB hk2.size) hBl hIo hol (by omega))
        have HK2 := Lib.hid hk2
        have HOKV := Lib.hid hok
        rw [hol]
        clear hq hR hk2 hIo hol hok hb2 hvn hnn g1 g2 g3' HQ HO hVB HL1 HL2
        go_wp2_with (go_at_call 28; (with_reducible refine HORD.out.mono ?_); rintro e w3 ⟨b, rfl, hR3, hk3⟩)
        go_end0
        rw [HE.out, lineR, if_pos HOKV.out]
        exact ⟨rfl, hR3, HK2.out.trans hk3⟩
      · go_wp2_with fail
        go_end0
        have hq := HQ.out #[.int .i64 e0, .int .i64 (F : Nat), .int .i64 e2, .int .i64 e3]
        rw [HE.out, lineR, if_neg hno]
        exact ⟨rfl, hq.1.below hb2, hq.2.trans (KeepC.of hb2 (Nat.le_trans hB hq.2.size))⟩
end Go.Proofs.YthjnpfhcjacibaaDoor
end
