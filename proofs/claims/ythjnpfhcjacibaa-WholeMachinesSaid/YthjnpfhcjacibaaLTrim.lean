
/- (*Table).trim of an empty table. Conditions: a table in memory whose block is above the base, bytes below it. -/
import Derived.Test.YthjnpfhcjacibaaLApart
namespace Go.Proofs.Ythjnpfhcjacibaa
open Go.RowKit Go.Lib

theorem rest_z (a : Option Addr) (n c k : Nat) (z : Int) (hz : z = (k : Nat)) (w : World) (hk : k ≤ n) (hn : n ≤ c) (hc : c ≤ maxLen) :
    Calls Try.prog 21 #[.agg #[.slice a n c], .int .i64 z] w fun e w' => e = .returned (.agg #[.slice (adv a c k) (n - k) (c - k)]) ∧ Below w.heap.size w w' := by
  subst hz; exact rest_ok a n c k w hk hn hc
def TrimOk (bs : List UInt8) (S : Nat) : Prop := 4 ≤ bs.length ∧ num bs 0 2 + num bs 2 2 ≤ 65536 ∧ num bs 2 2 * S ≤ bs.length - 4
def trimPs (f m : Nat) : List PartL := if m = 0 then [] else [⟨f, f + m - 1, 0, 1⟩]
theorem canAdd_nil (f l : Int) : CanAdd [] f l ↔ f ≤ l := ⟨fun h => h.1, fun h => ⟨h, fun p hp => by simp at hp⟩⟩
set_option maxRecDepth 100000 in
set_option maxHeartbeats 3200000 in
theorem trim_any (B g fmt : Nat) (S : Nat) (zs : Int) (hzs : zs = (S : Nat)) (a : Option Addr) (n c : Nat) (bs : List UInt8) (w : World) (h : TabIs B g fmt [] [] w) (hB : B ≤ g) (hS : S = 1 ∨ S = 2 ∨ S = 4) (hh : Has w a (bytesV bs)) (hbl : bs.length = n) (hnc : n ≤ c) (hc : c ≤ maxLen) (hab : ∀ p, a = some p → p.block < B) :
    Calls Try.prog 33 #[.pointer (some ⟨g, 0, none⟩), .agg #[.slice a n c], .int .i64 zs] w fun e w' => ((TrimOk bs S ∧ e = .returned (.tuple #[]) ∧ TabIs B g fmt (trimPs (num bs 0 2) (num bs 2 2)) (numsA (bs.drop 4) S (num bs 2 2)) w') ∨ (¬ TrimOk bs S ∧ e = .panicked thrown)) ∧ LKeep B g w w' := by
  have hAC := allocC
  have hAF := allocF
  subst hzs
  have hg0 := h.base
  have hBw : B ≤ w.heap.size := by omega
  have HT := Lib.hid h
  have HH := Lib.hid hh
  have HBL := Lib.hid hbl
  have HAB := Lib.hid hab
  have HS := Lib.hid hS
  have hcm := hc
  unfold maxLen at hcm
  clear h hh hbl hab hS
  by_cases h2 : 2 ≤ n
  case neg =>
    have HU := Lib.hid (fun W => u16_bad a n c 0 W (by omega) hnc hc)
    have HNO := Lib.hid (show ¬ TrimOk bs S from fun hx => by have := hx.1; rw [HBL.out] at this; omega)
    go_enter Try.func33, Try.ntmps33
    go_wp2_with fail
    obtain ⟨U, hU⟩ : ∃ U, U = w.alloc (Obj.cells #[.slice a n c] 43) := ⟨_, rfl⟩
    have c8 : U.cell? ⟨w.heap.size, 0, none⟩ = some (.slice a n c) := by rw [hU]; simp [hAC]
    have HBU := Lib.hid (show Below w.heap.size w U by rw [hU]; exact (by repeat (first | with_reducible exact brefl _ | with_reducible assumption | (with_reducible refine bset ?_ (by first | (simp; done) | (simp; omega)) _) | with_reducible refine balloc ?_ _ | with_reducible refine bdrew ?_ _ | with_reducible refine bdrew1 ?_ | with_reducible refine bthen ?_ (by assumption) | with_reducible refine Below.trans ?_ (by assumption) | exact brefl _ | assumption | refine balloc ?_ _ | refine bdrew ?_ _ | refine bdrew1 ?_ | refine bthen ?_ (by assumption) | refine Below.trans ?_ (by assumption) | (refine bset ?_ (by first | (simp; done) | (simp; omega)) _))))
    have hz : U.heap.size = w.heap.size + 1 := by rw [hU]; simp
    rw [← hU]
    clear hU
    refine wp_region_tree (.step 0 (.step 2 (.step 1 (.step 3 (.step 4 (.step 5 .nil)))))) (by kernel_rfl) (by kernel_rfl) (by kernel_rfl) (by kernel_rfl) (by intro _ _ d_ _ _ h_; cases d_ <;> first | exact h_ | (dsimp +zetaDelta only at h_ ⊢; exact h_)) (fun w' => ∃ p : BelW U.heap.size U, w' = p.val) (bel_start _ _) ?_
    have hG_ := @belC U.heap.size U
    (refine tree_quiet (by simp only [List.getElem?_toArray, List.getElem?_cons_succ, List.getElem?_cons_zero]; rfl) (by rfl) (by rfl) (fun K_ hK_ => ?_); go_big_quiet_op; refine hK_ _ ?_; clear hK_ K_)
    (refine tree_quiet (by simp only [List.getElem?_toArray, List.getElem?_cons_succ, List.getElem?_cons_zero]; rfl) (by rfl) (by rfl) (fun K_ hK_ => ?_); go_big_quiet_op; refine hK_ _ ?_; clear hK_ K_)
    (refine tree_run (by simp only [List.getElem?_toArray, List.getElem?_cons_succ, List.getElem?_cons_zero]; rfl) (by rfl) (by rfl) (fun K_ hK_ => ?_); have HK_ := Lib.hid hK_; clear hK_; go_wp2_with (first | (go_at_call 28; (with_reducible refine (HU.out _).mono ?_); rintro e wa ⟨rfl, hba⟩; have hac := bc hba; have haf := bf hba; have haz := hba.size; try simp only [World.size_alloc, World.size_drew] at haz)); exact ⟨rfl, .inr ⟨HNO.out, rfl⟩, LKeep.of (HBU.out.trans (Below.mono (show Below U.heap.size U _ by repeat (first | exact Below.refl _ _ | assumption | refine bdrew1q ?_ | refine balloc ?_ _ | refine bthen ?_ (by assumption) | refine Below.trans ?_ (by assumption))) HBU.out.size)) (by omega)⟩)
  by_cases h4 : 4 ≤ n
  case neg =>
    have HU0 := Lib.hid (fun W hw => u16_z a n c 0 0 rfl bs W hw HBL.out (by omega) hnc hc)
    have HU2 := Lib.hid (fun W => u16_bad a n c 2 W (by omega) hnc hc)
    have HNO := Lib.hid (show ¬ TrimOk bs S from fun hx => by have := hx.1; rw [HBL.out] at this; omega)
    go_enter Try.func33, Try.ntmps33
    go_wp2_with fail
    obtain ⟨U, hU⟩ : ∃ U, U = w.alloc (Obj.cells #[.slice a n c] 43) := ⟨_, rfl⟩
    have c8 : U.cell? ⟨w.heap.size, 0, none⟩ = some (.slice a n c) := by rw [hU]; simp [hAC]
    have HBU := Lib.hid (show Below w.heap.size w U by rw [hU]; exact (by repeat (first | with_reducible exact brefl _ | with_reducible assumption | (with_reducible refine bset ?_ (by first | (simp; done) | (simp; omega)) _) | with_reducible refine balloc ?_ _ | with_reducible refine bdrew ?_ _ | with_reducible refine bdrew1 ?_ | with_reducible refine bthen ?_ (by assumption) | with_reducible refine Below.trans ?_ (by assumption) | exact brefl _ | assumption | refine balloc ?_ _ | refine bdrew ?_ _ | refine bdrew1 ?_ | refine bthen ?_ (by assumption) | refine Below.trans ?_ (by assumption) | (refine bset ?_ (by first | (simp; done) | (simp; omega)) _))))
    have HHU := Lib.hid (HH.out.below HBU.out)
    have hz : U.heap.size = w.heap.size + 1 := by rw [hU]; simp
    rw [← hU]
    clear hU
    refine wp_region_tree (.step 0 (.step 2 (.step 1 (.step 3 (.step 4 (.step 5 .nil)))))) (by kernel_rfl) (by kernel_rfl) (by kernel_rfl) (by kernel_rfl) (by intro _ _ d_ _ _ h_; cases d_ <;> first | exact h_ | (dsimp +zetaDelta only at h_ ⊢; exact h_)) (fun w' => ∃ p : BelW U.heap.size U, w' = p.val) (bel_start _ _) ?_
    have hG_ := @belC U.heap.size U
    (refine tree_quiet (by simp only [List.getElem?_toArray, List.getElem?_cons_succ, List.getElem?_cons_zero]; rfl) (by rfl) (by rfl) (fun K_ hK_ => ?_); go_big_quiet_op; refine hK_ _ ?_; clear hK_ K_)
    (refine tree_quiet (by simp only [List.getElem?_toArray, List.getElem?_cons_succ, List.getElem?_cons_zero]; rfl) (by rfl) (by rfl) (fun K_ hK_ => ?_); go_big_quiet_op; refine hK_ _ ?_; clear hK_ K_)
    (refine tree_run (by simp only [List.getElem?_toArray, List.getElem?_cons_succ, List.getElem?_cons_zero]; rfl) (by rfl) (by rfl) (fun K_ hK_ => ?_); have HK_ := Lib.hid hK_; clear hK_; go_wp2_with (first | (go_at_call 28; (with_reducible refine (HU0.out _ (HHU.out.below (by repeat (first | exact Below.refl _ _ | assumption | refine bdrew1q ?_ | refine balloc ?_ _ | refine bthen ?_ (by assumption) | refine Below.trans ?_ (by assumption))))).mono ?_); rintro e wa ⟨rfl, hba⟩; have hac := bc hba; have haf := bf hba; have haz := hba.size; try simp only [World.size_alloc, World.size_drew] at haz) | (go_at_call 28; (with_reducible refine (HU2.out _).mono ?_); rintro e wb ⟨rfl, hbb⟩; have hbc := bc hbb; have hbf := bf hbb; have hbz := hbb.size; try simp only [World.size_alloc, World.size_drew] at hbz)); refine HK_.out _ _ (bel_of (by repeat (first | exact Below.refl _ _ | assumption | refine bdrew1q ?_ | refine balloc ?_ _ | refine bthen ?_ (by assumption) | refine Below.trans ?_ (by assumption)))) ?_; clear HK_)
    (refine tree_run (by simp only [List.getElem?_toArray, List.getElem?_cons_succ, List.getElem?_cons_zero]; rfl) (by rfl) (by rfl) (fun K_ hK_ => ?_); have HK_ := Lib.hid hK_; clear hK_; go_wp2_with (first | (go_at_call 28; (with_reducible refine (HU0.out _ (HHU.out.below (by repeat (first | exact Below.refl _ _ | assumption | refine bdrew1q ?_ | refine balloc ?_ _ | refine bthen ?_ (by assumption) | refine Below.trans ?_ (by assumption))))).mono ?_); rintro e wa ⟨rfl, hba⟩; have hac := bc hba; have haf := bf hba; have haz := hba.size; try simp only [World.size_alloc, World.size_drew] at haz) | (go_at_call 28; (with_reducible refine (HU2.out _).mono ?_); rintro e wb ⟨rfl, hbb⟩; have hbc := bc hbb; have hbf := bf hbb; have hbz := hbb.size; try simp only [World.size_alloc, World.size_drew] at hbz)); exact ⟨rfl, .inr ⟨HNO.out, rfl⟩, LKeep.of (HBU.out.trans (Below.mono (show Below U.heap.size U _ by repeat (first | exact Below.refl _ _ | assumption | refine bdrew1q ?_ | refine balloc ?_ _ | refine bthen ?_ (by assumption) | refine Below.trans ?_ (by assumption))) HBU.out.size)) (by omega)⟩)
  have HU0 := Lib.hid (fun W hw => u16_z a n c 0 0 rfl bs W hw HBL.out (by omega) hnc hc)
  have HU2 := Lib.hid (fun W hw => u16_z a n c 2 2 rfl bs W hw HBL.out (by omega) hnc hc)
  have HRE := Lib.hid (fun W => rest_z a n c 4 4 rfl W h4 hnc hc)
  have hf := num2_lt bs 0
  have hm := num2_lt bs 2
  have HF := Lib.hid (show ∃ x, x = num bs 0 2 from ⟨_, rfl⟩)
  have HTO := Lib.hid (show TrimOk bs S ↔ num bs 0 2 + num bs 2 2 ≤ 65536 ∧ num bs 2 2 * S ≤ n - 4 from ⟨fun hx => ⟨hx.2.1, by have := hx.2.2; rw [HBL.out] at this; exact this⟩, fun hx => ⟨by rw [HBL.out]; exact h4, hx.1, by rw [HBL.out]; exact hx.2⟩⟩)
  generalize num bs 0 2 = f at *
  generalize num bs 2 2 = m at *
  go_enter Try.func33, Try.ntmps33
  go_wp2_with fail
  obtain ⟨U, hU⟩ : ∃ U, U = w.alloc (Obj.cells #[.slice a n c] 43) := ⟨_, rfl⟩
  have c8 : U.cell? ⟨w.heap.size, 0, none⟩ = some (.slice a n c) := by rw [hU]; simp [hAC]
  have HBU := Lib.hid (show Below w.heap.size w U by rw [hU]; exact (by repeat (first | with_reducible exact brefl _ | with_reducible assumption | (with_reducible refine bset ?_ (by first | (simp; done) | (simp; omega)) _) | with_reducible refine balloc ?_ _ | with_reducible refine bdrew ?_ _ | with_reducible refine bdrew1 ?_ | with_reducible refine bthen ?_ (by assumption) | with_reducible refine Below.trans ?_ (by assumption) | exact brefl _ | assumption | refine balloc ?_ _ | refine bdrew ?_ _ | refine bdrew1 ?_ | refine bthen ?_ (by assumption) | refine Below.trans ?_ (by assumption) | (refine bset ?_ (by first | (simp; done) | (simp; omega)) _))))
  have HHU := Lib.hid (HH.out.below HBU.out)
  have hz : U.heap.size = w.heap.size + 1 := by rw [hU]; simp
  rw [← hU]
  clear hU
  refine wp_region_tree (.step 0 (.step 2 (.step 1 (.step 3 (.step 4 (.step 5 .nil)))))) (by kernel_rfl) (by kernel_rfl) (by kernel_rfl) (by kernel_rfl) (by intro _ _ d_ _ _ h_; cases d_ <;> first | exact h_ | (dsimp +zetaDelta only at h_ ⊢; exact h_)) (fun w' => ∃ p : BelW U.heap.size U, w' = p.val) (bel_start _ _) ?_
  have hG_ := @belC U.heap.size U
  (refine tree_quiet (by simp only [List.getElem?_toArray, List.getElem?_cons_succ, List.getElem?_cons_zero]; rfl) (by rfl) (by rfl) (fun K_ hK_ => ?_); go_big_quiet_op; refine hK_ _ ?_; clear hK_ K_)
  (refine tree_quiet (by simp only [List.getElem?_toArray, List.getElem?_cons_succ, List.getElem?_cons_zero]; rfl) (by rfl) (by rfl) (fun K_ hK_ => ?_); go_big_quiet_op; refine hK_ _ ?_; clear hK_ K_)
  (refine tree_run (by simp only [List.getElem?_toArray, List.getElem?_cons_succ, List.getElem?_cons_zero]; rfl) (by rfl) (by rfl) (fun K_ hK_ => ?_); have HK_ := Lib.hid hK_; clear hK_; go_wp2_with (first | (go_at_call 28; (with_reducible refine (HU0.out _ (HHU.out.below (by repeat (first | exact Below.refl _ _ | assumption | refine bdrew1q ?_ | refine balloc ?_ _ | refine bthen ?_ (by assumption) | refine Below.trans ?_ (by assumption))))).mono ?_); rintro e wa ⟨rfl, hba⟩; have hac := bc hba; have haf := bf hba; have haz := hba.size; try simp only [World.size_alloc, World.size_drew] at haz) | (go_at_call 28; (with_reducible refine (HU2.out _ (HHU.out.below (by repeat (first | exact Below.refl _ _ | assumption | refine bdrew1q ?_ | refine balloc ?_ _ | refine bthen ?_ (by assumption) | refine Below.trans ?_ (by assumption))))).mono ?_); rintro e wb ⟨rfl, hbb⟩; have hbc := bc hbb; have hbf := bf hbb; have hbz := hbb.size; try simp only [World.size_alloc, World.size_drew] at hbz)); refine HK_.out _ _ (bel_of (by repeat (first | exact Below.refl _ _ | assumption | refine bdrew1q ?_ | refine balloc ?_ _ | refine bthen ?_ (by assumption) | refine Below.trans ?_ (by assumption)))) ?_; clear HK_)
  (refine tree_run (by simp only [List.getElem?_toArray, List.getElem?_cons_succ, List.getElem?_cons_zero]; rfl) (by rfl) (by rfl) (fun K_ hK_ => ?_); have HK_ := Lib.hid hK_; clear hK_; go_wp2_with (first | (go_at_call 28; (with_reducible refine (HU0.out _ (HHU.out.below (by repeat (first | exact Below.refl _ _ | assumption | refine bdrew1q ?_ | refine balloc ?_ _ | refine bthen ?_ (by assumption) | refine Below.trans ?_ (by assumption))))).mono ?_); rintro e wa ⟨rfl, hba⟩; have hac := bc hba; have haf := bf hba; have haz := hba.size; try simp only [World.size_alloc, World.size_drew] at haz) | (go_at_call 28; (with_reducible refine (HU2.out _ (HHU.out.below (by repeat (first | exact Below.refl _ _ | assumption | refine bdrew1q ?_ | refine balloc ?_ _ | refine bthen ?_ (by assumption) | refine Below.trans ?_ (by assumption))))).mono ?_); rintro e wb ⟨rfl, hbb⟩; have hbc := bc hbb; have hbf := bf hbb; have hbz := hbb.size; try simp only [World.size_alloc, World.size_drew] at hbz)); refine HK_.out _ _ (bel_of (by repeat (first | exact Below.refl _ _ | assumption | refine bdrew1q ?_ | refine balloc ?_ _ | refine bthen ?_ (by assumption) | refine Below.trans ?_ (by assumption)))) ?_; clear HK_)
  (refine tree_quiet (by simp only [List.getElem?_toArray, List.getElem?_cons_succ, List.getElem?_cons_zero]; rfl) (by rfl) (by rfl) (fun K_ hK_ => ?_); go_big_quiet_op; refine hK_ _ ?_; clear hK_ K_)
  (refine tree_quiet (by simp only [List.getElem?_toArray, List.getElem?_cons_succ, List.getElem?_cons_zero]; rfl) (by rfl) (by rfl) (fun K_ hK_ => ?_); go_big_quiet_op; refine hK_ _ ?_; clear hK_ K_)
  refine tree_nil ?_
  clear hG_
  have hbV : Below U.heap.size U wb := by repeat (first | exact Below.refl _ _ | assumption | refine bdrew1q ?_ | refine balloc ?_ _ | refine bthen ?_ (by assumption) | refine Below.trans ?_ (by assumption))
  have c8b := (hbV.cell (p := ⟨w.heap.size, 0, none⟩) (by show w.heap.size < U.heap.size; omega)).trans c8
  have hbW := HBU.out.trans (hbV.mono HBU.out.size)
  have hzb := hbV.size
  have HBW := Lib.hid hbW
  have HTW := Lib.hid (HT.out.below hbW)
  have HHW := Lib.hid (HH.out.below hbW)
  have hlw : w.heap.size < wb.heap.size := by omega
  clear c8 hbV hbW hba hbb hac haf hbc hbf HU0 HU2 HBU HHU hz hzb
  try clear haz hbz
  rename_i wa_
  by_cases hfm : f + m ≤ 65536
  case neg =>
    have HNO := Lib.hid (show ¬ TrimOk bs S from fun hx => hfm (HTO.out.1 hx).1)
    go_wp2_with (first | (go_at_call 18; refine (need_f _ (by first | rfl | (simp; omega)) _).mono ?_; rintro e w_ ⟨rfl, rfl⟩))
    exact ⟨rfl, .inr ⟨HNO.out, rfl⟩, LKeep.of HBW.out hBw⟩
  by_cases hm0 : m = 0
  · subst hm0
    have HOK := Lib.hid (HTO.out.2 ⟨hfm, by omega⟩)
    go_wp2_with (first | (go_at_call 18; refine (need_t _ (by first | rfl | (simp; omega)) _).mono ?_; rintro e w_ ⟨rfl, rfl⟩))
    refine bodyPost_end (v := .tuple #[]) (by simp [results, Try.results33, go_sem]; try rfl) rfl ⟨.inl ⟨HOK.out, rfl, ?_⟩, LKeep.of HBW.out hBw⟩
    exact HTW.out
  · have hmI : (0 : Int) < (m : Int) := by omega
    have HA := Lib.hid (fun (W : World) (hW : Below wb.heap.size wb W) => apart_any B g fmt [] [] f (f + m - 1) S (f : Int) ((f : Int) + (m : Int) - 1) (S : Int) rfl (by omega) rfl (adv a c 4) (n - 4) (c - 4) (bs.drop 4) W (HTW.out.below hW) hB (by simp) (by simp) (by omega) HS.out (by have := ((HHW.out.below hW).adv c 4 (by rw [bytesV_length, HBL.out]; exact hnc)); rw [bytesV_drop] at this; exact this) (by rw [List.length_drop, HBL.out]) (by omega) (by unfold maxLen; omega) (advB HAB.out))
    have HAO := Lib.hid (show ApOk [] f (f + m - 1) S (n - 4) ↔ m * S ≤ n - 4 from by unfold ApOk; rw [canAdd_nil, show f + m - 1 - f + 1 = m by omega]; exact ⟨fun hx => hx.2, fun hx => ⟨by omega, hx⟩⟩)
    have HTP := Lib.hid (show trimPs f m = [⟨f, f + m - 1, 0, 1⟩] from by simp [trimPs, hm0])
    have HNU := Lib.hid (show f + m - 1 - f + 1 = m by omega)
    go_wp2_with (first | (go_at_call 18; refine (need_t _ (by first | rfl | (simp; omega)) _).mono ?_; rintro e w_ ⟨rfl, rfl⟩) | (go_at_call 21; (with_reducible refine (HRE.out _).mono ?_); rintro e w5 ⟨rfl, hb5⟩; have h5c := bc hb5; have h5f := bf hb5; have h5z := hb5.size; try simp only [World.size_alloc, World.size_drew] at h5z))
    refine (HA.out _ (by exact (by repeat (first | with_reducible exact brefl _ | with_reducible assumption | (with_reducible refine bset ?_ (by first | (simp; done) | (simp; omega)) _) | with_reducible refine balloc ?_ _ | with_reducible refine bdrew ?_ _ | with_reducible refine bdrew1 ?_ | with_reducible refine bthen ?_ (by assumption) | with_reducible refine Below.trans ?_ (by assumption) | exact brefl _ | assumption | refine balloc ?_ _ | refine bdrew ?_ _ | refine bdrew1 ?_ | refine bthen ?_ (by assumption) | refine Below.trans ?_ (by assumption) | (refine bset ?_ (by first | (simp; done) | (simp; omega)) _))))).mono ?_
    have HB5 := Lib.hid (LKeep.of (B := B) (g := g) (HBW.out.trans (hb5.mono HBW.out.size)) hBw)
    rintro e w6 ⟨(⟨hok, rfl, ht6⟩ | ⟨hno, rfl⟩), hk6⟩
    · have HOK := Lib.hid (HTO.out.2 ⟨hfm, HAO.out.1 hok⟩)
      rw [HNU.out] at ht6
      have HT6 := Lib.hid ht6
      clear hok ht6
      have HK6 := Lib.hid (HB5.out.trans hk6)
      clear hk6
      go_wp2_with fail
      refine bodyPost_end (v := .tuple #[]) (by simp [results, Try.results33, go_sem]; try rfl) rfl ⟨.inl ⟨HOK.out, rfl, ?_⟩, HK6.out⟩
      rw [HTP.out]
      exact HT6.out
    · have HNO := Lib.hid (show ¬ TrimOk bs S from fun hx => hno (HAO.out.2 (HTO.out.1 hx).2))
      exact ⟨rfl, .inr ⟨HNO.out, rfl⟩, HB5.out.trans hk6⟩
end Go.Proofs.Ythjnpfhcjacibaa
