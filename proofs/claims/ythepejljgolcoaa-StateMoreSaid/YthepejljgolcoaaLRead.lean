
/- The contract of lookup.Read. Conditions: as many bytes as the slice says; all numbers within 64 bits. -/
import Derived.Test.YthepejljgolcoaaLTake4
import Derived.Test.YthepejljgolcoaaTry
namespace Go.Proofs.Ythepejljgolcoaa
open Go.RowKit Go.Lib

theorem TabIs.setOther {B g fmt g3 o : Nat} {ps : List PartL} {ns : List Nat} {w : World} (h : TabIs B g fmt ps ns w) {cs : Array Value} {t : Nat} {fz : Nat × Nat} (hw : w.heap[g3]? = some (.cells cs t fz)) (h1 : t ≠ 82) (h2 : t ≠ 110) (h3 : t ≠ 80) (v : Value) : TabIs B g fmt ps ns (w.setCell ⟨g3, o, none⟩ v) := by
  obtain ⟨ap, cp, an, cn, e0, e1, e2⟩ := h.is
  have hne : g ≠ g3 := by
    rintro rfl
    rw [e0] at hw
    injection hw with hw
    injection hw with _ hw _
    exact h3 hw.symm
  exact ⟨ap, cp, an, cn, (set_heap_other v hne).trans e0, set_owns v e1 (own_neE e1 hw h1), set_owns v e2 (own_neE e2 hw h2)⟩
def LRead1R (B : Nat) (w : World) (g3 : Nat) (bs : List UInt8) (glyphs size : Nat) (ok : Bool) (w' : World) : Prop :=
  (ok = true ∧ ∃ rs g, LkOk bs glyphs size rs ∧ w'.heap[g3]? = some (.cells #[.pointer (some ⟨g, 0, none⟩)] 23 (0, 0)) ∧ TabIs w.heap.size g (num bs 0 2) (tabR bs rs).1 (tabR bs rs).2 w' ∧ Below B w w' ∧ w.heap.size ≤ w'.heap.size ∧ ∀ k, k < w.heap.size → k ≠ g3 → w'.heap[k]? = w.heap[k]?) ∨
  (ok = false ∧ (∀ rs, ¬ LkOk bs glyphs size rs) ∧ Below w.heap.size w w')
theorem enter_lread1 (args : Array Value) (w : World) : (callFunc 31 args).run Try.prog w = .ok (.enter 31 args) w := by kernel_rfl
theorem take_ok (a : Option Addr) (n c : Nat) (bs : List UInt8) (glyphs size : Nat) (rs : List RP) (w : World) (hh : Has w a (bytesV bs)) (hbl : bs.length = n) (hnc : n ≤ c) (hc : c ≤ maxLen) (hg1 : 1 ≤ glyphs) (hg2 : glyphs ≤ 65535) (hS : size = 2 ∨ size = 4) (hok : LkOk bs glyphs size rs) :
    Calls Try.prog 32 #[.agg #[.slice a n c], .int .i64 (glyphs : Nat), .int .i64 (size : Nat)] w fun e w' => ∃ g, e = .returned (.pointer (some ⟨g, 0, none⟩)) ∧ TabIs w.heap.size g (num bs 0 2) (tabR bs rs).1 (tabR bs rs).2 w' ∧ Below w.heap.size w w' := by
  refine (take_lk a n c bs glyphs size _ _ rfl rfl w hh hbl hnc hc hg1 hg2 hS).mono ?_
  rintro e w' ⟨(⟨rs', g, hr, he, ht⟩ | ⟨hno, _⟩), hb⟩
  · obtain rfl := hr.det hok
    exact ⟨g, he, ht, hb⟩
  · exact absurd hok (hno rs)
theorem take_bad (a : Option Addr) (n c : Nat) (bs : List UInt8) (glyphs size : Nat) (w : World) (hh : Has w a (bytesV bs)) (hbl : bs.length = n) (hnc : n ≤ c) (hc : c ≤ maxLen) (hg1 : 1 ≤ glyphs) (hg2 : glyphs ≤ 65535) (hS : size = 2 ∨ size = 4) (hno : ∀ rs, ¬ LkOk bs glyphs size rs) :
    Calls Try.prog 32 #[.agg #[.slice a n c], .int .i64 (glyphs : Nat), .int .i64 (size : Nat)] w fun e w' => e = .panicked thrown ∧ Below w.heap.size w w' := by
  refine (take_lk a n c bs glyphs size _ _ rfl rfl w hh hbl hnc hc hg1 hg2 hS).mono ?_
  rintro e w' ⟨(⟨rs', g, hr, _, _⟩ | ⟨_, he⟩), hb⟩
  · exact absurd hr (hno rs')
  · exact ⟨he, hb⟩
theorem TabIs.ge {B g fmt : Nat} {ps : List PartL} {ns : List Nat} {w w' : World} {x : Value} {t : Nat} (h : TabIs B g fmt ps ns w') {g3 : Nat} (h3 : w'.heap[g3]? = some (.cells #[x] t (0, 0))) (ht : t ≠ 80) : g ≠ g3 := by
  rintro rfl
  obtain ⟨_, _, _, _, e0, _⟩ := h.is
  rw [e0] at h3
  injection h3 with h3
  injection h3 with _ h3 _
  exact ht h3.symm
set_option maxRecDepth 100000 in
set_option maxHeartbeats 1600000 in
theorem lread1_any (B : Nat) (a : Option Addr) (n c : Nat) (bs : List UInt8) (glyphs size : Nat) (g0 g1 g2 g3 : Nat) (x : Value) (w : World) (h : Has w a (bytesV bs)) (hl : bs.length = n) (hn : n ≤ c) (hc : c ≤ maxLen) (hg1 : 1 ≤ glyphs) (hg2 : glyphs ≤ 65535) (hS : size = 2 ∨ size = 4) (hB : B ≤ g3)
    (c0 : w.cell? ⟨g0, 0, none⟩ = some (.slice a n c)) (c1 : w.cell? ⟨g1, 0, none⟩ = some (.int .i64 (glyphs : Nat))) (c2 : w.cell? ⟨g2, 0, none⟩ = some (.int .i64 (size : Nat)))
    (c3 : w.heap[g3]? = some (.cells #[x] 23 (0, 0))) :
    Calls Try.prog 31 #[.pointer (some ⟨g0, 0, none⟩), .pointer (some ⟨g1, 0, none⟩), .pointer (some ⟨g2, 0, none⟩), .pointer (some ⟨g3, 0, none⟩)] w
      fun e w' => (e = .returned (.tuple #[]) ∧ LRead1R B w g3 bs glyphs size true w') ∨ (e = .panicked thrown ∧ LRead1R B w g3 bs glyphs size false w') := by
  have HH := Lib.hid h
  have HL := Lib.hid hl
  have C3 := Lib.hid c3
  have l0 := cell_lt c0
  have l1 := cell_lt c1
  have l2 := cell_lt c2
  have l3 := (Array.getElem?_eq_some_iff.1 c3).1
  simp only at l0 l1 l2
  have HS := Lib.hid hS
  clear h hl c3 hS
  by_cases hok : ∃ rs, LkOk bs glyphs size rs
  · obtain ⟨rs, hok⟩ := hok
    have HOK := Lib.hid hok
    have HT := Lib.hid (fun W hw => take_ok a n c bs glyphs size rs W hw HL.out hn hc hg1 hg2 HS.out hok)
    clear hok
    go_enter Try.func31, Try.ntmps31
    go_wp2_with fail
    refine wp_region_last (.step 0 (.step 2 (.step 3 (.step 1 (.step 4 (.step 5 .nil)))))) 5 (by kernel_rfl) (by kernel_rfl) (by kernel_rfl) (by kernel_rfl) (by kernel_rfl) (by intro _ _ d_ _ _ h_; cases d_ <;> first | exact h_ | (dsimp +zetaDelta only at h_ ⊢; exact h_)) (fun w' => ∃ p : Wld w [], w' = p.val) (wld_start _ _) ?_
    have hG_ := @wldC w
    (refine z_quiet (by simp only [List.getElem?_toArray, List.getElem?_cons_succ, List.getElem?_cons_zero]; rfl) (by rfl) (by rfl) (fun K_ hK_ => ?_); go_big_quiet_op; refine hK_ _ ?_; clear hK_ K_)
    (refine z_quiet (by simp only [List.getElem?_toArray, List.getElem?_cons_succ, List.getElem?_cons_zero]; rfl) (by rfl) (by rfl) (fun K_ hK_ => ?_); go_big_quiet_op; refine hK_ _ ?_; clear hK_ K_)
    (refine z_quiet (by simp only [List.getElem?_toArray, List.getElem?_cons_succ, List.getElem?_cons_zero]; rfl) (by rfl) (by rfl) (fun K_ hK_ => ?_); go_big_quiet_op; refine hK_ _ ?_; clear hK_ K_)
    (refine z_run (by simp only [List.getElem?_toArray, List.getElem?_cons_succ, List.getElem?_cons_zero]; rfl) (by rfl) (by rfl) (fun K_ hK_ => ?_); have HK_ := Lib.hid hK_; clear hK_; go_wp2_with (first | (go_at_call 30; (with_reducible refine (of_any _ _ _ _).mono ?_); rintro e wa ⟨rfl, hba⟩; have hac := bc hba; have haf := bf hba; have haz := hba.size; try simp only [World.size_alloc, World.size_drew] at haz) | (go_at_call 32; (with_reducible refine (HT.out _ (HH.out.below (by exact (by repeat (first | with_reducible exact brefl _ | with_reducible assumption | (with_reducible refine bset ?_ (by first | (simp; done) | (simp; omega)) _) | with_reducible refine balloc ?_ _ | with_reducible refine bdrew ?_ _ | with_reducible refine bdrew1 ?_ | with_reducible refine bthen ?_ (by assumption) | with_reducible refine Below.trans ?_ (by assumption) | exact brefl _ | assumption | refine balloc ?_ _ | refine bdrew ?_ _ | refine bdrew1 ?_ | refine bthen ?_ (by assumption) | refine Below.trans ?_ (by assumption) | (refine bset ?_ (by first | (simp; done) | (simp; omega)) _)))))).mono ?_); rintro e wb ⟨g, rfl, hown, hbb⟩; have hbz := hbb.size; have HOW := Lib.hid hown; have hB4 : Below w.heap.size w wb := (by repeat (first | with_reducible exact brefl _ | with_reducible assumption | (with_reducible refine bset ?_ (by first | (simp; done) | (simp; omega)) _) | with_reducible refine balloc ?_ _ | with_reducible refine bdrew ?_ _ | with_reducible refine bdrew1 ?_ | with_reducible refine bthen ?_ (by assumption) | with_reducible refine Below.trans ?_ (by assumption) | exact brefl _ | assumption | refine balloc ?_ _ | refine bdrew ?_ _ | refine bdrew1 ?_ | refine bthen ?_ (by assumption) | refine Below.trans ?_ (by assumption) | (refine bset ?_ (by first | (simp; done) | (simp; omega)) _))); have c4b := (hB4.block g3 l3).trans C3.out; have q4 := cell_of_heap c4b 0; have f4 := froz_of_heap c4b 0; have HC4 := Lib.hid c4b; have HBB := Lib.hid hB4; clear hown hbb hB4 c4b)); refine HK_.out _ _ (wld_of (by repeat (first | with_reducible exact same_below (brefl _) | with_reducible exact same_below (bdrew1 (brefl _)) | with_reducible assumption | with_reducible refine same_drew ?_ | (with_reducible refine same_set ?_ (by first | (left; simp; done) | (right; simp; done) | (right; simp; omega)) _) | with_reducible refine same_then ?_ (by assumption) | with_reducible refine same_alloc ?_ _ | exact same_below (brefl _) | exact same_realloc (by simp) | exact same_below (bdrew1 (brefl _)) | assumption | refine same_drew ?_ | refine same_then ?_ (by assumption) | refine same_alloc ?_ _ | (refine same_set ?_ (by first | (left; simp; done) | (right; simp; done) | (right; simp; omega)) _)))) ?_; clear HK_)
    (refine z_run (by simp only [List.getElem?_toArray, List.getElem?_cons_succ, List.getElem?_cons_zero]; rfl) (by rfl) (by rfl) (fun K_ hK_ => ?_); have HK_ := Lib.hid hK_; clear hK_; go_wp2_with (first | (go_at_call 30; (with_reducible refine (of_any _ _ _ _).mono ?_); rintro e wa ⟨rfl, hba⟩; have hac := bc hba; have haf := bf hba; have haz := hba.size; try simp only [World.size_alloc, World.size_drew] at haz) | (go_at_call 32; (with_reducible refine (HT.out _ (HH.out.below (by exact (by repeat (first | with_reducible exact brefl _ | with_reducible assumption | (with_reducible refine bset ?_ (by first | (simp; done) | (simp; omega)) _) | with_reducible refine balloc ?_ _ | with_reducible refine bdrew ?_ _ | with_reducible refine bdrew1 ?_ | with_reducible refine bthen ?_ (by assumption) | with_reducible refine Below.trans ?_ (by assumption) | exact brefl _ | assumption | refine balloc ?_ _ | refine bdrew ?_ _ | refine bdrew1 ?_ | refine bthen ?_ (by assumption) | refine Below.trans ?_ (by assumption) | (refine bset ?_ (by first | (simp; done) | (simp; omega)) _)))))).mono ?_); rintro e wb ⟨g, rfl, hown, hbb⟩; have hbz := hbb.size; have HOW := Lib.hid hown; have hB4 : Below w.heap.size w wb := (by repeat (first | with_reducible exact brefl _ | with_reducible assumption | (with_reducible refine bset ?_ (by first | (simp; done) | (simp; omega)) _) | with_reducible refine balloc ?_ _ | with_reducible refine bdrew ?_ _ | with_reducible refine bdrew1 ?_ | with_reducible refine bthen ?_ (by assumption) | with_reducible refine Below.trans ?_ (by assumption) | exact brefl _ | assumption | refine balloc ?_ _ | refine bdrew ?_ _ | refine bdrew1 ?_ | refine bthen ?_ (by assumption) | refine Below.trans ?_ (by assumption) | (refine bset ?_ (by first | (simp; done) | (simp; omega)) _))); have c4b := (hB4.block g3 l3).trans C3.out; have q4 := cell_of_heap c4b 0; have f4 := froz_of_heap c4b 0; have HC4 := Lib.hid c4b; have HBB := Lib.hid hB4; clear hown hbb hB4 c4b)); refine HK_.out _ _ (wld_of (by repeat (first | with_reducible exact same_below (brefl _) | with_reducible exact same_below (bdrew1 (brefl _)) | with_reducible assumption | with_reducible refine same_drew ?_ | (with_reducible refine same_set ?_ (by first | (left; simp; done) | (right; simp; done) | (right; simp; omega)) _) | with_reducible refine same_then ?_ (by assumption) | with_reducible refine same_alloc ?_ _ | exact same_below (brefl _) | exact same_realloc (by simp) | exact same_below (bdrew1 (brefl _)) | assumption | refine same_drew ?_ | refine same_then ?_ (by assumption) | refine same_alloc ?_ _ | (refine same_set ?_ (by first | (left; simp; done) | (right; simp; done) | (right; simp; omega)) _)))) ?_; clear HK_)
    (refine z_last (by simp only [List.getElem?_toArray, List.getElem?_cons_succ, List.getElem?_cons_zero]; rfl) (by rfl) (by rfl) (by rfl) (fun K_ hK_ => ?_); have HK_ := Lib.hid hK_; clear hK_; go_wp2_with (first | (go_at_call 30; (with_reducible refine (of_any _ _ _ _).mono ?_); rintro e wa ⟨rfl, hba⟩; have hac := bc hba; have haf := bf hba; have haz := hba.size; try simp only [World.size_alloc, World.size_drew] at haz) | (go_at_call 32; (with_reducible refine (HT.out _ (HH.out.below (by exact (by repeat (first | with_reducible exact brefl _ | with_reducible assumption | (with_reducible refine bset ?_ (by first | (simp; done) | (simp; omega)) _) | with_reducible refine balloc ?_ _ | with_reducible refine bdrew ?_ _ | with_reducible refine bdrew1 ?_ | with_reducible refine bthen ?_ (by assumption) | with_reducible refine Below.trans ?_ (by assumption) | exact brefl _ | assumption | refine balloc ?_ _ | refine bdrew ?_ _ | refine bdrew1 ?_ | refine bthen ?_ (by assumption) | refine Below.trans ?_ (by assumption) | (refine bset ?_ (by first | (simp; done) | (simp; omega)) _)))))).mono ?_); rintro e wb ⟨g, rfl, hown, hbb⟩; have hbz := hbb.size; have HOW := Lib.hid hown; have hB4 : Below w.heap.size w wb := (by repeat (first | with_reducible exact brefl _ | with_reducible assumption | (with_reducible refine bset ?_ (by first | (simp; done) | (simp; omega)) _) | with_reducible refine balloc ?_ _ | with_reducible refine bdrew ?_ _ | with_reducible refine bdrew1 ?_ | with_reducible refine bthen ?_ (by assumption) | with_reducible refine Below.trans ?_ (by assumption) | exact brefl _ | assumption | refine balloc ?_ _ | refine bdrew ?_ _ | refine bdrew1 ?_ | refine bthen ?_ (by assumption) | refine Below.trans ?_ (by assumption) | (refine bset ?_ (by first | (simp; done) | (simp; omega)) _))); have c4b := (hB4.block g3 l3).trans C3.out; have q4 := cell_of_heap c4b 0; have f4 := froz_of_heap c4b 0; have HC4 := Lib.hid c4b; have HBB := Lib.hid hB4; clear hown hbb hB4 c4b)); refine HK_.out _ _ ?_; clear HK_)
    refine z_nil ?_
    clear hG_
    go_end0
    refine .inl ⟨rfl, .inl ⟨rfl, rs, g, HOK.out, set_heap_at _ HC4.out, ?_, (HBB.out.mono (Nat.le_of_lt (by omega))).setCell (p := ⟨g3, 0, none⟩) hB _, by simp; omega, fun k hk hx => (set_heap_other _ hx).trans (HBB.out.block k hk)⟩⟩
    have := (HOW.out.setOther (o := 0) HC4.out (by decide) (by decide) (by decide) (.pointer (some ⟨g, 0, none⟩)))
    obtain ⟨_, _, _, _, e0, e1, e2⟩ := this.is
    exact ⟨_, _, _, _, e0, owns_mono e1 (by omega), owns_mono e2 (by omega)⟩
  · have HNO := Lib.hid (show ∀ rs, ¬ LkOk bs glyphs size rs from fun rs ho => hok ⟨rs, ho⟩)
    have HT := Lib.hid (fun W hw => take_bad a n c bs glyphs size W hw HL.out hn hc hg1 hg2 HS.out HNO.out)
    clear hok
    go_enter Try.func31, Try.ntmps31
    go_wp2_with fail
    refine wp_region_tree (.step 0 (.step 2 (.step 3 (.step 1 (.step 4 (.step 5 .nil)))))) (by kernel_rfl) (by kernel_rfl) (by kernel_rfl) (by kernel_rfl) (by intro _ _ d_ _ _ h_; cases d_ <;> first | exact h_ | (dsimp +zetaDelta only at h_ ⊢; exact h_)) (fun w' => ∃ p : BelW w.heap.size w, w' = p.val) (bel_start _ _) ?_
    have hG_ := @belC w.heap.size w
    (refine tree_quiet (by simp only [List.getElem?_toArray, List.getElem?_cons_succ, List.getElem?_cons_zero]; rfl) (by rfl) (by rfl) (fun K_ hK_ => ?_); go_big_quiet_op; refine hK_ _ ?_; clear hK_ K_)
    (refine tree_quiet (by simp only [List.getElem?_toArray, List.getElem?_cons_succ, List.getElem?_cons_zero]; rfl) (by rfl) (by rfl) (fun K_ hK_ => ?_); go_big_quiet_op; refine hK_ _ ?_; clear hK_ K_)
    (refine tree_quiet (by simp only [List.getElem?_toArray, List.getElem?_cons_succ, List.getElem?_cons_zero]; rfl) (by rfl) (by rfl) (fun K_ hK_ => ?_); go_big_quiet_op; refine hK_ _ ?_; clear hK_ K_)
    (refine tree_run (by simp only [List.getElem?_toArray, List.getElem?_cons_succ, List.getElem?_cons_zero]; rfl) (by rfl) (by rfl) (fun K_ hK_ => ?_); have HK_ := Lib.hid hK_; clear hK_; go_wp2_with (first | (go_at_call 30; (with_reducible refine (of_any _ _ _ _).mono ?_); rintro e wa ⟨rfl, hba⟩; have hac := bc hba; have haf := bf hba; have haz := hba.size; try simp only [World.size_alloc, World.size_drew] at haz) | (go_at_call 32; (with_reducible refine (HT.out _ (HH.out.below (by exact (by repeat (first | with_reducible exact brefl _ | with_reducible assumption | (with_reducible refine bset ?_ (by first | (simp; done) | (simp; omega)) _) | with_reducible refine balloc ?_ _ | with_reducible refine bdrew ?_ _ | with_reducible refine bdrew1 ?_ | with_reducible refine bthen ?_ (by assumption) | with_reducible refine Below.trans ?_ (by assumption) | exact brefl _ | assumption | refine balloc ?_ _ | refine bdrew ?_ _ | refine bdrew1 ?_ | refine bthen ?_ (by assumption) | refine Below.trans ?_ (by assumption) | (refine bset ?_ (by first | (simp; done) | (simp; omega)) _)))))).mono ?_); rintro e wb ⟨rfl, hbb⟩; have hbc := bc hbb; have hbf := bf hbb; have hbz := hbb.size; try simp only [World.size_alloc, World.size_drew] at hbz)); refine HK_.out _ _ (bel_of (by repeat (first | exact Below.refl _ _ | assumption | refine bdrew1q ?_ | refine balloc ?_ _ | refine bthen ?_ (by assumption) | refine Below.trans ?_ (by assumption)))) ?_; clear HK_)
    (refine tree_run (by simp only [List.getElem?_toArray, List.getElem?_cons_succ, List.getElem?_cons_zero]; rfl) (by rfl) (by rfl) (fun K_ hK_ => ?_); have HK_ := Lib.hid hK_; clear hK_; go_wp2_with (first | (go_at_call 30; (with_reducible refine (of_any _ _ _ _).mono ?_); rintro e wa ⟨rfl, hba⟩; have hac := bc hba; have haf := bf hba; have haz := hba.size; try simp only [World.size_alloc, World.size_drew] at haz) | (go_at_call 32; (with_reducible refine (HT.out _ (HH.out.below (by exact (by repeat (first | with_reducible exact brefl _ | with_reducible assumption | (with_reducible refine bset ?_ (by first | (simp; done) | (simp; omega)) _) | with_reducible refine balloc ?_ _ | with_reducible refine bdrew ?_ _ | with_reducible refine bdrew1 ?_ | with_reducible refine bthen ?_ (by assumption) | with_reducible refine Below.trans ?_ (by assumption) | exact brefl _ | assumption | refine balloc ?_ _ | refine bdrew ?_ _ | refine bdrew1 ?_ | refine bthen ?_ (by assumption) | refine Below.trans ?_ (by assumption) | (refine bset ?_ (by first | (simp; done) | (simp; omega)) _)))))).mono ?_); rintro e wb ⟨rfl, hbb⟩; have hbc := bc hbb; have hbf := bf hbb; have hbz := hbb.size; try simp only [World.size_alloc, World.size_drew] at hbz)); exact ⟨rfl, .inr ⟨rfl, .inr ⟨rfl, HNO.out, by repeat (first | exact Below.refl _ _ | assumption | refine bdrew1q ?_ | refine balloc ?_ _ | refine bthen ?_ (by assumption) | refine Below.trans ?_ (by assumption))⟩⟩⟩)
def badLk (zg zs : Int) : Prop := zg < 1 ∨ 65535 < zg ∨ (zs ≠ 2 ∧ zs ≠ 4)
def LReadIs (bs : List UInt8) (zg zs : Int) (w : World) (e : Ending) (w' : World) : Prop :=
  ((badLk zg zs ∧ e = .returned (.tuple #[.pointer none, .int .i64 1])) ∨
   (¬ badLk zg zs ∧ (∀ rs, ¬ LkOk bs zg.toNat zs.toNat rs) ∧ e = .returned (.tuple #[.pointer none, .int .i64 2])) ∨
   (¬ badLk zg zs ∧ ∃ rs g, LkOk bs zg.toNat zs.toNat rs ∧ e = .returned (.tuple #[.pointer (some ⟨g, 0, none⟩), .int .i64 0]) ∧ TabIs w.heap.size g (num bs 0 2) (tabR bs rs).1 (tabR bs rs).2 w')) ∧ Below w.heap.size w w'
set_option maxRecDepth 100000 in
set_option maxHeartbeats 3200000 in
theorem lread_any (a : Option Addr) (n c : Nat) (bs : List UInt8) (zg zs : Int) (w : World) (h : Has w a (bytesV bs)) (hl : bs.length = n) (hn : n ≤ c) (hc : c ≤ maxLen) (hzg : -9223372036854775808 ≤ zg ∧ zg ≤ 9223372036854775807) (hzs : -9223372036854775808 ≤ zs ∧ zs ≤ 9223372036854775807) :
    Calls Try.prog 10 #[.slice a n c, .int .i64 zg, .int .i64 zs] w (LReadIs bs zg zs w) := by
  have HH := Lib.hid h
  have HL := Lib.hid hl
  clear h hl
  have hAC := allocC
  have hAF := allocF
  have hmf : ∀ (fn : Fn) (first cap : Array Value) (w : World), (Instr.makeFunc fn first cap).run Try.prog w = .ok (.func fn first cap) w := fun _ _ _ _ => rfl
  obtain ⟨hn1, hn2⟩ := hzg
  obtain ⟨hk1, hk2⟩ := hzs
  by_cases hb1 : zg < 1
  · go_enter Try.func10, Try.ntmps10
    go_wp2_with fail
    refine bodyPost_ret (v := .tuple #[.pointer none, .int .i64 1]) (by simp [results, Try.results10, go_sem, hAC, hAF]) rfl ?_
    exact ⟨.inl ⟨.inl hb1, rfl⟩, (by repeat (first | with_reducible exact brefl _ | with_reducible assumption | (with_reducible refine bset ?_ (by first | (simp; done) | (simp; omega)) _) | with_reducible refine balloc ?_ _ | with_reducible refine bdrew ?_ _ | with_reducible refine bdrew1 ?_ | with_reducible refine bthen ?_ (by assumption) | with_reducible refine Below.trans ?_ (by assumption) | exact brefl _ | assumption | refine balloc ?_ _ | refine bdrew ?_ _ | refine bdrew1 ?_ | refine bthen ?_ (by assumption) | refine Below.trans ?_ (by assumption) | (refine bset ?_ (by first | (simp; done) | (simp; omega)) _)))⟩
  by_cases hb2 : 65535 < zg
  · go_enter Try.func10, Try.ntmps10
    go_wp2_with fail
    refine bodyPost_ret (v := .tuple #[.pointer none, .int .i64 1]) (by simp [results, Try.results10, go_sem, hAC, hAF]) rfl ?_
    exact ⟨.inl ⟨.inr (.inl hb2), rfl⟩, (by repeat (first | with_reducible exact brefl _ | with_reducible assumption | (with_reducible refine bset ?_ (by first | (simp; done) | (simp; omega)) _) | with_reducible refine balloc ?_ _ | with_reducible refine bdrew ?_ _ | with_reducible refine bdrew1 ?_ | with_reducible refine bthen ?_ (by assumption) | with_reducible refine Below.trans ?_ (by assumption) | exact brefl _ | assumption | refine balloc ?_ _ | refine bdrew ?_ _ | refine bdrew1 ?_ | refine bthen ?_ (by assumption) | refine Below.trans ?_ (by assumption) | (refine bset ?_ (by first | (simp; done) | (simp; omega)) _)))⟩
  obtain ⟨G, rfl⟩ : ∃ G : Nat, zg = G := ⟨zg.toNat, by omega⟩
  by_cases hs2 : zs = 2
  case neg =>
    by_cases hs4 : zs = 4
    case neg =>
      have e2 : (zs != 2) = true := by rw [bne_iff_ne]; exact hs2
      have e4 : (zs != 4) = true := by rw [bne_iff_ne]; exact hs4
      have HB3 := Lib.hid (show badLk (G : Int) zs from .inr (.inr ⟨hs2, hs4⟩))
      skip
      go_enter Try.func10, Try.ntmps10
      go_wp2_with fail
      refine bodyPost_ret (v := .tuple #[.pointer none, .int .i64 1]) (by simp [results, Try.results10, go_sem, hAC, hAF]) rfl ?_
      exact ⟨.inl ⟨HB3.out, rfl⟩, (by repeat (first | with_reducible exact brefl _ | with_reducible assumption | (with_reducible refine bset ?_ (by first | (simp; done) | (simp; omega)) _) | with_reducible refine balloc ?_ _ | with_reducible refine bdrew ?_ _ | with_reducible refine bdrew1 ?_ | with_reducible refine bthen ?_ (by assumption) | with_reducible refine Below.trans ?_ (by assumption) | exact brefl _ | assumption | refine balloc ?_ _ | refine bdrew ?_ _ | refine bdrew1 ?_ | refine bthen ?_ (by assumption) | refine Below.trans ?_ (by assumption) | (refine bset ?_ (by first | (simp; done) | (simp; omega)) _)))⟩
    subst hs4
    have HNB := Lib.hid (show ¬ badLk (G : Int) 4 by unfold badLk; omega)
    go_enter Try.func10, Try.ntmps10
    go_wp2_with fail
    obtain ⟨W, hW⟩ : ∃ W, W = (((w.alloc (Obj.cells #[.slice a n c] 22)).alloc (Obj.cells #[.int .i64 (G : Nat)] 3)).alloc (Obj.cells #[.int .i64 4] 3)).alloc (Obj.cells #[.pointer none] 23) := ⟨_, rfl⟩
    have hb : Below w.heap.size w W := by rw [hW]; exact (by repeat (first | with_reducible exact brefl _ | with_reducible assumption | (with_reducible refine bset ?_ (by first | (simp; done) | (simp; omega)) _) | with_reducible refine balloc ?_ _ | with_reducible refine bdrew ?_ _ | with_reducible refine bdrew1 ?_ | with_reducible refine bthen ?_ (by assumption) | with_reducible refine Below.trans ?_ (by assumption) | exact brefl _ | assumption | refine balloc ?_ _ | refine bdrew ?_ _ | refine bdrew1 ?_ | refine bthen ?_ (by assumption) | refine Below.trans ?_ (by assumption) | (refine bset ?_ (by first | (simp; done) | (simp; omega)) _)))
    have hz : W.heap.size = w.heap.size + 4 := by rw [hW]; simp
    have c0 : W.cell? ⟨w.heap.size, 0, none⟩ = some (.slice a n c) := by rw [hW]; simp [hAC]; rw [if_neg (by omega), if_neg (by omega)]
    have c1 : W.cell? ⟨w.heap.size + 1, 0, none⟩ = some (.int .i64 (G : Nat)) := by rw [hW]; simp [hAC]
    have c2 : W.cell? ⟨w.heap.size + 1 + 1, 0, none⟩ = some (.int .i64 ((4 : Nat) : Int)) := by rw [hW]; simp [hAC]
    have c3 : W.heap[w.heap.size + 1 + 1 + 1]? = some (.cells #[.pointer none] 23 (0, 0)) := by
      rw [hW]
      have := heap_new ((((w.alloc (Obj.cells #[.slice a n c] 22)).alloc (Obj.cells #[.int .i64 (G : Nat)] 3)).alloc (Obj.cells #[.int .i64 4] 3))) (.pointer none) 23
      simpa using this
    rw [← hW]
    clear hW
    have HB := Lib.hid hb
    clear hb
    have HT := Lib.hid (try_any 31 _ W (LRead1R w.heap.size W (w.heap.size + 1 + 1 + 1) bs G 4) (enter_lread1 _)
      (lread1_any w.heap.size a n c bs G 4 _ _ _ _ _ _ (HH.out.below HB.out) HL.out hn hc (by omega) (by omega) (by decide) (by omega) c0 c1 c2 c3))
    have C3 := Lib.hid c3
    clear c0 c1 c2 c3
    refine HT.out.mono ?_
    rintro r w2 ⟨ok, rfl, (⟨rfl, rs, g, hok, hG, htb, hb2, hz2, hoth⟩ | ⟨rfl, hno, hb2⟩)⟩
    case inr =>
      have HNO := Lib.hid hno
      have HB2 := Lib.hid (HB.out.trans (hb2.mono HB.out.size))
      have q3 := cell_of_heap ((hb2.block (w.heap.size + 1 + 1 + 1) (by omega)).trans C3.out) 0
      have qf := fun o => froz_of_heap ((hb2.block (w.heap.size + 1 + 1 + 1) (by omega)).trans C3.out) o
      simp only [List.getElem?_toArray, List.getElem?_cons_zero] at q3
      have hl3 := cell_lt q3
      simp only at hl3
      clear hno hb2 HT
      go_wp2_with fail
      refine bodyPost_ret (v := .tuple #[.pointer none, .int .i64 2]) (by simp [results, Try.results10, go_sem, q3, qf]) rfl ?_
      exact ⟨.inr (.inl ⟨HNB.out, HNO.out, rfl⟩), HB2.out.setCell (p := ⟨w.heap.size + 1 + 1 + 1, 0, none⟩) (by show w.heap.size ≤ w.heap.size + 1 + 1 + 1; omega) _⟩
    have HOK := Lib.hid hok
    have HB2 := Lib.hid (HB.out.trans hb2)
    have htb' := TabIs.setOther (o := 0) htb hG (by decide) (by decide) (by decide) (.pointer (some ⟨g, 0, none⟩))
    have HTB := Lib.hid htb'
    have q10 := cell_of_heap hG 0
    have qf := fun o => froz_of_heap hG o
    simp only [List.getElem?_toArray, List.getElem?_cons_zero] at q10
    have hgl := (Array.getElem?_eq_some_iff.1 hG).1
    clear hok hb2 hG htb htb' hoth HT
    go_wp2_with fail
    refine bodyPost_ret (v := .tuple #[.pointer (some ⟨g, 0, none⟩), .int .i64 0]) (by simp [results, Try.results10, go_sem, q10, qf]) rfl ?_
    obtain ⟨_, _, _, _, e0, e1, e2⟩ := HTB.out.is
    exact ⟨.inr (.inr ⟨HNB.out, rs, g, HOK.out, rfl, ⟨_, _, _, _, e0, owns_mono e1 (by omega), owns_mono e2 (by omega)⟩⟩), HB2.out.setCell (p := ⟨w.heap.size + 1 + 1 + 1, 0, none⟩) (by show w.heap.size ≤ w.heap.size + 1 + 1 + 1; omega) _⟩
  subst hs2
  have HNB := Lib.hid (show ¬ badLk (G : Int) 2 by unfold badLk; omega)
  go_enter Try.func10, Try.ntmps10
  go_wp2_with fail
  obtain ⟨W, hW⟩ : ∃ W, W = (((w.alloc (Obj.cells #[.slice a n c] 22)).alloc (Obj.cells #[.int .i64 (G : Nat)] 3)).alloc (Obj.cells #[.int .i64 2] 3)).alloc (Obj.cells #[.pointer none] 23) := ⟨_, rfl⟩
  have hb : Below w.heap.size w W := by rw [hW]; exact (by repeat (first | with_reducible exact brefl _ | with_reducible assumption | (with_reducible refine bset ?_ (by first | (simp; done) | (simp; omega)) _) | with_reducible refine balloc ?_ _ | with_reducible refine bdrew ?_ _ | with_reducible refine bdrew1 ?_ | with_reducible refine bthen ?_ (by assumption) | with_reducible refine Below.trans ?_ (by assumption) | exact brefl _ | assumption | refine balloc ?_ _ | refine bdrew ?_ _ | refine bdrew1 ?_ | refine bthen ?_ (by assumption) | refine Below.trans ?_ (by assumption) | (refine bset ?_ (by first | (simp; done) | (simp; omega)) _)))
  have hz : W.heap.size = w.heap.size + 4 := by rw [hW]; simp
  have c0 : W.cell? ⟨w.heap.size, 0, none⟩ = some (.slice a n c) := by rw [hW]; simp [hAC]; rw [if_neg (by omega), if_neg (by omega)]
  have c1 : W.cell? ⟨w.heap.size + 1, 0, none⟩ = some (.int .i64 (G : Nat)) := by rw [hW]; simp [hAC]
  have c2 : W.cell? ⟨w.heap.size + 1 + 1, 0, none⟩ = some (.int .i64 ((2 : Nat) : Int)) := by rw [hW]; simp [hAC]
  have c3 : W.heap[w.heap.size + 1 + 1 + 1]? = some (.cells #[.pointer none] 23 (0, 0)) := by
    rw [hW]
    have := heap_new ((((w.alloc (Obj.cells #[.slice a n c] 22)).alloc (Obj.cells #[.int .i64 (G : Nat)] 3)).alloc (Obj.cells #[.int .i64 2] 3))) (.pointer none) 23
    simpa using this
  rw [← hW]
  clear hW
  have HB := Lib.hid hb
  clear hb
  have HT := Lib.hid (try_any 31 _ W (LRead1R w.heap.size W (w.heap.size + 1 + 1 + 1) bs G 2) (enter_lread1 _)
    (lread1_any w.heap.size a n c bs G 2 _ _ _ _ _ _ (HH.out.below HB.out) HL.out hn hc (by omega) (by omega) (by decide) (by omega) c0 c1 c2 c3))
  have C3 := Lib.hid c3
  clear c0 c1 c2 c3
  refine HT.out.mono ?_
  rintro r w2 ⟨ok, rfl, (⟨rfl, rs, g, hok, hG, htb, hb2, hz2, hoth⟩ | ⟨rfl, hno, hb2⟩)⟩
  case inr =>
    have HNO := Lib.hid hno
    have HB2 := Lib.hid (HB.out.trans (hb2.mono HB.out.size))
    have q3 := cell_of_heap ((hb2.block (w.heap.size + 1 + 1 + 1) (by omega)).trans C3.out) 0
    have qf := fun o => froz_of_heap ((hb2.block (w.heap.size + 1 + 1 + 1) (by omega)).trans C3.out) o
    simp only [List.getElem?_toArray, List.getElem?_cons_zero] at q3
    have hl3 := cell_lt q3
    simp only at hl3
    clear hno hb2 HT
    go_wp2_with fail
    refine bodyPost_ret (v := .tuple #[.pointer none, .int .i64 2]) (by simp [results, Try.results10, go_sem, q3, qf]) rfl ?_
    exact ⟨.inr (.inl ⟨HNB.out, HNO.out, rfl⟩), HB2.out.setCell (p := ⟨w.heap.size + 1 + 1 + 1, 0, none⟩) (by show w.heap.size ≤ w.heap.size + 1 + 1 + 1; omega) _⟩
  have HOK := Lib.hid hok
  have HB2 := Lib.hid (HB.out.trans hb2)
  have htb' := TabIs.setOther (o := 0) htb hG (by decide) (by decide) (by decide) (.pointer (some ⟨g, 0, none⟩))
  have HTB := Lib.hid htb'
  have q10 := cell_of_heap hG 0
  have qf := fun o => froz_of_heap hG o
  simp only [List.getElem?_toArray, List.getElem?_cons_zero] at q10
  have hgl := (Array.getElem?_eq_some_iff.1 hG).1
  clear hok hb2 hG htb htb' hoth HT
  go_wp2_with fail
  refine bodyPost_ret (v := .tuple #[.pointer (some ⟨g, 0, none⟩), .int .i64 0]) (by simp [results, Try.results10, go_sem, q10, qf]) rfl ?_
  obtain ⟨_, _, _, _, e0, e1, e2⟩ := HTB.out.is
  exact ⟨.inr (.inr ⟨HNB.out, rs, g, HOK.out, rfl, ⟨_, _, _, _, e0, owns_mono e1 (by omega), owns_mono e2 (by omega)⟩⟩), HB2.out.setCell (p := ⟨w.heap.size + 1 + 1 + 1, 0, none⟩) (by show w.heap.size ≤ w.heap.size + 1 + 1 + 1; omega) _⟩
end Go.Proofs.Ythepejljgolcoaa
