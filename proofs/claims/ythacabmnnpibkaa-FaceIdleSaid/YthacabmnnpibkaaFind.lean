
/- Contracts of sfnt.Tables and sfnt.Find. Conditions: as many bytes as the slice says, no more than its capacity. -/
import Derived.Test.YthacabmnnpibkaaTake
import Derived.Test.YthacabmnnpibkaaTry
namespace Go.Proofs.Ythacabmnnpibkaa
open Go.RowKit

def TabR (W : World) (g1 : Nat) (bs : List UInt8) (ok : Bool) (w' : World) : Prop :=
  (ok = true ∧ isFont bs ∧ ∃ W1 g, Below W.heap.size W W1 ∧ W1.ownsRow W.heap.size 93 3 (.slice (some ⟨g, 0, none⟩) (cntOf bs) (cntOf bs)) (cntOf bs) (tabsV bs (cntOf bs)) ∧ w' = W1.setCell ⟨g1, 0, none⟩ (.slice (some ⟨g, 0, none⟩) (cntOf bs) (cntOf bs))) ∨ (ok = false ∧ ¬ isFont bs ∧ Below W.heap.size W w')

set_option maxRecDepth 100000 in
set_option maxHeartbeats 800000 in
theorem tables1_any (a : Option Addr) (n c : Nat) (bs : List UInt8) (g0 g1 : Nat) (x : Value) (w : World) (h : Has w a (bytesV bs)) (hl : bs.length = n) (hn : n ≤ c) (hc : c ≤ maxLen) (n0 : ¬ g0 = g1)
    (c0 : w.cell? ⟨g0, 0, none⟩ = some (.slice a n c)) (c1 : w.cell? ⟨g1, 0, none⟩ = some x) (f1 : w.frozen? ⟨g1, 0, none⟩ = false) :
    Calls Try.prog 69 #[.pointer (some ⟨g0, 0, none⟩), .pointer (some ⟨g1, 0, none⟩)] w fun e w' => (e = .returned (.tuple #[]) ∧ TabR w g1 bs true w') ∨ (e = .panicked thrown ∧ TabR w g1 bs false w') := by
  have HH := Lib.hid h
  have HL := Lib.hid hl
  have l0 := cell_lt c0
  have l1 := cell_lt c1
  simp only at l0 l1
  clear h hl
  have hAC := allocC
  have hAF := allocF
  go_enter Try.func69, Try.ntmps69
  go_wp2_with (first | (go_at_call 56; refine (of_any _ _ _ _).mono ?_; rintro e w1 ⟨rfl, hb1⟩; have h1c := bc hb1; have h1f := bf hb1; have h1z := hb1.size; try simp only [World.size_alloc, World.size_drew] at h1z))
  refine (take_any _ _ _ bs _ (HH.out.below hb1) HL.out hn hc).mono ?_
  rintro e w2 ⟨(⟨g, rfl, hown, hf⟩ | ⟨rfl, hf⟩), hb2⟩
  · have HO := Lib.hid hown
    have h2c := bc hb2
    have h2f := bf hb2
    have h2z := hb2.size
    have HB := Lib.hid (bthen hb1 hb2)
    clear hown
    go_wp2
    go_end0
    exact .inl ⟨rfl, .inl ⟨rfl, hf, w2, g, HB.out, owns_mono HO.out hb1.size, rfl⟩⟩
  · have HB := Lib.hid (bthen hb1 hb2)
    go_wp2
    exact ⟨rfl, .inr ⟨rfl, .inr ⟨rfl, hf, HB.out⟩⟩⟩

theorem enter_tables1 (args : Array Value) (w : World) : (callFunc 69 args).run Try.prog w = .ok (.enter 69 args) w := by kernel_rfl
set_option maxRecDepth 100000 in
set_option maxHeartbeats 800000 in
theorem tables_any (a : Option Addr) (n c : Nat) (bs : List UInt8) (w : World) (h : Has w a (bytesV bs)) (hl : bs.length = n) (hn : n ≤ c) (hc : c ≤ maxLen) :
    Calls Try.prog 53 #[.slice a n c] w fun e w' => ((isFont bs ∧ ∃ g, e = .returned (.tuple #[.slice (some ⟨g, 0, none⟩) (cntOf bs) (cntOf bs), .int .i64 0]) ∧ w'.ownsRow w.heap.size 93 3 (.slice (some ⟨g, 0, none⟩) (cntOf bs) (cntOf bs)) (cntOf bs) (tabsV bs (cntOf bs))) ∨ (¬ isFont bs ∧ e = .returned (.tuple #[.slice none 0 0, .int .i64 2]))) ∧ Below w.heap.size w w' := by
  have HH := Lib.hid h
  have HL := Lib.hid hl
  clear h hl
  have hAC := allocC
  have hAF := allocF
  go_enter Try.func53, Try.ntmps53
  go_wp2_with fail
  obtain ⟨W, hW⟩ : ∃ W, W = (w.alloc (Obj.cells #[.slice a n c] 22)).alloc (Obj.cells #[.slice none 0 0] 88) := ⟨_, rfl⟩
  have hb : Below w.heap.size w W := by rw [hW]; exact (by repeat (first | exact brefl _ | assumption | refine balloc ?_ _ | refine bdrew ?_ _ | refine bdrew1 ?_ | refine bthen ?_ (by assumption) | refine Below.trans ?_ (by assumption) | (refine bset ?_ (by first | (simp; done) | (simp; omega)) _)))
  have hz : W.heap.size = w.heap.size + 2 := by rw [hW]; simp
  have c0 : W.cell? ⟨w.heap.size, 0, none⟩ = some (.slice a n c) := by rw [hW]; simp [hAC]
  have c1 : W.cell? ⟨w.heap.size + 1, 0, none⟩ = some (.slice none 0 0) := by rw [hW]; simp [hAC]
  have f1 : W.frozen? ⟨w.heap.size + 1, 0, none⟩ = false := by rw [hW]; simp [hAF]
  rw [← hW]
  clear hW
  refine (try_any _ _ _ (TabR W (w.heap.size + 1) bs) (enter_tables1 _)
    (tables1_any a n c bs _ _ _ _ (HH.out.below hb) HL.out hn hc (by omega) c0 c1 f1)).mono ?_
  have HB := Lib.hid hb
  clear c0 hb
  rintro e w2 ⟨ok, rfl, (⟨rfl, hf, W1, g, hb1, hown, rfl⟩ | ⟨rfl, hf, hb2⟩)⟩
  · have e2 := (hb1.cell (p := ⟨w.heap.size + 1, 0, none⟩) (by rw [hz]; simp)).trans c1
    have f2 := (hb1.frozen (p := ⟨w.heap.size + 1, 0, none⟩) (by rw [hz]; simp)).trans f1
    have HO := Lib.hid hown
    have HB1 := Lib.hid (HB.out.trans (hb1.mono HB.out.size))
    have hgz := (hown.lt g (by simp [Value.ownBlock])).1
    clear c1 f1 hown hb1
    go_wp2
    refine bodyPost_ret (v := .tuple #[.slice (some ⟨g, 0, none⟩) (cntOf bs) (cntOf bs), .int .i64 0]) (by simp [results, Try.results53, go_sem, e2, f2]) rfl ?_
    refine ⟨.inl ⟨hf, g, rfl, ?_⟩, ?_⟩
    · exact owns_mono (ownsRow_setCell_below (ownsRow_setCell_below HO.out (by simp; omega) _) (by simp; omega) _) (by omega)
    · exact bset (bset HB1.out (by simp) _) (by simp) _
  · have e2 := (hb2.cell (p := ⟨w.heap.size + 1, 0, none⟩) (by rw [hz]; simp)).trans c1
    have f2 := (hb2.frozen (p := ⟨w.heap.size + 1, 0, none⟩) (by rw [hz]; simp)).trans f1
    have HB1 := Lib.hid (HB.out.trans (hb2.mono HB.out.size))
    clear c1 f1 hb2
    go_wp2
    refine bodyPost_ret (v := .tuple #[.slice none 0 0, .int .i64 2]) (by simp [results, Try.results53, go_sem, e2, f2]) rfl ?_
    exact ⟨.inr ⟨hf, rfl⟩, bset HB1.out (by simp) _⟩

set_option maxRecDepth 100000 in
set_option maxHeartbeats 800000 in
theorem find1_any (s t : ByteArray) (x y : Int) (g : Nat) (w : World) (hc : w.cell? ⟨g, 0, none⟩ = some (.string t)) :
    Calls Try.prog 55 #[.agg #[.string s, .int .i64 x, .int .i64 y], .pointer (some ⟨g, 0, none⟩)] w fun e w' => e = .returned (.bool (s.toList == t.toList)) ∧ Below w.heap.size w w' := by
  have hg := cell_lt hc
  simp only at hg
  have hAC := allocC
  go_enter Try.func55, Try.ntmps55
  go_wp2
  go_ret
  exact ⟨rfl, (by repeat (first | exact brefl _ | assumption | refine balloc ?_ _ | refine bdrew ?_ _ | refine bdrew1 ?_ | refine bthen ?_ (by assumption) | refine Below.trans ?_ (by assumption) | (refine bset ?_ (by first | (simp; done) | (simp; omega)) _)))⟩

theorem find1_is (s t : ByteArray) (x y : Int) (g : Nat) (b : Bool) (hb : (s.toList == t.toList) = b) (w : World) (hc : w.cell? ⟨g, 0, none⟩ = some (.string t)) :
    Calls Try.prog 55 #[.agg #[.string s, .int .i64 x, .int .i64 y], .pointer (some ⟨g, 0, none⟩)] w fun e w' => e = .returned (.bool b) ∧ Below w.heap.size w w' := by
  subst hb; exact find1_any s t x y g w hc

def IdxRel (W : World) (bs : List UInt8) (t : List UInt8) (i : Value) (wr : World) : Prop := ∃ k, k ≤ cntOf bs ∧ i = .int .i64 (k : Nat) ∧ (∀ j, j < k → tagAt bs j ≠ t) ∧ Below W.heap.size W wr
theorem tabsV_get (bs : List UInt8) (k i : Nat) (h : i < k) : (tabsV bs k)[i * 3]? = some (.string (str (tagAt bs i))) ∧ (tabsV bs k)[i * 3 + 1]? = some (.int .i64 (atAt bs i)) ∧ (tabsV bs k)[i * 3 + 2]? = some (.int .i64 (lenAt bs i)) := by
  induction k with
  | zero => omega
  | succ k ih =>
    rw [tabsV_succ]
    rcases Nat.lt_or_ge i k with g | g
    · rw [List.getElem?_append_left (by rw [tabsV_length]; omega), List.getElem?_append_left (by rw [tabsV_length]; omega), List.getElem?_append_left (by rw [tabsV_length]; omega)]; exact ih g
    · obtain rfl : i = k := by omega
      rw [List.getElem?_append_right (by rw [tabsV_length]; omega), List.getElem?_append_right (by rw [tabsV_length]; omega), List.getElem?_append_right (by rw [tabsV_length]; omega), tabsV_length, Nat.sub_self, show i * 3 + 1 - i * 3 = 1 by omega, show i * 3 + 2 - i * 3 = 2 by omega]; exact ⟨rfl, rfl, rfl⟩
set_option maxRecDepth 100000 in
set_option maxHeartbeats 800000 in
theorem index_any (bs : List UInt8) (g gt : Nat) (t : ByteArray) (base : Nat) (w : World) (hown : w.ownsRow base 93 3 (.slice (some ⟨g, 0, none⟩) (cntOf bs) (cntOf bs)) (cntOf bs) (tabsV bs (cntOf bs))) (ht : w.cell? ⟨gt, 0, none⟩ = some (.string t)) :
    Calls Try.prog 54 #[.slice (some ⟨g, 0, none⟩) (cntOf bs) (cntOf bs), .func (.func 55) #[] #[.pointer (some ⟨gt, 0, none⟩)]] w fun e w' => ((∃ i, i < cntOf bs ∧ tagAt bs i = t.toList ∧ e = .returned (.int .i64 (i : Nat))) ∨ ((∀ i, i < cntOf bs → tagAt bs i ≠ t.toList) ∧ e = .returned (.int .i64 (-1)))) ∧ Below w.heap.size w w' := by
  have HO := Lib.hid hown
  have hgt := cell_lt ht
  simp only at hgt
  have HT := Lib.hid ht
  have hcn : cntOf bs ≤ 65535 := num2_lt bs 4
  have hgl := (hown.lt g (by simp [Value.ownBlock])).2
  clear hown ht
  go_enter Try.func54, Try.ntmps54
  go_wp2_with fail
  go_loopw [8] (IdxRel w bs t.toList) (fun i _ => cntOf bs - (intOf i).toNat)
  case atStart => exact ⟨0, Nat.zero_le _, rfl, fun j h => by omega, Below.refl _ _⟩
  case round =>
    obtain ⟨k, hk, rfl, hno, hbr⟩ := hrel
    have HN := Lib.hid hno
    have hzr := hbr.size
    have HB := Lib.hid hbr
    clear hno
    by_cases hlt : k < cntOf bs
    · obtain ⟨r0, r1, r2⟩ := tabsV_get bs _ k hlt
      have y0 := (hbr.cell (p := ⟨g, k * 3, none⟩) hgl).trans ((HO.out.cellAt (k * 3) (by omega)).trans r0)
      have y1 := (hbr.cell (p := ⟨g, k * 3 + 1, none⟩) hgl).trans ((HO.out.cellAt (k * 3 + 1) (by omega)).trans r1)
      have y2 := (hbr.cell (p := ⟨g, k * 3 + 2, none⟩) hgl).trans ((HO.out.cellAt (k * 3 + 2) (by omega)).trans r2)
      have HTR := Lib.hid ((hbr.cell (p := ⟨gt, 0, none⟩) hgt).trans HT.out)
      have hA4 := num4_lt bs (12 + 16 * k + 8)
      clear hbr r0 r1 r2
      by_cases he : tagAt bs k = t.toList
      · have hE := Lib.hid (fun W hw => find1_is (str (tagAt bs k)) t (atAt bs k : Nat) (lenAt bs k : Nat) gt true (by rw [str_toList, he]; exact beq_self_eq_true _) W hw)
        have HE := Lib.hid he
        clear he
        go_wp2_with (first | (go_at_call 55; refine (hE.out _ HTR.out).mono ?_; rintro e w1 ⟨rfl, hb1⟩; have h1c := bc hb1; have h1f := bf hb1; have h1z := hb1.size; try simp only [World.size_alloc, World.size_drew] at h1z))
        go_ret
        exact ⟨.inl ⟨k, hlt, HE.out, rfl⟩, HB.out.trans (hb1.mono hzr)⟩
      · have hE := Lib.hid (fun W hw => find1_is (str (tagAt bs k)) t (atAt bs k : Nat) (lenAt bs k : Nat) gt false (by rw [str_toList]; simpa using he) W hw)
        have HE := Lib.hid he
        clear he
        go_wp2_with (first | (go_at_call 55; refine (hE.out _ HTR.out).mono ?_; rintro e w1 ⟨rfl, hb1⟩; have h1c := bc hb1; have h1f := bf hb1; have h1z := hb1.size; try simp only [World.size_alloc, World.size_drew] at h1z))
        go_roundw
        case rel => exact ⟨k + 1, by omega, by go_num, fun j hj => (by
          by_cases hjk : j < k
          · exact HN.out j hjk
          · obtain rfl : j = k := (by omega)
            exact HE.out), HB.out.trans (hb1.mono hzr)⟩
        case measure => simp [intOf]; omega
    · have e : cntOf bs = k := by omega
      clear hbr
      go_wp2
      go_ret
      exact ⟨.inr ⟨fun i hi => HN.out i (by omega), rfl⟩, HB.out⟩
set_option maxRecDepth 100000 in
set_option maxHeartbeats 800000 in
theorem index_none (gt : Nat) (w : World) :
    Calls Try.prog 54 #[.slice none 0 0, .func (.func 55) #[] #[.pointer (some ⟨gt, 0, none⟩)]] w fun e w' => e = .returned (.int .i64 (-1)) ∧ Below w.heap.size w w' := by
  go_enter Try.func54, Try.ntmps54
  go_wp2_with fail
  go_loopw [8] (fun i wr => i = .int .i64 0 ∧ Below w.heap.size w wr) (fun i _ => 0)
  case atStart => exact ⟨rfl, Below.refl _ _⟩
  case round =>
    obtain ⟨rfl, hbr⟩ := hrel
    have HB := Lib.hid hbr
    clear hbr
    go_wp2
    go_ret
    exact ⟨rfl, HB.out⟩

def tagFound (bs t : List UInt8) (i : Nat) : Prop := isFont bs ∧ i < cntOf bs ∧ tagAt bs i = t
set_option maxRecDepth 100000 in
set_option maxHeartbeats 800000 in
theorem find_any (a : Option Addr) (n c : Nat) (bs : List UInt8) (t : ByteArray) (w : World) (h : Has w a (bytesV bs)) (hl : bs.length = n) (hn : n ≤ c) (hc : c ≤ maxLen) :
    Calls Try.prog 43 #[.slice a n c, .string t] w fun e w' => ((∃ i, tagFound bs t.toList i ∧ e = .returned (.tuple #[.agg #[.slice (adv a c (atAt bs i)) (lenAt bs i) (c - atAt bs i)], .bool true])) ∨ ((∀ i, ¬ tagFound bs t.toList i) ∧ e = .returned (.tuple #[.agg #[.slice none 0 0], .bool false]))) ∧ Below w.heap.size w w' := by
  have HH := Lib.hid h
  have HL := Lib.hid hl
  clear h hl
  have hAC := allocC
  have hAF := allocF
  go_enter Try.func43, Try.ntmps43
  go_wp2_with fail
  obtain ⟨W, hW⟩ : ∃ W, W = (w.alloc (Obj.cells #[.string t] 9)).alloc (Obj.cells #[.slice none 0 0] 75) := ⟨_, rfl⟩
  have hb : Below w.heap.size w W := by rw [hW]; exact (by repeat (first | exact brefl _ | assumption | refine balloc ?_ _ | refine bdrew ?_ _ | refine bdrew1 ?_ | refine bthen ?_ (by assumption) | refine Below.trans ?_ (by assumption) | (refine bset ?_ (by first | (simp; done) | (simp; omega)) _)))
  have hz : W.heap.size = w.heap.size + 2 := by rw [hW]; simp
  have c0 : W.cell? ⟨w.heap.size, 0, none⟩ = some (.string t) := by rw [hW]; simp [hAC]
  have c1 : W.cell? ⟨w.heap.size + 1, 0, none⟩ = some (.slice none 0 0) := by rw [hW]; simp [hAC]
  have f1 : W.frozen? ⟨w.heap.size + 1, 0, none⟩ = false := by rw [hW]; simp [hAF]
  rw [← hW]
  clear hW
  refine (tables_any a n c bs W (HH.out.below hb) HL.out hn hc).mono ?_
  rintro e w2 ⟨(⟨hf, g, rfl, hown⟩ | ⟨hf, rfl⟩), hb2⟩
  · have HO := Lib.hid hown
    have c02 := (hb2.cell (p := ⟨w.heap.size, 0, none⟩) (by rw [hz]; simp)).trans c0
    have HB2 := Lib.hid (hb.trans (hb2.mono hb.size))
    have e1 := (hb2.cell (p := ⟨w.heap.size + 1, 0, none⟩) (by rw [hz]; simp)).trans c1
    have g1 := (hb2.frozen (p := ⟨w.heap.size + 1, 0, none⟩) (by rw [hz]; simp)).trans f1
    have hz2 := hb2.size
    have HC := Lib.hid c02
    clear hown c0 c1 f1 hb hb2 c02
    have hI := index_any bs g w.heap.size t _ w2 HO.out HC.out
    have HI := Lib.hid hI
    clear hI
    go_wp2_with (go_at_call 54; refine HI.out.mono ?_)
    rintro e w3 ⟨(⟨i, hi, hti, rfl⟩ | ⟨hno, rfl⟩), hb3⟩
    · have e3 := (hb3.cell (p := ⟨w.heap.size + 1, 0, none⟩) (by show w.heap.size + 1 < w2.heap.size; omega)).trans e1
      have g3 := (hb3.frozen (p := ⟨w.heap.size + 1, 0, none⟩) (by show w.heap.size + 1 < w2.heap.size; omega)).trans g1
      have HB3 := Lib.hid (HB2.out.trans (hb3.mono (by omega)))
      have hgl := (HO.out.lt g (by simp [Value.ownBlock])).2
      obtain ⟨r0, r1, r2⟩ := tabsV_get bs _ i hi
      have y1 := (hb3.cell (p := ⟨g, i * 3 + 1, none⟩) hgl).trans ((HO.out.cellAt (i * 3 + 1) (by omega)).trans r1)
      have y2 := (hb3.cell (p := ⟨g, i * 3 + 2, none⟩) hgl).trans ((HO.out.cellAt (i * 3 + 2) (by omega)).trans r2)
      have hfit := (hf.2 i hi).2
      rw [HL.out] at hfit
      have hcg := fun V => cut_ok a n c (atAt bs i) (lenAt bs i) V hfit hn hc
      have HCG := Lib.hid hcg
      have hgne : ¬ g = w.heap.size + 1 := by have := (HO.out.lt g (by simp [Value.ownBlock])).1; omega
      have hgl3 : g < w3.heap.size := Nat.lt_of_lt_of_le hgl hb3.size
      have h13 : w.heap.size + 1 < w3.heap.size := by have := hb3.size; omega
      have h03 : w.heap.size ≤ w3.heap.size := by omega
      clear hb3 e1 g1 r0 r1 r2 hcg
      go_wp2_with fail
      refine wp_region_tree (.step 0 (.step 2 (.step 3 (.step 4 (.step 5 (.step 6 (.step 7 (.step 8 (.step 9 (.step 10 (.step 11 (.step 1 (.step 12 (.step 13 (.step 14 .nil))))))))))))))) (by kernel_rfl) (by kernel_rfl) (by kernel_rfl) (by kernel_rfl) (by intro _ _ d_ _ _ h_; cases d_ <;> first | exact h_ | (dsimp +zetaDelta only at h_ ⊢; exact h_)) (fun w' => ∃ p : Wld w3 [(w.heap.size+1)], w' = p.val) (wld_start _ _) ?_
      have hG_ := @wldC1 w3 (w.heap.size+1)
      (refine tree_quiet (by simp only [List.getElem?_toArray, List.getElem?_cons_succ, List.getElem?_cons_zero]; rfl) (by rfl) (by rfl) (fun K_ hK_ => ?_); go_big_quiet_op; refine hK_ _ ?_; clear hK_ K_)
      (refine tree_quiet (by simp only [List.getElem?_toArray, List.getElem?_cons_succ, List.getElem?_cons_zero]; rfl) (by rfl) (by rfl) (fun K_ hK_ => ?_); go_big_quiet_op; refine hK_ _ ?_; clear hK_ K_)
      (refine tree_quiet (by simp only [List.getElem?_toArray, List.getElem?_cons_succ, List.getElem?_cons_zero]; rfl) (by rfl) (by rfl) (fun K_ hK_ => ?_); go_big_quiet_op; refine hK_ _ ?_; clear hK_ K_)
      (refine tree_quiet (by simp only [List.getElem?_toArray, List.getElem?_cons_succ, List.getElem?_cons_zero]; rfl) (by rfl) (by rfl) (fun K_ hK_ => ?_); go_big_quiet_op; refine hK_ _ ?_; clear hK_ K_)
      (refine tree_quiet (by simp only [List.getElem?_toArray, List.getElem?_cons_succ, List.getElem?_cons_zero]; rfl) (by rfl) (by rfl) (fun K_ hK_ => ?_); go_big_quiet_op; refine hK_ _ ?_; clear hK_ K_)
      (refine tree_quiet (by simp only [List.getElem?_toArray, List.getElem?_cons_succ, List.getElem?_cons_zero]; rfl) (by rfl) (by rfl) (fun K_ hK_ => ?_); go_big_quiet_op; refine hK_ _ ?_; clear hK_ K_)
      (refine tree_quiet (by simp only [List.getElem?_toArray, List.getElem?_cons_succ, List.getElem?_cons_zero]; rfl) (by rfl) (by rfl) (fun K_ hK_ => ?_); go_big_quiet_op; refine hK_ _ ?_; clear hK_ K_)
      (refine tree_quiet (by simp only [List.getElem?_toArray, List.getElem?_cons_succ, List.getElem?_cons_zero]; rfl) (by rfl) (by rfl) (fun K_ hK_ => ?_); go_big_quiet_op; refine hK_ _ ?_; clear hK_ K_)
      (refine tree_quiet (by simp only [List.getElem?_toArray, List.getElem?_cons_succ, List.getElem?_cons_zero]; rfl) (by rfl) (by rfl) (fun K_ hK_ => ?_); go_big_quiet_op; refine hK_ _ ?_; clear hK_ K_)
      (refine tree_quiet (by simp only [List.getElem?_toArray, List.getElem?_cons_succ, List.getElem?_cons_zero]; rfl) (by rfl) (by rfl) (fun K_ hK_ => ?_); go_big_quiet_op; refine hK_ _ ?_; clear hK_ K_)
      (refine tree_quiet (by simp only [List.getElem?_toArray, List.getElem?_cons_succ, List.getElem?_cons_zero]; rfl) (by rfl) (by rfl) (fun K_ hK_ => ?_); go_big_quiet_op; refine hK_ _ ?_; clear hK_ K_)
      (refine tree_run (by simp only [List.getElem?_toArray, List.getElem?_cons_succ, List.getElem?_cons_zero]; rfl) (by rfl) (by rfl) (fun K_ hK_ => ?_); have HK_ := Lib.hid hK_; clear hK_; go_wp2_with (first | (go_at_call 56; refine (of_any _ _ _ _).mono ?_; rintro e w4 ⟨rfl, hb4⟩; have h4c := bc hb4; have h4f := bf hb4; have h4z := hb4.size; try simp only [World.size_alloc, World.size_drew] at h4z) | (go_at_call 51; (with_reducible refine (HCG.out _).mono ?_); rintro e w5 ⟨rfl, hb5⟩; have h5c := bc hb5; have h5f := bf hb5; have h5z := hb5.size; try simp only [World.size_alloc, World.size_drew] at h5z)); refine HK_.out _ _ (wld_of (by repeat (first | exact same_below (brefl _) | exact same_realloc (by simp) | exact same_below (bdrew1 (brefl _)) | assumption | refine same_drew ?_ | refine same_then ?_ (by assumption) | refine same_alloc ?_ _ | (refine same_set ?_ (by first | (left; simp; done) | (right; simp; done) | (right; simp; omega)) _)))) ?_; clear HK_)
      (refine tree_run (by simp only [List.getElem?_toArray, List.getElem?_cons_succ, List.getElem?_cons_zero]; rfl) (by rfl) (by rfl) (fun K_ hK_ => ?_); have HK_ := Lib.hid hK_; clear hK_; go_wp2_with (first | (go_at_call 56; refine (of_any _ _ _ _).mono ?_; rintro e w4 ⟨rfl, hb4⟩; have h4c := bc hb4; have h4f := bf hb4; have h4z := hb4.size; try simp only [World.size_alloc, World.size_drew] at h4z) | (go_at_call 51; (with_reducible refine (HCG.out _).mono ?_); rintro e w5 ⟨rfl, hb5⟩; have h5c := bc hb5; have h5f := bf hb5; have h5z := hb5.size; try simp only [World.size_alloc, World.size_drew] at h5z)); refine HK_.out _ _ (wld_of (by repeat (first | exact same_below (brefl _) | exact same_realloc (by simp) | exact same_below (bdrew1 (brefl _)) | assumption | refine same_drew ?_ | refine same_then ?_ (by assumption) | refine same_alloc ?_ _ | (refine same_set ?_ (by first | (left; simp; done) | (right; simp; done) | (right; simp; omega)) _)))) ?_; clear HK_)
      (refine tree_run (by simp only [List.getElem?_toArray, List.getElem?_cons_succ, List.getElem?_cons_zero]; rfl) (by rfl) (by rfl) (fun K_ hK_ => ?_); have HK_ := Lib.hid hK_; clear hK_; go_wp2_with (first | (go_at_call 56; refine (of_any _ _ _ _).mono ?_; rintro e w4 ⟨rfl, hb4⟩; have h4c := bc hb4; have h4f := bf hb4; have h4z := hb4.size; try simp only [World.size_alloc, World.size_drew] at h4z) | (go_at_call 51; (with_reducible refine (HCG.out _).mono ?_); rintro e w5 ⟨rfl, hb5⟩; have h5c := bc hb5; have h5f := bf hb5; have h5z := hb5.size; try simp only [World.size_alloc, World.size_drew] at h5z)); refine HK_.out _ _ (wld_of (by repeat (first | exact same_below (brefl _) | exact same_realloc (by simp) | exact same_below (bdrew1 (brefl _)) | assumption | refine same_drew ?_ | refine same_then ?_ (by assumption) | refine same_alloc ?_ _ | (refine same_set ?_ (by first | (left; simp; done) | (right; simp; done) | (right; simp; omega)) _)))) ?_; clear HK_)
      (refine tree_quiet (by simp only [List.getElem?_toArray, List.getElem?_cons_succ, List.getElem?_cons_zero]; rfl) (by rfl) (by rfl) (fun K_ hK_ => ?_); go_big_quiet_op; refine hK_ _ ?_; clear hK_ K_)
      refine tree_nil ?_
      clear hG_
      go_wp2
      have hbb : Below w3.heap.size w3 w5 := (by repeat (first | exact brefl _ | assumption | refine balloc ?_ _ | refine bdrew ?_ _ | refine bdrew1 ?_ | refine bthen ?_ (by assumption) | refine Below.trans ?_ (by assumption) | (refine bset ?_ (by first | (simp; done) | (simp; omega)) _)))
      have e5 := (hbb.cell (p := ⟨w.heap.size + 1, 0, none⟩) h13).trans e3
      have g5 := (hbb.frozen (p := ⟨w.heap.size + 1, 0, none⟩) h13).trans g3
      refine bodyPost_ret (v := .tuple #[.agg #[.slice (adv a c (atAt bs i)) (lenAt bs i) (c - atAt bs i)], .bool true]) (by simp [results, Try.results43, go_sem, e5, g5]) rfl ?_
      exact ⟨.inl ⟨i, ⟨hf, hi, hti⟩, rfl⟩, bset (HB3.out.trans (hbb.mono (by omega))) (by simp) _⟩
    · have e3 := (hb3.cell (p := ⟨w.heap.size + 1, 0, none⟩) (by show w.heap.size + 1 < w2.heap.size; omega)).trans e1
      have g3 := (hb3.frozen (p := ⟨w.heap.size + 1, 0, none⟩) (by show w.heap.size + 1 < w2.heap.size; omega)).trans g1
      have HB3 := Lib.hid (HB2.out.trans (hb3.mono (by omega)))
      clear hb3 e1 g1
      go_wp2
      refine bodyPost_ret (v := .tuple #[.agg #[.slice none 0 0], .bool false]) (by simp [results, Try.results43, go_sem, e3, g3]) rfl ?_
      exact ⟨.inr ⟨fun i hi => hno i hi.2.1 hi.2.2, rfl⟩, bset HB3.out (by simp) _⟩
  · have HB2 := Lib.hid (hb.trans (hb2.mono hb.size))
    have e1 := (hb2.cell (p := ⟨w.heap.size + 1, 0, none⟩) (by rw [hz]; simp)).trans c1
    have g1 := (hb2.frozen (p := ⟨w.heap.size + 1, 0, none⟩) (by rw [hz]; simp)).trans f1
    have hz2 := hb2.size
    clear c0 c1 f1 hb hb2
    go_wp2_with (first | (go_at_call 54; refine (index_none _ _).mono ?_; rintro e w3 ⟨rfl, hb3⟩; have h3c := bc hb3; have h3f := bf hb3; have h3z := hb3.size; try simp only [World.size_alloc, World.size_drew] at h3z))
    have e3 := (hb3.cell (p := ⟨w.heap.size + 1, 0, none⟩) (by show w.heap.size + 1 < w2.heap.size; omega)).trans e1
    have g3 := (hb3.frozen (p := ⟨w.heap.size + 1, 0, none⟩) (by show w.heap.size + 1 < w2.heap.size; omega)).trans g1
    refine bodyPost_ret (v := .tuple #[.agg #[.slice none 0 0], .bool false]) (by simp [results, Try.results43, go_sem, e3, g3]) rfl ?_
    exact ⟨.inr ⟨fun i hi => hf hi.1, rfl⟩, bset (HB2.out.trans (hb3.mono (by omega))) (by simp) _⟩
end Go.Proofs.Ythacabmnnpibkaa
