
/- The walk of SfntOrder, but for its head `speaks`. -/
import Derived.Test.YtginpjkojfdcoaaMake
import Derived.Test.YtginpjkojfdcoaaPerm
import Derived.Test.YtginpjkojfdcoaaBig
import Derived.Test.YtginpjkojfdcoaaTake
namespace Go.Proofs.Ytginpjkojfdcoaa
open Go.RowKit

open Classical in
/-- What Make answers of parts that are in order. -/
noncomputable def madeOf (rs : List PartV) : List UInt8 := if fine rs then font rs else []
theorem made_same {rs qs ps : List PartV} (h1 : rs.Perm ps) (h2 : qs.Perm ps.reverse) (r1 : Rises rs) (r2 : Rises qs) : madeOf qs = madeOf rs := by
  have hp : rs.Perm qs := h1.trans ((List.reverse_perm ps).symm.trans h2.symm)
  have ho := orders hp r1 r2
  unfold madeOf
  by_cases hf : fine rs
  · rw [if_pos hf, if_pos (ho.1.1 hf), ho.2 hf]
  · rw [if_neg hf, if_neg (fun h => hf (ho.1.2 h))]
theorem make_str (a : Option Addr) (n c : Nat) (ps : List PartV) (w : World) (h : Has w a (encAll ps)) (hl : ps.length = n) (hn : n ≤ c) (hc : c ≤ maxLen) (hA : a = none → n = 0) (hn2 : n ≤ 1000) (hok : ∀ p ∈ ps, p.ok w) :
    Calls Try.prog 13 #[.slice a n c] w fun e w' => ∃ (rs : List PartV) (a' : Option Addr) (m c' : Nat), rs.Perm ps ∧ Rises rs ∧ (madeOf rs).length = m ∧ e = .returned (.slice a' m c') ∧ w'.ownsRow w.heap.size 5 1 (.slice a' m c') m (bytesV (madeOf rs)) ∧ m ≤ c' ∧ c' ≤ maxLen ∧ (a' = none → c' = 0) ∧ Below w.heap.size w w' := by
  refine (make_any a n c ps w h hl hn hc hA hn2 hok).mono ?_
  rintro e w' ⟨rs, hp, hs, (⟨hf, a', c', rfl, ho, k1, k2, k3⟩ | ⟨hf, rfl⟩), hbb⟩
  · have e1 : madeOf rs = font rs := by unfold madeOf; rw [if_pos hf]
    exact ⟨rs, a', _, c', hp, rises_of hs, by rw [e1], rfl, by rw [e1]; exact ho, k1, k2, k3, hbb⟩
  · have e1 : madeOf rs = [] := by unfold madeOf; rw [if_neg hf]
    exact ⟨rs, none, 0, 0, hp, rises_of hs, by rw [e1]; rfl, rfl, by rw [e1]; exact World.ownsRow_nil _ _ _ _, Nat.le_refl _, Nat.zero_le _, fun _ => rfl, hbb⟩

def BackRel (W : World) (ps : List PartV) (n : Nat) (back i : Value) (wr : World) : Prop :=
  ∃ k a c, k ≤ n ∧ i = .int .i64 (k : Nat) ∧ back = .slice a k c ∧ wr.ownsRow W.heap.size 27 2 back k (encAll (ps.reverse.take k)) ∧ k ≤ c ∧ c ≤ maxLen ∧ (a = none → c = 0) ∧ Below W.heap.size W wr

set_option maxRecDepth 100000 in
set_option maxHeartbeats 1600000 in
theorem sfntOrder_walk (hspk : ∀ w, Calls Try.prog 11 #[] w fun e w' => e = .returned (.bool true) ∧ Below w.heap.size w w')
    (a : Option Addr) (n c : Nat) (ps : List PartV) (w : World) (h : Has w a (encAll ps)) (hl : ps.length = n) (hn : n ≤ c) (hc : c ≤ maxLen) (hA : a = none → n = 0) (hm : ∀ p ∈ ps, p.n ≤ maxLen)
    (hok : ∀ p ∈ ps, Has w p.a (bytesV p.bs) ∧ p.bs.length = p.n ∧ p.n ≤ p.c ∧ p.c ≤ maxLen ∧ (p.a = none → p.c = 0)) :
    Calls Try.prog 3 #[.slice a n c] w fun e w' => e = .returned (.bool true) ∧ Below w.heap.size w w' := by
  have HH := Lib.hid h
  have HL := Lib.hid hl
  have HK := Lib.hid hok
  have HM := Lib.hid hm
  have H0 := Lib.hid hA
  clear h hl hok hA hm
  go_enter Try.func3, Try.ntmps3
  go_wp2_with (first
    | (go_at_call 11; refine (hspk _).mono ?_; rintro e w1 ⟨rfl, hb1⟩; have h1c := bc hb1; have h1f := bf hb1; have h1z := hb1.size; try simp only [World.size_alloc, World.size_drew] at h1z)
    | (go_at_call 12; refine (big_any _ _ _ ps _ (HH.out.below (by repeat (first | exact brefl _ | assumption | refine balloc ?_ _ | refine bdrew ?_ _ | refine bdrew1 ?_ | refine bthen ?_ (by assumption) | refine Below.trans ?_ (by assumption) | (refine bset ?_ (by first | (simp; done) | (simp; omega)) _)))) HL.out hn hc HM.out).mono ?_; rintro e w2 ⟨B, rfl, hB, hb2⟩; have HB := Lib.hid hB; have h2z := hb2.size; clear hB))
  · go_ret
    exact ⟨rfl, (by repeat (first | exact brefl _ | assumption | refine balloc ?_ _ | refine bdrew ?_ _ | refine bdrew1 ?_ | refine bthen ?_ (by assumption) | refine Below.trans ?_ (by assumption) | (refine bset ?_ (by first | (simp; done) | (simp; omega)) _)))⟩
  · have hBf : B = false := by
      first | assumption | (rename_i hx; simpa using hx)
    subst hBf
    obtain ⟨hn30, hsm⟩ := HB.out rfl
    have HSM := Lib.hid hsm
    have HBW := Lib.hid (show Below w.heap.size w w2 from (by repeat (first | exact brefl _ | assumption | refine balloc ?_ _ | refine bdrew ?_ _ | refine bdrew1 ?_ | refine bthen ?_ (by assumption) | refine Below.trans ?_ (by assumption) | (refine bset ?_ (by first | (simp; done) | (simp; omega)) _))))
    clear hsm h1c h1f hb1 hb2
    go_loopw [3, 11] (BackRel w2 ps n) (fun _ i _ => n - (intOf i).toNat)
    case atStart => exact ⟨0, none, 0, Nat.zero_le _, rfl, rfl, by simpa [encAll] using World.ownsRow_nil _ _ _ _, Nat.le_refl _, Nat.zero_le _, fun _ => rfl, Below.refl _ _⟩
    case round =>
      obtain ⟨k, a5, c5, hk, rfl, rfl, hox, k51, k52, k53, hbr⟩ := hrel
      have HX := Lib.hid hox
      have HA5 := Lib.hid k53
      have hzr := hbr.size
      have HBR := Lib.hid hbr
      clear hox k53
      by_cases hlt : k < n
      · obtain ⟨j, hj⟩ : ∃ j, n = k + 1 + j := ⟨n - 1 - k, by omega⟩
        obtain ⟨p, hp⟩ : ∃ p, ps[j]? = some p := ⟨_, List.getElem?_eq_getElem (by rw [HL.out]; omega)⟩
        obtain ⟨g, o, rfl, hg, x0, x1⟩ := part_at HH.out hp
        have y0 := ((hbr.mono HBW.out.size).cell (p := ⟨g, o + j * 2, none⟩) hg).trans ((HBW.out.cell (p := ⟨g, o + j * 2, none⟩) hg).trans x0)
        have y1 := ((hbr.mono HBW.out.size).cell (p := ⟨g, o + j * 2 + 1, none⟩) hg).trans ((HBW.out.cell (p := ⟨g, o + j * 2 + 1, none⟩) hg).trans x1)
        have hsub : (n : Int) - 1 - (k : Int) = (j : Int) := by omega
        have hrev : ps.reverse[k]? = some p := by
          rw [List.getElem?_reverse (by rw [HL.out]; exact hlt), HL.out, show n - 1 - k = j by omega]
          exact hp
        have HJ := Lib.hid hj
        have hEE := Lib.hid (show encAll (ps.reverse.take (k + 1)) = encAll (ps.reverse.take k) ++ p.enc by rw [take_snoc hrev]; simp [encAll])
        clear hbr x0 x1 hj hrev
        go_wp2_with (at_builtin; refine wpApp rfl _ _ 22 rfl w2.heap.size 27 (.agg #[.string .empty, .slice none 0 0]) 2 40 Try.underlying22 part_info rfl (by decide) _ k (encAll (ps.reverse.take k)) rfl (owns_below HX.out (balloc (brefl wr) _) (Nat.le_refl _)) (some ⟨wr.heap.size, 0, none⟩) 1 1 p.enc rfl rfl (has_alloc _ _ _) (fun h => by cases h) (fun u hu => by simp [PartV.enc] at hu; rcases hu with rfl | rfl <;> rfl) (by unfold maxLen; omega) (by omega) (by simp; omega) ?_; intro a6 c6 w6 hown6 k61 k62 k63 hb6 hg6; have HO6 := Lib.hid hown6; have HA6 := Lib.hid k63; have HB6 := Lib.hid hb6; clear hown6 k63 hb6 hg6)
        go_roundw
        case rel => exact ⟨k + 1, a6, c6, by omega, by go_num, rfl, by rw [hEE.out]; exact HO6.out, k61, k62, HA6.out, (HBR.out.trans ((balloc (brefl wr) _).mono hzr)).trans HB6.out⟩
        case measure => simp [intOf]; omega
      · obtain rfl : n = k := by omega
        have hR : ps.reverse.take n = ps.reverse := List.take_of_length_le (by rw [List.length_reverse, HL.out]; exact Nat.le_refl _)
        rw [hR] at HX
        clear hR hbr
        have HRV := Lib.hid (own_has HX.out)
        have hWr : Below w.heap.size w wr := HBW.out.trans (HBR.out.mono HBW.out.size)
        have HWR := Lib.hid hWr
        have hok1 : ∀ V : World, Below wr.heap.size wr V → ∀ p ∈ ps, p.ok V := fun V hV p hp => by
          obtain ⟨h1, h2, h3, h4, h5⟩ := HK.out p hp
          exact ⟨h1.below (HWR.out.trans (hV.mono HWR.out.size)), h2, h3, h4, h5, by have := (HSM.out p hp).2; omega⟩
        have m1 := fun (V : World) (hV : Below wr.heap.size wr V) => make_str a n c ps V (HH.out.below (HWR.out.trans (hV.mono HWR.out.size))) HL.out hn hc H0.out (by omega) (hok1 V hV)
        have m2 := fun (V : World) (hV : Below wr.heap.size wr V) => make_str a5 n c5 ps.reverse V (HRV.out.below hV) (by rw [List.length_reverse]; exact HL.out) k51 k52 (fun h => by have := HA5.out h; omega) (by omega) (fun p hp => hok1 V hV p (List.mem_reverse.1 hp))
        have M1 := Lib.hid m1
        have M2 := Lib.hid m2
        clear m1 m2 hok1 hWr
        go_wp2_with fail
        refine wp_region_tree (.step 0 (.step 3 (.step 1 (.narrow (.step 2 (.step 4 (.narrow (.step 5 (.step 6 (.step 7 .nil)))))))))) (by kernel_rfl) (by kernel_rfl) (by kernel_rfl) (by kernel_rfl) (by intro _ _ d_ _ _ h_; cases d_ <;> first | exact h_ | (dsimp +zetaDelta only at h_ ⊢; exact h_)) (fun w' => ∃ p : Wld wr [], w' = p.val) (wld_start _ _) ?_
        have hG_ := @wldC wr
        (refine tree_quiet (by simp only [List.getElem?_toArray, List.getElem?_cons_succ, List.getElem?_cons_zero]; rfl) (by rfl) (by rfl) (fun K_ hK_ => ?_); go_big_quiet_op; refine hK_ _ ?_; clear hK_ K_)
        (refine tree_quiet (by simp only [List.getElem?_toArray, List.getElem?_cons_succ, List.getElem?_cons_zero]; rfl) (by rfl) (by rfl) (fun K_ hK_ => ?_); go_big_quiet_op; refine hK_ _ ?_; clear hK_ K_)
        (refine tree_run (by simp only [List.getElem?_toArray, List.getElem?_cons_succ, List.getElem?_cons_zero]; rfl) (by rfl) (by rfl) (fun K_ hK_ => ?_); have HK_ := Lib.hid hK_; clear hK_; go_wp2_with (first
          | (go_at_call 13; (with_reducible refine (M1.out _ ?_).mono ?_); exact (by repeat (first | exact brefl _ | assumption | refine balloc ?_ _ | refine bdrew ?_ _ | refine bdrew1 ?_ | refine bthen ?_ (by assumption) | refine Below.trans ?_ (by assumption) | (refine bset ?_ (by first | (simp; done) | (simp; omega)) _))); rintro e wA ⟨rs1, a1, n1, c1, hp1, hr1, hn1, rfl, hown1, k1, k2, k3, hbA⟩; have hsA := str_wld hown1 hn1 [] (by simp); have HP1 := Lib.hid hp1; have HR1 := Lib.hid hr1; have HN1 := Lib.hid hn1; have hAc := bc hbA; have hAz := hbA.size; clear hown1 k3 hn1 hp1 hr1; (try simp only [World.size_alloc, World.size_drew] at hAz))
          | (go_at_call 13; (with_reducible refine (M2.out _ ?_).mono ?_); exact (by repeat (first | exact brefl _ | assumption | refine balloc ?_ _ | refine bdrew ?_ _ | refine bdrew1 ?_ | refine bthen ?_ (by assumption) | refine Below.trans ?_ (by assumption) | (refine bset ?_ (by first | (simp; done) | (simp; omega)) _))); rintro e wB ⟨rs2, a2, n2, c2, hp2, hr2, hn2, rfl, hown2, l1, l2, l3, hbB⟩; rw [made_same HP1.out hp2 HR1.out hr2] at hown2 hn2; have hsB := str_wld hown2 hn2 [] (by simp); have hBc := bc hbB; have hBz := hbB.size; clear hown2 l3 hn2; (try simp only [World.size_alloc, World.size_drew] at hBz))); refine HK_.out _ _ (wld_of (by repeat (first | exact same_below (brefl _) | exact same_realloc (by simp) | exact same_below (bdrew1 (brefl _)) | assumption | refine same_drew ?_ | refine same_then ?_ (by assumption) | refine same_alloc ?_ _ | (refine same_set ?_ (by first | (left; simp; done) | (right; simp; done) | (right; simp; omega)) _)))) ?_; clear HK_)
        refine tree_move (by repeat (first | exact same_below (brefl _) | exact same_realloc (by simp) | exact same_below (bdrew1 (brefl _)) | assumption | refine same_drew ?_ | refine same_then ?_ (by assumption) | refine same_alloc ?_ _ | (refine same_set ?_ (by first | (left; simp; done) | (right; simp; done) | (right; simp; omega)) _))) ?_; clear hG_; intro hG_
        (refine tree_quiet (by simp only [List.getElem?_toArray, List.getElem?_cons_succ, List.getElem?_cons_zero]; rfl) (by rfl) (by rfl) (fun K_ hK_ => ?_); go_big_quiet_op; refine hK_ _ ?_; clear hK_ K_)
        (refine tree_run (by simp only [List.getElem?_toArray, List.getElem?_cons_succ, List.getElem?_cons_zero]; rfl) (by rfl) (by rfl) (fun K_ hK_ => ?_); have HK_ := Lib.hid hK_; clear hK_; go_wp2_with (first
          | (go_at_call 13; (with_reducible refine (M1.out _ ?_).mono ?_); exact (by repeat (first | exact brefl _ | assumption | refine balloc ?_ _ | refine bdrew ?_ _ | refine bdrew1 ?_ | refine bthen ?_ (by assumption) | refine Below.trans ?_ (by assumption) | (refine bset ?_ (by first | (simp; done) | (simp; omega)) _))); rintro e wA ⟨rs1, a1, n1, c1, hp1, hr1, hn1, rfl, hown1, k1, k2, k3, hbA⟩; have hsA := str_wld hown1 hn1 [] (by simp); have HP1 := Lib.hid hp1; have HR1 := Lib.hid hr1; have HN1 := Lib.hid hn1; have hAc := bc hbA; have hAz := hbA.size; clear hown1 k3 hn1 hp1 hr1; (try simp only [World.size_alloc, World.size_drew] at hAz))
          | (go_at_call 13; (with_reducible refine (M2.out _ ?_).mono ?_); exact (by repeat (first | exact brefl _ | assumption | refine balloc ?_ _ | refine bdrew ?_ _ | refine bdrew1 ?_ | refine bthen ?_ (by assumption) | refine Below.trans ?_ (by assumption) | (refine bset ?_ (by first | (simp; done) | (simp; omega)) _))); rintro e wB ⟨rs2, a2, n2, c2, hp2, hr2, hn2, rfl, hown2, l1, l2, l3, hbB⟩; rw [made_same HP1.out hp2 HR1.out hr2] at hown2 hn2; have hsB := str_wld hown2 hn2 [] (by simp); have hBc := bc hbB; have hBz := hbB.size; clear hown2 l3 hn2; (try simp only [World.size_alloc, World.size_drew] at hBz))); refine HK_.out _ _ (wld_of (by repeat (first | exact same_below (brefl _) | exact same_realloc (by simp) | exact same_below (bdrew1 (brefl _)) | assumption | refine same_drew ?_ | refine same_then ?_ (by assumption) | refine same_alloc ?_ _ | (refine same_set ?_ (by first | (left; simp; done) | (right; simp; done) | (right; simp; omega)) _)))) ?_; clear HK_)
        refine tree_move (by repeat (first | exact same_below (brefl _) | exact same_realloc (by simp) | exact same_below (bdrew1 (brefl _)) | assumption | refine same_drew ?_ | refine same_then ?_ (by assumption) | refine same_alloc ?_ _ | (refine same_set ?_ (by first | (left; simp; done) | (right; simp; done) | (right; simp; omega)) _))) ?_; clear hG_; intro hG_
        (refine tree_quiet (by simp only [List.getElem?_toArray, List.getElem?_cons_succ, List.getElem?_cons_zero]; rfl) (by rfl) (by rfl) (fun K_ hK_ => ?_); go_big_quiet_op; refine hK_ _ ?_; clear hK_ K_)
        (refine tree_quiet (by simp only [List.getElem?_toArray, List.getElem?_cons_succ, List.getElem?_cons_zero]; rfl) (by rfl) (by rfl) (fun K_ hK_ => ?_); go_big_quiet_op; refine hK_ _ ?_; clear hK_ K_)
        (refine tree_quiet (by simp only [List.getElem?_toArray, List.getElem?_cons_succ, List.getElem?_cons_zero]; rfl) (by rfl) (by rfl) (fun K_ hK_ => ?_); go_big_quiet_op; refine hK_ _ ?_; clear hK_ K_)
        refine tree_nil ?_
        clear hG_
        go_wp2
        go_ret
        have hbAB : Below wr.heap.size wr wB := (by repeat (first | exact brefl _ | assumption | refine balloc ?_ _ | refine bdrew ?_ _ | refine bdrew1 ?_ | refine bthen ?_ (by assumption) | refine Below.trans ?_ (by assumption) | (refine bset ?_ (by first | (simp; done) | (simp; omega)) _)))
        exact ⟨rfl, HWR.out.trans (hbAB.mono HWR.out.size)⟩
end Go.Proofs.Ytginpjkojfdcoaa
